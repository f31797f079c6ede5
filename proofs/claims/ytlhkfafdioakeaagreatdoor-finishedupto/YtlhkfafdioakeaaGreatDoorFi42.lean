/- Parts of the proof. -/
import Derived.Test.YtlhkfafdioakeaaGreatDoorFi39
import Derived.Test.YtlhkfafdioakeaaGreatDoorFi40
import Derived.Test.YtlhkfafdioakeaaGreatDoorFi41
namespace Go.Proofs.YtlhkfafdioakeaaGreatDoor
set_option maxRecDepth 100000
set_option maxHeartbeats 4000000
open Go.RowKit Go.Weft
set_option linter.unusedVariables false
set_option linter.unusedSimpArgs false
theorem NetAt.move{w:World}{B nb0:Nat}{role:Nat->Role}{N:NetM}(h:NetAt w B nb0 role N)(hB:B<=w.heap.size)(T:TypeId):∃role',NetAt (w.alloc (.cells #[N.fl,.int .i64 N.fq,N.lv,.int .i64 N.room,.slice (some ⟨N.db,0,none⟩) N.D N.D,N.delv] T)) B w.heap.size role' { N with nt:=T }:=by
 classical
 obtain⟨w1,hw1⟩:∃w1,w1=w.alloc (.cells #[N.fl,.int .i64 N.fq,N.lv,.int .i64 N.room,.slice (some ⟨N.db,0,none⟩) N.D N.D,N.delv] T):=⟨_,rfl⟩;have hg:w.grownBy w1 none:=by rw[hw1];exact World.grownBy_alloc _ _ _
 have hnew:w1.heap[w.heap.size]?=some (.cells #[N.fl,.int .i64 N.fq,N.lv,.int .i64 N.room,.slice (some ⟨N.db,0,none⟩) N.D N.D,N.delv] T (0,0)):=by rw[hw1];exact heap_alloc_new w _
 have hz:w1.heap.size=w.heap.size+1:=by rw[hw1];simp
 rw[<-hw1];have h1:=h.grown hg (fun b e=>by cases e)
 have key:∀b r,role b=r->r ≠ .free->r ≠ .net->(if b=w.heap.size then Role.net else if b=nb0 then .free else role b)=r:=fun b r e h2 h3=>by
  have hb:b<w.heap.size:=(h.low b (by rw[e];exact h2)).2;rw[if_neg (by omega),if_neg (fun e2=>by rw[e2,h.nbR]at e;exact h3 e.symm)];exact e
 refine⟨fun b=>if b=w.heap.size then .net else if b=nb0 then .free else role b,⟨if_pos rfl,hnew,key _ _ h1.dbR (fun e=>by cases e) (fun e=>by cases e),h1.dev,fun s hs=>⟨fun j hj=>⟨((h1.dvs s hs).row j hj).q,fun b k=>key b _ (((h1.dvs s hs).row j hj).rl b k) (fun e=>by cases e) (fun e=>by cases e)⟩,fun r hm=>⟨((h1.dvs s hs).ru r hm).pk,fun b k=>⟨key b _ (((h1.dvs s hs).ru r hm).rl b k).1 (fun e=>by cases e) (fun e=>by cases e),(((h1.dvs s hs).ru r hm).rl b k).2⟩⟩⟩,⟨h1.dels.q,fun b k=>key b _ (h1.dels.rl b k) (fun e=>by cases e) (fun e=>by cases e)⟩,h1.lnk,fun b k=>⟨key b _ (h1.lnr b k).1 (fun e=>by cases e) (fun e=>by cases e),(h1.lnr b k).2⟩,fun b hb=>?_,h1.dsz⟩⟩;have hb:(if b=w.heap.size then Role.net else if b=nb0 then .free else role b) ≠ .free:=hb;by_cases e1:b=w.heap.size
 ·omega
 ·rw[if_neg e1]at hb;by_cases e2:b=nb0
  ·rw[if_pos e2]at hb;exact absurd rfl hb
  ·rw[if_neg e2]at hb;exact h1.low b hb
def JH(D ln:Nat)(ld:Nat->Nat->Int)(room:Int)(fv:Value)(fq:Int)(Q:Nat->List Rl->Prop)(w:World)(e:Ending)(w':World):Prop:=
 ∃nb role N R T,e=.returned (.tuple #[.pointer (some ⟨nb,0,none⟩),.int .i64 0])/\NetAt w' w.heap.size nb role N/\w.grownBy w' none/\N.D=D/\N.fl=fv/\N.fq=fq/\N.ln=ln/\N.ld=ld/\N.room=room/\N.a=Dl R T D/\∀s,s<D->Q s (R s::T s)
def JF(D:Nat)(la:Option Addr)(ln lc:Nat)(room:Int)(pa:Option Addr)(pn pc:Nat)(st:Int)(ra:Nat->Option Addr)(rn rc:Nat->Nat)(o:Nat->Int)(P:Ending->World->Prop)(ww:World):Prop:=
 Calls Tryz.prog 105 #[.agg #[.int .i64 D,.slice la ln lc,.int .i64 room],.agg #[.slice pa pn pc,.int .i64 st],.agg #[.slice pa pn pc,.int .i64 st,.slice (ra 0) (rn 0) (rc 0),.slice (ra 1) (rn 1) (rc 1),.slice (ra 2) (rn 2) (rc 2),.slice (ra 3) (rn 3) (rc 3),.slice (ra 4) (rn 4) (rc 4),.slice (ra 5) (rn 5) (rc 5),.int .i64 (o 0),.int .i64 (o 1),.int .i64 (o 2),.int .i64 (o 3),.int .i64 (o 4),.int .i64 (o 5)]] ww fun e w'=>∃xa xc ya dl yc db nl,e=.returned (.agg #[.slice pa pn pc,.int .i64 st,.slice xa nl xc,.int .i64 room,.slice (some ⟨db,0,none⟩) D D,.slice ya dl yc])/\ww.grownBy w' none/\∀wz,w'.alloc (.cells #[.slice pa pn pc,.int .i64 st,.slice xa nl xc,.int .i64 room,.slice (some ⟨db,0,none⟩) D D,.slice ya dl yc] 202)=wz->P (.returned (.tuple #[.pointer (some ⟨w'.heap.size,0,none⟩),.int .i64 0])) wz
theorem Vs(D:Nat)(hD:D<=6)(la:Option Addr)(ln lc:Nat)(ld:Nat->Nat->Int)(room:Int)(pa:Option Addr)(pn pc:Nat)(st:Int)(ra:Nat->Option Addr)(rn rc:Nat->Nat)(o:Nat->Int)(Q:Nat->List Rl->Prop)(w ww:World)(hg:w.grownBy ww none)(hl:LnR w (.slice la ln lc) ln ld)(hla:la=none->lc=0)(hln:ln<=1000000)(hT:I6 w (.agg (mkC pa pn pc st ra rn rc o)) Q)(hcan:∀z T,Q z T->∀r∈T,BD (Cc r))(P:Ending->World->Prop)(hP:P=JH D ln ld room (.slice pa pn pc) st Q w):JF D la ln lc room pa pn pc st ra rn rc o P ww:=by
 unfold JF;refine(Vr D hD la ln lc ld room pa pn pc st ra rn rc o Q ww (hl.grown hg) hla hln (fun wy z hy hz=>hT wy z (A1 hg hy) hz) hcan).mono ?_;rintro e w' ⟨nb0,role,N,R,T,rfl,h1,h2,rfl,h4,h5,h6,h7,h8,h9,h10⟩;obtain⟨xa,xc,hlv⟩:=h1.lnk.slice;obtain⟨ya,yc,hdv⟩:=h1.dels.q.slice;refine⟨xa,xc,ya,N.del.length,yc,N.db,N.ln,by rw[h4,h5,hlv,h8,hdv],h2,fun wz hwz=>?_⟩;obtain⟨role',hm⟩:=h1.move h2.size 202;rw[hP];have ew:wz=w'.alloc (.cells #[N.fl,.int .i64 N.fq,N.lv,.int .i64 N.room,.slice (some ⟨N.db,0,none⟩) N.D N.D,N.delv] 202):=by rw[<-hwz,h4,h5,hlv,h8,hdv]
 rw[ew];exact⟨w'.heap.size,role',{ N with nt:=202 },R,T,rfl,{ hm with low:=fun b hb=>⟨Nat.le_trans hg.size (hm.low b hb).1,(hm.low b hb).2⟩ },A1 (A1 hg h2) (World.grownBy_alloc _ _ _),rfl,h4,h5,h6,h7,h8,h9,h10⟩
theorem Wp(pb:Nat)(S:Int)(la:Option Addr)(ln lc:Nat)(ld:Nat->Nat->Int)(room:Int)(w:World)(hl:LnR w (.slice la ln lc) ln ld)(hlc:ln<=lc)(hno:¬EK S ld ln room):
  Calls Tryz.prog 63 #[.pointer (some ⟨pb,0,none⟩),.agg #[.int .i64 S,.slice la ln lc,.int .i64 room]] w fun e w'=>e=.returned (.tuple #[.pointer none,.int .i64 13])/\w.grownBy w' none:=by
 have HR:Hid (∀ww,w.grownBy ww none->Calls Tryz.prog 104 #[.agg #[.int .i64 S,.slice la ln lc,.int .i64 room]] ww fun e w'=>e=.returned (.bool false)/\ww.grownBy w' none):=fun ww hg=>by
  refine(OG S room la ln lc ld ww (hl.grown hg) hlc).mono ?_;rintro e w' ⟨rfl,h⟩;exact⟨by rw[decide_eq_false hno],h⟩
 clear hl hlc hno;go_enter Tryz.func63,Tryz.ntmps63;go_wp2_with fail;refine(HR.o _ (by first|exact AA _ _|exact World.grownBy_alloc _ _ _)).mono ?_;rintro e w1 ⟨rfl,hg⟩;have HG:=A0 hg;clear hg HR;go_wp2_with fail;go_ret2;exact⟨rfl,A1 (World.grownBy_alloc _ _ _) HG.o⟩
theorem Wo(pb D:Nat)(la:Option Addr)(ln lc:Nat)(ld:Nat->Nat->Int)(room:Int)(pa:Option Addr)(pn pc:Nat)(st:Int)(ra:Nat->Option Addr)(rn rc:Nat->Nat)(o:Nat->Int)(Q:Nat->List Rl->Prop)(w:World)(hb:w.heap[pb]?=some (.cells (#[.slice pa pn pc,.int .i64 st]++mkC pa pn pc st ra rn rc o) 115 (0,0)))(hl:LnR w (.slice la ln lc) ln ld)(hlc:ln<=lc)(hla:la=none->lc=0)(hln:ln<=1000000)(hyes:EK D ld ln room)(hT:I6 w (.agg (mkC pa pn pc st ra rn rc o)) Q)(hcan:∀z T,Q z T->∀r∈T,BD (Cc r)):
  Calls Tryz.prog 63 #[.pointer (some ⟨pb,0,none⟩),.agg #[.int .i64 D,.slice la ln lc,.int .i64 room]] w (JH D ln ld room (.slice pa pn pc) st Q w):=by
 have hD:D<=6:=by have:=hyes.1.2.1;omega
 have HR:Hid (∀ww,w.grownBy ww none->Calls Tryz.prog 104 #[.agg #[.int .i64 D,.slice la ln lc,.int .i64 room]] ww fun e w'=>e=.returned (.bool true)/\ww.grownBy w' none):=fun ww hg=>by
  refine(OG D room la ln lc ld ww (hl.grown hg) hlc).mono ?_;rintro e w' ⟨rfl,h⟩;exact⟨by rw[decide_eq_true hyes],h⟩
 obtain⟨P,hP⟩:∃P,P=JH D ln ld room (.slice pa pn pc) st Q w:=⟨_,rfl⟩;rw[<-hP];have HP:=A0 hP;have HN:Hid (∀ww,w.grownBy ww none->JF D la ln lc room pa pn pc st ra rn rc o P ww):=fun ww hg=>Vs D hD la ln lc ld room pa pn pc st ra rn rc o Q w ww hg hl hla hln hT hcan P hP
 have hb2:w.heap[pb]?=some (.cells #[.slice pa pn pc,.int .i64 st,.slice pa pn pc,.int .i64 st,.slice (ra 0) (rn 0) (rc 0),.slice (ra 1) (rn 1) (rc 1),.slice (ra 2) (rn 2) (rc 2),.slice (ra 3) (rn 3) (rc 3),.slice (ra 4) (rn 4) (rc 4),.slice (ra 5) (rn 5) (rc 5),.int .i64 (o 0),.int .i64 (o 1),.int .i64 (o 2),.int .i64 (o 3),.int .i64 (o 4),.int .i64 (o 5)] 115 (0,0)):=by rw[hb];rfl
 have PB:=A0 hb2;clear hl hlc hyes hT hcan hb hb2 hP hla;go_enter Tryz.func63,Tryz.ntmps63;go_wp2_with fail;refine(HR.o _ (by first|exact AA _ _|exact World.grownBy_alloc _ _ _)).mono ?_;rintro e w1 ⟨rfl,hg⟩;have HG:Hid (w.grownBy w1 none):=A1 (World.grownBy_alloc _ _ _) hg;have cb:=BF hg (heap_alloc_new w (.cells #[.int .i64 D,.slice la ln lc,.int .i64 room] 77));have HS:Hid (∀wx,w1.grownBy wx none->(wx.cell? ⟨w.heap.size,0,none⟩=some (.int .i64 D)/\wx.cell? ⟨w.heap.size,1,none⟩=some (.slice la ln lc)/\wx.cell? ⟨w.heap.size,2,none⟩=some (.int .i64 room)/\wx.cell? ⟨pb,0,none⟩=some (.slice pa pn pc)/\wx.cell? ⟨pb,1,none⟩=some (.int .i64 st)/\wx.cell? ⟨pb,2,none⟩=some (.slice pa pn pc)/\wx.cell? ⟨pb,3,none⟩=some (.int .i64 st)/\wx.cell? ⟨pb,4,none⟩=some (.slice (ra 0) (rn 0) (rc 0))/\wx.cell? ⟨pb,5,none⟩=some (.slice (ra 1) (rn 1) (rc 1))/\wx.cell? ⟨pb,6,none⟩=some (.slice (ra 2) (rn 2) (rc 2))/\wx.cell? ⟨pb,7,none⟩=some (.slice (ra 3) (rn 3) (rc 3))/\wx.cell? ⟨pb,8,none⟩=some (.slice (ra 4) (rn 4) (rc 4))/\wx.cell? ⟨pb,9,none⟩=some (.slice (ra 5) (rn 5) (rc 5))/\wx.cell? ⟨pb,10,none⟩=some (.int .i64 (o 0))/\wx.cell? ⟨pb,11,none⟩=some (.int .i64 (o 1))/\wx.cell? ⟨pb,12,none⟩=some (.int .i64 (o 2))/\wx.cell? ⟨pb,13,none⟩=some (.int .i64 (o 3))/\wx.cell? ⟨pb,14,none⟩=some (.int .i64 (o 4))/\wx.cell? ⟨pb,15,none⟩=some (.int .i64 (o 5)))):=fun wx hx=>⟨A6 (BF hx cb) 0 _ rfl,A6 (BF hx cb) 1 _ rfl,A6 (BF hx cb) 2 _ rfl,A6 (BF (A1 HG.o hx) PB.o) 0 _ rfl,A6 (BF (A1 HG.o hx) PB.o) 1 _ rfl,A6 (BF (A1 HG.o hx) PB.o) 2 _ rfl,A6 (BF (A1 HG.o hx) PB.o) 3 _ rfl,A6 (BF (A1 HG.o hx) PB.o) 4 _ rfl,A6 (BF (A1 HG.o hx) PB.o) 5 _ rfl,A6 (BF (A1 HG.o hx) PB.o) 6 _ rfl,A6 (BF (A1 HG.o hx) PB.o) 7 _ rfl,A6 (BF (A1 HG.o hx) PB.o) 8 _ rfl,A6 (BF (A1 HG.o hx) PB.o) 9 _ rfl,A6 (BF (A1 HG.o hx) PB.o) 10 _ rfl,A6 (BF (A1 HG.o hx) PB.o) 11 _ rfl,A6 (BF (A1 HG.o hx) PB.o) 12 _ rfl,A6 (BF (A1 HG.o hx) PB.o) 13 _ rfl,A6 (BF (A1 HG.o hx) PB.o) 14 _ rfl,A6 (BF (A1 HG.o hx) PB.o) 15 _ rfl⟩
 obtain⟨c0,c1,c2,c3,c4,c5,c6,c7,c8,c9,c10,c11,c12,c13,c14,c15,c16,c17,c18⟩:=HS.o w1 (AA _ _);have HG0:Hid (w1.grownBy w1.drew none):=Ai (AA _ _);clear hg HR cb;go_wp2_with fail
 go_region_held3 (fun wx=>(wx.cell? ⟨w.heap.size,0,none⟩=some (.int .i64 D)/\wx.cell? ⟨w.heap.size,1,none⟩=some (.slice la ln lc)/\wx.cell? ⟨w.heap.size,2,none⟩=some (.int .i64 room)/\wx.cell? ⟨pb,0,none⟩=some (.slice pa pn pc)/\wx.cell? ⟨pb,1,none⟩=some (.int .i64 st)/\wx.cell? ⟨pb,2,none⟩=some (.slice pa pn pc)/\wx.cell? ⟨pb,3,none⟩=some (.int .i64 st)/\wx.cell? ⟨pb,4,none⟩=some (.slice (ra 0) (rn 0) (rc 0))/\wx.cell? ⟨pb,5,none⟩=some (.slice (ra 1) (rn 1) (rc 1))/\wx.cell? ⟨pb,6,none⟩=some (.slice (ra 2) (rn 2) (rc 2))/\wx.cell? ⟨pb,7,none⟩=some (.slice (ra 3) (rn 3) (rc 3))/\wx.cell? ⟨pb,8,none⟩=some (.slice (ra 4) (rn 4) (rc 4))/\wx.cell? ⟨pb,9,none⟩=some (.slice (ra 5) (rn 5) (rc 5))/\wx.cell? ⟨pb,10,none⟩=some (.int .i64 (o 0))/\wx.cell? ⟨pb,11,none⟩=some (.int .i64 (o 1))/\wx.cell? ⟨pb,12,none⟩=some (.int .i64 (o 2))/\wx.cell? ⟨pb,13,none⟩=some (.int .i64 (o 3))/\wx.cell? ⟨pb,14,none⟩=some (.int .i64 (o 4))/\wx.cell? ⟨pb,15,none⟩=some (.int .i64 (o 5)))) (first|exact HS.o _ HG0.o|exact HS.o _ hg9|exact HS.o _ (A1 hg9 (World.grownBy_alloc _ _ _))) ((
    go_at_call 105;refine Calls.mono (HN.o _ (A1 HG.o HG0.o)) ?_;rintro e w9 ⟨xa,xc,ya,dl,yc,db,nl,rfl,hg8,hp⟩;have hg9:=A1 HG0.o hg8;have HPP:=A0 hp;clear hp hg8))
 all_goals
  go_wp2_with fail;exact HPP.o _ rfl
theorem PV(rs:Nat->Rl):∀N,Ba ((List.range N).map rs)=flR rs N
 | 0=>rfl
 | N+1=>by
  rw[List.range_succ,List.map_append,PS,PV rs N];show flR rs N++Ba [rs N]=flR rs N++rlL (rs N).prio (rs N).mt (rs N).av;congr 1
theorem KY(rs:Nat->Rl){N j:Nat}(h:j<N):rlF ((List.range N).map rs) j=rs j:=by unfold rlF;simp[h]
theorem X6(rs:Nat->Rl){N:Nat}(h:0<N):(List.range N).map rs=rs 0::(List.range (N-1)).map (fun j=>rs (j+1)):=by
 obtain⟨M,rfl⟩:∃M,N=M+1:=⟨N-1,by omega⟩;rw[List.range_succ_eq_map];simp
theorem Yb{s0:ByteArray}{t:Code}(hr:Ax s0=.ok t){w:World}{pa:Option Addr}{pn pc:Nat}{ra:Nat->Option Addr}{rn rc:Nat->Nat}(F:MkF (B0 (AF t)) (oT t) (acT t) Rt pa pn pc ((Ah t).1:Int) ra rn rc t w):I6 w (.agg (mkC pa pn pc ((Ah t).1:Int) ra rn rc (oT t))) (fun z T=>z<=31/\Gl t z T):=by
 intro ww z hg hz;have hk:Rt (swK (z:Int)):=L7 (by omega);refine(Nw (z:Int) hk ww (F.grown hg)).mono ?_;rintro e w' ⟨v,rfl,⟨N,rs,AL,h0,h1,hq,hp,hpr⟩,hgw⟩;have hrow:w'.ownsRow ww.heap.size 68 8 v N (flR rs N):=hq.row;have hcons:=X6 rs h0;refine⟨v,rs 0,(List.range (N-1)).map (fun j=>rs (j+1)),rfl,⟨hz,?_⟩,?_,fun x hx=>?_,hgw⟩
 ·rw[<-hcons];have hlen:((List.range N).map rs).length=N:=by simp
  refine⟨AL,?_,fun j hj=>?_,fun j hj=>?_⟩
  ·rw[hlen,<-hpr,KN];exact fun j hj=>⟨by rw[KY rs hj],rfl⟩
  ·rw[hlen]at hj;rw[KY rs hj];exact⟨hq.is j hj,hq.anm j hj⟩
  ·rw[hlen]at hj ⊢;rw[KY rs hj];exact hp j hj
 ·rw[<-hcons,PV];have:(List.range (N-1)).length+1=N:=by simp;omega
  rw[List.length_map,this];exact hrow
 ·rw[<-hcons]at hx;obtain⟨j,hj,rfl⟩:=List.mem_map.1 hx;exact hq.own j (List.mem_range.1 hj)
theorem XV{s0:ByteArray}{t:Code}(hr:Ax s0=.ok t){w:World}{pa:Option Addr}{pn pc:Nat}{ra:Nat->Option Addr}{rn rc:Nat->Nat}(F:MkF (B0 (AF t)) (oT t) (acT t) Rt pa pn pc ((Ah t).1:Int) ra rn rc t w):JJ w (.slice pa pn pc) ((Ah t).1:Int) (Az t):=by
 intro ww k hg hn hk;have hR:=(EZ hn).1 hk;refine(F.run k hR ww hg).mono ?_;rintro e w' ⟨a,c,n,d,A,rfl,h1,h2,h3,h4⟩;obtain rfl:=Il hr hR h3;obtain rfl:n=(Az t k).length:=h2.1.symm;exact⟨a,c,d,rfl,h1,h2,h4⟩
structure Begun(s0:ByteArray)(t:Code)(D ln:Nat)(ld:Nat->Nat->Int)(room:Int)(w:World)(K:Gk):Prop where
 ok:K.ok
 s0:K.s0=s0
 t:K.t=t
 D:K.D=D
 ln:K.ln=ln
 ld:K.ld=ld
 room:(K.room:Int)=room
 w0:K.w0=w
 B:K.B=w.heap.size
theorem Ty{s0:ByteArray}{t:Code}(hr:Ax s0=.ok t){w:World}{pb:Nat}(hP:D2 w pb t)(he:Evy w)(D:Nat)(la:Option Addr)(ln lc:Nat)(ld:Nat->Nat->Int)(room:Int)(hl:LnR w (.slice la ln lc) ln ld)(hlc:ln<=lc)(hla:la=none->lc=0)(hln:ln<=1000000)(hyes:EK D ld ln room):
  Calls Tryz.prog 63 #[.pointer (some ⟨pb,0,none⟩),.agg #[.int .i64 D,.slice la ln lc,.int .i64 room]] w fun e w'=>∃K role N S,e=.returned (.tuple #[.pointer (some ⟨K.nb,0,none⟩),.int .i64 0])/\Begun s0 t D ln ld room w K/\NOK K 0 role N S [] w'/\w.grownBy w' none:=by
 obtain⟨pa,pn,pc,ra,rn,rc,hb,F⟩:=Oy hP hr he;have hrm:=hyes.1;refine(Wo pb D la ln lc ld room pa pn pc ((Ah t).1:Int) ra rn rc (oT t) (fun z T=>z<=31/\Gl t z T) w hb hl hlc hla hln hyes (Yb hr F) (fun z T h r hm=>(h.2.can hr (by omega)).2 r hm)).mono ?_;rintro e w' ⟨nb,role,N,R,T,rfl,h1,h2,h3,h4,h5,h6,h7,h8,h9,h10⟩;refine⟨⟨s0,t,D,ld,ln,room.toNat,fun s=>R s::T s,w,w.heap.size,nb,.slice pa pn pc,((Ah t).1:Int)⟩,role,N,⟨fun _=>[],fun _=>[],fun s=>if s<D then[.add (R s),.bar] else[],fun _=>[],fun s=>if s<D then T s else[],[]⟩,rfl,⟨⟨hr,by have:=hyes.1;show 1<=D/\D<=6;omega,by show room.toNat<=5000;omega,fun j hj=>?_,fun s hs=>(h10 s hs).2,Nat.le_refl _,XV hr F,⟨_,_,_,rfl⟩⟩,rfl,rfl,rfl,rfl,rfl,by show(room.toNat:Int)=room;omega,rfl,rfl⟩,?_,h2⟩
 ·have:=(hyes.2 j hj).1;unfold Dz at this;have hj2:j<ln:=hj;show 0<=ld j 2/\ld j 2<(D:Int)/\0<=ld j 3/\ld j 3<8;omega
 ·refine⟨h1,h2.size,h2,h3,h7,h6,by rw[h8];show room=(room.toNat:Int);omega,h4,h5,?_,?_,fun s=>?_,fun s=>Nat.zero_le _,Nat.zero_le _⟩
  ·rw[h9];refine⟨fun s=>rfl,(fun s j hj=>by cases hj),rfl,fun s=>?_,fun s=>rfl,rfl,rfl⟩;unfold Dl;simp only;split<;>rfl
  ·refine UE (fun s hs=>?_) (fun s=>rfl) (fun s=>rfl) (fun s L hL=>?_) rfl
   ·have hs:s<D:=hs;show Ph (R s::T s) room.toNat [] (if s<D then T s else[]) ((if s<D then[Dm.add (R s),.bar] else[]).filter Dm.ctl) ([].filter Um.ctl);rw[if_pos hs,if_pos hs];exact .send rfl (Nat.zero_le _)
   ·have hL:Dm.o L∈(if s<D then[Dm.add (R s),.bar] else[]:List (Dm Rl (Nat->Int))):=hL;split at hL<;>simp at hL
  ·show(if s<D then[Dm.add (R s),.bar] else[]:List (Dm Rl (Nat->Int))).length<=2*0+2;split<;>simp
def JA(s0:ByteArray)(la:Option Addr)(ln lc:Nat)(ld:Nat->Nat->Int)(w:World)(e:Ending)(w':World):Prop:=
 (e=.returned (.tuple #[.pointer none,.bool true])/\w.grownBy w' none)\/
 ∃K gb G role N S,e=.returned (.tuple #[.pointer (some ⟨gb,0,none⟩),.bool true])/\w.grownBy K.w0 none/\K.ok/\BrW K.w0 G s0 K.t ld/\GAt K gb G (.slice none 0 0) false 0 role N S [] w'/\K.ld=ld/\G.la=la/\G.ln=ln/\G.lc=lc/\G.room=(K.room:Int)
theorem Rk{s0:ByteArray}{t:Code}(hr:Ax s0=.ok t){D ln lc pb:Nat}{la:Option Addr}{ld:Nat->Nat->Int}{room:Int}{w w1:World}{K:Gk}(hB:Begun s0 t D ln ld room w K){role:Nat->Role}{N:NetM}{S:Gs Rl (Nat->Int)}(hN:NOK K 0 role N S [] w1)(hP:D2 w pb t)(hl:LnR w (.slice la ln lc) ln ld):
  BrW K.w0 ⟨pb,K.nb,D,la,ln,lc,room,none,0,0,false⟩ s0 K.t ld/\GAt K w1.heap.size ⟨pb,K.nb,D,la,ln,lc,room,none,0,0,false⟩ (.slice none 0 0) false 0 role N S [] (w1.alloc (.cells (gmA ⟨pb,K.nb,D,la,ln,lc,room,none,0,0,false⟩ (.slice none 0 0) false false) 96)):=by
 have hK:=hB.ok;have hD:=hK.D;have hg:w1.grownBy (w1.alloc (.cells (gmA ⟨pb,K.nb,D,la,ln,lc,room,none,0,0,false⟩ (.slice none 0 0) false false) 96)) none:=World.grownBy_alloc _ _ _;refine⟨⟨by rw[hB.t];exact hr,?_,by rw[hB.w0];exact hl,fun j hj=>?_⟩,⟨hN.quiet hg,heap_alloc_new w1 _,hN.at'.new (Nat.le_refl _),hN.old.size,rfl,A9.nil _ _ _ _,(fun b hb=>by cases hb),Nat.zero_le _,rfl,hB.D.symm,hB.ln.symm,(fun k hk=>by cases hk)⟩⟩
 ·rw[hB.w0,hB.t];exact⟨hP,(Dc hr).1,(Dc hr).2.2.2⟩
 ·have:=hK.ln j (by rw[hB.ln];exact hj);rw[hB.ld]at this;omega
theorem Rm(s0:ByteArray)(Sw room:Int)(la:Option Addr)(ln lc:Nat)(ld:Nat->Nat->Int)(w:World)(hn:Ae w)(he:Evy w)(hs:s0.size<=9223372036854775807)(hl:LnR w (.slice la ln lc) ln ld)(hlc:ln<=lc)(hla:la=none->lc=0)(hln:ln<=1000000):
  Calls Tryz.prog 41 #[.string s0,.agg #[.int .i64 Sw,.slice la ln lc,.int .i64 room]] w (JA s0 la ln lc ld w):=by
 obtain⟨P,hP⟩:∃P,P=JA s0 la ln lc ld w:=⟨_,rfl⟩;rw[<-hP];have HP:=A0 hP;have HN:=A0 hn;have HE:=A0 he;have HL:=A0 hl;have HLC:=A0 hlc;have HLA:=A0 hla;have HLN:=A0 hln;have HS:=A0 hs;clear hP hn he hl hlc hla hln hs;obtain⟨W1,hW1⟩:∃W1,W1=w.alloc (.cells #[.int .i64 Sw,.slice la ln lc,.int .i64 room] 77):=⟨_,rfl⟩;have G1:Hid (w.grownBy W1 none):=by show w.grownBy W1 none;rw[hW1];exact World.grownBy_alloc _ _ _
 have CB1:Hid (W1.heap[w.heap.size]?=some (.cells #[.int .i64 Sw,.slice la ln lc,.int .i64 room] 77 (0,0))):=by show _=_;rw[hW1];exact heap_alloc_new w _
 have NMS:Hid (∀ww,w.grownBy ww none->Ae ww):=fun ww hg k hk=>hg.cell (HN.o k hk) (by simp)
 go_enter Tryz.func41,Tryz.ntmps41;go_wp2_with fail;rw[<-hW1];clear hW1;refine(UU W1 (NMS.o W1 G1.o)).mono ?_;rintro e w2 ⟨b2,rfl,g2⟩;have G2:=A0 (A1 G1.o g2);have CB2:=A0 (AM CB1.o g2 (by simp));clear g2 G1 CB1;cases hrd:Ax s0 with
 | error p=>
  obtain⟨en,pl⟩:=p;have HCE:=A0 (Sc s0 w2 (NMS.o w2 G2.o) HS.o en pl hrd);have hne:(en != 0)=true:=PM hrd;clear hrd;go_wp2_with fail;refine HCE.o.mono ?_;rintro e w3 ⟨rfl,g3⟩
  have F3:Hid (P (.returned (.tuple #[.pointer none,.bool true])) w3):=by
   rw[HP.o];exact .inl ⟨rfl,A1 G2.o g3⟩
  clear g3 HCE;go_wp2_with fail;exact F3.o
 | ok t=>
  have HCO:=A0 (MV s0 w2 (NMS.o w2 G2.o) HS.o t hrd);have HRD:=A0 hrd;clear hrd;go_wp2_with fail;refine HCO.o.mono ?_;rintro e w3 ⟨pb,rfl,hpol,hpb,g3⟩;have G3:=A0 (A1 G2.o g3);have CB3:=A0 (AM CB2.o g3 (by simp));have HPL:=A0 hpol;have b0:w3.cell? ⟨w.heap.size,0,none⟩=some (.int .i64 Sw):=A6 CB3.o 0 _ rfl;have b1:w3.cell? ⟨w.heap.size,1,none⟩=some (.slice la ln lc):=A6 CB3.o 1 _ rfl;have b2:w3.cell? ⟨w.heap.size,2,none⟩=some (.int .i64 room):=A6 CB3.o 2 _ rfl;clear g3 HCO hpol hpb G2 CB2;by_cases hc:EK Sw ld ln room
  ·obtain⟨D,hD⟩:∃D:Nat,(D:Int)=Sw:=⟨Sw.toNat,by have:=hc.1;omega⟩;subst hD;have NEW:Hid (Calls Tryz.prog 63 #[.pointer (some ⟨pb,0,none⟩),.agg #[.int .i64 D,.slice la ln lc,.int .i64 room]] w3 fun e w'=>∃K role N S,e=.returned (.tuple #[.pointer (some ⟨K.nb,0,none⟩),.int .i64 0])/\Begun s0 t D ln ld room w3 K/\NOK K 0 role N S [] w'/\w3.grownBy w' none):=Ty HRD.o HPL.o (HE.o.grown G3.o) D la ln lc ld room (HL.o.grown G3.o) HLC.o HLA.o HLN.o hc;clear hc;go_wp2_with fail;refine NEW.o.mono ?_;rintro e w4 ⟨K,role,N,S,rfl,hB,hN,g4⟩;have HB:=A0 hB;have HNK:=A0 hN;have CB4:=A0 (AM CB3.o g4 (by simp));have d0:w4.cell? ⟨w.heap.size,0,none⟩=some (.int .i64 D):=A6 CB4.o 0 _ rfl;have d1:w4.cell? ⟨w.heap.size,1,none⟩=some (.slice la ln lc):=A6 CB4.o 1 _ rfl;have d2:w4.cell? ⟨w.heap.size,2,none⟩=some (.int .i64 room):=A6 CB4.o 2 _ rfl;clear NEW hB hN g4 b0 b1 b2 CB3
   have F4:Hid (P (.returned (.tuple #[.pointer (some ⟨w4.heap.size,0,none⟩),.bool true])) (w4.alloc (.cells (gmA ⟨pb,K.nb,D,la,ln,lc,room,none,0,0,false⟩ (.slice none 0 0) false false) 96))):=by
    rw[HP.o];obtain⟨h1,h2⟩:=Rk (lc:=lc) (la:=la) HRD.o HB.o HNK.o HPL.o (HL.o.grown G3.o);exact .inr ⟨K,w4.heap.size,_,role,N,S,rfl,by rw[HB.o.w0];exact G3.o,HB.o.ok,h1,h2,HB.o.ld,rfl,rfl,rfl,HB.o.room.symm⟩
   go_wp2_with fail;exact F4.o
  ·have NEW:Hid (Calls Tryz.prog 63 #[.pointer (some ⟨pb,0,none⟩),.agg #[.int .i64 Sw,.slice la ln lc,.int .i64 room]] w3 fun e w'=>e=.returned (.tuple #[.pointer none,.int .i64 13])/\w3.grownBy w' none):=Wp pb Sw la ln lc ld room w3 (HL.o.grown G3.o) HLC.o hc;clear hc;go_wp2_with fail;refine NEW.o.mono ?_;rintro e w4 ⟨rfl,g4⟩
   have F4:Hid (P (.returned (.tuple #[.pointer none,.bool true])) w4):=by
    rw[HP.o];exact .inl ⟨rfl,A1 G3.o g4⟩
   clear g4 NEW;go_wp2_with fail;exact F4.o
def Kps(w:World)(role:Nat->Role)(w':World)(role':Nat->Role):Prop:=w.heap.size<=w'.heap.size/\∀b,b<w.heap.size->role b=.free->role' b=.free/\w'.heap[b]?=w.heap[b]?
theorem Kps.refl(w:World)(role:Nat->Role):Kps w role w role:=⟨Nat.le_refl _,fun b _ h=>⟨h,rfl⟩⟩
theorem Kps.trans{w w1 w2:World}{r r1 r2:Nat->Role}(h:Kps w r w1 r1)(k:Kps w1 r1 w2 r2):Kps w r w2 r2:=⟨Nat.le_trans h.1 k.1,fun b hb hr=>by
 obtain⟨a1,a2⟩:=h.2 b hb hr;obtain⟨b1,b2⟩:=k.2 b (Nat.lt_of_lt_of_le hb h.1) a1;exact⟨b1,b2.trans a2⟩⟩
theorem Kps.quiet{w w1 w2:World}{r r1:Nat->Role}(h:Kps w r w1 r1)(hg:w1.grownBy w2 none):Kps w r w2 r1:=⟨Nat.le_trans h.1 hg.size,fun b hb hr=>by
 obtain⟨a1,a2⟩:=h.2 b hb hr;exact⟨a1,(hg.block b (Nat.lt_of_lt_of_le hb h.1) (by simp)).trans a2⟩⟩
def I9(w:World)(role:Nat->Role)(K:Gk)(gb:Nat)(G:Gg)(fv:Value)(en:Bool)(m:Nat)(sent:List (Nat->Int))(S:Gs Rl (Nat->Int))(Q:Prop)(e:Ending)(w':World):Prop:=
 ∃(er:Int) (role':Nat->Role) (N':NetM) (S':Gs Rl (Nat->Int)),e=.returned (.int .i64 er)/\GAt K gb G fv en m role' N' S' sent w'/\Kps w role w' role'/\((er=0/\(Bm K.X sent->K.X.M.all K.D S'<K.X.M.all K.D S))\/(er=15/\S'=S/\Q))
theorem LF{K:Gk}{gb:Nat}{G:Gg}{fv:Value}{en:Bool}{n:Nat}{role:Nat->Role}{N:NetM}{S:Gs Rl (Nat->Int)}{sent:List (Nat->Int)}{w w':World}(h:GAt K gb G fv en n role N S sent w){Q:Prop}{e:Ending}(ho:D3 K n role S sent Q w e w'):I9 w role K gb G fv en (n+1) sent S Q e w':=by
 obtain⟨role',N',S',h1,h2,h3⟩:=ho;have hk:Kps w role w' role':=⟨h1.kp.size,fun b hb hr=>⟨(h1.same b hb).trans hr,h1.kp.2.2.2.2 b hb (fun e=>e hr)⟩⟩;rcases h3 with⟨rfl,hs⟩|⟨rfl,hs,hq⟩
 ·exact⟨0,role',N',S',rfl,h.step h1 h2,hk,.inl ⟨rfl,hs.2⟩⟩
 ·exact⟨15,role',N',S',rfl,h.step h1 h2,hk,.inr ⟨rfl,hs,hq⟩⟩
theorem tDo{K:Gk}(hK:K.ok){gb:Nat}{G:Gg}{fv:Value}{en:Bool}{n:Nat}{role:Nat->Role}{N:NetM}{S:Gs Rl (Nat->Int)}{sent:List (Nat->Int)}{w:World}(h:GAt K gb G fv en n role N S sent w)(hn:n<=9000003){s:Nat}(hs:s<K.D):Calls Tryz.prog 71 #[.pointer (some ⟨K.nb,0,none⟩),.int .i64 s] w (I9 w role K gb G fv en (n+1) sent S (S.wl s=[])):=(wDo hK h.net (by omega) hs).mono fun e w' ho=>LF h ho
theorem YW{K:Gk}(hK:K.ok){gb:Nat}{G:Gg}{fv:Value}{en:Bool}{n:Nat}{role:Nat->Role}{N:NetM}{S:Gs Rl (Nat->Int)}{sent:List (Nat->Int)}{w:World}(h:GAt K gb G fv en n role N S sent w)(hn:n<=9000003){s:Nat}(hs:s<K.D):Calls Tryz.prog 73 #[.pointer (some ⟨K.nb,0,none⟩),.int .i64 s] w (I9 w role K gb G fv en (n+1) sent S (S.ul s=[])):=(QU hK h.net (by omega) hs).mono fun e w' ho=>LF h ho
theorem Ya{K:Gk}(hK:K.ok){gb:Nat}{G:Gg}{fv:Value}{en:Bool}{n:Nat}{role:Nat->Role}{N:NetM}{S:Gs Rl (Nat->Int)}{sent:List (Nat->Int)}{w:World}(h:GAt K gb G fv en n role N S sent w)(hn:n<=9000003){s:Nat}(hs:s<K.D):Calls Tryz.prog 69 #[.pointer (some ⟨K.nb,0,none⟩),.int .i64 s,.int .i64 0] w (I9 w role K gb G fv en (n+1) sent S (S.dl s=[])):=(QW hK h.net (by omega) hs 0).mono fun e w' ho=>by
 obtain⟨er,role',N',S',rfl,h1,hk,h2⟩:=LF h ho;refine⟨er,role',N',S',rfl,h1,hk,?_⟩;rcases h2 with h2|⟨a,b,c⟩
 ·exact .inl h2
 ·exact .inr ⟨a,b,c rfl⟩
theorem XS(w:World){B nb:Nat}{role:Nat->Role}{N:NetM}(h:NetAt w B nb role N){s:Nat}(hs:s<N.D)(hl:(N.dv s).rl.length<=1000000)(hna:∀j,j<(N.dv s).rl.length->(rlF (N.dv s).rl j).na<=1000000):
  Calls Tryz.prog 83 #[.pointer (some ⟨nb,0,none⟩),.int .i64 s] w fun e w'=>∃v,e=.returned (.tuple #[v,.int .i64 0])/\RuO (N.dv s).rl w v w':=by
 have HR:=A0 (FL w h hs);obtain⟨P,hP⟩:∃P,P=RuO (N.dv s).rl w:=⟨_,rfl⟩;rw[<-hP]
 have HC:Hid (∀ww,w.grownBy ww none->Calls Tryz.prog 134 #[.pointer (some ⟨nb,0,none⟩),.int .i64 s] ww fun e w'=>∃v,e=.returned v/\P v w'):=fun ww hg=>by
  refine(Vy ww (h.grown hg (fun b e=>by cases e)) hs hl hna).mono ?_;rintro e w' ⟨v,rfl,xs,h1,h2,h3,h4⟩;rw[hP];exact⟨v,rfl,xs,Ii h1 hg.size,fun j hj=>(h2 j hj).mono hg.size,h3,A1 hg h4⟩
 clear h hP hl hna;go_enter Tryz.func83,Tryz.ntmps83;go_wp2_with fail;refine HR.o.mono ?_;rintro e w1 ⟨rfl,hg⟩;have HG:=A0 hg;clear hg HR;go_wp2_with fail;refine(HC.o w1 HG.o).mono ?_;rintro e w' ⟨v,rfl,hp⟩;have HPP:=A0 hp;clear hp HC;go_wp2_with fail;go_ret2;exact⟨v,rfl,HPP.o⟩
theorem Ws{rs ts:Nat->Rl}{AL BL:Nat->List (Nat->Int)}{n m:Nat}(h:prL rs AL n=prL ts BL m):n=m/\∀j,j<n->(rs j).mt=(ts j).mt/\AL j=BL j:=by
 have hl:=congrArg List.length h;rw[DE,DE]at hl;subst hl;refine⟨rfl,fun j hj=>?_⟩;have:=congrArg (fun l=>l[j]?) h;unfold prL at this;simpa[hj] using this
theorem Gk.ok.table{K:Gk}(hK:K.ok){s:Nat}(hs:s<K.D){w:World}{pb:Nat}(hp:D2 w pb K.t)(he:Evy w):
  Calls Tryz.prog 62 #[.pointer (some ⟨pb,0,none⟩),.int .i64 s] w fun e w'=>∃(v:Value) (rs:Nat->Rl) (AL ALT:Nat->List (Nat->Int)),e=.returned (.tuple #[v,.int .i64 0])/\RlQ w.heap.size w' v (K.T s).length rs AL/\(∀j,j<(K.T s).length->(rs j).prio=(rlF (K.T s) j).prio/\(rs j).mt=(rlF (K.T s) j).mt/\AL j=ALT j/\Is (ALT j) (rlF (K.T s) j).na (rlF (K.T s) j).acts/\∀a∈ALT j,Nm a)/\w.grownBy w' none/\(K.T s).length<=1660:=by
 have hD:=hK.D;refine(Yc hp hK.rd he s (by omega) (by omega)).mono ?_;rintro e w' ⟨v,rfl,⟨n,rs,AL,h1,h2,h3,h4,h5⟩,h6⟩;have hT:=hK.tb s hs;have hlen:=(hT.can hK.rd (by omega)).1;obtain⟨ALT,t1,t2,t3⟩:=hT;obtain⟨rfl,hg⟩:=Ws (h5.trans t1.symm);exact⟨v,rs,AL,ALT,rfl,h3,fun j hj=>⟨by rw[h4 j hj,t3 j hj],(hg j hj).1,(hg j hj).2,(t2 j hj).1,(t2 j hj).2⟩,h6,hlen⟩
def RuT(w:World)(v:Value)(m:Nat)(R:Nat->Rl)(AL:Nat->List (Nat->Int)):Prop:=
 ∃a c,v=.slice a m c/\(0<m->∃g,a=some ⟨g,0,none⟩/\∀j,j<m->w.cell? ⟨g,j*8,none⟩=some (.int .i64 (R j).prio)/\(∀i,i<6->w.cell? ⟨g,j*8+(1+i),none⟩=some (.int .i64 ((R j).mt i)))/\∃ra rn rc ps,w.cell? ⟨g,j*8+7,none⟩=some (.slice ra rn rc)/\PkR w (.slice ra rn rc) rn ps/\Is (AL j) rn ps)
theorem RuT.grown{w w':World}{v:Value}{m:Nat}{R:Nat->Rl}{AL:Nat->List (Nat->Int)}(h:RuT w v m R AL)(hg:w.grownBy w' none):RuT w' v m R AL:=by
 obtain⟨a,c,rfl,h2⟩:=h;refine⟨a,c,rfl,fun hm=>?_⟩;obtain⟨g,rfl,h3⟩:=h2 hm;refine⟨g,rfl,fun j hj=>?_⟩;obtain⟨h4,h5,ra,rn,rc,ps,h6,h7,h8⟩:=h3 j hj;exact⟨hg.cell h4 (by simp),fun i hi=>hg.cell (h5 i hi) (by simp),ra,rn,rc,ps,hg.cell h6 (by simp),h7.grown hg,h8⟩
theorem PZ{w:World}{B:Nat}{v:Value}{m:Nat}{rs R:Nat->Rl}{AL:Nat->List (Nat->Int)}(h:w.ownsRow B 68 8 v m (flR rs m))(hr:∀j,j<m->(rs j).prio=(R j).prio/\(∀i,i<6->(rs j).mt i=(R j).mt i)/\∃rn ps,PkR w (rs j).av rn ps/\Is (AL j) rn ps):RuT w v m R AL:=by
 obtain⟨hl,h2⟩:=h;rcases h2 with⟨rfl,rfl⟩|⟨g,cap,cur,rfl,_,h1,h2,h3,h4,h5⟩
 ·exact⟨none,0,rfl,fun e=>by omega⟩
 ·refine⟨_,cap,rfl,fun hm=>⟨g,rfl,fun j hj=>?_⟩⟩
  have cc:∀i,i<8->w.cell? ⟨g,j*8+i,none⟩=some (rlC (rs j).prio (rs j).mt (rs j).av i):=fun i hi=>by
   have:=D7 rs m j i hj hi;rw[<-h5,List.getElem?_take_of_lt (by omega)]at this;simp only[World.cell?,h1];simpa using this
  obtain⟨e1,e2,rn,ps,e3,e4⟩:=hr j hj;obtain⟨ra,rc,e5⟩:=e3.slice;refine⟨by rw[<-e1];exact cc 0 (by omega),fun i hi=>?_,ra,rn,rc,ps,?_,by rw[<-e5];exact e3,e4⟩
  ·rw[cc (1+i) (by omega),<-e2 i hi];unfold rlC;rw[if_neg (by omega),if_pos (by omega),show 1+i-1=i by omega]
  ·rw[<-e5];exact cc 7 (by omega)
theorem YZ{K:Gk}(hK:K.ok){gb:Nat}{G:Gg}{fv:Value}{en:Bool}{n:Nat}{role:Nat->Role}{N:NetM}{S:Gs Rl (Nat->Int)}{sent:List (Nat->Int)}{w:World}(h:GAt K gb G fv en n role N S sent w){s:Nat}(hs:s<K.D)(hd:S.dl s=[])(hu:S.ul s=[]){ALT:Nat->List (Nat->Int)}(hT:∀j,j<(K.T s).length->Is (ALT j) (rlF (K.T s) j).na (rlF (K.T s) j).acts):
  Calls Tryz.prog 83 #[.pointer (some ⟨K.nb,0,none⟩),.int .i64 s] w fun e w'=>∃v,e=.returned (.tuple #[v,.int .i64 0])/\RuT w' v (min (K.T s).length K.room) (rlF (K.T s)) ALT/\w.grownBy w' none:=by
 have hph:=h.net.inv.ph s hs;rw[hd,hu]at hph;have hph:Ph (K.T s) K.room (S.rl s) (S.nl s) [] []:=hph;obtain⟨hp,hlen⟩:=hph.fin;have hrn:(N.dv s).rl.length=(S.rl s).length:=h.net.rep.rn s;have hrl:∀j,j<(S.rl s).length->SameR (rlF (N.dv s).rl j) (rlF (S.rl s) j):=h.net.rep.rl s;have hD:=hK.D;have hTl:=((hK.tb s hs).can hK.rd (by omega)).1;have hle:(S.rl s).length<=(K.T s).length:=hp.length_le
 have hna:∀j,j<(N.dv s).rl.length->(rlF (N.dv s).rl j).na<=1000000:=fun j hj=>by
  have h1:=hrl j (by omega);have h2:=hK.can hs (r:=rlF (K.T s) j) (by unfold rlF;rw[List.getElem?_eq_getElem (by omega)];exact List.getElem_mem _);rw[h1.na,<-KO hp (by omega)];have h3:=h2.2;unfold Av Cc at h3;simp only at h3;rw[if_pos trivial]at h3;simp[CU,AY,pkB]at h3;omega
 refine(XS w h.net.at' (by rw[h.net.D];exact hs) (by omega) hna).mono ?_;rintro e w' ⟨v,rfl,xs,h1,h2,h3,h4⟩;refine⟨v,rfl,?_,h4⟩;rw[<-hlen,<-hrn];refine PZ h1 (fun j hj=>?_);have hs1:=hrl j (by omega);rw[<-KO hp (by omega)]at hs1;refine⟨hs1.prio,hs1.mt,(rlF (K.T s) j).na,(rlF (K.T s) j).acts,?_,hT j (by omega)⟩;have h5:=(h2 j hj).row.any;have e1:(Ci (rlF (N.dv s).rl) xs (N.dv s).rl.length j).av=xs j:=by unfold Ci;simp only;rw[if_pos hj]
 rw[e1,<-hs1.na];rw[hs1.na]at h5 ⊢;exact h5.cong (fun q hq i hi=>hs1.acts q hq i hi)
def Lh(w:World)(e:Ending)(w':World):Prop:=e=.returned (.bool true)/\w.grownBy w' none
theorem Yg{K:Gk}(hK:K.ok){gb:Nat}{G:Gg}{fv:Value}{en:Bool}{n:Nat}{role:Nat->Role}{N:NetM}{S:Gs Rl (Nat->Int)}{sent:List (Nat->Int)}{w:World}(h:GAt K gb G fv en n role N S sent w){s0:ByteArray}(hW:BrW K.w0 G s0 K.t K.ld)(hev:Evy K.w0)(hroom:G.room=(K.room:Int))(hrest:∀s,s<K.D->S.wl s=[]/\S.dl s=[]/\S.ul s=[]):
  Calls Tryz.prog 46 #[.pointer (some ⟨gb,0,none⟩)] w (Lh w):=by
 obtain⟨P,hP⟩:∃P,P=Lh w:=⟨_,rfl⟩;rw[<-hP];have HP:=A0 hP;have hD:=hK.D;obtain⟨D,hDD⟩:∃D,D=K.D:=⟨_,rfl⟩;have hD6:D<=6:=by omega
 obtain⟨room,hrm⟩:∃r,r=K.room:=⟨_,rfl⟩;have hrm5:room<=5000:=by rw[hrm];exact hK.room
 have HT:Hid (∀ww s,w.grownBy ww none->s<D->Calls Tryz.prog 62 #[.pointer (some ⟨G.pb,0,none⟩),.int .i64 s] ww fun e w'=>∃a c AL,e=.returned (.tuple #[.slice a (K.T s).length c,.int .i64 0])/\RuT w' (.slice a (K.T s).length c) (K.T s).length (rlF (K.T s)) AL/\(∀j,j<(K.T s).length->∀x∈AL j,Nm x)/\ww.grownBy w' none/\(K.T s).length<=1660/\∀w2,w'.grownBy w2 none->Calls Tryz.prog 83 #[.pointer (some ⟨K.nb,0,none⟩),.int .i64 s] w2 fun e w3=>∃a c,e=.returned (.tuple #[.slice a (min (K.T s).length room) c,.int .i64 0])/\RuT w3 (.slice a (min (K.T s).length room) c) (min (K.T s).length room) (rlF (K.T s)) AL/\w2.grownBy w3 none):=fun ww s hg hs=>by
  have hold:=A1 h.net.old hg;refine(hK.table (by omega) (hW.pol.1.grown hold) (hev.grown hold)).mono ?_;rintro e w' ⟨v,rs,AL,ALT,rfl,h1,h2,h3,h4⟩;obtain⟨a,c,rfl⟩:=He h1.row;refine⟨a,c,ALT,rfl,PZ h1.row (fun j hj=>?_),fun j hj=>(h2 j hj).2.2.2.2,h3,h4,fun w2 hg2=>?_⟩
  ·obtain⟨e1,e2,e3,e4,_⟩:=h2 j hj;refine⟨e1,fun i hi=>by rw[e2],(rs j).na,(rs j).acts,(h1.own j hj).row.any,?_⟩;rw[<-e3];exact h1.is j hj
  ·obtain⟨_,q1,q2⟩:=hrest s (by omega);refine(YZ hK (h.quiet (A1 (A1 hg h3) hg2)) (by omega) q1 q2 (fun j hj=>(h2 j hj).2.2.2.1)).mono ?_;rintro e w3 ⟨v,rfl,k1,k2⟩;rw[<-hrm]at k1;obtain⟨a3,c3,rfl,k3⟩:=k1;exact⟨a3,c3,rfl,⟨a3,c3,rfl,k3⟩,k2⟩
 have HGB:Hid (∀ww,w.grownBy ww none->ww.cell? ⟨gb,0,none⟩=some (.pointer (some ⟨G.pb,0,none⟩))/\ww.cell? ⟨gb,1,none⟩=some (.pointer (some ⟨K.nb,0,none⟩))/\ww.cell? ⟨gb,2,none⟩=some (.int .i64 D)/\ww.cell? ⟨gb,4,none⟩=some (.int .i64 room)):=fun ww hg=>by
  have hb:=(h.quiet hg).blk;exact⟨A6 hb 0 _ rfl,(h.quiet hg).cell1,by rw[hDD,<-h.D];exact A6 hb 2 _ rfl,by rw[hrm,<-hroom];exact A6 hb 4 _ rfl⟩
 clear hP hK h hev hW hroom hrest hDD hD hrm;go_enter Tryz.func46,Tryz.ntmps46;go_wp2_with fail;go_loopw [3] (fun s3 wr=>∃s:Nat,s<=D/\s3=.int .i64 s/\w.grownBy wr none) (fun s3 _=>D-(intOf s3).toNat)
 case atStart=>exact⟨0,Nat.zero_le _,rfl,AA _ _⟩
 case round=>
  obtain⟨s,hs,rfl,hg⟩:=hrel;have HG:=A0 hg;obtain⟨g0,g1,g2,g4⟩:=HGB.o wr hg;clear hg;by_cases hlt:s<D
  ·have hltI:(s:Int)<D:=by omega
   have TB:=A0 (HT.o wr s HG.o hlt);obtain⟨tl,htl⟩:∃tl,tl=(K.T s).length:=⟨_,rfl⟩;rw[<-htl]at TB;clear htl;obtain⟨R,hR⟩:∃R,R=rlF (K.T s):=⟨_,rfl⟩;rw[<-hR]at TB;clear hR;go_wp2_with fail;refine TB.o.mono ?_;rintro e w2 ⟨a2,c2,AL,rfl,hW2,hNM,hg2,hl2,hRU⟩;have GW2:=A0 (A1 HG.o hg2);obtain⟨k0,k1,k2,k4⟩:=HGB.o w2 GW2.o;have WT2:=A0 hW2;have NM2:=A0 hNM;obtain⟨mn,hmn⟩:∃mn,mn=min tl room:=⟨_,rfl⟩;rw[<-hmn]at hRU;have RU2:=A0 (hRU w2 (AA _ _));clear TB hW2 hNM hg2 hRU g0 g1 g2 g4;go_wp2_with fail;refine RU2.o.mono ?_;rintro e w3 ⟨a3,c3,rfl,hG3,hg3⟩;have GW3:=A0 (A1 GW2.o hg3);obtain⟨m0,m1,m2,m4⟩:=HGB.o w3 GW3.o;have WT3:=A0 (WT2.o.grown hg3);have GT3:=A0 hG3;have hmnI:(mn:Int)=min (tl:Int) (room:Int):=by omega
   have HMN:=A0 hmn;clear RU2 hG3 hg3 k0 k1 k2 k4 hmn;go_wp2_with fail;clear m0 m1 m2 m4;go_loopw [8] (fun s8 wq=>∃j:Nat,j<=mn/\s8=.int .i64 j/\w3.grownBy wq none) (fun s8 _=>mn-(intOf s8).toNat)
   case atStart=>exact⟨0,Nat.zero_le _,rfl,AA _ _⟩
   case round=>
    obtain⟨j,hj,rfl,hgj⟩:=hrel;have HGJ:=A0 hgj;clear hgj;by_cases hltj:j<mn
    ·have hjI:(j:Int)<mn:=by omega
     have hjt:j<tl:=by have:=HMN.o;omega
     have hjtI:(j:Int)<tl:=by omega
     obtain⟨_,_,e1,hG0⟩:=GT3.o.grown HGJ.o;cases e1;obtain⟨gg,rfl,hG⟩:=hG0 (by omega);obtain⟨_,_,e2,hW0⟩:=WT3.o.grown HGJ.o;cases e2;obtain⟨wg,rfl,hWn⟩:=hW0 (by omega);obtain⟨p1,p2,ra,rn,rc,ps,p3,p4,p5⟩:=hG j hltj;obtain⟨q1,q2,sa,sn,sc,qs,q3,q4,q5⟩:=hWn j hjt;have hnm:=NM2.o j hjt
     have EQ:Hid (∀ww,wr.grownBy ww none->Calls Tryz.prog 26 #[.slice ra rn rc,.slice sa sn sc] ww fun e w'=>e=.returned (.bool true)/\ww.grownBy w' none):=fun ww hg=>by
      refine(Mi _ _ rn sn ps qs (AL j) (AL j) ww (p4.grown hg) (q4.grown hg) p5 q5 hnm hnm).mono ?_;rintro e w' ⟨⟨b,rfl,h1⟩,h2⟩;exact⟨by rw[h1.2 rfl],h2⟩
     have HS:Hid (∀wx,wr.grownBy wx none->(wx.cell? ⟨gg,j*8+7,none⟩=some (.slice ra rn rc)/\wx.cell? ⟨wg,j*8+7,none⟩=some (.slice sa sn sc))):=fun wx hx=>⟨hx.cell p3 (by simp),hx.cell q3 (by simp)⟩
     have HG0:Hid (wr.grownBy wr.drew none):=Ai (AA _ _);clear hG hWn p4 p5 q4 q5 hnm hG0 hW0;go_wp2_with fail
     go_region_held3 (fun wx=>(wx.cell? ⟨gg,j*8+7,none⟩=some (.slice ra rn rc)/\wx.cell? ⟨wg,j*8+7,none⟩=some (.slice sa sn sc))) (first|exact HS.o _ HG0.o|exact HS.o _ hg4) ((
        go_at_call 26;refine Calls.mono (EQ.o _ HG0.o) ?_;rintro e w4 ⟨rfl,hg4'⟩;have hg4:=A1 HG0.o hg4';clear hg4'))
     all_goals
      have t0:w4.cell? ⟨gg,j*8,none⟩=some (.int .i64 (R j).prio):=hg4.cell p1 (by simp);have t1:w4.cell? ⟨wg,j*8,none⟩=some (.int .i64 (R j).prio):=hg4.cell q1 (by simp);have u0:w4.cell? ⟨gg,j*8+1,none⟩=some (.int .i64 ((R j).mt 0)):=hg4.cell (p2 0 (by omega)) (by simp);have v0:w4.cell? ⟨wg,j*8+1,none⟩=some (.int .i64 ((R j).mt 0)):=hg4.cell (q2 0 (by omega)) (by simp);have u1:w4.cell? ⟨gg,j*8+2,none⟩=some (.int .i64 ((R j).mt 1)):=hg4.cell (p2 1 (by omega)) (by simp);have v1:w4.cell? ⟨wg,j*8+2,none⟩=some (.int .i64 ((R j).mt 1)):=hg4.cell (q2 1 (by omega)) (by simp);have u2:w4.cell? ⟨gg,j*8+3,none⟩=some (.int .i64 ((R j).mt 2)):=hg4.cell (p2 2 (by omega)) (by simp);have v2:w4.cell? ⟨wg,j*8+3,none⟩=some (.int .i64 ((R j).mt 2)):=hg4.cell (q2 2 (by omega)) (by simp);have u3:w4.cell? ⟨gg,j*8+4,none⟩=some (.int .i64 ((R j).mt 3)):=hg4.cell (p2 3 (by omega)) (by simp);have v3:w4.cell? ⟨wg,j*8+4,none⟩=some (.int .i64 ((R j).mt 3)):=hg4.cell (q2 3 (by omega)) (by simp);have u4:w4.cell? ⟨gg,j*8+5,none⟩=some (.int .i64 ((R j).mt 4)):=hg4.cell (p2 4 (by omega)) (by simp);have v4:w4.cell? ⟨wg,j*8+5,none⟩=some (.int .i64 ((R j).mt 4)):=hg4.cell (q2 4 (by omega)) (by simp);have u5:w4.cell? ⟨gg,j*8+6,none⟩=some (.int .i64 ((R j).mt 5)):=hg4.cell (p2 5 (by omega)) (by simp);have v5:w4.cell? ⟨wg,j*8+6,none⟩=some (.int .i64 ((R j).mt 5)):=hg4.cell (q2 5 (by omega)) (by simp);have GJ4:=A0 (A1 HGJ.o hg4);obtain⟨pr,hpr⟩:∃x,x=(R j).prio:=⟨_,rfl⟩;obtain⟨mt,hmt⟩:∃x,x=(R j).mt:=⟨_,rfl⟩;rw[<-hpr]at t0 t1
      rw[<-hmt]at u0 u1 u2 u3 u4 u5 v0 v1 v2 v3 v4 v5;clear hg4 p1 p2 p3 q1 q2 q3 EQ HS HG0 hpr hmt;have h6:eq6 (mt 0) (mt 1) (mt 2) (mt 3) (mt 4) (mt 5) (mt 0) (mt 1) (mt 2) (mt 3) (mt 4) (mt 5)=true:=by unfold eq6;simp
      go_wp2_with fail;go_quiet (fail)
      go_wp2_with fail;exact⟨⟨j+1,by omega,by go_num,AT GJ4.o nq⟩,by simp[intOf];omega⟩
    ·obtain rfl:j=mn:=by omega
     have GJ:Hid (w.grownBy wr none):=A1 GW3.o HGJ.o;go_wp2_with fail;exact⟨⟨s+1,by omega,by go_num,GJ.o⟩,by simp[intOf];omega⟩
  ·obtain rfl:s=D:=by omega
   have FIN:Hid (P (.returned (.bool true)) wr):=by
    rw[HP.o];exact⟨rfl,HG.o⟩
   go_wp2_with fail;exact FIN.o
end Go.Proofs.YtlhkfafdioakeaaGreatDoor
