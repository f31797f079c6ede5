/- Parts of the proof. -/
import Derived.Test.YtlhkfafdioakeaaGreatDoorSf29
import Derived.Test.YtlhkfafdioakeaaGreatDoorSf35
import Derived.Test.YtlhkfafdioakeaaGreatDoorSf42
import Derived.Test.YtlhkfafdioakeaaGreatDoorSf43
import Derived.Deep.RegionHeld3
namespace Go.Proofs.YtlhkfafdioakeaaGreatDoor
set_option maxRecDepth 100000
set_option maxHeartbeats 4000000
open Go.RowKit Go.Weft
set_option linter.unusedVariables false
set_option linter.unusedSimpArgs false
theorem NetAt.move{w:World}{B nb0:Nat}{role:Nat->Role}{N:NetM}(h:NetAt w B nb0 role N)(hB:B<=w.heap.size)(T:TypeId):∃role',NetAt (w.alloc (.cells #[N.fl,.int .i64 N.fq,N.lv,.int .i64 N.room,.slice (some ⟨N.db,0,none⟩) N.D N.D,N.delv] T)) B w.heap.size role' { N with nt:=T }:=by
 classical
 obtain ⟨w1,hw1⟩:∃w1,w1=w.alloc (.cells #[N.fl,.int .i64 N.fq,N.lv,.int .i64 N.room,.slice (some ⟨N.db,0,none⟩) N.D N.D,N.delv] T):=⟨_,rfl⟩;have hg:w.grownBy w1 none:=by rw [hw1];exact World.grownBy_alloc _ _ _
 have hnew:w1.heap[w.heap.size]?=some (.cells #[N.fl,.int .i64 N.fq,N.lv,.int .i64 N.room,.slice (some ⟨N.db,0,none⟩) N.D N.D,N.delv] T (0,0)):=by rw [hw1];exact heap_alloc_new w _
 have hz:w1.heap.size=w.heap.size+1:=by rw [hw1];simp
 rw [<-hw1];have h1:=h.grown hg (fun b e=>by cases e)
 have key:∀b r,role b=r->r ≠ .free->r ≠ .net->(if b=w.heap.size then Role.net else if b=nb0 then .free else role b)=r:=fun b r e h2 h3=>by
  have hb:b<w.heap.size:=(h.low b (by rw [e];exact h2)).2;rw [if_neg (by omega),if_neg (fun e2=>by rw [e2,h.nbR] at e;exact h3 e.symm)];exact e
 refine ⟨fun b=>if b=w.heap.size then .net else if b=nb0 then .free else role b,⟨if_pos rfl,hnew,key _ _ h1.dbR (fun e=>by cases e) (fun e=>by cases e),h1.dev,fun s hs=>⟨fun j hj=>⟨((h1.dvs s hs).row j hj).q,fun b k=>key b _ (((h1.dvs s hs).row j hj).rl b k) (fun e=>by cases e) (fun e=>by cases e)⟩,fun r hm=>⟨((h1.dvs s hs).ru r hm).pk,fun b k=>⟨key b _ (((h1.dvs s hs).ru r hm).rl b k).1 (fun e=>by cases e) (fun e=>by cases e),(((h1.dvs s hs).ru r hm).rl b k).2⟩⟩⟩,⟨h1.dels.q,fun b k=>key b _ (h1.dels.rl b k) (fun e=>by cases e) (fun e=>by cases e)⟩,h1.lnk,fun b k=>⟨key b _ (h1.lnr b k).1 (fun e=>by cases e) (fun e=>by cases e),(h1.lnr b k).2⟩,fun b hb=>?_,h1.dsz⟩⟩;have hb:(if b=w.heap.size then Role.net else if b=nb0 then .free else role b) ≠ .free:=hb;by_cases e1:b=w.heap.size
 ·omega
 ·rw [if_neg e1] at hb;by_cases e2:b=nb0
  ·rw [if_pos e2] at hb;exact absurd rfl hb
  ·rw [if_neg e2] at hb;exact h1.low b hb
def PNewO(D ln:Nat)(ld:Nat->Nat->Int)(room:Int)(fv:Value)(fq:Int)(Q:Nat->List Rl->Prop)(w:World)(e:Ending)(w':World):Prop:=
 ∃nb role N R T,e=.returned (.tuple #[.pointer (some ⟨nb,0,none⟩),.int .i64 0])/\NetAt w' w.heap.size nb role N/\w.grownBy w' none/\N.D=D/\N.fl=fv/\N.fq=fq/\N.ln=ln/\N.ld=ld/\N.room=room/\N.a=initA R T D/\∀s,s<D->Q s (R s::T s)
def NewAt(D:Nat)(la:Option Addr)(ln lc:Nat)(room:Int)(pa:Option Addr)(pn pc:Nat)(st:Int)(ra:Nat->Option Addr)(rn rc:Nat->Nat)(o:Nat->Int)(P:Ending->World->Prop)(ww:World):Prop:=
 Calls Tryz.prog 105 #[.agg #[.int .i64 D,.slice la ln lc,.int .i64 room],.agg #[.slice pa pn pc,.int .i64 st],.agg #[.slice pa pn pc,.int .i64 st,.slice (ra 0) (rn 0) (rc 0),.slice (ra 1) (rn 1) (rc 1),.slice (ra 2) (rn 2) (rc 2),.slice (ra 3) (rn 3) (rc 3),.slice (ra 4) (rn 4) (rc 4),.slice (ra 5) (rn 5) (rc 5),.int .i64 (o 0),.int .i64 (o 1),.int .i64 (o 2),.int .i64 (o 3),.int .i64 (o 4),.int .i64 (o 5)]] ww fun e w'=>∃xa xc ya dl yc db nl,e=.returned (.agg #[.slice pa pn pc,.int .i64 st,.slice xa nl xc,.int .i64 room,.slice (some ⟨db,0,none⟩) D D,.slice ya dl yc])/\ww.grownBy w' none/\∀wz,w'.alloc (.cells #[.slice pa pn pc,.int .i64 st,.slice xa nl xc,.int .i64 room,.slice (some ⟨db,0,none⟩) D D,.slice ya dl yc] 202)=wz->P (.returned (.tuple #[.pointer (some ⟨w'.heap.size,0,none⟩),.int .i64 0])) wz
theorem xon(D:Nat)(hD:D<=6)(la:Option Addr)(ln lc:Nat)(ld:Nat->Nat->Int)(room:Int)(pa:Option Addr)(pn pc:Nat)(st:Int)(ra:Nat->Option Addr)(rn rc:Nat->Nat)(o:Nat->Int)(Q:Nat->List Rl->Prop)(w ww:World)(hg:w.grownBy ww none)(hl:LnR w (.slice la ln lc) ln ld)(hla:la=none->lc=0)(hln:ln<=1000000)(hT:TabC w (.agg (mkC pa pn pc st ra rn rc o)) Q)(hcan:∀z T,Q z T->∀r∈T,canS (rulM r))(P:Ending->World->Prop)(hP:P=PNewO D ln ld room (.slice pa pn pc) st Q w):NewAt D la ln lc room pa pn pc st ra rn rc o P ww:=by
 unfold NewAt;refine (xom D hD la ln lc ld room pa pn pc st ra rn rc o Q ww (hl.grown hg) hla hln (fun wy z hy hz=>hT wy z (xje hg hy) hz) hcan).mono ?_;rintro e w' ⟨nb0,role,N,R,T,rfl,h1,h2,rfl,h4,h5,h6,h7,h8,h9,h10⟩;obtain ⟨xa,xc,hlv⟩:=h1.lnk.slice;obtain ⟨ya,yc,hdv⟩:=h1.dels.q.slice;refine ⟨xa,xc,ya,N.del.length,yc,N.db,N.ln,by rw [h4,h5,hlv,h8,hdv],h2,fun wz hwz=>?_⟩;obtain ⟨role',hm⟩:=h1.move h2.size 202;rw [hP];have ew:wz=w'.alloc (.cells #[N.fl,.int .i64 N.fq,N.lv,.int .i64 N.room,.slice (some ⟨N.db,0,none⟩) N.D N.D,N.delv] 202):=by rw [<-hwz,h4,h5,hlv,h8,hdv]
 rw [ew];exact ⟨w'.heap.size,role',{ N with nt:=202 },R,T,rfl,{ hm with low:=fun b hb=>⟨Nat.le_trans hg.size (hm.low b hb).1,(hm.low b hb).2⟩ },xje (xje hg h2) (World.grownBy_alloc _ _ _),rfl,h4,h5,h6,h7,h8,h9,h10⟩
theorem xsa(pb:Nat)(S:Int)(la:Option Addr)(ln lc:Nat)(ld:Nat->Nat->Int)(room:Int)(w:World)(hl:LnR w (.slice la ln lc) ln ld)(hlc:ln<=lc)(hno:¬cfgS S ld ln room):
  Calls Tryz.prog 63 #[.pointer (some ⟨pb,0,none⟩),.agg #[.int .i64 S,.slice la ln lc,.int .i64 room]] w fun e w'=>e=.returned (.tuple #[.pointer none,.int .i64 13])/\w.grownBy w' none:=by
 have HR:Hid (∀ww,w.grownBy ww none->Calls Tryz.prog 104 #[.agg #[.int .i64 S,.slice la ln lc,.int .i64 room]] ww fun e w'=>e=.returned (.bool false)/\ww.grownBy w' none):=fun ww hg=>by
  refine (xpa S room la ln lc ld ww (hl.grown hg) hlc).mono ?_;rintro e w' ⟨rfl,h⟩;exact ⟨by rw [decide_eq_false hno],h⟩
 clear hl hlc hno;go_enter Tryz.func63,Tryz.ntmps63;go_wp2_with fail;refine (HR.out _ (by first|exact xjb _ _|exact World.grownBy_alloc _ _ _)).mono ?_;rintro e w1 ⟨rfl,hg⟩;have HG:=hide hg;clear hg HR;go_wp2_with fail;go_ret2;exact ⟨rfl,xje (World.grownBy_alloc _ _ _) HG.out⟩
theorem xr9(pb D:Nat)(la:Option Addr)(ln lc:Nat)(ld:Nat->Nat->Int)(room:Int)(pa:Option Addr)(pn pc:Nat)(st:Int)(ra:Nat->Option Addr)(rn rc:Nat->Nat)(o:Nat->Int)(Q:Nat->List Rl->Prop)(w:World)(hb:w.heap[pb]?=some (.cells (#[.slice pa pn pc,.int .i64 st]++mkC pa pn pc st ra rn rc o) 115 (0,0)))(hl:LnR w (.slice la ln lc) ln ld)(hlc:ln<=lc)(hla:la=none->lc=0)(hln:ln<=1000000)(hyes:cfgS D ld ln room)(hT:TabC w (.agg (mkC pa pn pc st ra rn rc o)) Q)(hcan:∀z T,Q z T->∀r∈T,canS (rulM r)):
  Calls Tryz.prog 63 #[.pointer (some ⟨pb,0,none⟩),.agg #[.int .i64 D,.slice la ln lc,.int .i64 room]] w (PNewO D ln ld room (.slice pa pn pc) st Q w):=by
 have hD:D<=6:=by have:=hyes.1.2.1;omega
 have HR:Hid (∀ww,w.grownBy ww none->Calls Tryz.prog 104 #[.agg #[.int .i64 D,.slice la ln lc,.int .i64 room]] ww fun e w'=>e=.returned (.bool true)/\ww.grownBy w' none):=fun ww hg=>by
  refine (xpa D room la ln lc ld ww (hl.grown hg) hlc).mono ?_;rintro e w' ⟨rfl,h⟩;exact ⟨by rw [decide_eq_true hyes],h⟩
 obtain ⟨P,hP⟩:∃P,P=PNewO D ln ld room (.slice pa pn pc) st Q w:=⟨_,rfl⟩;rw [<-hP];have HP:=hide hP;have HN:Hid (∀ww,w.grownBy ww none->NewAt D la ln lc room pa pn pc st ra rn rc o P ww):=fun ww hg=>xon D hD la ln lc ld room pa pn pc st ra rn rc o Q w ww hg hl hla hln hT hcan P hP
 have hb2:w.heap[pb]?=some (.cells #[.slice pa pn pc,.int .i64 st,.slice pa pn pc,.int .i64 st,.slice (ra 0) (rn 0) (rc 0),.slice (ra 1) (rn 1) (rc 1),.slice (ra 2) (rn 2) (rc 2),.slice (ra 3) (rn 3) (rc 3),.slice (ra 4) (rn 4) (rc 4),.slice (ra 5) (rn 5) (rc 5),.int .i64 (o 0),.int .i64 (o 1),.int .i64 (o 2),.int .i64 (o 3),.int .i64 (o 4),.int .i64 (o 5)] 115 (0,0)):=by rw [hb];rfl
 have PB:=hide hb2;clear hl hlc hyes hT hcan hb hb2 hP hla;go_enter Tryz.func63,Tryz.ntmps63;go_wp2_with fail;refine (HR.out _ (by first|exact xjb _ _|exact World.grownBy_alloc _ _ _)).mono ?_;rintro e w1 ⟨rfl,hg⟩;have HG:Hid (w.grownBy w1 none):=xje (World.grownBy_alloc _ _ _) hg;have cb:=xc8 hg (heap_alloc_new w (.cells #[.int .i64 D,.slice la ln lc,.int .i64 room] 77));have HS:Hid (∀wx,w1.grownBy wx none->(wx.cell? ⟨w.heap.size,0,none⟩=some (.int .i64 D)/\wx.cell? ⟨w.heap.size,1,none⟩=some (.slice la ln lc)/\wx.cell? ⟨w.heap.size,2,none⟩=some (.int .i64 room)/\wx.cell? ⟨pb,0,none⟩=some (.slice pa pn pc)/\wx.cell? ⟨pb,1,none⟩=some (.int .i64 st)/\wx.cell? ⟨pb,2,none⟩=some (.slice pa pn pc)/\wx.cell? ⟨pb,3,none⟩=some (.int .i64 st)/\wx.cell? ⟨pb,4,none⟩=some (.slice (ra 0) (rn 0) (rc 0))/\wx.cell? ⟨pb,5,none⟩=some (.slice (ra 1) (rn 1) (rc 1))/\wx.cell? ⟨pb,6,none⟩=some (.slice (ra 2) (rn 2) (rc 2))/\wx.cell? ⟨pb,7,none⟩=some (.slice (ra 3) (rn 3) (rc 3))/\wx.cell? ⟨pb,8,none⟩=some (.slice (ra 4) (rn 4) (rc 4))/\wx.cell? ⟨pb,9,none⟩=some (.slice (ra 5) (rn 5) (rc 5))/\wx.cell? ⟨pb,10,none⟩=some (.int .i64 (o 0))/\wx.cell? ⟨pb,11,none⟩=some (.int .i64 (o 1))/\wx.cell? ⟨pb,12,none⟩=some (.int .i64 (o 2))/\wx.cell? ⟨pb,13,none⟩=some (.int .i64 (o 3))/\wx.cell? ⟨pb,14,none⟩=some (.int .i64 (o 4))/\wx.cell? ⟨pb,15,none⟩=some (.int .i64 (o 5)))):=fun wx hx=>⟨xc7 (xc8 hx cb) 0 _ rfl,xc7 (xc8 hx cb) 1 _ rfl,xc7 (xc8 hx cb) 2 _ rfl,xc7 (xc8 (xje HG.out hx) PB.out) 0 _ rfl,xc7 (xc8 (xje HG.out hx) PB.out) 1 _ rfl,xc7 (xc8 (xje HG.out hx) PB.out) 2 _ rfl,xc7 (xc8 (xje HG.out hx) PB.out) 3 _ rfl,xc7 (xc8 (xje HG.out hx) PB.out) 4 _ rfl,xc7 (xc8 (xje HG.out hx) PB.out) 5 _ rfl,xc7 (xc8 (xje HG.out hx) PB.out) 6 _ rfl,xc7 (xc8 (xje HG.out hx) PB.out) 7 _ rfl,xc7 (xc8 (xje HG.out hx) PB.out) 8 _ rfl,xc7 (xc8 (xje HG.out hx) PB.out) 9 _ rfl,xc7 (xc8 (xje HG.out hx) PB.out) 10 _ rfl,xc7 (xc8 (xje HG.out hx) PB.out) 11 _ rfl,xc7 (xc8 (xje HG.out hx) PB.out) 12 _ rfl,xc7 (xc8 (xje HG.out hx) PB.out) 13 _ rfl,xc7 (xc8 (xje HG.out hx) PB.out) 14 _ rfl,xc7 (xc8 (xje HG.out hx) PB.out) 15 _ rfl⟩
 obtain ⟨c0,c1,c2,c3,c4,c5,c6,c7,c8,c9,c10,c11,c12,c13,c14,c15,c16,c17,c18⟩:=HS.out w1 (xjb _ _);have HG0:Hid (w1.grownBy w1.drew none):=xi7 (xjb _ _);clear hg HR cb;go_wp2_with fail
 go_region_held3 (fun wx=>(wx.cell? ⟨w.heap.size,0,none⟩=some (.int .i64 D)/\wx.cell? ⟨w.heap.size,1,none⟩=some (.slice la ln lc)/\wx.cell? ⟨w.heap.size,2,none⟩=some (.int .i64 room)/\wx.cell? ⟨pb,0,none⟩=some (.slice pa pn pc)/\wx.cell? ⟨pb,1,none⟩=some (.int .i64 st)/\wx.cell? ⟨pb,2,none⟩=some (.slice pa pn pc)/\wx.cell? ⟨pb,3,none⟩=some (.int .i64 st)/\wx.cell? ⟨pb,4,none⟩=some (.slice (ra 0) (rn 0) (rc 0))/\wx.cell? ⟨pb,5,none⟩=some (.slice (ra 1) (rn 1) (rc 1))/\wx.cell? ⟨pb,6,none⟩=some (.slice (ra 2) (rn 2) (rc 2))/\wx.cell? ⟨pb,7,none⟩=some (.slice (ra 3) (rn 3) (rc 3))/\wx.cell? ⟨pb,8,none⟩=some (.slice (ra 4) (rn 4) (rc 4))/\wx.cell? ⟨pb,9,none⟩=some (.slice (ra 5) (rn 5) (rc 5))/\wx.cell? ⟨pb,10,none⟩=some (.int .i64 (o 0))/\wx.cell? ⟨pb,11,none⟩=some (.int .i64 (o 1))/\wx.cell? ⟨pb,12,none⟩=some (.int .i64 (o 2))/\wx.cell? ⟨pb,13,none⟩=some (.int .i64 (o 3))/\wx.cell? ⟨pb,14,none⟩=some (.int .i64 (o 4))/\wx.cell? ⟨pb,15,none⟩=some (.int .i64 (o 5)))) (first|exact HS.out _ HG0.out|exact HS.out _ hg9|exact HS.out _ (xje hg9 (World.grownBy_alloc _ _ _))) ((
    go_at_call 105;refine Calls.mono (HN.out _ (xje HG.out HG0.out)) ?_;rintro e w9 ⟨xa,xc,ya,dl,yc,db,nl,rfl,hg8,hp⟩;have hg9:=xje HG0.out hg8;have HPP:=hide hp;clear hp hg8))
 all_goals
  go_wp2_with fail;exact HPP.out _ rfl
theorem xuc(rs:Nat->Rl):∀N,rlsC ((List.range N).map rs)=flR rs N
 | 0=>rfl
 | N+1=>by
  rw [List.range_succ,List.map_append,xua,xuc rs N];show flR rs N++rlsC [rs N]=flR rs N++rlL (rs N).prio (rs N).mt (rs N).av;congr 1
theorem xt8(rs:Nat->Rl){N j:Nat}(h:j<N):rlF ((List.range N).map rs) j=rs j:=by unfold rlF;simp [h]
theorem xtf(rs:Nat->Rl){N:Nat}(h:0<N):(List.range N).map rs=rs 0::(List.range (N-1)).map (fun j=>rs (j+1)):=by
 obtain ⟨M,rfl⟩:∃M,N=M+1:=⟨N-1,by omega⟩;rw [List.range_succ_eq_map];simp
theorem xyz{s0:ByteArray}{t:Code}(hr:readS s0=.ok t){w:World}{pa:Option Addr}{pn pc:Nat}{ra:Nat->Option Addr}{rn rc:Nat->Nat}(F:MkF (tstd (xcc t)) (oT t) (acT t) Rt pa pn pc ((xh4 t).1:Int) ra rn rc t w):TabC w (.agg (mkC pa pn pc ((xh4 t).1:Int) ra rn rc (oT t))) (fun z T=>z<=31/\TabOf t z T):=by
 intro ww z hg hz;have hk:Rt (swK (z:Int)):=xx9 (by omega);refine (xny (z:Int) hk ww (F.grown hg)).mono ?_;rintro e w' ⟨v,rfl,⟨N,rs,AL,h0,h1,hq,hp,hpr⟩,hgw⟩;have hrow:w'.ownsRow ww.heap.size 68 8 v N (flR rs N):=hq.row;have hcons:=xtf rs h0;refine ⟨v,rs 0,(List.range (N-1)).map (fun j=>rs (j+1)),rfl,⟨hz,?_⟩,?_,fun x hx=>?_,hgw⟩
 ·rw [<-hcons];have hlen:((List.range N).map rs).length=N:=by simp
  refine ⟨AL,?_,fun j hj=>?_,fun j hj=>?_⟩
  ·rw [hlen,<-hpr,xsk];exact fun j hj=>⟨by rw [xt8 rs hj],rfl⟩
  ·rw [hlen] at hj;rw [xt8 rs hj];exact ⟨hq.is j hj,hq.anm j hj⟩
  ·rw [hlen] at hj ⊢;rw [xt8 rs hj];exact hp j hj
 ·rw [<-hcons,xuc];have:(List.range (N-1)).length+1=N:=by simp;omega
  rw [List.length_map,this];exact hrow
 ·rw [<-hcons] at hx;obtain ⟨j,hj,rfl⟩:=List.mem_map.1 hx;exact hq.own j (List.mem_range.1 hj)
theorem xu4{s0:ByteArray}{t:Code}(hr:readS s0=.ok t){w:World}{pa:Option Addr}{pn pc:Nat}{ra:Nat->Option Addr}{rn rc:Nat->Nat}(F:MkF (tstd (xcc t)) (oT t) (acT t) Rt pa pn pc ((xh4 t).1:Int) ra rn rc t w):RunH w (.slice pa pn pc) ((xh4 t).1:Int) (polT t):=by
 intro ww k hg hn hk;have hR:=(xty hn).1 hk;refine (F.run k hR ww hg).mono ?_;rintro e w' ⟨a,c,n,d,A,rfl,h1,h2,h3,h4⟩;obtain rfl:=xsc hr hR h3;obtain rfl:n=(polT t k).length:=h2.1.symm;exact ⟨a,c,d,rfl,h1,h2,h4⟩
structure Begun(s0:ByteArray)(t:Code)(D ln:Nat)(ld:Nat->Nat->Int)(room:Int)(w:World)(K:Gk):Prop where
 ok:K.ok
 s0:K.s0=s0
 t:K.t=t
 D:K.D=D
 ln:K.ln=ln
 ld:K.ld=ld
 room:(K.room:Int)=room
 w0:K.w0=w
 B:K.B=w.heap.size
theorem xij{s0:ByteArray}{t:Code}(hr:readS s0=.ok t){w:World}{pb:Nat}(hP:PolAt w pb t)(he:Evy w)(D:Nat)(la:Option Addr)(ln lc:Nat)(ld:Nat->Nat->Int)(room:Int)(hl:LnR w (.slice la ln lc) ln ld)(hlc:ln<=lc)(hla:la=none->lc=0)(hln:ln<=1000000)(hyes:cfgS D ld ln room):
  Calls Tryz.prog 63 #[.pointer (some ⟨pb,0,none⟩),.agg #[.int .i64 D,.slice la ln lc,.int .i64 room]] w fun e w'=>∃K role N S,e=.returned (.tuple #[.pointer (some ⟨K.nb,0,none⟩),.int .i64 0])/\Begun s0 t D ln ld room w K/\NOK K 0 role N S [] w'/\w.grownBy w' none:=by
 obtain ⟨pa,pn,pc,ra,rn,rc,hb,F⟩:=xsf hP hr he;have hrm:=hyes.1;refine (xr9 pb D la ln lc ld room pa pn pc ((xh4 t).1:Int) ra rn rc (oT t) (fun z T=>z<=31/\TabOf t z T) w hb hl hlc hla hln hyes (xyz hr F) (fun z T h r hm=>(h.2.can hr (by omega)).2 r hm)).mono ?_;rintro e w' ⟨nb,role,N,R,T,rfl,h1,h2,h3,h4,h5,h6,h7,h8,h9,h10⟩;refine ⟨⟨s0,t,D,ld,ln,room.toNat,fun s=>R s::T s,w,w.heap.size,nb,.slice pa pn pc,((xh4 t).1:Int)⟩,role,N,⟨fun _=>[],fun _=>[],fun s=>if s<D then [.add (R s),.bar] else [],fun _=>[],fun s=>if s<D then T s else [],[]⟩,rfl,⟨⟨hr,by have:=hyes.1;show 1<=D/\D<=6;omega,by show room.toNat<=5000;omega,fun j hj=>?_,fun s hs=>(h10 s hs).2,Nat.le_refl _,xu4 hr F,⟨_,_,_,rfl⟩⟩,rfl,rfl,rfl,rfl,rfl,by show (room.toNat:Int)=room;omega,rfl,rfl⟩,?_,h2⟩
 ·have:=(hyes.2 j hj).1;unfold btwS at this;have hj2:j<ln:=hj;show 0<=ld j 2/\ld j 2<(D:Int)/\0<=ld j 3/\ld j 3<8;omega
 ·refine ⟨h1,h2.size,h2,h3,h7,h6,by rw [h8];show room=(room.toNat:Int);omega,h4,h5,?_,?_,fun s=>?_,fun s=>Nat.zero_le _,Nat.zero_le _⟩
  ·rw [h9];refine ⟨fun s=>rfl,(fun s j hj=>by cases hj),rfl,fun s=>?_,fun s=>rfl,rfl,rfl⟩;unfold initA;simp only;split<;>rfl
  ·refine xjz (fun s hs=>?_) (fun s=>rfl) (fun s=>rfl) (fun s L hL=>?_) rfl
   ·have hs:s<D:=hs;show Ph (R s::T s) room.toNat [] (if s<D then T s else []) ((if s<D then [Dm.add (R s),.bar] else []).filter Dm.ctl) ([].filter Um.ctl);rw [if_pos hs,if_pos hs];exact .send rfl (Nat.zero_le _)
   ·have hL:Dm.out L∈(if s<D then [Dm.add (R s),.bar] else []:List (Dm Rl (Nat->Int))):=hL;split at hL<;>simp at hL
  ·show (if s<D then [Dm.add (R s),.bar] else []:List (Dm Rl (Nat->Int))).length<=2*0+2;split<;>simp
def BegO(s0:ByteArray)(la:Option Addr)(ln lc:Nat)(ld:Nat->Nat->Int)(w:World)(e:Ending)(w':World):Prop:=
 (e=.returned (.tuple #[.pointer none,.bool true])/\w.grownBy w' none)\/
 ∃K gb G role N S,e=.returned (.tuple #[.pointer (some ⟨gb,0,none⟩),.bool true])/\w.grownBy K.w0 none/\K.ok/\BrW K.w0 G s0 K.t ld/\GAt K gb G (.slice none 0 0) false 0 role N S [] w'/\K.ld=ld/\G.la=la/\G.ln=ln/\G.lc=lc
theorem xcy{s0:ByteArray}{t:Code}(hr:readS s0=.ok t){D ln lc pb:Nat}{la:Option Addr}{ld:Nat->Nat->Int}{room:Int}{w w1:World}{K:Gk}(hB:Begun s0 t D ln ld room w K){role:Nat->Role}{N:NetM}{S:Gs Rl (Nat->Int)}(hN:NOK K 0 role N S [] w1)(hP:PolAt w pb t)(hl:LnR w (.slice la ln lc) ln ld):
  BrW K.w0 ⟨pb,K.nb,D,la,ln,lc,room,none,0,0,false⟩ s0 K.t ld/\GAt K w1.heap.size ⟨pb,K.nb,D,la,ln,lc,room,none,0,0,false⟩ (.slice none 0 0) false 0 role N S [] (w1.alloc (.cells (gmA ⟨pb,K.nb,D,la,ln,lc,room,none,0,0,false⟩ (.slice none 0 0) false false) 96)):=by
 have hK:=hB.ok;have hD:=hK.D;have hg:w1.grownBy (w1.alloc (.cells (gmA ⟨pb,K.nb,D,la,ln,lc,room,none,0,0,false⟩ (.slice none 0 0) false false) 96)) none:=World.grownBy_alloc _ _ _;refine ⟨⟨by rw [hB.t];exact hr,?_,by rw [hB.w0];exact hl,fun j hj=>?_⟩,⟨hN.quiet hg,heap_alloc_new w1 _,hN.at'.new (Nat.le_refl _),hN.old.size,rfl,QRow.nil _ _ _ _,(fun b hb=>by cases hb),Nat.zero_le _,rfl,hB.D.symm,hB.ln.symm,(fun k hk=>by cases hk)⟩⟩
 ·rw [hB.w0,hB.t];exact ⟨hP,(xtk hr).1,(xtk hr).2.2.2⟩
 ·have:=hK.ln j (by rw [hB.ln];exact hj);rw [hB.ld] at this;omega
theorem xcz(s0:ByteArray)(Sw room:Int)(la:Option Addr)(ln lc:Nat)(ld:Nat->Nat->Int)(w:World)(hn:Names w)(he:Evy w)(hs:s0.size<=9223372036854775807)(hl:LnR w (.slice la ln lc) ln ld)(hlc:ln<=lc)(hla:la=none->lc=0)(hln:ln<=1000000):
  Calls Tryz.prog 41 #[.string s0,.agg #[.int .i64 Sw,.slice la ln lc,.int .i64 room]] w (BegO s0 la ln lc ld w):=by
 obtain ⟨P,hP⟩:∃P,P=BegO s0 la ln lc ld w:=⟨_,rfl⟩;rw [<-hP];have HP:=hide hP;have HN:=hide hn;have HE:=hide he;have HL:=hide hl;have HLC:=hide hlc;have HLA:=hide hla;have HLN:=hide hln;have HS:=hide hs;clear hP hn he hl hlc hla hln hs;obtain ⟨W1,hW1⟩:∃W1,W1=w.alloc (.cells #[.int .i64 Sw,.slice la ln lc,.int .i64 room] 77):=⟨_,rfl⟩;have G1:Hid (w.grownBy W1 none):=by show w.grownBy W1 none;rw [hW1];exact World.grownBy_alloc _ _ _
 have CB1:Hid (W1.heap[w.heap.size]?=some (.cells #[.int .i64 Sw,.slice la ln lc,.int .i64 room] 77 (0,0))):=by show _=_;rw [hW1];exact heap_alloc_new w _
 have NMS:Hid (∀ww,w.grownBy ww none->Names ww):=fun ww hg k hk=>hg.cell (HN.out k hk) (by simp)
 go_enter Tryz.func41,Tryz.ntmps41;go_wp2_with fail;rw [<-hW1];clear hW1;refine (xkx W1 (NMS.out W1 G1.out)).mono ?_;rintro e w2 ⟨b2,rfl,g2⟩;have G2:=hide (xje G1.out g2);have CB2:=hide (xc9 CB1.out g2 (by simp));clear g2 G1 CB1;cases hrd:readS s0 with
 | error p=>
  obtain ⟨en,pl⟩:=p;have HCE:=hide (xe9 s0 w2 (NMS.out w2 G2.out) HS.out en pl hrd);have hne:(en != 0)=true:=xti hrd;clear hrd;go_wp2_with fail;refine HCE.out.mono ?_;rintro e w3 ⟨rfl,g3⟩
  have F3:Hid (P (.returned (.tuple #[.pointer none,.bool true])) w3):=by
   rw [HP.out];exact .inl ⟨rfl,xje G2.out g3⟩
  clear g3 HCE;go_wp2_with fail;exact F3.out
 | ok t=>
  have HCO:=hide (xfa s0 w2 (NMS.out w2 G2.out) HS.out t hrd);have HRD:=hide hrd;clear hrd;go_wp2_with fail;refine HCO.out.mono ?_;rintro e w3 ⟨pb,rfl,hpol,hpb,g3⟩;have G3:=hide (xje G2.out g3);have CB3:=hide (xc9 CB2.out g3 (by simp));have HPL:=hide hpol;have b0:w3.cell? ⟨w.heap.size,0,none⟩=some (.int .i64 Sw):=xc7 CB3.out 0 _ rfl;have b1:w3.cell? ⟨w.heap.size,1,none⟩=some (.slice la ln lc):=xc7 CB3.out 1 _ rfl;have b2:w3.cell? ⟨w.heap.size,2,none⟩=some (.int .i64 room):=xc7 CB3.out 2 _ rfl;clear g3 HCO hpol hpb G2 CB2;by_cases hc:cfgS Sw ld ln room
  ·obtain ⟨D,hD⟩:∃D:Nat,(D:Int)=Sw:=⟨Sw.toNat,by have:=hc.1;omega⟩;subst hD;have NEW:Hid (Calls Tryz.prog 63 #[.pointer (some ⟨pb,0,none⟩),.agg #[.int .i64 D,.slice la ln lc,.int .i64 room]] w3 fun e w'=>∃K role N S,e=.returned (.tuple #[.pointer (some ⟨K.nb,0,none⟩),.int .i64 0])/\Begun s0 t D ln ld room w3 K/\NOK K 0 role N S [] w'/\w3.grownBy w' none):=xij HRD.out HPL.out (HE.out.grown G3.out) D la ln lc ld room (HL.out.grown G3.out) HLC.out HLA.out HLN.out hc;clear hc;go_wp2_with fail;refine NEW.out.mono ?_;rintro e w4 ⟨K,role,N,S,rfl,hB,hN,g4⟩;have HB:=hide hB;have HNK:=hide hN;have CB4:=hide (xc9 CB3.out g4 (by simp));have d0:w4.cell? ⟨w.heap.size,0,none⟩=some (.int .i64 D):=xc7 CB4.out 0 _ rfl;have d1:w4.cell? ⟨w.heap.size,1,none⟩=some (.slice la ln lc):=xc7 CB4.out 1 _ rfl;have d2:w4.cell? ⟨w.heap.size,2,none⟩=some (.int .i64 room):=xc7 CB4.out 2 _ rfl;clear NEW hB hN g4 b0 b1 b2 CB3
   have F4:Hid (P (.returned (.tuple #[.pointer (some ⟨w4.heap.size,0,none⟩),.bool true])) (w4.alloc (.cells (gmA ⟨pb,K.nb,D,la,ln,lc,room,none,0,0,false⟩ (.slice none 0 0) false false) 96))):=by
    rw [HP.out];obtain ⟨h1,h2⟩:=xcy (lc:=lc) (la:=la) HRD.out HB.out HNK.out HPL.out (HL.out.grown G3.out);exact .inr ⟨K,w4.heap.size,_,role,N,S,rfl,by rw [HB.out.w0];exact G3.out,HB.out.ok,h1,h2,HB.out.ld,rfl,rfl,rfl⟩
   go_wp2_with fail;exact F4.out
  ·have NEW:Hid (Calls Tryz.prog 63 #[.pointer (some ⟨pb,0,none⟩),.agg #[.int .i64 Sw,.slice la ln lc,.int .i64 room]] w3 fun e w'=>e=.returned (.tuple #[.pointer none,.int .i64 13])/\w3.grownBy w' none):=xsa pb Sw la ln lc ld room w3 (HL.out.grown G3.out) HLC.out hc;clear hc;go_wp2_with fail;refine NEW.out.mono ?_;rintro e w4 ⟨rfl,g4⟩
   have F4:Hid (P (.returned (.tuple #[.pointer none,.bool true])) w4):=by
    rw [HP.out];exact .inl ⟨rfl,xje G3.out g4⟩
   clear g4 NEW;go_wp2_with fail;exact F4.out
end Go.Proofs.YtlhkfafdioakeaaGreatDoor
