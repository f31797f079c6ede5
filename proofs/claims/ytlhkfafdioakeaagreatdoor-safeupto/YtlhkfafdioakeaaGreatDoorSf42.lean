/- Parts of the proof. -/
import Derived.Test.YtlhkfafdioakeaaGreatDoorSf07
import Derived.Test.YtlhkfafdioakeaaGreatDoorSf24
import Derived.Deep.RegionHeld3
namespace Go.Proofs.YtlhkfafdioakeaaGreatDoor
set_option maxRecDepth 100000
set_option maxHeartbeats 4000000
open Go.RowKit Go.Weft
set_option linter.unusedVariables false
set_option linter.unusedSimpArgs false
def TabC(w0:World)(mv:Value)(Q:Nat->List Rl->Prop):Prop:=∀ww (z:Nat),w0.grownBy ww none->z<=31->Calls Tryz.prog 103 #[mv,.int .i64 z] ww fun e w'=>∃v r T,e=.returned v/\Q z (r::T)/\w'.ownsRow ww.heap.size 68 8 v (T.length+1) (rlsC (r::T))/\(∀x∈r::T,OwnV ww.heap.size w' x.av x.na x.acts)/\ww.grownBy w' none
def initA(R:Nat->Rl)(T:Nat->List Rl)(j:Nat):NtA:=⟨fun _=>[],fun _=>[],fun s=>if s<j then [enA (R s),enK 2] else [],fun _=>[],fun s=>if s<j then T s else [],[]⟩
def NewO(D:Nat)(ln:Nat)(ld:Nat->Nat->Int)(room:Int)(fv:Value)(fq:Int)(Q:Nat->List Rl->Prop)(w:World)(e:Ending)(w':World):Prop:=
 ∃nb0 role N R T,e=.returned (.agg #[N.fl,.int .i64 N.fq,N.lv,.int .i64 N.room,.slice (some ⟨N.db,0,none⟩) N.D N.D,N.delv])/\NetAt w' w.heap.size nb0 role N/\w.grownBy w' none/\N.D=D/\N.fl=fv/\N.fq=fq/\N.ln=ln/\N.ld=ld/\N.room=room/\N.a=initA R T D/\∀s,s<D->Q s (R s::T s)
theorem Tryz.infoNDv:(Tryz.prog.info? 250).map (fun i=>(i.zero,i.size,i.bytes))=some (some (.agg #[.slice none 0 0,.slice none 0 0,.slice none 0 0,.slice none 0 0,.slice none 0 0]),5,120):=by kernel_rfl
theorem xu9(u:World)(n:Nat)(hn:n<=6):(Instr.makeSlice 197 (.int .i64 (n:Int)) (.int .i64 (n:Int))).run Tryz.prog u=.ok (.slice (some ⟨u.heap.size,0,none⟩) n n) (u.alloc (.cells (madeCells #[.slice none 0 0,.slice none 0 0,.slice none 0 0,.slice none 0 0,.slice none 0 0] (n*5)) 250)):=by
 obtain ⟨i0,hi,hz0,hz1,hz2⟩:=info_parts Tryz.infoNDv;have h:=run_make (P:=Tryz.prog) u 197 250 i0 (.agg #[.slice none 0 0,.slice none 0 0,.slice none 0 0,.slice none 0 0,.slice none 0 0]) Tryz.underlying197 hi hz0 .i64 .i64 (n:Int) (n:Int) (by omega) (Int.le_refl _) (by rw [hz2];omega) (by omega);rw [Int.toNat_natCast,hz1] at h;exact h
theorem xc8{w w':World}(hg:w.grownBy w' none){b:Nat}{ob:Obj}(h:w.heap[b]?=some ob):w'.heap[b]?=some ob:=xc9 h hg (by simp)
theorem xb2(w:World)(o1 o2:Obj):((w.alloc o1).alloc o2).heap[w.heap.size+1]?=some o2:=by
 have:=heap_alloc_new (w.alloc o1) o2;rw [show (w.alloc o1).heap.size=w.heap.size+1 by simp] at this;exact this
theorem xda{w:World}{b:Nat}{cs:Array Value}{T:TypeId}(h:w.heap[b]?=some (.cells cs T (0,0))):∀o,w.frozen? ⟨b,o,none⟩=false:=fun o=>by simp [World.frozen?,h]
def InitR(D ln:Nat)(ld:Nat->Nat->Int)(room:Int)(fv:Value)(fq:Int)(w W:World)(s7:Value)(wx:World):Prop:=
 ∃nb0 role N,s7=.pointer (some ⟨nb0,0,none⟩)/\NetAt wx W.heap.size nb0 role N/\W.grownBy wx none/\N.D=D/\N.fl=fv/\N.fq=fq/\N.ln=ln/\N.ld=ld/\N.room=room/\N.a=⟨fun _=>[],fun _=>[],fun _=>[],fun _=>[],fun _=>[],[]⟩
theorem NetAt.markR{w:World}{B nb:Nat}{role:Nat->Role}{N:NetM}(h:NetAt w B nb role N)(P:Nat->Prop)[DecidablePred P](ρ:Nat->Role)(hP:∀b,P b->role b=.free/\B<=b/\b<w.heap.size):NetAt w B nb (fun b=>if P b then ρ b else role b) N:=by
 have hk:∀b,role b ≠ .free->(if P b then ρ b else role b)=role b:=fun b hb=>if_neg (fun e=>hb (hP b e).1)
 have key:∀b r,role b=r->r ≠ .free->(if P b then ρ b else role b)=r:=fun b r e hr=>by rw [hk b (by rw [e];exact hr),e]
 refine ⟨key _ _ h.nbR (fun e=>by cases e),h.net,key _ _ h.dbR (fun e=>by cases e),h.dev,fun s hs=>⟨fun j hj=>⟨((h.dvs s hs).row j hj).q,fun b k=>key b _ (((h.dvs s hs).row j hj).rl b k) (fun e=>by cases e)⟩,fun r hm=>⟨((h.dvs s hs).ru r hm).pk,fun b k=>⟨key b _ (((h.dvs s hs).ru r hm).rl b k).1 (fun e=>by cases e),(((h.dvs s hs).ru r hm).rl b k).2⟩⟩⟩,⟨h.dels.q,fun b k=>key b _ (h.dels.rl b k) (fun e=>by cases e)⟩,h.lnk,fun b k=>⟨key b _ (h.lnr b k).1 (fun e=>by cases e),(h.lnr b k).2⟩,fun b hb=>?_,h.dsz⟩;by_cases hp:P b
 ·exact (hP b hp).2
 ·rw [if_neg hp] at hb;exact h.low b hb
theorem QRow.low0{B:Nat}{w:World}{T:TypeId}{size:Nat}{v:Value}{n:Nat}{xs:List Value}(h:QRow B w T size v n xs):QRow 0 w T size v n xs:=by
 refine ⟨h.1,h.2.imp id ?_⟩;rintro ⟨g,off,cap,cur,e1,e2,e3⟩;exact ⟨g,off,cap,cur,e1,Nat.zero_le _,e3⟩
def lnC(ld:Nat->Nat->Int)(n:Nat):List Value:=(List.range n).flatMap fun j=>[.int .i64 (ld j 0),.int .i64 (ld j 1),.int .i64 (ld j 2),.int .i64 (ld j 3)]
theorem xmc(ld:Nat->Nat->Int)(n:Nat):lnC ld (n+1)=lnC ld n++[.int .i64 (ld n 0),.int .i64 (ld n 1),.int .i64 (ld n 2),.int .i64 (ld n 3)]:=by unfold lnC;rw [List.range_succ,List.flatMap_append];simp
theorem xma(ld:Nat->Nat->Int):∀n,(lnC ld n).length=n*4
 | 0=>rfl
 | n+1=>by rw [xmc,List.length_append,xma ld n];simp;omega
theorem xl9(ld:Nat->Nat->Int):∀n j i,j<n->i<4->(lnC ld n)[j*4+i]?=some (.int .i64 (ld j i))
 | 0,j,i,hj,_=>by omega
 | n+1,j,i,hj,hi=>by
  rw [xmc];by_cases e:j<n
  ·rw [List.getElem?_append_left (by rw [xma];omega)];exact xl9 ld n j i e hi
  ·obtain rfl:j=n:=by omega
   rw [List.getElem?_append_right (by rw [xma];omega),xma,show j*4+i-j*4=i by omega];rcases (show i=0\/i=1\/i=2\/i=3 by omega) with rfl|rfl|rfl|rfl<;>rfl
theorem xmb(ld:Nat->Nat->Int)(n:Nat):∀u∈lnC ld n,u.oneCell'=true:=by
 intro u hu;obtain ⟨k,_,hk⟩:=List.mem_flatMap.1 hu;simp at hk;rcases hk with rfl|rfl|rfl|rfl<;>rfl
theorem LnR.src{w:World}{la:Option Addr}{ln lc:Nat}{ld:Nat->Nat->Int}(h:LnR w (.slice la ln lc) ln ld)(hla:la=none->lc=0):Src w (.slice la ln lc) ln 4 (lnC ld ln):=by
 refine ⟨xma ld ln,xmb ld ln,?_⟩;rcases h with ⟨rfl,a,c,e⟩|⟨g,off,cap,e,hn,hc⟩
 ·cases la with
  | none=>rw [hla rfl];exact .inl ⟨rfl,rfl⟩
  | some ad=>exact .inr ⟨ad,lc,rfl,fun j u hj=>by simp [lnC] at hj⟩
 ·cases e;refine .inr ⟨_,_,rfl,fun j u hj=>?_⟩;rw [show (⟨g,off,none⟩:Addr).add j=⟨g,off+j,none⟩ by unfold Addr.add;split<;>simp_all];have hjl:j<ln*4:=by have:=(List.getElem?_eq_some_iff.1 hj).1;rw [xma] at this;exact this
  have h1:=xl9 ld ln (j/4) (j%4) (by omega) (by omega);have h2:=hc (j/4) (by omega) (j%4) (by omega);rw [show j/4*4+j%4=j by omega,hj] at h1;rw [show off+j/4*4+j%4=off+j by omega] at h2;rw [h2,<-h1]
theorem xjq{R:Nat->Rl}{T:Nat->List Rl}{j:Nat}(r:Rl)(TT:List Rl){A:NtA}(ha:A=initA R T j){rl wl dl ul nl:_}(h1:rl=A.rl j)(h2:wl=A.wl j)(h3:dl=A.dl j++[enA r,enK 2])(h4:ul=A.ul j)(h5:nl=TT)(nl0:List Rl):
  (⟨updN (updN A.rl j (A.rl j)) j rl,updN (updN A.wl j (A.wl j)) j wl,updN (updN A.dl j (A.dl j)) j dl,updN (updN A.ul j (A.ul j)) j ul,updN (updN A.nl j nl0) j nl,A.del⟩:NtA)=initA (updN R j r) (updN T j TT) (j+1):=by
 subst h1 h2 h3 h4 h5 ha;unfold initA;simp only [NtA.mk.injEq];refine ⟨?_,?_,?_,?_,?_,trivial⟩
 ·funext i;unfold updN;split<;>rfl
 ·funext i;unfold updN;split<;>rfl
 ·funext i;unfold updN;by_cases e:i=j
  ·subst e;simp
  ·by_cases e2:i<j
   ·simp [e,e2,show i<j+1 by omega]
   ·simp [e,e2,show ¬i<j+1 by omega]
 ·funext i;unfold updN;split<;>rfl
 ·funext i;unfold updN;by_cases e:i=j
  ·subst e;simp
  ·by_cases e2:i<j
   ·simp [e,e2,show i<j+1 by omega]
   ·simp [e,e2,show ¬i<j+1 by omega]
def rl0':Rl:=⟨0,fun _=>0,0,fun _ _=>0,.slice none 0 0⟩
def dv0:DvM:=⟨[],[],[],[],[],fun _=>.slice none 0 0⟩
theorem xmo(D s j:Nat)(hs:s<D)(hj:j<5):(madeCells #[.slice none 0 0,.slice none 0 0,.slice none 0 0,.slice none 0 0,.slice none 0 0] (D*5))[s*5+j]?=some (Value.slice none 0 0):=by
 unfold madeCells;rw [Array.getElem?_map,Array.getElem?_range,if_pos (by omega)];simp only [Option.map_some];have h5:(s*5+j)%5=j:=by omega
 rcases (show j=0\/j=1\/j=2\/j=3\/j=4 by omega) with rfl|rfl|rfl|rfl|rfl<;>simp [h5]
theorem xjr{D ln:Nat}{ld:Nat->Nat->Int}{room:Int}{fv:Value}{fq:Int}{w W wX:World}{nb0 db lo hi:Nat}{v:Value}{Zo:Array Value}(hD:D<=6)(hZ:Zo=madeCells #[.slice none 0 0,.slice none 0 0,.slice none 0 0,.slice none 0 0,.slice none 0 0] (D*5))(hg:W.grownBy wX none)
  (hn:wX.heap[nb0]?=some (.cells #[fv,.int .i64 fq,v,.int .i64 room,.slice (some ⟨db,0,none⟩) D D,.slice none 0 0] 199 (0,0))) (hd:wX.heap[db]?=some (.cells Zo 250 (0,0))) (hL:LnR wX v ln ld) (hv:∀b,v.ownBlock=some b->lo<=b/\b<hi) (hhi:hi<=wX.heap.size) (hlo:W.heap.size<=lo) (h1:nb0<lo\/hi<=nb0) (h2:db<lo\/hi<=db) (h3:W.heap.size<=nb0) (h4:W.heap.size<=db) (h5:nb0≠db):InitR D ln ld room fv fq w W (.pointer (some ⟨nb0,0,none⟩)) wX:=by
 classical
 have hnl:=(Array.getElem?_eq_some_iff.1 hn).1;have hdl:=(Array.getElem?_eq_some_iff.1 hd).1;have hvn:∀b,v.ownBlock=some b->b≠nb0/\b≠db:=fun b hb=>by have:=hv b hb;omega
 refine ⟨nb0,fun b=>if b=nb0 then .net else if b=db then .dev else if v.ownBlock=some b then .ro else .free,⟨D,db,fun _=>dv0,fv,fq,v,ln,ld,room,.slice none 0 0,[],199⟩,rfl,?_,hg,rfl,rfl,rfl,rfl,rfl,rfl,rfl⟩;refine ⟨if_pos rfl,hn,?_,⟨Zo,hd,?_,fun s hs j hj=>?_⟩,fun s hs=>⟨fun j hj=>?_,fun r hr=>?_⟩,?_,hL,fun b hb=>⟨?_,?_⟩,fun b hb=>?_,hD⟩
 ·show (if db=nb0 then Role.net else if db=db then .dev else _)=.dev;rw [if_neg (fun e=>h5 e.symm),if_pos rfl]
 ·rw [hZ];exact size_madeCells _ _
 ·rw [hZ];exact xmo D s j hs hj
 ·refine ⟨?_,fun b hb=>by cases hb⟩;have:QRow 0 wX (tyJ j) (szJ j) (.slice none 0 0) 0 []:=QRow.nil 0 wX (tyJ j) (szJ j);rcases (show j=0\/j=1\/j=2\/j=3\/j=4 by omega) with rfl|rfl|rfl|rfl|rfl<;>exact this
 ·rcases hr with hr|hr<;>cases hr
 ·exact ⟨QRow.nil 0 wX 46 6,fun b hb=>by cases hb⟩
 ·show (if b=nb0 then Role.net else if b=db then .dev else if v.ownBlock=some b then .ro else .free)=.ro;rw [if_neg (hvn b hb).1,if_neg (hvn b hb).2,if_pos hb]
 ·have:=hv b hb;omega
 ·have hb:(if b=nb0 then Role.net else if b=db then .dev else if v.ownBlock=some b then .ro else .free) ≠ .free:=hb;by_cases e1:b=nb0
  ·subst e1;exact ⟨h3,hnl⟩
  ·rw [if_neg e1] at hb;by_cases e2:b=db
   ·subst e2;exact ⟨h4,hdl⟩
   ·rw [if_neg e2] at hb;by_cases e3:v.ownBlock=some b
    ·have:=hv b e3;omega
    ·rw [if_neg e3] at hb;exact absurd rfl hb
theorem xwd{w:World}{b:Nat}{x0 x1 x2 x3 x4 x5:Value}{T:TypeId}(h:w.heap[b]?=some (.cells #[x0,x1,x2,x3,x4,x5] T (0,0)))(y0 y1 y2 y3 y4 y5:Value):((((((w.setCell ⟨b,0,none⟩ y0).setCell ⟨b,1,none⟩ y1).setCell ⟨b,2,none⟩ y2).setCell ⟨b,3,none⟩ y3).setCell ⟨b,4,none⟩ y4).setCell ⟨b,5,none⟩ y5).heap[b]?=some (.cells #[y0,y1,y2,y3,y4,y5] T (0,0))/\w.grownBy ((((((w.setCell ⟨b,0,none⟩ y0).setCell ⟨b,1,none⟩ y1).setCell ⟨b,2,none⟩ y2).setCell ⟨b,3,none⟩ y3).setCell ⟨b,4,none⟩ y4).setCell ⟨b,5,none⟩ y5) (some b):=
 ⟨xjh (xjh (xjh (xjh (xjh (xjh h 0 y0) 1 y1) 2 y2) 3 y3) 4 y4) 5 y5,xje (xje (xje (xje (xje (xjc _ _ _ _) (xjc _ _ _ _)) (xjc _ _ _ _)) (xjc _ _ _ _)) (xjc _ _ _ _)) (xjc _ _ _ _)⟩
theorem xom(D:Nat)(hD:D<=6)(la:Option Addr)(ln lc:Nat)(ld:Nat->Nat->Int)(room:Int)(pa:Option Addr)(pn pc:Nat)(st:Int)(ra:Nat->Option Addr)(rn rc:Nat->Nat)(o:Nat->Int)(Q:Nat->List Rl->Prop)(w:World)(hl:LnR w (.slice la ln lc) ln ld)(hla:la=none->lc=0)(hln:ln<=1000000)(hT:TabC w (.agg (mkC pa pn pc st ra rn rc o)) Q)(hcan:∀z T,Q z T->∀r∈T,canS (rulM r)):
  Calls Tryz.prog 105 #[.agg #[.int .i64 D,.slice la ln lc,.int .i64 room],.agg #[.slice pa pn pc,.int .i64 st],.agg (mkC pa pn pc st ra rn rc o)] w (NewO D ln ld room (.slice pa pn pc) st Q w):=by
 obtain ⟨P,hP⟩:∃P,P=NewO D ln ld room (.slice pa pn pc) st Q w:=⟨_,rfl⟩;rw [<-hP];have HP:=hide hP;have HT:=hide hT;have HL:=hide hl;have HCAN:=hide hcan;clear hP hT hl hcan;unfold mkC;obtain ⟨Zo,hZo⟩:∃Zo:Array Value,Zo=madeCells #[.slice none 0 0,.slice none 0 0,.slice none 0 0,.slice none 0 0,.slice none 0 0] (D*5):=⟨_,rfl⟩;have hmk:∀ww,(Instr.makeSlice 197 (.int .i64 (D:Int)) (.int .i64 (D:Int))).run Tryz.prog ww=.ok (.slice (some ⟨ww.heap.size,0,none⟩) D D) (ww.alloc (.cells Zo 250)):=fun ww=>by rw [hZo];exact xu9 ww D hD
 have HZO:=hide hZo;clear hZo;obtain ⟨w1,hw1⟩:∃w1,w1=w.alloc (.cells #[.int .i64 ↑D,.slice la ln lc,.int .i64 room] 77):=⟨_,rfl⟩;obtain ⟨w2,hw2⟩:∃w2,w2=w1.alloc (.cells #[.slice pa pn pc,.int .i64 st] 108):=⟨_,rfl⟩;obtain ⟨w3,hw3⟩:∃w3,w3=w2.alloc (.cells #[.slice pa pn pc,.int .i64 st,.slice (ra 0) (rn 0) (rc 0),.slice (ra 1) (rn 1) (rc 1),.slice (ra 2) (rn 2) (rc 2),.slice (ra 3) (rn 3) (rc 3),.slice (ra 4) (rn 4) (rc 4),.slice (ra 5) (rn 5) (rc 5),.int .i64 (o 0),.int .i64 (o 1),.int .i64 (o 2),.int .i64 (o 3),.int .i64 (o 4),.int .i64 (o 5)] 112):=⟨_,rfl⟩;obtain ⟨W,hW⟩:∃W,W=w3.alloc (.cells #[.slice none 0 0,.int .i64 0,.slice none 0 0,.int .i64 0,.slice none 0 0,.slice none 0 0] 199):=⟨_,rfl⟩;have g01:w.grownBy w1 none:=by rw [hw1];exact World.grownBy_alloc _ _ _
 have g12:w1.grownBy w2 none:=by rw [hw2];exact World.grownBy_alloc _ _ _
 have g23':w2.grownBy w3 none:=by rw [hw3];exact World.grownBy_alloc _ _ _
 have g34:w3.grownBy W none:=by rw [hW];exact World.grownBy_alloc _ _ _
 have g23:w2.grownBy W none:=xje g23' g34;have z1:w1.heap.size=w.heap.size+1:=by rw [hw1];simp
 have z2:w2.heap.size=w.heap.size+1+1:=by rw [hw2,<-z1];simp
 have z3:w3.heap.size=w.heap.size+1+1+1:=by rw [hw3,<-z2];simp
 have z4:W.heap.size=w.heap.size+1+1+1+1:=by rw [hW,<-z3];simp
 have GW:Hid (w.grownBy W none):=xje (xje g01 g12) g23;have b0:W.heap[w.heap.size]?=some (.cells #[.int .i64 ↑D,.slice la ln lc,.int .i64 room] 77 (0,0)):=xc9 (by rw [hw1];exact heap_alloc_new w _) (xje g12 g23) (by simp);have b1:W.heap[w.heap.size+1]?=some (.cells #[.slice pa pn pc,.int .i64 st] 108 (0,0)):=by rw [<-z1];exact xc9 (by rw [hw2];exact heap_alloc_new w1 _) g23 (by simp)
 have b2:W.heap[w.heap.size+1+1]?=some (.cells #[.slice pa pn pc,.int .i64 st,.slice (ra 0) (rn 0) (rc 0),.slice (ra 1) (rn 1) (rc 1),.slice (ra 2) (rn 2) (rc 2),.slice (ra 3) (rn 3) (rc 3),.slice (ra 4) (rn 4) (rc 4),.slice (ra 5) (rn 5) (rc 5),.int .i64 (o 0),.int .i64 (o 1),.int .i64 (o 2),.int .i64 (o 3),.int .i64 (o 4),.int .i64 (o 5)] 112 (0,0)):=by rw [<-z2];exact xc9 (by rw [hw3];exact heap_alloc_new w2 _) g34 (by simp)
 have B2:=hide b2;have b3:W.heap[w.heap.size+1+1+1]?=some (.cells #[.slice none 0 0,.int .i64 0,.slice none 0 0,.int .i64 0,.slice none 0 0,.slice none 0 0] 199 (0,0)):=by rw [<-z3,hW];exact heap_alloc_new w3 _
 have RB:=hide b3;clear b3
 have C:Hid (∀ww,W.grownBy ww none->ww.cell? ⟨w.heap.size,0,none⟩=some (.int .i64 D)/\ww.cell? ⟨w.heap.size,1,none⟩=some (.slice la ln lc)/\ww.cell? ⟨w.heap.size,2,none⟩=some (.int .i64 room)/\ww.cell? ⟨w.heap.size+1,0,none⟩=some (.slice pa pn pc)/\ww.cell? ⟨w.heap.size+1,1,none⟩=some (.int .i64 st)):=fun ww hg=>
  ⟨xc7 (xc9 b0 hg (by simp)) 0 _ rfl,xc7 (xc9 b0 hg (by simp)) 1 _ rfl,xc7 (xc9 b0 hg (by simp)) 2 _ rfl,xc7 (xc9 b1 hg (by simp)) 0 _ rfl,xc7 (xc9 b1 hg (by simp)) 1 _ rfl⟩
 have HCL:Hid (∀ww,W.grownBy ww none->Calls Tryz.prog 157 #[.slice la ln lc] ww fun e w'=>∃va vc,e=.returned (.slice va ln vc)/\LnR w' (.slice va ln vc) ln ld/\(∀b,(Value.slice va ln vc).ownBlock=some b->ww.heap.size<=b/\b<w'.heap.size)/\ww.grownBy w' none/\w'.cell? ⟨w.heap.size,0,none⟩=some (.int .i64 D)/\w'.cell? ⟨w.heap.size,1,none⟩=some (.slice la ln lc)/\w'.cell? ⟨w.heap.size,2,none⟩=some (.int .i64 room)/\w'.cell? ⟨w.heap.size+1,0,none⟩=some (.slice pa pn pc)/\w'.cell? ⟨w.heap.size+1,1,none⟩=some (.int .i64 st)/\w.heap.size<w'.heap.size/\w.heap.size+1<w'.heap.size):=fun ww hg=>by
  refine (xeh (.slice la ln lc) ln (lnC ld ln) ww ((HL.out.grown (xje GW.out hg)).src hla) (by omega)).mono ?_;rintro e w' ⟨v',rfl,h1,h2⟩;obtain ⟨q0,q1,q2,q3,q4⟩:=C.out w' (xje hg h2);have hz:=(xje hg h2).size;rcases h1.2 with ⟨rfl,h0⟩|⟨g,cap,cur,rfl,hgg,hcur,hx1,hx2,hx3,hx4⟩
  ·refine ⟨none,0,by rw [h0],.inl ⟨h0,none,0,by rw [h0]⟩,(fun b hb=>by cases hb),h2,q0,q1,q2,q3,q4,by omega,by omega⟩
  ·refine ⟨_,cap,rfl,.inr ⟨g,0,cap,rfl,by omega,fun j hj i hi=>?_⟩,fun b hb=>?_,h2,q0,q1,q2,q3,q4,by omega,by omega⟩
   ·have hjl:j*4+i<ln*4:=by omega
    have:cur[j*4+i]?=some (.int .i64 (ld j i)):=by
     rw [<-Array.getElem?_toList,<-List.getElem?_take_of_lt hjl,hx4];exact xl9 ld ln j i hj hi
    rw [Nat.zero_add];exact xc7 hcur _ _ this
   ·cases hb;exact ⟨hgg,(Array.getElem?_eq_some_iff.1 hcur).1⟩
 obtain ⟨c0,c1,c2,c3,c4⟩:=C.out W (xjb _ _);go_enter Tryz.func105,Tryz.ntmps105;go_wp2_with fail;rw [<-hw1,<-hw2,<-hw3,<-hW];have HZ3:=hide z4;have hlt0:w.heap.size<W.heap.size:=by omega
 have hlt1:w.heap.size+1<W.heap.size:=by omega
 have n0:¬w.heap.size=W.heap.size:=by omega
 have n0':¬W.heap.size=w.heap.size:=by omega
 have n1:¬w.heap.size=W.heap.size+1:=by omega
 have n1':¬W.heap.size+1=w.heap.size:=by omega
 have n2:¬w.heap.size+1=W.heap.size:=by omega
 have n2':¬W.heap.size=w.heap.size+1:=by omega
 clear b0 b1 b2 g01 g12 g23 g23' g34 hw1 hw2 hw3 hW z1 z2 z3 z4
 go_cut [7] (fun s7 wx=>InitR D ln ld room (.slice pa pn pc) st w W s7 wx)
 case first=>
  go_region_held3 (fun wx=>wx.cell? ⟨w.heap.size,0,none⟩=some (.int .i64 D)/\wx.cell? ⟨w.heap.size,1,none⟩=some (.slice la ln lc)/\wx.cell? ⟨w.heap.size,2,none⟩=some (.int .i64 room)/\wx.cell? ⟨w.heap.size+1,0,none⟩=some (.slice pa pn pc)/\wx.cell? ⟨w.heap.size+1,1,none⟩=some (.int .i64 st)) (go_keep) ((
    go_at_call 157;refine Calls.mono (HCL.out _ ?_) ?_
    ·repeat (first|apply xi7|apply xi8)
     first|exact xjb _ _|exact World.grownBy_alloc _ _ _|exact xje (World.grownBy_alloc _ _ _) (World.grownBy_alloc _ _ _)
    rintro e w1 ⟨va,vc,rfl,l1,l2,g1,d0,d1,d2,d3,d4,lt0,lt1⟩;have L1:=hide l1;have L2:=hide l2;have G1:=hide g1;clear l1 l2;first
    | (with_reducible have kk:=xc8 (w:=W.alloc (.cells #[.slice none 0 0,.int .i64 0,.slice none 0 0,.int .i64 0,.slice none 0 0,.slice none 0 0] 199)) (xjf g1) (heap_alloc_new W (.cells #[.slice none 0 0,.int .i64 0,.slice none 0 0,.int .i64 0,.slice none 0 0,.slice none 0 0] 199))
       have z0:=xc7 kk 0 _ rfl;have z1:=xc7 kk 1 _ rfl;have z2:=xc7 kk 2 _ rfl;have z3:=xc7 kk 3 _ rfl;have z4:=xc7 kk 4 _ rfl;have z5:=xc7 kk 5 _ rfl;have zf:=xda kk;have zl:=World.block_lt_of_cell? w1 _ z0;simp only at zl;have KK:=hide kk;clear kk g1)
    | (with_reducible have kk:=xc8 (w:=W.alloc (.cells #[.slice none 0 0,.int .i64 0,.slice none 0 0,.int .i64 0,.slice none 0 0,.slice none 0 0] 199)) (xje (World.grownBy_alloc (W.alloc (.cells #[.slice none 0 0,.int .i64 0,.slice none 0 0,.int .i64 0,.slice none 0 0,.slice none 0 0] 199)) (.cells Zo 250) none) (xjf g1)) (heap_alloc_new W (.cells #[.slice none 0 0,.int .i64 0,.slice none 0 0,.int .i64 0,.slice none 0 0,.slice none 0 0] 199))
       have z0:=xc7 kk 0 _ rfl;have z1:=xc7 kk 1 _ rfl;have z2:=xc7 kk 2 _ rfl;have z3:=xc7 kk 3 _ rfl;have z4:=xc7 kk 4 _ rfl;have z5:=xc7 kk 5 _ rfl;have zf:=xda kk;have zl:=World.block_lt_of_cell? w1 _ z0;simp only at zl;have KK:=hide kk;clear kk g1)
    | (with_reducible have kk:=xc8 (w:=(W.alloc (.cells Zo 250)).alloc (.cells #[.slice none 0 0,.int .i64 0,.slice none 0 0,.int .i64 0,.slice none 0 0,.slice none 0 0] 199)) (xjf g1) (xb2 W (.cells Zo 250) (.cells #[.slice none 0 0,.int .i64 0,.slice none 0 0,.int .i64 0,.slice none 0 0,.slice none 0 0] 199))
       have z0:=xc7 kk 0 _ rfl;have z1:=xc7 kk 1 _ rfl;have z2:=xc7 kk 2 _ rfl;have z3:=xc7 kk 3 _ rfl;have z4:=xc7 kk 4 _ rfl;have z5:=xc7 kk 5 _ rfl;have zf:=xda kk;have zl:=World.block_lt_of_cell? w1 _ z0;simp only at zl;have KK:=hide kk;clear kk g1)
    | clear g1))
  ·go_wp2_with fail;go_meet
   have GU:=xjf G1.out;have hsz:=GU.size;exact xjr (lo:=W.heap.size) (hi:=w1.heap.size) hD HZO.out (xje GU (xje (World.grownBy_alloc _ _ _) (World.grownBy_alloc _ _ _))) (xb2 w1 _ _) (xc8 (World.grownBy_alloc _ _ none) (heap_alloc_new w1 _)) (L1.out.grown (xje (World.grownBy_alloc _ _ _) (World.grownBy_alloc _ _ _))) L2.out (by simp;omega) (Nat.le_refl _) (by omega) (by omega) (by omega) (by omega) (by omega)
  ·go_wp2_with fail;go_meet
   have GU:=xjf G1.out;have hsz:=GU.size;exact xjr (lo:=W.heap.size) (hi:=w1.heap.size) hD HZO.out (xje GU (xje (World.grownBy_alloc _ _ _) (World.grownBy_alloc _ _ _))) (xc8 (World.grownBy_alloc _ _ none) (heap_alloc_new w1 _)) (xb2 w1 _ _) (L1.out.grown (xje (World.grownBy_alloc _ _ _) (World.grownBy_alloc _ _ _))) L2.out (by simp;omega) (Nat.le_refl _) (by omega) (by omega) (by omega) (by omega) (by omega)
  ·go_wp2_with fail;go_meet
   have GU:=xjf G1.out;have hsz:=GU.size;exact xjr (lo:=W.heap.size+1) (hi:=w1.heap.size) hD HZO.out (xje (World.grownBy_alloc _ _ _) (xje GU (World.grownBy_alloc _ _ _))) (heap_alloc_new w1 _) (xc8 (xje GU (World.grownBy_alloc _ _ none)) (heap_alloc_new W _)) (L1.out.grown (World.grownBy_alloc _ _ _)) (fun b hb=>by have:=L2.out b hb;simp at this;omega) (by simp) (by omega) (by simp at hsz;omega) (by simp at hsz;omega) (by simp at hsz;omega) (by omega) (by simp at hsz;omega)
  ·go_wp2_with fail;go_meet
   have GU:=xjf G1.out;have hsz:=GU.size;simp at hsz;obtain ⟨hS1,hS2⟩:=xwd KK.out (.slice pa pn pc) (.int .i64 st) (.slice va ln vc) (.int .i64 room) (.slice (some ⟨W.heap.size,0,none⟩) D D) (.slice none 0 0);have hv2:∀b,(Value.slice va ln vc).ownBlock=some b->W.heap.size+2<=b/\b<w1.heap.size:=fun b hb=>by have:=L2.out b hb;simp at this;omega
   exact xjr (lo:=W.heap.size+2) (hi:=w1.heap.size) hD HZO.out (xi9 (xje (xje (World.grownBy_alloc _ (.cells Zo 250) _) (World.grownBy_alloc _ (.cells #[.slice none 0 0,.int .i64 0,.slice none 0 0,.int .i64 0,.slice none 0 0,.slice none 0 0] 199) _)) GU) hS2 (by omega)) hS1 (xc9 (xc8 GU (xc8 (World.grownBy_alloc _ _ none) (heap_alloc_new W (.cells Zo 250)))) hS2 (by simp)) (L1.out.same (fun b hb=>hS2.block b (hv2 b hb).2 (by have:=hv2 b hb;simp;omega))) hv2 hS2.size (by omega) (by omega) (by omega) (by omega) (by omega) (by omega)
  ·go_wp2_with fail;go_meet
   have GU:=xjf G1.out;have hsz:=GU.size;simp at hsz;obtain ⟨hS1,hS2⟩:=xwd KK.out (.slice pa pn pc) (.int .i64 st) (.slice va ln vc) (.int .i64 room) (.slice (some ⟨w1.heap.size,0,none⟩) D D) (.slice none 0 0);have hv2:∀b,(Value.slice va ln vc).ownBlock=some b->W.heap.size+1<=b/\b<w1.heap.size:=fun b hb=>by have:=L2.out b hb;simp at this;omega
   have hS3:((((((w1.setCell ⟨W.heap.size,0,none⟩ (.slice pa pn pc)).setCell ⟨W.heap.size,1,none⟩ (.int .i64 st)).setCell ⟨W.heap.size,2,none⟩ (.slice va ln vc)).setCell ⟨W.heap.size,3,none⟩ (.int .i64 room)).setCell ⟨W.heap.size,4,none⟩ (.slice (some ⟨w1.heap.size,0,none⟩) D D)).setCell ⟨W.heap.size,5,none⟩ (.slice none 0 0)).heap.size=w1.heap.size:=by simp [World.setCell]
   generalize ((((((w1.setCell ⟨W.heap.size,0,none⟩ (.slice pa pn pc)).setCell ⟨W.heap.size,1,none⟩ (.int .i64 st)).setCell ⟨W.heap.size,2,none⟩ (.slice va ln vc)).setCell ⟨W.heap.size,3,none⟩ (.int .i64 room)).setCell ⟨W.heap.size,4,none⟩ (.slice (some ⟨w1.heap.size,0,none⟩) D D)).setCell ⟨W.heap.size,5,none⟩ (.slice none 0 0))=wS at hS1 hS2 hS3 ⊢;have hd:=heap_alloc_new wS (.cells Zo 250);rw [hS3] at hd;exact xjr (lo:=W.heap.size+1) (hi:=w1.heap.size) hD HZO.out (xje (xi9 (xje (World.grownBy_alloc _ (.cells #[.slice none 0 0,.int .i64 0,.slice none 0 0,.int .i64 0,.slice none 0 0,.slice none 0 0] 199) _) GU) hS2 (by omega)) (World.grownBy_alloc _ _ _)) (xc8 (World.grownBy_alloc _ _ none) hS1) hd ((L1.out.same (fun b hb=>hS2.block b (hv2 b hb).2 (by have:=hv2 b hb;simp;omega))).grown (World.grownBy_alloc _ _ _)) hv2 (by simp;omega) (by omega) (by omega) (by omega) (by omega) (by omega) (by omega)
  ·go_wp2_with fail;go_meet
   have GU:=xjf G1.out;have hsz:=GU.size;simp at hsz;obtain ⟨hS1,hS2⟩:=xwd KK.out (.slice pa pn pc) (.int .i64 st) (.slice va ln vc) (.int .i64 room) (.slice (some ⟨W.heap.size+1,0,none⟩) D D) (.slice none 0 0);have hv2:∀b,(Value.slice va ln vc).ownBlock=some b->W.heap.size+2<=b/\b<w1.heap.size:=fun b hb=>by have:=L2.out b hb;simp at this;omega
   exact xjr (lo:=W.heap.size+2) (hi:=w1.heap.size) hD HZO.out (xi9 (xje (xje (World.grownBy_alloc _ (.cells #[.slice none 0 0,.int .i64 0,.slice none 0 0,.int .i64 0,.slice none 0 0,.slice none 0 0] 199) _) (World.grownBy_alloc _ (.cells Zo 250) _)) GU) hS2 (by omega)) hS1 (xc9 (xc8 GU (xb2 W (.cells #[.slice none 0 0,.int .i64 0,.slice none 0 0,.int .i64 0,.slice none 0 0,.slice none 0 0] 199) (.cells Zo 250))) hS2 (by simp)) (L1.out.same (fun b hb=>hS2.block b (hv2 b hb).2 (by have:=hv2 b hb;simp;omega))) hv2 hS2.size (by omega) (by omega) (by omega) (by omega) (by omega) (by omega)
 case rest=>
  obtain ⟨nb0,role0,N0,rfl,hN0,hg0,eD,efl,efq,eln,eld,erm,ea⟩:=hcut;have e4:wc.cell? ⟨nb0,4,none⟩=some (.slice (some ⟨N0.db,0,none⟩) D D):=by rw [<-eD];exact xc7 hN0.net 4 _ rfl
  have HEQ:Hid (N0.fl=.slice pa pn pc/\N0.fq=st/\N0.ln=ln/\N0.ld=ld/\N0.room=room):=⟨efl,efq,eln,eld,erm⟩;have HN0:=hide hN0;have HG0:=hide hg0;have HED:=hide eD;have HEA:=hide ea;obtain ⟨db,hdb⟩:∃db,db=N0.db:=⟨_,rfl⟩;rw [<-hdb] at e4;have HDB:=hide hdb;clear hN0 hg0 eD efl efq eln eld erm ea hdb c0 c1 c2 c3 c4 hmk HCL C;go_wp2_with fail;go_loopw [23] (fun s23 wq=>∃(j:Nat) (role:Nat->Role) (N:NetM) (R:Nat->Rl) (T:Nat->List Rl),j<=D/\s23=.int .i64 j/\NetAt wq W.heap.size nb0 role N/\W.grownBy wq none/\(N.db=db/\N.D=D)/\(N.fl=.slice pa pn pc/\N.fq=st/\N.ln=ln/\N.ld=ld/\N.room=room)/\N.a=initA R T j/\∀s,s<j->Q s (R s::T s)) (fun s23 _=>D-(intOf s23).toNat)
  case atStart=>exact ⟨0,role0,N0,fun _=>rl0',fun _=>[],by omega,rfl,HN0.out,HG0.out,⟨HDB.out.symm,HED.out⟩,HEQ.out,by rw [HEA.out];rfl,fun s hs=>by omega⟩
  case round=>
   obtain ⟨j,role,N,R,T,hj,rfl,hN,hg,⟨hdb,hDD⟩,heq,ha,hq⟩:=hrel;have f4:wr.cell? ⟨nb0,4,none⟩=some (.slice (some ⟨db,0,none⟩) D D):=by rw [<-hDD,<-hdb];exact xc7 hN.net 4 _ rfl
   have mb:=xc8 hg B2.out;have HN:=hide hN;have HG:=hide hg;have HE:=hide heq;have HA:=hide ha;have HQ:=hide hq;have HDD:Hid (N.db=db/\N.D=D):=⟨hdb,hDD⟩;clear hN hg heq ha hq hdb hDD;by_cases hlt:j<D
   ·have m0:wr.cell? ⟨w.heap.size+1+1,0,none⟩=_:=xc7 mb 0 _ rfl;have m1:wr.cell? ⟨w.heap.size+1+1,1,none⟩=_:=xc7 mb 1 _ rfl;have m2:wr.cell? ⟨w.heap.size+1+1,2,none⟩=_:=xc7 mb 2 _ rfl;have m3:wr.cell? ⟨w.heap.size+1+1,3,none⟩=_:=xc7 mb 3 _ rfl;have m4:wr.cell? ⟨w.heap.size+1+1,4,none⟩=_:=xc7 mb 4 _ rfl;have m5:wr.cell? ⟨w.heap.size+1+1,5,none⟩=_:=xc7 mb 5 _ rfl;have m6:wr.cell? ⟨w.heap.size+1+1,6,none⟩=_:=xc7 mb 6 _ rfl;have m7:wr.cell? ⟨w.heap.size+1+1,7,none⟩=_:=xc7 mb 7 _ rfl;have m8:wr.cell? ⟨w.heap.size+1+1,8,none⟩=_:=xc7 mb 8 _ rfl;have m9:wr.cell? ⟨w.heap.size+1+1,9,none⟩=_:=xc7 mb 9 _ rfl;have m10:wr.cell? ⟨w.heap.size+1+1,10,none⟩=_:=xc7 mb 10 _ rfl;have m11:wr.cell? ⟨w.heap.size+1+1,11,none⟩=_:=xc7 mb 11 _ rfl;have m12:wr.cell? ⟨w.heap.size+1+1,12,none⟩=_:=xc7 mb 12 _ rfl;have m13:wr.cell? ⟨w.heap.size+1+1,13,none⟩=_:=xc7 mb 13 _ rfl;clear mb;have hltI:(j:Int)<D:=by omega
    go_wp2_with fail;refine (HT.out wr j (xje GW.out HG.out) (by omega)).mono ?_;rintro e w2 ⟨v,r,TT,rfl,hq2,ho,hov,hg2⟩;obtain ⟨hb1,hb2⟩:=HDD.out;have hjN:j<N.D:=by omega
    have hrow:=ho;obtain ⟨ho1,ho2⟩:=ho;rcases ho2 with ⟨_,h0⟩|⟨g,cap,cur,rfl,hgg,hcur,hrest⟩
    ·omega
    have hgl2:g<w2.heap.size:=(Array.getElem?_eq_some_iff.1 hcur).1;have hN2:=HN.out.grown hg2 (fun b e=>by cases e);obtain ⟨cu,x1,x2,x3⟩:=hN2.dev;rw [hb1] at x1;have k1:=xc7 x1 (j*5+4) _ (x3 j hjN 4 (by omega));have k2:w2.frozen? ⟨db,j*5+4,none⟩=false:=xda x1 _
    have SR:Hid (∀w3,w3=w2.setCell ⟨db,j*5+4,none⟩ (.slice (some ⟨g,0,none⟩) (TT.length+1) cap)->Calls Tryz.prog 158 #[.pointer (some ⟨db,j*5,none⟩)] w3 fun e w'=>e=.returned (.tuple #[])/\∃role' N' R' T',NetAt w' W.heap.size nb0 role' N'/\W.grownBy w' none/\(N'.db=db/\N'.D=D)/\(N'.fl=.slice pa pn pc/\N'.fq=st/\N'.ln=ln/\N'.ld=ld/\N'.room=room)/\N'.a=initA R' T' (j+1)/\∀s,s<j+1->Q s (R' s::T' s)):=fun w3 hw3=>by
     classical
     subst hb1;have hfree:∀b,wr.heap.size<=b->role b=.free:=fun b hb=>HN.out.new hb
     have hWr:=HG.out.size
     have hm:=hN2.markR (fun b=>b=g\/∃x,x∈r::TT/\x.av.ownBlock=some b) (fun b=>if b=g then .row j 4 else .ro) (fun b hb=>by
      rcases hb with rfl|⟨x,hx,hxb⟩
      ·exact ⟨hfree b hgg,Nat.le_trans hWr hgg,hgl2⟩
      ·rcases hov x hx with ⟨e,_⟩|⟨gx,cx,hgx,e,ho⟩
       ·rw [e] at hxb;cases hxb
       ·rw [e] at hxb;cases hxb;exact ⟨hfree _ hgx,Nat.le_trans hWr hgx,ho.lt⟩)
     have hru:∀x,x∈r::TT->RuAt w2 (fun b=>if b=g\/∃x,x∈r::TT/\x.av.ownBlock=some b then (if b=g then .row j 4 else .ro) else role b) x:=fun x hx=>by
      refine ⟨(hov x hx).pkRow,fun b hb=>?_⟩;have hb':=hb;rcases hov x hx with ⟨e,_⟩|⟨gx,cx,hgx,e,ho⟩
      ·rw [e] at hb;cases hb
      ·rw [e] at hb;cases hb;refine ⟨?_,ho.lt⟩
       have hne:¬gx=g:=fun e2=>by
        obtain ⟨cz,z1,_⟩:=ho;rw [e2,hcur] at z1;cases z1
       show (if gx=g\/_ then (if gx=g then Role.row j 4 else .ro) else role gx)=.ro;rw [if_pos (.inr ⟨x,hx,hb'⟩),if_neg hne]
     have hdv0:(N.dv j).rl=[]/\(N.dv j).dl=[]:=by
      have e1:=congrFun (congrArg NtA.rl HA.out) j;have e2:=congrFun (congrArg NtA.dl HA.out) j;exact ⟨e1,by rw [show (N.dv j).dl=N.a.dl j from rfl,e2];unfold initA;simp⟩
     obtain ⟨role3,r1,r2⟩:=hm.setRow (w1:=w2) (w2:=w2.setCell ⟨N.db,j*5+4,none⟩ (.slice (some ⟨g,0,none⟩) (TT.length+1) cap)) (Nat.le_trans hWr hg2.size) hjN (show 4<5 by omega) (xjb w2 none) (fun b e=>by cases e) (d':=(N.dv j).withUnsent (r::TT) (.slice (some ⟨g,0,none⟩) (TT.length+1) cap)) (fun i h5 hi=>DvM.withUnsent_other hi h5) (QRow.of hrow).low0 (fun b k' _=>by
      cases k';show (if g=g\/_ then (if g=g then Role.row j 4 else .ro) else role g)=.row j 4;rw [if_pos (.inl rfl),if_pos rfl]) (fun r' hm'=>by
      rcases hm' with hm'|hm'
      ·have:r'∈(N.dv j).rl:=hm';rw [hdv0.1] at this;cases this
      ·exact hru r' hm') (xjc _ _ _ _) (fun cu' hcu=>xjh hcu _ _)
     rw [hw3];have hst3:NStep w2 (w2.setCell ⟨N.db,j*5+4,none⟩ (.slice (some ⟨g,0,none⟩) (TT.length+1) cap)) _ role3:=NStep.row (xjc _ _ _ _) (fun b e _=>by cases e;rw [hm.dbR];exact fun e=>by cases e) r1;have hgW3:=NStep.old hm hst3 (Nat.le_refl _) (xje HG.out hg2);have hsz3:W.heap.size<=(w2.setCell ⟨N.db,j*5+4,none⟩ (.slice (some ⟨g,0,none⟩) (TT.length+1) cap)).heap.size:=hgW3.size;have hsr:=xvq (w2.setCell ⟨N.db,j*5+4,none⟩ (.slice (some ⟨g,0,none⟩) (TT.length+1) cap)) r2 hsz3 (s:=j) hjN (r:=r) (rest:=TT) (by show (updN N.dv j _ j).nl=_;rw [x0l];rfl) (HCAN.out j (r::TT) hq2 r (by simp)) (by show (updN N.dv j _ j).dl.length<=_;rw [x0l];show (N.dv j).dl.length<=_;rw [hdv0.2];simp);refine hsr.mono ?_;rintro e w' ⟨e1,hd⟩;refine ⟨e1,?_⟩;obtain ⟨role',N',k1,k2,k3,k4⟩:=hd.n;refine ⟨role',N',updN R j r,updN T j TT,k1,NStep.old r2 k2 (Nat.le_refl _) hgW3,⟨k4.db,k4.D.trans hb2⟩,?_,?_,fun s hs=>?_⟩
     ·obtain ⟨q1,q2,q3,q4,q5⟩:=HE.out;exact ⟨k4.fl.trans q1,k4.fq.trans q2,k4.ln.trans q3,k4.ld.trans q4,k4.room.trans q5⟩
     ·rw [k3];have hput:=NetM.put_a N j ((N.dv j).withUnsent (r::TT) (.slice (some ⟨g,0,none⟩) (TT.length+1) cap));rw [show ({ N with dv:=updN N.dv j ((N.dv j).withUnsent (r::TT) (.slice (some ⟨g,0,none⟩) (TT.length+1) cap)) }:NetM)=N.put j ((N.dv j).withUnsent (r::TT) (.slice (some ⟨g,0,none⟩) (TT.length+1) cap)) from rfl,hput,NetM.put_dv];exact xjq r TT HA.out rfl rfl rfl rfl rfl _
     ·by_cases e:s=j
      ·subst e;rw [x0l,x0l];exact hq2
      ·rw [x0k e,x0k e];exact HQ.out s (by omega)
    clear m0 m1 m2 m3 m4 m5 m6 m7 m8 m9 m10 m11 m12 m13 f4 hq2 hov hg2 hrow ho1 hcur hrest hN2 x1 x2 x3;go_wp2_with fail;refine (SR.out _ rfl).mono ?_;rintro e w4 ⟨rfl,role',N',R',T',q1,q2,q3,q4,q5,q6⟩;have HH:Hid (∃(i:Nat) (role:Nat->Role) (N:NetM) (R:Nat->Rl) (T:Nat->List Rl),i<=D/\Value.int .i64 ((j:Int)+1)=.int .i64 i/\NetAt w4 W.heap.size nb0 role N/\W.grownBy w4 none/\(N.db=db/\N.D=D)/\(N.fl=.slice pa pn pc/\N.fq=st/\N.ln=ln/\N.ld=ld/\N.room=room)/\N.a=initA R T i/\∀s,s<i->Q s (R s::T s)):=⟨j+1,role',N',R',T',by omega,by simp,q1,q2,q3,q4,q5,q6⟩;clear q1 q2 q3 q4 q5 q6 SR;go_wp2_with fail;exact ⟨HH.out,by simp [intOf];omega⟩
   ·obtain rfl:D=j:=by omega
    have rb:=xc8 HG.out RB.out;have r0:=xc7 rb 0 _ rfl;have r1:=xc7 rb 1 _ rfl;have r2:=xc7 rb 2 _ rfl;have r3:=xc7 rb 3 _ rfl;have r4:=xc7 rb 4 _ rfl;have r5:=xc7 rb 5 _ rfl;have rf:=xda rb;obtain ⟨h1,h2,h3,h4,h5⟩:=HE.out;obtain ⟨xa,xc,hlv⟩:=HN.out.lnk.slice;obtain ⟨ya,yc,hdv⟩:=HN.out.dels.q.slice;have nn:=HN.out.net;rw [h1,h2,hlv,h5,hdv] at nn;obtain ⟨dl,hdl⟩:∃dl,dl=N.del.length:=⟨_,rfl⟩;obtain ⟨nl,hnl⟩:∃nl,nl=N.ln:=⟨_,rfl⟩;rw [<-hdl,<-hnl] at nn;have n0:=xc7 nn 0 _ rfl;have n1:=xc7 nn 1 _ rfl;have n2:=xc7 nn 2 _ rfl;have n3:=xc7 nn 3 _ rfl;have n5:=xc7 nn 5 _ rfl
    have FIN:Hid (∀wz,wr.grownBy wz (some (w.heap.size+1+1+1))->P (.returned (.agg #[.slice pa pn pc,.int .i64 st,.slice xa nl xc,.int .i64 room,.slice (some ⟨db,0,none⟩) D D,.slice ya dl yc])) wz):=fun wz hz=>by
     rw [HP.out];obtain ⟨hb1,hb2⟩:=HDD.out;have hz3:=HZ3.out;refine ⟨nb0,role,N,R,T,?_,?_,xi9 (xje GW.out HG.out) hz (by omega),hb2,h1,h2,h3,h4,h5,HA.out,HQ.out⟩
     ·rw [h1,h2,hlv,h5,hdv,hb1,hb2,hdl,hnl]
     ·have:=HN.out.grown hz (fun b e=>by
       cases e;refine Classical.byContradiction fun hne=>?_
       have:=(HN.out.low _ hne).1;omega)
      exact { this with low:=fun b hb=>⟨Nat.le_trans GW.out.size (this.low b hb).1,(this.low b hb).2⟩ }
    have HRB:=hide rb;clear mb nn rb h1 h2 h3 h4 h5 hlv hdv hdl hnl;go_wp2_with fail;obtain ⟨hS1,hS2⟩:=xwd HRB.out (.slice pa pn pc) (.int .i64 st) (.slice xa nl xc) (.int .i64 room) (.slice (some ⟨db,0,none⟩) D D) (.slice ya dl yc);have e0:=xc7 hS1 0 _ rfl;have e1:=xc7 hS1 1 _ rfl;have e2:=xc7 hS1 2 _ rfl;have e3:=xc7 hS1 3 _ rfl;have e4:=xc7 hS1 4 _ rfl;have e5:=xc7 hS1 5 _ rfl;generalize World.setCell _ _ _=W6 at hS1 hS2 e0 e1 e2 e3 e4 e5 ⊢;refine bodyPost_ret (v:=.agg #[.slice pa pn pc,.int .i64 st,.slice xa nl xc,.int .i64 room,.slice (some ⟨db,0,none⟩) D D,.slice ya dl yc]) (by simp [results,Tryz.results105,go_sem,e0,e1,e2,e3,e4,e5]) rfl ?_;exact FIN.out _ hS2
end Go.Proofs.YtlhkfafdioakeaaGreatDoor
