/- Parts of the proof. -/
import Derived.Test.YtlhkfafdioakeaaGreatDoorFi23
namespace Go.Proofs.YtlhkfafdioakeaaGreatDoor
set_option maxRecDepth 100000
set_option maxHeartbeats 4000000
open Go.RowKit Go.Weft
set_option linter.unusedVariables false
set_option linter.unusedSimpArgs false
theorem U6{w:World}{g o:Nat}{cur:Array Value}{T:TypeId}(h:w.heap[g]?=some (.cells cur T (0,0)))(v:Value):(w.setCell ⟨g,o,none⟩ v).heap[g]?=some (.cells (cur.setIfInBounds o v) T (0,0)):=AI h _ _
theorem Own.set1{w:World}{g n cap:Nat}{d:Nat->Nat->Int}(h:Own w g n cap d)(j:Nat)(hj:j<n)(i:Nat)(hi:i<6)(z:Int):Own (w.setCell ⟨g,j*6+i,none⟩ (.int .i64 z)) g n cap (fun t=>if t=j then AB (d t) i z else d t):=by
 obtain⟨cur,h1,h2,h3,h4,h5⟩:=h;refine⟨_,U6 h1 _,by simp[h2],h3,h4,fun t ht i2 hi2=>?_⟩;have hlt:j*6+i<cur.size:=by rw[h2];omega
 show _=some (Value.int .i64 ((if t=j then AB (d t) i z else d t) i2));rw[Array.getElem?_setIfInBounds];by_cases e:t=j
 ·subst e;rw[if_pos (show t=t from rfl)];unfold AB;by_cases e2:i2=i
  ·subst e2;rw[if_pos rfl,if_pos hlt,if_pos rfl]
  ·rw[if_neg (by omega),if_neg e2];exact h5 t ht i2 hi2
 ·rw[if_neg (by omega),if_neg e];exact h5 t ht i2 hi2
def Af(k z:Nat->Int):Nat->Int:=fun i=>if i<6/\z i=k i then -1 else z i
def Aj(f:Nat)(k z:Nat->Int):Nat->Int:=fun i=>if i<f/\i<6/\z i=k i then -1 else z i
theorem VN(k z:Nat->Int):Aj 0 k z=z:=by funext i;unfold Aj;rw[if_neg (by omega)]
theorem VM(k z:Nat->Int):Aj 6 k z=Af k z:=by
 funext i;unfold Aj Af;by_cases h:i<6/\z i=k i
 ·rw[if_pos ⟨h.1,h⟩,if_pos h]
 ·rw[if_neg (fun c=>h c.2),if_neg h]
theorem Fz{f:Nat}{k z:Nat->Int}(hf:f<6)(h:z f=k f):AB (Aj f k z) f (-1)=Aj (f+1) k z:=by
 funext i;unfold AB Aj;by_cases e:i=f
 ·subst e;rw[if_pos rfl,if_pos ⟨by omega,hf,h⟩]
 ·rw[if_neg e];by_cases c:i<f/\i<6/\z i=k i
  ·rw[if_pos c,if_pos ⟨by omega,c.2⟩]
  ·rw[if_neg c,if_neg (fun d=>c ⟨by omega,d.2⟩)]
theorem G8{f:Nat}{k z:Nat->Int}(h:¬z f=k f):Aj f k z=Aj (f+1) k z:=by
 funext i;unfold Aj;by_cases c:i<f/\i<6/\z i=k i
 ·rw[if_pos c,if_pos ⟨by omega,c.2⟩]
 ·rw[if_neg c];by_cases e:i=f
  ·subst e;rw[if_neg (fun d=>h d.2.2)]
  ·rw[if_neg (fun d=>c ⟨by omega,d.2⟩)]
theorem HU{k z:Nat->Int}(h:Nm z):Nm (Af k z):=fun i hi=>by unfold Af;rw[if_neg (by omega)];exact h i hi
theorem Xk(w:World):Calls Tryz.prog 160 #[.slice none 0 0] w fun e w'=>e=.returned (.slice none 0 0)/\w'=w:=by
 have HS:Hid (Calls Tryz.prog 98 #[.slice none 0 0,.func (.func 99) #[] #[]] w fun e w'=>e=.returned (.tuple #[])/\w'=w):=AnyF.slices_SortFunc_none (P:=Tryz.prog) (ρ:=Kq) Ko none 0 (.func (.func 99) #[] #[]) w
 have HC:Hid (Calls Tryz.prog 223 #[.slice none 0 0] w fun e w'=>e=.returned (.slice none 0 0)/\w'=w):=by
  clear HS;go_enter Tryz.func223,Tryz.ntmps223;go_wp2;go_ret;exact⟨rfl,rfl⟩
 go_enter Tryz.func160,Tryz.ntmps160;go_wp2_with fail;refine HS.o.mono ?_;rintro e w1 ⟨rfl,hw⟩;rw[hw];clear hw;go_wp2_with fail;refine HC.o.mono ?_;rintro e w2 ⟨rfl,hw⟩;rw[hw];go_wp2;go_ret;exact⟨rfl,rfl⟩
theorem Nl{A:List (Nat->Int)}{n:Nat}{d:Nat->Nat->Int}(h:Is A n d)(g:(Nat->Int)->(Nat->Int)):(List.range n).map (fun j=>g (d j))=A.map g:=by
 refine List.ext_getElem? (fun j=>?_);by_cases hj:j<n
 ·simp[h.get j hj,hj]
 ·rw[List.getElem?_eq_none (by simp;omega),List.getElem?_eq_none (by simp[h.len];omega)]
def mkC(pa:Option Addr)(pn pc:Nat)(st:Int)(ra:Nat->Option Addr)(rn rc:Nat->Nat)(o:Nat->Int):Array Value:=#[.slice pa pn pc,.int .i64 st,.slice (ra 0) (rn 0) (rc 0),.slice (ra 1) (rn 1) (rc 1),.slice (ra 2) (rn 2) (rc 2),.slice (ra 3) (rn 3) (rc 3),.slice (ra 4) (rn 4) (rc 4),.slice (ra 5) (rn 5) (rc 5),.int .i64 (o 0),.int .i64 (o 1),.int .i64 (o 2),.int .i64 (o 3),.int .i64 (o 4),.int .i64 (o 5)]
def JI(pa:Option Addr)(pn pc:Nat)(st:Int)(t:Code)(k:Nat->Int)(w:World):Prop:=∀ww,w.grownBy ww none->Calls Tryz.prog 56 #[.agg #[.slice pa pn pc,.int .i64 st],.agg #[.int .i64 (k 0),.int .i64 (k 1),.int .i64 (k 2),.int .i64 (k 3),.int .i64 (k 4),.int .i64 (k 5)]] ww fun x w'=>∃a c n d A,x=.returned (.slice a n c)/\AH ww.heap.size w' (.slice a n c) n d/\Is A n d/\SetOf A (D t k)/\ww.grownBy w' none
def acS(A:List (Nat->Int))(k:Nat->Int):List (Nat->Int):=setS (A.map (Af k))
theorem R8(pa:Option Addr)(pn pc:Nat)(st:Int)(ra:Nat->Option Addr)(rn rc:Nat->Nat)(o:Nat->Int)(t:Code)(k:Nat->Int)(w:World)(hR:JI pa pn pc st t k w):
  Calls Tryz.prog 215 #[.agg (mkC pa pn pc st ra rn rc o),.agg #[.int .i64 (k 0),.int .i64 (k 1),.int .i64 (k 2),.int .i64 (k 3),.int .i64 (k 4),.int .i64 (k 5)]] w fun e w'=>∃a c n d A,e=.returned (.slice a n c)/\AH w.heap.size w' (.slice a n c) n d/\Is (acS A k) n d/\SetOf A (D t k)/\w.grownBy w' none:=by
 unfold JI at hR;have HR:=A0 hR;obtain⟨w1,hw1⟩:∃w1,w1=w.alloc (.cells (mkC pa pn pc st ra rn rc o) 112):=⟨_,rfl⟩;obtain⟨w2,hw2⟩:∃w2,w2=w1.alloc (.cells (pkA k) 46):=⟨_,rfl⟩;have z1:w1.heap.size=w.heap.size+1:=by rw[hw1];simp
 have hB:AD w2 (w.heap.size+1) k:=by rw[hw2,<-z1];exact AD.alloc w1 k
 have hg2:w.grownBy w2 none:=by rw[hw2,hw1];exact A1 (World.grownBy_alloc _ _ _) (World.grownBy_alloc _ _ _)
 have m0:w2.cell? ⟨w.heap.size,0,none⟩=some (.slice pa pn pc):=by
  rw[hw2];refine(World.grownBy_alloc w1 _ none).cell (?_:w1.cell? ⟨w.heap.size,0,none⟩=_) (by simp);rw[hw1];unfold mkC;simp[go_sem]
 have m1:w2.cell? ⟨w.heap.size,1,none⟩=some (.int .i64 st):=by
  rw[hw2];refine(World.grownBy_alloc w1 _ none).cell (?_:w1.cell? ⟨w.heap.size,1,none⟩=_) (by simp);rw[hw1];unfold mkC;simp[go_sem]
 have HC:=A0 (HR.o w2 hg2);have HB:=A0 hB;have G2:=A0 hg2;obtain⟨p0,p1,p2,p3,p4,p5⟩:=DS hB;have hz:w.heap.size+1<w2.heap.size:=World.block_lt_of_cell? w2 _ p0;rw[hw1]at hw2;unfold mkC pkA at hw2;unfold mkC;clear hR HR hB hg2 hw1 z1;go_enter Tryz.func215,Tryz.ntmps215;go_wp2_with fail;rw[<-hw2];refine HC.o.mono ?_;rintro x w3 ⟨la,lc,n,d,A,rfl,hO,hI,hS,g3⟩;have G3:=A0 (A1 G2.o g3);have HB3:=A0 (HB.o.grown g3 (by simp));have HI:=A0 hI;have HS:=A0 hS;have HO:=A0 (hO.mono (show w.heap.size+2<=w2.heap.size by omega));have hfew:=hO.row.any.few;clear hw2 m0 m1 p0 p1 p2 p3 p4 p5 hO hI hS g3 HC HB G2 hz;rcases HO.o with⟨e,hn0⟩|⟨g,cap,hBg,hv,hOwn⟩
 ·cases e;have HSN:=A0 (Xk w3);clear HO;go_wp2_with fail;go_loopw [15] (fun s15 wr=>s15=.int .i64 0/\wr=w3) (fun _ _=>0)
  case atStart=>exact⟨rfl,rfl⟩
  case round=>
   obtain⟨rfl,hwr⟩:=hrel;rw[hwr];go_wp2_with fail;refine HSN.o.mono ?_;rintro e w4 ⟨rfl,hw4⟩;rw[hw4];go_wp2;go_ret;refine⟨none,0,0,fun _ _=>0,A,rfl,AH.nil _ _ _,?_,HS.o,G3.o⟩;have hA:A=[]:=List.eq_nil_of_length_eq_zero HI.o.len;rw[hA];exact⟨rfl,fun j hj=>by omega⟩
 ·cases hv;have OW:=A0 hOwn;have hgl:=hOwn.lt;clear hOwn HO;go_wp2_with fail;go_loopw [15] (fun s15 wr=>∃i:Nat,i<=n/\s15=.int .i64 i/\Own wr g n lc (fun j=>if j<i then Af k (d j) else d j)/\AD wr (w.heap.size+1) k/\w.grownBy wr none) (fun s15 _=>n-(intOf s15).toNat)
  case atStart=>exact⟨0,by omega,rfl,OW.o.cong (fun j hj q hq=>rfl),HB3.o,G3.o⟩
  case round=>
   obtain⟨i,hi,rfl,hOr,hBr,hGr⟩:=hrel;have OR:=A0 hOr;have BR:=A0 hBr;have GR:=A0 hGr;clear hOr hBr hGr;by_cases hlt:i<n
   ·obtain⟨x,hx⟩:∃x,x=d i:=⟨_,rfl⟩
    have cc:∀c,c<6->wr.cell? ⟨g,i*6+c,none⟩=some (.int .i64 (x c)):=fun c hc=>by
     have:=OR.o.cell i hlt c hc;rw[hx];simpa using this
    have c0:wr.cell? ⟨g,i*6,none⟩=some (.int .i64 (x 0)):=cc 0 (by omega);have c1:=cc 1 (by omega);have c2:=cc 2 (by omega);have c3:=cc 3 (by omega);have c4:=cc 4 (by omega);have c5:=cc 5 (by omega);have hltI:(i:Int)<n:=by omega
    have HX:=A0 hx;clear cc hx;go_wp2_with fail;clear c0 c1 c2 c3 c4 c5;go_loopw [22] (fun s22 wq=>∃f:Nat,f<=6/\s22=.int .i64 f/\Own wq g n lc (fun j=>if j<i then Af k (d j) else if j=i then Aj f k x else d j)/\AD wq (w.heap.size+1) k/\w.grownBy wq none) (fun s22 _=>6-(intOf s22).toNat)
    case atStart=>
     refine⟨0,by omega,rfl,OR.o.cong (fun j hj q hq=>congrFun (?_:(_:Nat->Int)=_) q),BR.o,GR.o⟩;show(if j<i then Af k (d j) else d j)=(if j<i then Af k (d j) else if j=i then Aj 0 k x else d j);by_cases e:j=i
     ·subst e;simp[VN,HX.o]
     ·simp[e]
    case round=>
     obtain⟨f,hf,rfl,hOq,hBq,hGq⟩:=hrel;have OQ:=A0 hOq;have BQ:=A0 hBq;have GQ:=A0 hGq;clear hOq hBq hGq OR BR GR;have hgq:=OQ.o.lt;have ix0:∀w,(Instr.index 46 (.agg #[.int .i64 (x 0),.int .i64 (x 1),.int .i64 (x 2),.int .i64 (x 3),.int .i64 (x 4),.int .i64 (x 5)]) (.int .i64 0)).run Tryz.prog w=.ok (.int .i64 (x 0)) w:=fun _=>by kernel_rfl
     have ix1:∀w,(Instr.index 46 (.agg #[.int .i64 (x 0),.int .i64 (x 1),.int .i64 (x 2),.int .i64 (x 3),.int .i64 (x 4),.int .i64 (x 5)]) (.int .i64 1)).run Tryz.prog w=.ok (.int .i64 (x 1)) w:=fun _=>by kernel_rfl
     have ix2:∀w,(Instr.index 46 (.agg #[.int .i64 (x 0),.int .i64 (x 1),.int .i64 (x 2),.int .i64 (x 3),.int .i64 (x 4),.int .i64 (x 5)]) (.int .i64 2)).run Tryz.prog w=.ok (.int .i64 (x 2)) w:=fun _=>by kernel_rfl
     have ix3:∀w,(Instr.index 46 (.agg #[.int .i64 (x 0),.int .i64 (x 1),.int .i64 (x 2),.int .i64 (x 3),.int .i64 (x 4),.int .i64 (x 5)]) (.int .i64 3)).run Tryz.prog w=.ok (.int .i64 (x 3)) w:=fun _=>by kernel_rfl
     have ix4:∀w,(Instr.index 46 (.agg #[.int .i64 (x 0),.int .i64 (x 1),.int .i64 (x 2),.int .i64 (x 3),.int .i64 (x 4),.int .i64 (x 5)]) (.int .i64 4)).run Tryz.prog w=.ok (.int .i64 (x 4)) w:=fun _=>by kernel_rfl
     have ix5:∀w,(Instr.index 46 (.agg #[.int .i64 (x 0),.int .i64 (x 1),.int .i64 (x 2),.int .i64 (x 3),.int .i64 (x 4),.int .i64 (x 5)]) (.int .i64 5)).run Tryz.prog w=.ok (.int .i64 (x 5)) w:=fun _=>by kernel_rfl
     rcases(show f=0\/f=1\/f=2\/f=3\/f=4\/f=5\/f=6 by omega) with rfl|rfl|rfl|rfl|rfl|rfl|rfl
     ·by_cases hxk:x 0=k 0
      ·have OQ2:=A0 (OQ.o.set1 i hlt 0 (by omega) (-1));have fz:=OQ.o.frozen (i*6);have ck:wr.cell? ⟨w.heap.size+1,0,none⟩=some (.int .i64 (k 0)):=BQ.o.cell 0 (by omega)
       have cg:wr.cell? ⟨g,i*6,none⟩=some (.int .i64 (Aj 0 k x 0)):=by
        have:=OQ.o.cell i hlt 0 (by omega);simpa using this
       have hxb:(x 0 == k 0)=true:=by rw[beq_iff_eq];exact hxk
       have HXK:=A0 hxk;clear hxk;go_wp2_with fail;go_roundw
       case measure=>simp[intOf]
       case rel=>
        refine⟨0+1,by omega,by first|rfl|go_num,?_,?_,?_⟩
        ·refine OQ2.o.cong (fun j hj q hq=>congrFun (?_:(_:Nat->Int)=_) q);show(if j=i then AB (if j<i then Af k (d j) else if j=i then Aj 0 k x else d j) 0 (-1) else if j<i then Af k (d j) else if j=i then Aj 0 k x else d j)=(if j<i then Af k (d j) else if j=i then Aj (0+1) k x else d j);by_cases e:j=i
         ·subst e;simp[Fz (f:=0) (by omega) HXK.o]
         ·simp[e]
        ·exact BQ.o.grown (A7 _ _ _ _) (by simp;omega)
        ·exact AR GQ.o (A7 _ _ _ _) (by omega)
      ·have ck:wr.cell? ⟨w.heap.size+1,0,none⟩=some (.int .i64 (k 0)):=BQ.o.cell 0 (by omega);have hxb:(x 0 == k 0)=false:=by rw[beq_eq_false_iff_ne];exact hxk
       have HXK:=A0 hxk;clear hxk;go_wp2_with fail;go_roundw
       case measure=>simp[intOf]
       case rel=>
        refine⟨0+1,by omega,by first|rfl|go_num,?_,BQ.o,GQ.o⟩;refine OQ.o.cong (fun j hj q hq=>congrFun (?_:(_:Nat->Int)=_) q);show(if j<i then Af k (d j) else if j=i then Aj 0 k x else d j)=(if j<i then Af k (d j) else if j=i then Aj (0+1) k x else d j);rw[G8 (f:=0) HXK.o]
     ·by_cases hxk:x 1=k 1
      ·have OQ2:=A0 (OQ.o.set1 i hlt 1 (by omega) (-1));have fz:=OQ.o.frozen (i*6+1);have ck:wr.cell? ⟨w.heap.size+1,1,none⟩=some (.int .i64 (k 1)):=BQ.o.cell 1 (by omega)
       have cg:wr.cell? ⟨g,i*6+1,none⟩=some (.int .i64 (Aj 1 k x 1)):=by
        have:=OQ.o.cell i hlt 1 (by omega);simpa using this
       have hxb:(x 1 == k 1)=true:=by rw[beq_iff_eq];exact hxk
       have HXK:=A0 hxk;clear hxk;go_wp2_with fail;go_roundw
       case measure=>simp[intOf]
       case rel=>
        refine⟨1+1,by omega,by first|rfl|go_num,?_,?_,?_⟩
        ·refine OQ2.o.cong (fun j hj q hq=>congrFun (?_:(_:Nat->Int)=_) q);show(if j=i then AB (if j<i then Af k (d j) else if j=i then Aj 1 k x else d j) 1 (-1) else if j<i then Af k (d j) else if j=i then Aj 1 k x else d j)=(if j<i then Af k (d j) else if j=i then Aj (1+1) k x else d j);by_cases e:j=i
         ·subst e;simp[Fz (f:=1) (by omega) HXK.o]
         ·simp[e]
        ·exact BQ.o.grown (A7 _ _ _ _) (by simp;omega)
        ·exact AR GQ.o (A7 _ _ _ _) (by omega)
      ·have ck:wr.cell? ⟨w.heap.size+1,1,none⟩=some (.int .i64 (k 1)):=BQ.o.cell 1 (by omega);have hxb:(x 1 == k 1)=false:=by rw[beq_eq_false_iff_ne];exact hxk
       have HXK:=A0 hxk;clear hxk;go_wp2_with fail;go_roundw
       case measure=>simp[intOf]
       case rel=>
        refine⟨1+1,by omega,by first|rfl|go_num,?_,BQ.o,GQ.o⟩;refine OQ.o.cong (fun j hj q hq=>congrFun (?_:(_:Nat->Int)=_) q);show(if j<i then Af k (d j) else if j=i then Aj 1 k x else d j)=(if j<i then Af k (d j) else if j=i then Aj (1+1) k x else d j);rw[G8 (f:=1) HXK.o]
     ·by_cases hxk:x 2=k 2
      ·have OQ2:=A0 (OQ.o.set1 i hlt 2 (by omega) (-1));have fz:=OQ.o.frozen (i*6+2);have ck:wr.cell? ⟨w.heap.size+1,2,none⟩=some (.int .i64 (k 2)):=BQ.o.cell 2 (by omega)
       have cg:wr.cell? ⟨g,i*6+2,none⟩=some (.int .i64 (Aj 2 k x 2)):=by
        have:=OQ.o.cell i hlt 2 (by omega);simpa using this
       have hxb:(x 2 == k 2)=true:=by rw[beq_iff_eq];exact hxk
       have HXK:=A0 hxk;clear hxk;go_wp2_with fail;go_roundw
       case measure=>simp[intOf]
       case rel=>
        refine⟨2+1,by omega,by first|rfl|go_num,?_,?_,?_⟩
        ·refine OQ2.o.cong (fun j hj q hq=>congrFun (?_:(_:Nat->Int)=_) q);show(if j=i then AB (if j<i then Af k (d j) else if j=i then Aj 2 k x else d j) 2 (-1) else if j<i then Af k (d j) else if j=i then Aj 2 k x else d j)=(if j<i then Af k (d j) else if j=i then Aj (2+1) k x else d j);by_cases e:j=i
         ·subst e;simp[Fz (f:=2) (by omega) HXK.o]
         ·simp[e]
        ·exact BQ.o.grown (A7 _ _ _ _) (by simp;omega)
        ·exact AR GQ.o (A7 _ _ _ _) (by omega)
      ·have ck:wr.cell? ⟨w.heap.size+1,2,none⟩=some (.int .i64 (k 2)):=BQ.o.cell 2 (by omega);have hxb:(x 2 == k 2)=false:=by rw[beq_eq_false_iff_ne];exact hxk
       have HXK:=A0 hxk;clear hxk;go_wp2_with fail;go_roundw
       case measure=>simp[intOf]
       case rel=>
        refine⟨2+1,by omega,by first|rfl|go_num,?_,BQ.o,GQ.o⟩;refine OQ.o.cong (fun j hj q hq=>congrFun (?_:(_:Nat->Int)=_) q);show(if j<i then Af k (d j) else if j=i then Aj 2 k x else d j)=(if j<i then Af k (d j) else if j=i then Aj (2+1) k x else d j);rw[G8 (f:=2) HXK.o]
     ·by_cases hxk:x 3=k 3
      ·have OQ2:=A0 (OQ.o.set1 i hlt 3 (by omega) (-1));have fz:=OQ.o.frozen (i*6+3);have ck:wr.cell? ⟨w.heap.size+1,3,none⟩=some (.int .i64 (k 3)):=BQ.o.cell 3 (by omega)
       have cg:wr.cell? ⟨g,i*6+3,none⟩=some (.int .i64 (Aj 3 k x 3)):=by
        have:=OQ.o.cell i hlt 3 (by omega);simpa using this
       have hxb:(x 3 == k 3)=true:=by rw[beq_iff_eq];exact hxk
       have HXK:=A0 hxk;clear hxk;go_wp2_with fail;go_roundw
       case measure=>simp[intOf]
       case rel=>
        refine⟨3+1,by omega,by first|rfl|go_num,?_,?_,?_⟩
        ·refine OQ2.o.cong (fun j hj q hq=>congrFun (?_:(_:Nat->Int)=_) q);show(if j=i then AB (if j<i then Af k (d j) else if j=i then Aj 3 k x else d j) 3 (-1) else if j<i then Af k (d j) else if j=i then Aj 3 k x else d j)=(if j<i then Af k (d j) else if j=i then Aj (3+1) k x else d j);by_cases e:j=i
         ·subst e;simp[Fz (f:=3) (by omega) HXK.o]
         ·simp[e]
        ·exact BQ.o.grown (A7 _ _ _ _) (by simp;omega)
        ·exact AR GQ.o (A7 _ _ _ _) (by omega)
      ·have ck:wr.cell? ⟨w.heap.size+1,3,none⟩=some (.int .i64 (k 3)):=BQ.o.cell 3 (by omega);have hxb:(x 3 == k 3)=false:=by rw[beq_eq_false_iff_ne];exact hxk
       have HXK:=A0 hxk;clear hxk;go_wp2_with fail;go_roundw
       case measure=>simp[intOf]
       case rel=>
        refine⟨3+1,by omega,by first|rfl|go_num,?_,BQ.o,GQ.o⟩;refine OQ.o.cong (fun j hj q hq=>congrFun (?_:(_:Nat->Int)=_) q);show(if j<i then Af k (d j) else if j=i then Aj 3 k x else d j)=(if j<i then Af k (d j) else if j=i then Aj (3+1) k x else d j);rw[G8 (f:=3) HXK.o]
     ·by_cases hxk:x 4=k 4
      ·have OQ2:=A0 (OQ.o.set1 i hlt 4 (by omega) (-1));have fz:=OQ.o.frozen (i*6+4);have ck:wr.cell? ⟨w.heap.size+1,4,none⟩=some (.int .i64 (k 4)):=BQ.o.cell 4 (by omega)
       have cg:wr.cell? ⟨g,i*6+4,none⟩=some (.int .i64 (Aj 4 k x 4)):=by
        have:=OQ.o.cell i hlt 4 (by omega);simpa using this
       have hxb:(x 4 == k 4)=true:=by rw[beq_iff_eq];exact hxk
       have HXK:=A0 hxk;clear hxk;go_wp2_with fail;go_roundw
       case measure=>simp[intOf]
       case rel=>
        refine⟨4+1,by omega,by first|rfl|go_num,?_,?_,?_⟩
        ·refine OQ2.o.cong (fun j hj q hq=>congrFun (?_:(_:Nat->Int)=_) q);show(if j=i then AB (if j<i then Af k (d j) else if j=i then Aj 4 k x else d j) 4 (-1) else if j<i then Af k (d j) else if j=i then Aj 4 k x else d j)=(if j<i then Af k (d j) else if j=i then Aj (4+1) k x else d j);by_cases e:j=i
         ·subst e;simp[Fz (f:=4) (by omega) HXK.o]
         ·simp[e]
        ·exact BQ.o.grown (A7 _ _ _ _) (by simp;omega)
        ·exact AR GQ.o (A7 _ _ _ _) (by omega)
      ·have ck:wr.cell? ⟨w.heap.size+1,4,none⟩=some (.int .i64 (k 4)):=BQ.o.cell 4 (by omega);have hxb:(x 4 == k 4)=false:=by rw[beq_eq_false_iff_ne];exact hxk
       have HXK:=A0 hxk;clear hxk;go_wp2_with fail;go_roundw
       case measure=>simp[intOf]
       case rel=>
        refine⟨4+1,by omega,by first|rfl|go_num,?_,BQ.o,GQ.o⟩;refine OQ.o.cong (fun j hj q hq=>congrFun (?_:(_:Nat->Int)=_) q);show(if j<i then Af k (d j) else if j=i then Aj 4 k x else d j)=(if j<i then Af k (d j) else if j=i then Aj (4+1) k x else d j);rw[G8 (f:=4) HXK.o]
     ·by_cases hxk:x 5=k 5
      ·have OQ2:=A0 (OQ.o.set1 i hlt 5 (by omega) (-1));have fz:=OQ.o.frozen (i*6+5);have ck:wr.cell? ⟨w.heap.size+1,5,none⟩=some (.int .i64 (k 5)):=BQ.o.cell 5 (by omega)
       have cg:wr.cell? ⟨g,i*6+5,none⟩=some (.int .i64 (Aj 5 k x 5)):=by
        have:=OQ.o.cell i hlt 5 (by omega);simpa using this
       have hxb:(x 5 == k 5)=true:=by rw[beq_iff_eq];exact hxk
       have HXK:=A0 hxk;clear hxk;go_wp2_with fail;go_roundw
       case measure=>simp[intOf]
       case rel=>
        refine⟨5+1,by omega,by first|rfl|go_num,?_,?_,?_⟩
        ·refine OQ2.o.cong (fun j hj q hq=>congrFun (?_:(_:Nat->Int)=_) q);show(if j=i then AB (if j<i then Af k (d j) else if j=i then Aj 5 k x else d j) 5 (-1) else if j<i then Af k (d j) else if j=i then Aj 5 k x else d j)=(if j<i then Af k (d j) else if j=i then Aj (5+1) k x else d j);by_cases e:j=i
         ·subst e;simp[Fz (f:=5) (by omega) HXK.o]
         ·simp[e]
        ·exact BQ.o.grown (A7 _ _ _ _) (by simp;omega)
        ·exact AR GQ.o (A7 _ _ _ _) (by omega)
      ·have ck:wr.cell? ⟨w.heap.size+1,5,none⟩=some (.int .i64 (k 5)):=BQ.o.cell 5 (by omega);have hxb:(x 5 == k 5)=false:=by rw[beq_eq_false_iff_ne];exact hxk
       have HXK:=A0 hxk;clear hxk;go_wp2_with fail;go_roundw
       case measure=>simp[intOf]
       case rel=>
        refine⟨5+1,by omega,by first|rfl|go_num,?_,BQ.o,GQ.o⟩;refine OQ.o.cong (fun j hj q hq=>congrFun (?_:(_:Nat->Int)=_) q);show(if j<i then Af k (d j) else if j=i then Aj 5 k x else d j)=(if j<i then Af k (d j) else if j=i then Aj (5+1) k x else d j);rw[G8 (f:=5) HXK.o]
     ·go_wp2_with fail;refine⟨⟨i+1,by omega,by go_num,?_,BQ.o,GQ.o⟩,by simp[intOf];omega⟩;refine OQ.o.cong (fun j hj q hq=>congrFun (?_:(_:Nat->Int)=_) q);show(if j<i then Af k (d j) else if j=i then Aj 6 k x else d j)=(if j<i+1 then Af k (d j) else d j);rw[VM,HX.o];by_cases e:j=i
      ·subst e;simp
      ·by_cases e2:j<i
       ·simp[e2,show j<i+1 by omega]
       ·simp[e,e2,show ¬j<i+1 by omega]
   ·obtain rfl:i=n:=by omega
    have HSA:=A0 (Po wr g i lc (fun j=>Af k (d j)) (OR.o.cong (fun j hj q hq=>by simp[hj])) (fun j hj=>HU (HS.o.nm _ (HI.o.mem hj))));go_wp2_with fail;refine HSA.o.mono ?_;rintro e w4 ⟨m,e',hIs,rfl,hOw,hg4⟩;have I4:=A0 hIs;have O4:=A0 hOw;have G4:=A0 (AR GR.o hg4 (by omega));clear hIs hOw hg4 HSA;go_wp2;go_ret;refine⟨_,_,m,e',A,rfl,.inr ⟨g,lc,by omega,rfl,O4.o⟩,?_,HS.o,G4.o⟩;have:=I4.o;rw[Nl HI.o (Af k)]at this;exact this
end Go.Proofs.YtlhkfafdioakeaaGreatDoor
