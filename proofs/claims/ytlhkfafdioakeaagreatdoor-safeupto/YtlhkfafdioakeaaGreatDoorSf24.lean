/- Parts of the proof. -/
import Derived.Test.YtlhkfafdioakeaaGreatDoorSf15
import Derived.Test.YtlhkfafdioakeaaGreatDoorSf23
namespace Go.Proofs.YtlhkfafdioakeaaGreatDoor
set_option maxRecDepth 100000
set_option maxHeartbeats 4000000
open Go.RowKit Go.Weft
set_option linter.unusedVariables false
set_option linter.unusedSimpArgs false
theorem xji{w:World}{g o:Nat}{cur:Array Value}{T:TypeId}(h:w.heap[g]?=some (.cells cur T (0,0)))(v:Value):(w.setCell ⟨g,o,none⟩ v).heap[g]?=some (.cells (cur.setIfInBounds o v) T (0,0)):=xjh h _ _
theorem Own.set1{w:World}{g n cap:Nat}{d:Nat->Nat->Int}(h:Own w g n cap d)(j:Nat)(hj:j<n)(i:Nat)(hi:i<6)(z:Int):Own (w.setCell ⟨g,j*6+i,none⟩ (.int .i64 z)) g n cap (fun t=>if t=j then putF (d t) i z else d t):=by
 obtain ⟨cur,h1,h2,h3,h4,h5⟩:=h;refine ⟨_,xji h1 _,by simp [h2],h3,h4,fun t ht i2 hi2=>?_⟩;have hlt:j*6+i<cur.size:=by rw [h2];omega
 show _=some (Value.int .i64 ((if t=j then putF (d t) i z else d t) i2));rw [Array.getElem?_setIfInBounds];by_cases e:t=j
 ·subst e;rw [if_pos (show t=t from rfl)];unfold putF;by_cases e2:i2=i
  ·subst e2;rw [if_pos rfl,if_pos hlt,if_pos rfl]
  ·rw [if_neg (by omega),if_neg e2];exact h5 t ht i2 hi2
 ·rw [if_neg (by omega),if_neg e];exact h5 t ht i2 hi2
def maskK(k z:Nat->Int):Nat->Int:=fun i=>if i<6/\z i=k i then -1 else z i
def xmz(f:Nat)(k z:Nat->Int):Nat->Int:=fun i=>if i<f/\i<6/\z i=k i then -1 else z i
theorem xm3(k z:Nat->Int):xmz 0 k z=z:=by funext i;unfold xmz;rw [if_neg (by omega)]
theorem xm2(k z:Nat->Int):xmz 6 k z=maskK k z:=by
 funext i;unfold xmz maskK;by_cases h:i<6/\z i=k i
 ·rw [if_pos ⟨h.1,h⟩,if_pos h]
 ·rw [if_neg (fun c=>h c.2),if_neg h]
theorem xm0{f:Nat}{k z:Nat->Int}(hf:f<6)(h:z f=k f):putF (xmz f k z) f (-1)=xmz (f+1) k z:=by
 funext i;unfold putF xmz;by_cases e:i=f
 ·subst e;rw [if_pos rfl,if_pos ⟨by omega,hf,h⟩]
 ·rw [if_neg e];by_cases c:i<f/\i<6/\z i=k i
  ·rw [if_pos c,if_pos ⟨by omega,c.2⟩]
  ·rw [if_neg c,if_neg (fun d=>c ⟨by omega,d.2⟩)]
theorem xm1{f:Nat}{k z:Nat->Int}(h:¬z f=k f):xmz f k z=xmz (f+1) k z:=by
 funext i;unfold xmz;by_cases c:i<f/\i<6/\z i=k i
 ·rw [if_pos c,if_pos ⟨by omega,c.2⟩]
 ·rw [if_neg c];by_cases e:i=f
  ·subst e;rw [if_neg (fun d=>h d.2.2)]
  ·rw [if_neg (fun d=>c ⟨by omega,d.2⟩)]
theorem xmy{k z:Nat->Int}(h:Nm z):Nm (maskK k z):=fun i hi=>by unfold maskK;rw [if_neg (by omega)];exact h i hi
theorem xv6(w:World):Calls Tryz.prog 160 #[.slice none 0 0] w fun e w'=>e=.returned (.slice none 0 0)/\w'=w:=by
 have HS:Hid (Calls Tryz.prog 98 #[.slice none 0 0,.func (.func 99) #[] #[]] w fun e w'=>e=.returned (.tuple #[])/\w'=w):=AnyF.slices_SortFunc_none (P:=Tryz.prog) (ρ:=xwr) xwq none 0 (.func (.func 99) #[] #[]) w
 have HC:Hid (Calls Tryz.prog 223 #[.slice none 0 0] w fun e w'=>e=.returned (.slice none 0 0)/\w'=w):=by
  clear HS;go_enter Tryz.func223,Tryz.ntmps223;go_wp2;go_ret;exact ⟨rfl,rfl⟩
 go_enter Tryz.func160,Tryz.ntmps160;go_wp2_with fail;refine HS.out.mono ?_;rintro e w1 ⟨rfl,hw⟩;rw [hw];clear hw;go_wp2_with fail;refine HC.out.mono ?_;rintro e w2 ⟨rfl,hw⟩;rw [hw];go_wp2;go_ret;exact ⟨rfl,rfl⟩
theorem xmx{A:List (Nat->Int)}{n:Nat}{d:Nat->Nat->Int}(h:Is A n d)(g:(Nat->Int)->(Nat->Int)):(List.range n).map (fun j=>g (d j))=A.map g:=by
 refine List.ext_getElem? (fun j=>?_);by_cases hj:j<n
 ·simp [h.get j hj,hj]
 ·rw [List.getElem?_eq_none (by simp;omega),List.getElem?_eq_none (by simp [h.len];omega)]
def mkC(pa:Option Addr)(pn pc:Nat)(st:Int)(ra:Nat->Option Addr)(rn rc:Nat->Nat)(o:Nat->Int):Array Value:=#[.slice pa pn pc,.int .i64 st,.slice (ra 0) (rn 0) (rc 0),.slice (ra 1) (rn 1) (rc 1),.slice (ra 2) (rn 2) (rc 2),.slice (ra 3) (rn 3) (rc 3),.slice (ra 4) (rn 4) (rc 4),.slice (ra 5) (rn 5) (rc 5),.int .i64 (o 0),.int .i64 (o 1),.int .i64 (o 2),.int .i64 (o 3),.int .i64 (o 4),.int .i64 (o 5)]
def RunC(pa:Option Addr)(pn pc:Nat)(st:Int)(t:Code)(k:Nat->Int)(w:World):Prop:=∀ww,w.grownBy ww none->Calls Tryz.prog 56 #[.agg #[.slice pa pn pc,.int .i64 st],.agg #[.int .i64 (k 0),.int .i64 (k 1),.int .i64 (k 2),.int .i64 (k 3),.int .i64 (k 4),.int .i64 (k 5)]] ww fun x w'=>∃a c n d A,x=.returned (.slice a n c)/\OwnV ww.heap.size w' (.slice a n c) n d/\Is A n d/\SetOf A (D t k)/\ww.grownBy w' none
def acS(A:List (Nat->Int))(k:Nat->Int):List (Nat->Int):=setS (A.map (maskK k))
theorem xbg(pa:Option Addr)(pn pc:Nat)(st:Int)(ra:Nat->Option Addr)(rn rc:Nat->Nat)(o:Nat->Int)(t:Code)(k:Nat->Int)(w:World)(hR:RunC pa pn pc st t k w):
  Calls Tryz.prog 215 #[.agg (mkC pa pn pc st ra rn rc o),.agg #[.int .i64 (k 0),.int .i64 (k 1),.int .i64 (k 2),.int .i64 (k 3),.int .i64 (k 4),.int .i64 (k 5)]] w fun e w'=>∃a c n d A,e=.returned (.slice a n c)/\OwnV w.heap.size w' (.slice a n c) n d/\Is (acS A k) n d/\SetOf A (D t k)/\w.grownBy w' none:=by
 unfold RunC at hR;have HR:=hide hR;obtain ⟨w1,hw1⟩:∃w1,w1=w.alloc (.cells (mkC pa pn pc st ra rn rc o) 112):=⟨_,rfl⟩;obtain ⟨w2,hw2⟩:∃w2,w2=w1.alloc (.cells (pkA k) 46):=⟨_,rfl⟩;have z1:w1.heap.size=w.heap.size+1:=by rw [hw1];simp
 have hB:pkBlk w2 (w.heap.size+1) k:=by rw [hw2,<-z1];exact pkBlk.alloc w1 k
 have hg2:w.grownBy w2 none:=by rw [hw2,hw1];exact xje (World.grownBy_alloc _ _ _) (World.grownBy_alloc _ _ _)
 have m0:w2.cell? ⟨w.heap.size,0,none⟩=some (.slice pa pn pc):=by
  rw [hw2];refine (World.grownBy_alloc w1 _ none).cell (?_:w1.cell? ⟨w.heap.size,0,none⟩=_) (by simp);rw [hw1];unfold mkC;simp [go_sem]
 have m1:w2.cell? ⟨w.heap.size,1,none⟩=some (.int .i64 st):=by
  rw [hw2];refine (World.grownBy_alloc w1 _ none).cell (?_:w1.cell? ⟨w.heap.size,1,none⟩=_) (by simp);rw [hw1];unfold mkC;simp [go_sem]
 have HC:=hide (HR.out w2 hg2);have HB:=hide hB;have G2:=hide hg2;obtain ⟨p0,p1,p2,p3,p4,p5⟩:=xtq hB;have hz:w.heap.size+1<w2.heap.size:=World.block_lt_of_cell? w2 _ p0;rw [hw1] at hw2;unfold mkC pkA at hw2;unfold mkC;clear hR HR hB hg2 hw1 z1;go_enter Tryz.func215,Tryz.ntmps215;go_wp2_with fail;rw [<-hw2];refine HC.out.mono ?_;rintro x w3 ⟨la,lc,n,d,A,rfl,hO,hI,hS,g3⟩;have G3:=hide (xje G2.out g3);have HB3:=hide (HB.out.grown g3 (by simp));have HI:=hide hI;have HS:=hide hS;have HO:=hide (hO.mono (show w.heap.size+2<=w2.heap.size by omega));have hfew:=hO.row.any.few;clear hw2 m0 m1 p0 p1 p2 p3 p4 p5 hO hI hS g3 HC HB G2 hz;rcases HO.out with ⟨e,hn0⟩|⟨g,cap,hBg,hv,hOwn⟩
 ·cases e;have HSN:=hide (xv6 w3);clear HO;go_wp2_with fail;go_loopw [15] (fun s15 wr=>s15=.int .i64 0/\wr=w3) (fun _ _=>0)
  case atStart=>exact ⟨rfl,rfl⟩
  case round=>
   obtain ⟨rfl,hwr⟩:=hrel;rw [hwr];go_wp2_with fail;refine HSN.out.mono ?_;rintro e w4 ⟨rfl,hw4⟩;rw [hw4];go_wp2;go_ret;refine ⟨none,0,0,fun _ _=>0,A,rfl,OwnV.nil _ _ _,?_,HS.out,G3.out⟩;have hA:A=[]:=List.eq_nil_of_length_eq_zero HI.out.len;rw [hA];exact ⟨rfl,fun j hj=>by omega⟩
 ·cases hv;have OW:=hide hOwn;have hgl:=hOwn.lt;clear hOwn HO;go_wp2_with fail;go_loopw [15] (fun s15 wr=>∃i:Nat,i<=n/\s15=.int .i64 i/\Own wr g n lc (fun j=>if j<i then maskK k (d j) else d j)/\pkBlk wr (w.heap.size+1) k/\w.grownBy wr none) (fun s15 _=>n-(intOf s15).toNat)
  case atStart=>exact ⟨0,by omega,rfl,OW.out.cong (fun j hj q hq=>rfl),HB3.out,G3.out⟩
  case round=>
   obtain ⟨i,hi,rfl,hOr,hBr,hGr⟩:=hrel;have OR:=hide hOr;have BR:=hide hBr;have GR:=hide hGr;clear hOr hBr hGr;by_cases hlt:i<n
   ·obtain ⟨x,hx⟩:∃x,x=d i:=⟨_,rfl⟩
    have cc:∀c,c<6->wr.cell? ⟨g,i*6+c,none⟩=some (.int .i64 (x c)):=fun c hc=>by
     have:=OR.out.cell i hlt c hc;rw [hx];simpa using this
    have c0:wr.cell? ⟨g,i*6,none⟩=some (.int .i64 (x 0)):=cc 0 (by omega);have c1:=cc 1 (by omega);have c2:=cc 2 (by omega);have c3:=cc 3 (by omega);have c4:=cc 4 (by omega);have c5:=cc 5 (by omega);have hltI:(i:Int)<n:=by omega
    have HX:=hide hx;clear cc hx;go_wp2_with fail;clear c0 c1 c2 c3 c4 c5;go_loopw [22] (fun s22 wq=>∃f:Nat,f<=6/\s22=.int .i64 f/\Own wq g n lc (fun j=>if j<i then maskK k (d j) else if j=i then xmz f k x else d j)/\pkBlk wq (w.heap.size+1) k/\w.grownBy wq none) (fun s22 _=>6-(intOf s22).toNat)
    case atStart=>
     refine ⟨0,by omega,rfl,OR.out.cong (fun j hj q hq=>congrFun (?_:(_:Nat->Int)=_) q),BR.out,GR.out⟩;show (if j<i then maskK k (d j) else d j)=(if j<i then maskK k (d j) else if j=i then xmz 0 k x else d j);by_cases e:j=i
     ·subst e;simp [xm3,HX.out]
     ·simp [e]
    case round=>
     obtain ⟨f,hf,rfl,hOq,hBq,hGq⟩:=hrel;have OQ:=hide hOq;have BQ:=hide hBq;have GQ:=hide hGq;clear hOq hBq hGq OR BR GR;have hgq:=OQ.out.lt;have ix0:∀w,(Instr.index 46 (.agg #[.int .i64 (x 0),.int .i64 (x 1),.int .i64 (x 2),.int .i64 (x 3),.int .i64 (x 4),.int .i64 (x 5)]) (.int .i64 0)).run Tryz.prog w=.ok (.int .i64 (x 0)) w:=fun _=>by kernel_rfl
     have ix1:∀w,(Instr.index 46 (.agg #[.int .i64 (x 0),.int .i64 (x 1),.int .i64 (x 2),.int .i64 (x 3),.int .i64 (x 4),.int .i64 (x 5)]) (.int .i64 1)).run Tryz.prog w=.ok (.int .i64 (x 1)) w:=fun _=>by kernel_rfl
     have ix2:∀w,(Instr.index 46 (.agg #[.int .i64 (x 0),.int .i64 (x 1),.int .i64 (x 2),.int .i64 (x 3),.int .i64 (x 4),.int .i64 (x 5)]) (.int .i64 2)).run Tryz.prog w=.ok (.int .i64 (x 2)) w:=fun _=>by kernel_rfl
     have ix3:∀w,(Instr.index 46 (.agg #[.int .i64 (x 0),.int .i64 (x 1),.int .i64 (x 2),.int .i64 (x 3),.int .i64 (x 4),.int .i64 (x 5)]) (.int .i64 3)).run Tryz.prog w=.ok (.int .i64 (x 3)) w:=fun _=>by kernel_rfl
     have ix4:∀w,(Instr.index 46 (.agg #[.int .i64 (x 0),.int .i64 (x 1),.int .i64 (x 2),.int .i64 (x 3),.int .i64 (x 4),.int .i64 (x 5)]) (.int .i64 4)).run Tryz.prog w=.ok (.int .i64 (x 4)) w:=fun _=>by kernel_rfl
     have ix5:∀w,(Instr.index 46 (.agg #[.int .i64 (x 0),.int .i64 (x 1),.int .i64 (x 2),.int .i64 (x 3),.int .i64 (x 4),.int .i64 (x 5)]) (.int .i64 5)).run Tryz.prog w=.ok (.int .i64 (x 5)) w:=fun _=>by kernel_rfl
     rcases (show f=0\/f=1\/f=2\/f=3\/f=4\/f=5\/f=6 by omega) with rfl|rfl|rfl|rfl|rfl|rfl|rfl
     ·by_cases hxk:x 0=k 0
      ·have OQ2:=hide (OQ.out.set1 i hlt 0 (by omega) (-1));have fz:=OQ.out.frozen (i*6);have ck:wr.cell? ⟨w.heap.size+1,0,none⟩=some (.int .i64 (k 0)):=BQ.out.cell 0 (by omega)
       have cg:wr.cell? ⟨g,i*6,none⟩=some (.int .i64 (xmz 0 k x 0)):=by
        have:=OQ.out.cell i hlt 0 (by omega);simpa using this
       have hxb:(x 0 == k 0)=true:=by rw [beq_iff_eq];exact hxk
       have HXK:=hide hxk;clear hxk;go_wp2_with fail;go_roundw
       case measure=>simp [intOf]
       case rel=>
        refine ⟨0+1,by omega,by first|rfl|go_num,?_,?_,?_⟩
        ·refine OQ2.out.cong (fun j hj q hq=>congrFun (?_:(_:Nat->Int)=_) q);show (if j=i then putF (if j<i then maskK k (d j) else if j=i then xmz 0 k x else d j) 0 (-1) else if j<i then maskK k (d j) else if j=i then xmz 0 k x else d j)=(if j<i then maskK k (d j) else if j=i then xmz (0+1) k x else d j);by_cases e:j=i
         ·subst e;simp [xm0 (f:=0) (by omega) HXK.out]
         ·simp [e]
        ·exact BQ.out.grown (xjc _ _ _ _) (by simp;omega)
        ·exact xi9 GQ.out (xjc _ _ _ _) (by omega)
      ·have ck:wr.cell? ⟨w.heap.size+1,0,none⟩=some (.int .i64 (k 0)):=BQ.out.cell 0 (by omega);have hxb:(x 0 == k 0)=false:=by rw [beq_eq_false_iff_ne];exact hxk
       have HXK:=hide hxk;clear hxk;go_wp2_with fail;go_roundw
       case measure=>simp [intOf]
       case rel=>
        refine ⟨0+1,by omega,by first|rfl|go_num,?_,BQ.out,GQ.out⟩;refine OQ.out.cong (fun j hj q hq=>congrFun (?_:(_:Nat->Int)=_) q);show (if j<i then maskK k (d j) else if j=i then xmz 0 k x else d j)=(if j<i then maskK k (d j) else if j=i then xmz (0+1) k x else d j);rw [xm1 (f:=0) HXK.out]
     ·by_cases hxk:x 1=k 1
      ·have OQ2:=hide (OQ.out.set1 i hlt 1 (by omega) (-1));have fz:=OQ.out.frozen (i*6+1);have ck:wr.cell? ⟨w.heap.size+1,1,none⟩=some (.int .i64 (k 1)):=BQ.out.cell 1 (by omega)
       have cg:wr.cell? ⟨g,i*6+1,none⟩=some (.int .i64 (xmz 1 k x 1)):=by
        have:=OQ.out.cell i hlt 1 (by omega);simpa using this
       have hxb:(x 1 == k 1)=true:=by rw [beq_iff_eq];exact hxk
       have HXK:=hide hxk;clear hxk;go_wp2_with fail;go_roundw
       case measure=>simp [intOf]
       case rel=>
        refine ⟨1+1,by omega,by first|rfl|go_num,?_,?_,?_⟩
        ·refine OQ2.out.cong (fun j hj q hq=>congrFun (?_:(_:Nat->Int)=_) q);show (if j=i then putF (if j<i then maskK k (d j) else if j=i then xmz 1 k x else d j) 1 (-1) else if j<i then maskK k (d j) else if j=i then xmz 1 k x else d j)=(if j<i then maskK k (d j) else if j=i then xmz (1+1) k x else d j);by_cases e:j=i
         ·subst e;simp [xm0 (f:=1) (by omega) HXK.out]
         ·simp [e]
        ·exact BQ.out.grown (xjc _ _ _ _) (by simp;omega)
        ·exact xi9 GQ.out (xjc _ _ _ _) (by omega)
      ·have ck:wr.cell? ⟨w.heap.size+1,1,none⟩=some (.int .i64 (k 1)):=BQ.out.cell 1 (by omega);have hxb:(x 1 == k 1)=false:=by rw [beq_eq_false_iff_ne];exact hxk
       have HXK:=hide hxk;clear hxk;go_wp2_with fail;go_roundw
       case measure=>simp [intOf]
       case rel=>
        refine ⟨1+1,by omega,by first|rfl|go_num,?_,BQ.out,GQ.out⟩;refine OQ.out.cong (fun j hj q hq=>congrFun (?_:(_:Nat->Int)=_) q);show (if j<i then maskK k (d j) else if j=i then xmz 1 k x else d j)=(if j<i then maskK k (d j) else if j=i then xmz (1+1) k x else d j);rw [xm1 (f:=1) HXK.out]
     ·by_cases hxk:x 2=k 2
      ·have OQ2:=hide (OQ.out.set1 i hlt 2 (by omega) (-1));have fz:=OQ.out.frozen (i*6+2);have ck:wr.cell? ⟨w.heap.size+1,2,none⟩=some (.int .i64 (k 2)):=BQ.out.cell 2 (by omega)
       have cg:wr.cell? ⟨g,i*6+2,none⟩=some (.int .i64 (xmz 2 k x 2)):=by
        have:=OQ.out.cell i hlt 2 (by omega);simpa using this
       have hxb:(x 2 == k 2)=true:=by rw [beq_iff_eq];exact hxk
       have HXK:=hide hxk;clear hxk;go_wp2_with fail;go_roundw
       case measure=>simp [intOf]
       case rel=>
        refine ⟨2+1,by omega,by first|rfl|go_num,?_,?_,?_⟩
        ·refine OQ2.out.cong (fun j hj q hq=>congrFun (?_:(_:Nat->Int)=_) q);show (if j=i then putF (if j<i then maskK k (d j) else if j=i then xmz 2 k x else d j) 2 (-1) else if j<i then maskK k (d j) else if j=i then xmz 2 k x else d j)=(if j<i then maskK k (d j) else if j=i then xmz (2+1) k x else d j);by_cases e:j=i
         ·subst e;simp [xm0 (f:=2) (by omega) HXK.out]
         ·simp [e]
        ·exact BQ.out.grown (xjc _ _ _ _) (by simp;omega)
        ·exact xi9 GQ.out (xjc _ _ _ _) (by omega)
      ·have ck:wr.cell? ⟨w.heap.size+1,2,none⟩=some (.int .i64 (k 2)):=BQ.out.cell 2 (by omega);have hxb:(x 2 == k 2)=false:=by rw [beq_eq_false_iff_ne];exact hxk
       have HXK:=hide hxk;clear hxk;go_wp2_with fail;go_roundw
       case measure=>simp [intOf]
       case rel=>
        refine ⟨2+1,by omega,by first|rfl|go_num,?_,BQ.out,GQ.out⟩;refine OQ.out.cong (fun j hj q hq=>congrFun (?_:(_:Nat->Int)=_) q);show (if j<i then maskK k (d j) else if j=i then xmz 2 k x else d j)=(if j<i then maskK k (d j) else if j=i then xmz (2+1) k x else d j);rw [xm1 (f:=2) HXK.out]
     ·by_cases hxk:x 3=k 3
      ·have OQ2:=hide (OQ.out.set1 i hlt 3 (by omega) (-1));have fz:=OQ.out.frozen (i*6+3);have ck:wr.cell? ⟨w.heap.size+1,3,none⟩=some (.int .i64 (k 3)):=BQ.out.cell 3 (by omega)
       have cg:wr.cell? ⟨g,i*6+3,none⟩=some (.int .i64 (xmz 3 k x 3)):=by
        have:=OQ.out.cell i hlt 3 (by omega);simpa using this
       have hxb:(x 3 == k 3)=true:=by rw [beq_iff_eq];exact hxk
       have HXK:=hide hxk;clear hxk;go_wp2_with fail;go_roundw
       case measure=>simp [intOf]
       case rel=>
        refine ⟨3+1,by omega,by first|rfl|go_num,?_,?_,?_⟩
        ·refine OQ2.out.cong (fun j hj q hq=>congrFun (?_:(_:Nat->Int)=_) q);show (if j=i then putF (if j<i then maskK k (d j) else if j=i then xmz 3 k x else d j) 3 (-1) else if j<i then maskK k (d j) else if j=i then xmz 3 k x else d j)=(if j<i then maskK k (d j) else if j=i then xmz (3+1) k x else d j);by_cases e:j=i
         ·subst e;simp [xm0 (f:=3) (by omega) HXK.out]
         ·simp [e]
        ·exact BQ.out.grown (xjc _ _ _ _) (by simp;omega)
        ·exact xi9 GQ.out (xjc _ _ _ _) (by omega)
      ·have ck:wr.cell? ⟨w.heap.size+1,3,none⟩=some (.int .i64 (k 3)):=BQ.out.cell 3 (by omega);have hxb:(x 3 == k 3)=false:=by rw [beq_eq_false_iff_ne];exact hxk
       have HXK:=hide hxk;clear hxk;go_wp2_with fail;go_roundw
       case measure=>simp [intOf]
       case rel=>
        refine ⟨3+1,by omega,by first|rfl|go_num,?_,BQ.out,GQ.out⟩;refine OQ.out.cong (fun j hj q hq=>congrFun (?_:(_:Nat->Int)=_) q);show (if j<i then maskK k (d j) else if j=i then xmz 3 k x else d j)=(if j<i then maskK k (d j) else if j=i then xmz (3+1) k x else d j);rw [xm1 (f:=3) HXK.out]
     ·by_cases hxk:x 4=k 4
      ·have OQ2:=hide (OQ.out.set1 i hlt 4 (by omega) (-1));have fz:=OQ.out.frozen (i*6+4);have ck:wr.cell? ⟨w.heap.size+1,4,none⟩=some (.int .i64 (k 4)):=BQ.out.cell 4 (by omega)
       have cg:wr.cell? ⟨g,i*6+4,none⟩=some (.int .i64 (xmz 4 k x 4)):=by
        have:=OQ.out.cell i hlt 4 (by omega);simpa using this
       have hxb:(x 4 == k 4)=true:=by rw [beq_iff_eq];exact hxk
       have HXK:=hide hxk;clear hxk;go_wp2_with fail;go_roundw
       case measure=>simp [intOf]
       case rel=>
        refine ⟨4+1,by omega,by first|rfl|go_num,?_,?_,?_⟩
        ·refine OQ2.out.cong (fun j hj q hq=>congrFun (?_:(_:Nat->Int)=_) q);show (if j=i then putF (if j<i then maskK k (d j) else if j=i then xmz 4 k x else d j) 4 (-1) else if j<i then maskK k (d j) else if j=i then xmz 4 k x else d j)=(if j<i then maskK k (d j) else if j=i then xmz (4+1) k x else d j);by_cases e:j=i
         ·subst e;simp [xm0 (f:=4) (by omega) HXK.out]
         ·simp [e]
        ·exact BQ.out.grown (xjc _ _ _ _) (by simp;omega)
        ·exact xi9 GQ.out (xjc _ _ _ _) (by omega)
      ·have ck:wr.cell? ⟨w.heap.size+1,4,none⟩=some (.int .i64 (k 4)):=BQ.out.cell 4 (by omega);have hxb:(x 4 == k 4)=false:=by rw [beq_eq_false_iff_ne];exact hxk
       have HXK:=hide hxk;clear hxk;go_wp2_with fail;go_roundw
       case measure=>simp [intOf]
       case rel=>
        refine ⟨4+1,by omega,by first|rfl|go_num,?_,BQ.out,GQ.out⟩;refine OQ.out.cong (fun j hj q hq=>congrFun (?_:(_:Nat->Int)=_) q);show (if j<i then maskK k (d j) else if j=i then xmz 4 k x else d j)=(if j<i then maskK k (d j) else if j=i then xmz (4+1) k x else d j);rw [xm1 (f:=4) HXK.out]
     ·by_cases hxk:x 5=k 5
      ·have OQ2:=hide (OQ.out.set1 i hlt 5 (by omega) (-1));have fz:=OQ.out.frozen (i*6+5);have ck:wr.cell? ⟨w.heap.size+1,5,none⟩=some (.int .i64 (k 5)):=BQ.out.cell 5 (by omega)
       have cg:wr.cell? ⟨g,i*6+5,none⟩=some (.int .i64 (xmz 5 k x 5)):=by
        have:=OQ.out.cell i hlt 5 (by omega);simpa using this
       have hxb:(x 5 == k 5)=true:=by rw [beq_iff_eq];exact hxk
       have HXK:=hide hxk;clear hxk;go_wp2_with fail;go_roundw
       case measure=>simp [intOf]
       case rel=>
        refine ⟨5+1,by omega,by first|rfl|go_num,?_,?_,?_⟩
        ·refine OQ2.out.cong (fun j hj q hq=>congrFun (?_:(_:Nat->Int)=_) q);show (if j=i then putF (if j<i then maskK k (d j) else if j=i then xmz 5 k x else d j) 5 (-1) else if j<i then maskK k (d j) else if j=i then xmz 5 k x else d j)=(if j<i then maskK k (d j) else if j=i then xmz (5+1) k x else d j);by_cases e:j=i
         ·subst e;simp [xm0 (f:=5) (by omega) HXK.out]
         ·simp [e]
        ·exact BQ.out.grown (xjc _ _ _ _) (by simp;omega)
        ·exact xi9 GQ.out (xjc _ _ _ _) (by omega)
      ·have ck:wr.cell? ⟨w.heap.size+1,5,none⟩=some (.int .i64 (k 5)):=BQ.out.cell 5 (by omega);have hxb:(x 5 == k 5)=false:=by rw [beq_eq_false_iff_ne];exact hxk
       have HXK:=hide hxk;clear hxk;go_wp2_with fail;go_roundw
       case measure=>simp [intOf]
       case rel=>
        refine ⟨5+1,by omega,by first|rfl|go_num,?_,BQ.out,GQ.out⟩;refine OQ.out.cong (fun j hj q hq=>congrFun (?_:(_:Nat->Int)=_) q);show (if j<i then maskK k (d j) else if j=i then xmz 5 k x else d j)=(if j<i then maskK k (d j) else if j=i then xmz (5+1) k x else d j);rw [xm1 (f:=5) HXK.out]
     ·go_wp2_with fail;refine ⟨⟨i+1,by omega,by go_num,?_,BQ.out,GQ.out⟩,by simp [intOf];omega⟩;refine OQ.out.cong (fun j hj q hq=>congrFun (?_:(_:Nat->Int)=_) q);show (if j<i then maskK k (d j) else if j=i then xmz 6 k x else d j)=(if j<i+1 then maskK k (d j) else d j);rw [xm2,HX.out];by_cases e:j=i
      ·subst e;simp
      ·by_cases e2:j<i
       ·simp [e2,show j<i+1 by omega]
       ·simp [e,e2,show ¬j<i+1 by omega]
   ·obtain rfl:i=n:=by omega
    have HSA:=hide (xv4 wr g i lc (fun j=>maskK k (d j)) (OR.out.cong (fun j hj q hq=>by simp [hj])) (fun j hj=>xmy (HS.out.nm _ (HI.out.mem hj))));go_wp2_with fail;refine HSA.out.mono ?_;rintro e w4 ⟨m,e',hIs,rfl,hOw,hg4⟩;have I4:=hide hIs;have O4:=hide hOw;have G4:=hide (xi9 GR.out hg4 (by omega));clear hIs hOw hg4 HSA;go_wp2;go_ret;refine ⟨_,_,m,e',A,rfl,.inr ⟨g,lc,by omega,rfl,O4.out⟩,?_,HS.out,G4.out⟩;have:=I4.out;rw [xmx HI.out (maskK k)] at this;exact this
end Go.Proofs.YtlhkfafdioakeaaGreatDoor
