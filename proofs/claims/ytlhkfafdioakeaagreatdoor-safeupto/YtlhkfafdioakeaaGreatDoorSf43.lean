/- Parts of the proof. -/
import Derived.Test.YtlhkfafdioakeaaGreatDoorSf02
import Derived.Deep.CutBlock
import Derived.Deep.RegionWith
import Derived.Deep.RegionLaw
import Derived.Deep.RegionHeld3
namespace Go.Proofs.YtlhkfafdioakeaaGreatDoor
set_option maxRecDepth 100000
set_option maxHeartbeats 6000000
open Go.RowKit
set_option linter.unusedVariables false
set_option linter.unusedSimpArgs false
def meetS(d:Nat->Nat->Int)(n:Nat)(x:Nat->Int):Prop:=∃j,j<n/\((d j 0=x 0/\d j 1=x 1)\/(d j 2=x 2/\d j 3=x 3))
instance(d:Nat->Nat->Int)(n:Nat)(x:Nat->Int):Decidable (meetS d n x):=by unfold meetS;exact inferInstance
theorem xl8(v:Value)(n:Nat)(d:Nat->Nat->Int)(x:Nat->Int)(w:World)(h:LnR w v n d):Calls Tryz.prog 156 #[v,.agg #[.int .i64 (x 0),.int .i64 (x 1),.int .i64 (x 2),.int .i64 (x 3)]] w fun e w'=>e=.returned (.bool (decide (meetS d n x)))/\w.grownBy w' none:=by
 have HF:Hid (∀ww,w.grownBy ww none->Calls Tryz.prog 220 #[v,.int .i64 (x 0),.int .i64 (x 1)] ww fun e w'=>e=.returned (fromA d (fromS d (x 0) (x 1) n))/\ww.grownBy w' none):=fun ww hg=>xlz v n d (x 0) (x 1) ww (h.grown hg)
 have HE:Hid (∀ww,w.grownBy ww none->Calls Tryz.prog 221 #[v,.int .i64 (x 2),.int .i64 (x 3)] ww fun e w'=>e=.returned (.bool (decide (∃j,j<n/\d j 2=x 2/\d j 3=x 3)))/\ww.grownBy w' none):=fun ww hg=>xln v n d (x 2) (x 3) ww (h.grown hg)
 obtain ⟨a,c,rfl⟩:=h.slice;clear h;obtain ⟨R,hR⟩:∃R,R=decide (meetS d n x):=⟨_,rfl⟩;rw [<-hR];have HR:=hide hR;clear hR;go_enter Tryz.func156,Tryz.ntmps156;obtain ⟨w1,hw1⟩:∃w1,w1=w.alloc (.cells #[.int .i64 (x 0),.int .i64 (x 1),.int .i64 (x 2),.int .i64 (x 3)] 139):=⟨_,rfl⟩;have G1:Hid (w.grownBy w1 none):=by rw [hw1];exact World.grownBy_alloc _ _ _
 have R1:Hid (w1.heap[w.heap.size]?=some (.cells #[.int .i64 (x 0),.int .i64 (x 1),.int .i64 (x 2),.int .i64 (x 3)] 139 (0,0))):=by show _=_;rw [hw1];exact heap_alloc_new w _
 obtain ⟨y0,hy0⟩:∃y,y=x 0:=⟨_,rfl⟩;obtain ⟨y1,hy1⟩:∃y,y=x 1:=⟨_,rfl⟩;obtain ⟨y2,hy2⟩:∃y,y=x 2:=⟨_,rfl⟩;obtain ⟨y3,hy3⟩:∃y,y=x 3:=⟨_,rfl⟩;rw [<-hy0,<-hy1,<-hy2,<-hy3] at hw1 R1;rw [<-hy0,<-hy1] at HF;rw [<-hy2,<-hy3] at HE;rw [<-hy0,<-hy1,<-hy2,<-hy3];have HY:Hid (y0=x 0/\y1=x 1/\y2=x 2/\y3=x 3):=⟨hy0,hy1,hy2,hy3⟩;clear hy0 hy1 hy2 hy3;go_wp2_with fail;rw [<-hw1];clear hw1;refine (HF.out _ G1.out).mono ?_;rintro e w2 ⟨rfl,g2⟩;have R2:=xc9 R1.out g2 (by simp);have e2:=xc7 R2 2 _ rfl;have e3:=xc7 R2 3 _ rfl;have hz2:w.heap.size<w2.heap.size:=(Array.getElem?_eq_some_iff.1 R2).1;have G2:=hide (xje G1.out g2);clear g2 HF R1 R2 G1;cases hf:fromS d y0 y1 n with
 | some j=>
  have H0:Hid (R=true):=by
   show _=_;rw [HR.out];have:=xif hf;rw [HY.out.1,HY.out.2.1] at this;exact decide_eq_true ⟨j,this.1,.inl this.2⟩
  clear hf HR HY;unfold fromA;go_wp2_with fail;go_ret;exact ⟨by rw [H0.out];rfl,xje G2.out (World.grownBy_alloc _ _ _)⟩
 | none=>
  have HN:=hide (xie.1 hf);clear hf;unfold fromA;go_wp2_with fail;refine (HE.out _ (xje G2.out (World.grownBy_alloc _ _ _))).mono ?_;rintro e w4 ⟨rfl,g4⟩;have G4:=hide (xje (xje G2.out (World.grownBy_alloc _ _ _)) g4);clear g4;go_wp2_with fail;go_ret;refine ⟨?_,G4.out⟩;rw [HR.out];refine congrArg (fun b=>Ending.returned (Value.bool b)) (decide_eq_decide.2 ⟨fun ⟨j,h1,h2⟩=>⟨j,h1,.inr (by rw [<-HY.out.2.2.1,<-HY.out.2.2.2];exact h2)⟩,fun ⟨j,h1,h2⟩=>⟨j,h1,?_⟩⟩);rcases h2 with h2|h2
  ·rw [<-HY.out.1,<-HY.out.2.1] at h2;exact absurd h2 (HN.out j h1)
  ·rw [HY.out.2.2.1,HY.out.2.2.2];exact h2
def btwS(n:Int)(x:Nat->Int):Prop:=((0<=x 0/\x 0<n)/\(0<=x 1/\x 1<8))/\(0<=x 2/\x 2<n)/\(0<=x 3/\x 3<8)
instance(n:Int)(x:Nat->Int):Decidable (btwS n x):=by unfold btwS;exact inferInstance
theorem xc3(n:Int)(x:Nat->Int)(w:World):Calls Tryz.prog 155 #[.int .i64 n,.agg #[.int .i64 (x 0),.int .i64 (x 1),.int .i64 (x 2),.int .i64 (x 3)]] w fun e w'=>e=.returned (.bool (decide (btwS n x)))/\w.grownBy w' none:=by
 have HS:Hid (∀sw ww,Calls Tryz.prog 218 #[.int .i64 n,.int .i64 sw] ww fun e w'=>e=.returned (.bool (decide (0<=sw/\sw<n)))/\w'=ww):=fun sw ww=>xj5 n sw ww
 have HP:Hid (∀pt ww,Calls Tryz.prog 219 #[.int .i64 pt] ww fun e w'=>e=.returned (.bool (decide (0<=pt/\pt<8)))/\w'=ww):=fun pt ww=>xj4 pt ww
 obtain ⟨R,hR⟩:∃R,R=decide (btwS n x):=⟨_,rfl⟩;rw [<-hR];have HR:=hide hR;clear hR;go_enter Tryz.func155,Tryz.ntmps155;go_wp2_with fail;refine (HS.out _ _).mono ?_;rintro e w2 ⟨rfl,rfl⟩;by_cases h0:0<=x 0/\x 0<n
 ·rw [decide_eq_true h0];go_wp2_with fail;refine (HP.out _ _).mono ?_;rintro e w2 ⟨rfl,rfl⟩;by_cases h1:0<=x 1/\x 1<8
  ·rw [decide_eq_true h1];go_wp2_with fail;refine (HS.out _ _).mono ?_;rintro e w2 ⟨rfl,rfl⟩;by_cases h2:0<=x 2/\x 2<n
   ·rw [decide_eq_true h2];go_wp2_with fail;refine (HP.out _ _).mono ?_;rintro e w2 ⟨rfl,rfl⟩;have H0:Hid (R=decide (0<=x 3/\x 3<8)):=by show _=_;rw [HR.out];exact decide_eq_decide.2 ⟨fun h=>h.2.2,fun h=>⟨⟨h0,h1⟩,h2,h⟩⟩
    clear HR h0 h1 h2;generalize decide (0<=x 3/\x 3<8)=B at H0 ⊢;go_wp2_with fail;go_ret;exact ⟨by rw [H0.out];rfl,World.grownBy_alloc _ _ _⟩
   ·rw [decide_eq_false h2];have H0:Hid (R=false):=by show _=_;rw [HR.out];exact decide_eq_false (fun h=>h2 h.2.1)
    clear HR;go_wp2_with fail;go_ret;exact ⟨by rw [H0.out];rfl,World.grownBy_alloc _ _ _⟩
  ·rw [decide_eq_false h1];have H0:Hid (R=false):=by show _=_;rw [HR.out];exact decide_eq_false (fun h=>h1 h.1.2)
   clear HR;go_wp2_with fail;go_ret;exact ⟨by rw [H0.out];rfl,World.grownBy_alloc _ _ _⟩
 ·rw [decide_eq_false h0];have H0:Hid (R=false):=by show _=_;rw [HR.out];exact decide_eq_false (fun h=>h0 h.1.1)
  clear HR;go_wp2_with fail;go_ret;exact ⟨by rw [H0.out];rfl,World.grownBy_alloc _ _ _⟩
theorem LnR.less{w:World}{a:Option Addr}{n c i:Nat}{d:Nat->Nat->Int}(h:LnR w (.slice a n c) n d)(hi:i<=n):LnR w (.slice a i c) i d:=by
 rcases h with ⟨rfl,_⟩|⟨g,off,cap,e,h1,h2⟩
 ·obtain rfl:i=0:=by omega
  exact .inl ⟨rfl,_,_,rfl⟩
 ·cases e;exact .inr ⟨g,off,c,rfl,by omega,fun j hj=>h2 j (by omega)⟩
def cfgS(S:Int)(d:Nat->Nat->Int)(n:Nat)(room:Int):Prop:=(1<=S/\S<=6/\0<=room/\room<=5000)/\∀i,i<n->btwS S (d i)/\¬meetS d i (d i)
instance(S:Int)(d:Nat->Nat->Int)(n:Nat)(room:Int):Decidable (cfgS S d n room):=by unfold cfgS;exact inferInstance
theorem xpa(S room:Int)(a:Option Addr)(n c:Nat)(d:Nat->Nat->Int)(w:World)(h:LnR w (.slice a n c) n d)(hcap:n<=c):Calls Tryz.prog 104 #[.agg #[.int .i64 S,.slice a n c,.int .i64 room]] w fun e w'=>e=.returned (.bool (decide (cfgS S d n room)))/\w.grownBy w' none:=by
 have hn:=h.few;have HB:Hid (∀x ww,Calls Tryz.prog 155 #[.int .i64 S,.agg #[.int .i64 (x 0),.int .i64 (x 1),.int .i64 (x 2),.int .i64 (x 3)]] ww fun e w'=>e=.returned (.bool (decide (btwS S x)))/\ww.grownBy w' none):=fun x ww=>xc3 S x ww
 have HM:Hid (∀i x ww,i<=n->w.grownBy ww none->Calls Tryz.prog 156 #[.slice a i c,.agg #[.int .i64 (x 0),.int .i64 (x 1),.int .i64 (x 2),.int .i64 (x 3)]] ww fun e w'=>e=.returned (.bool (decide (meetS d i x)))/\ww.grownBy w' none):=fun i x ww hi hg=>xl8 _ i d x ww ((h.grown hg).less hi)
 have HL:=hide h;have HCP:=hide hcap;clear h hcap;obtain ⟨R,hR⟩:∃R,R=decide (cfgS S d n room):=⟨_,rfl⟩;rw [<-hR];have HR:=hide hR;clear hR;go_enter Tryz.func104,Tryz.ntmps104;by_cases hs:1<=S/\S<=6/\0<=room/\room<=5000
 ·obtain ⟨h1,h2,h3,h4⟩:=hs;obtain ⟨w1,hw1⟩:∃w1,w1=w.alloc (.cells #[.int .i64 S,.slice a n c,.int .i64 room] 77):=⟨_,rfl⟩;have G1:Hid (w.grownBy w1 none):=by rw [hw1];exact World.grownBy_alloc _ _ _
  have R1:Hid (w1.heap[w.heap.size]?=some (.cells #[.int .i64 S,.slice a n c,.int .i64 room] 77 (0,0))):=by show _=_;rw [hw1];exact heap_alloc_new w _
  go_wp2_with fail;rw [<-hw1];clear hw1;go_loopw [26] (fun s26 wq=>∃i:Nat,i<=n/\s26=.int .i64 i/\w1.grownBy wq none/\∀j,j<i->btwS S (d j)/\¬meetS d j (d j)) (fun s26 _=>n-(intOf s26).toNat)
  case atStart=>exact ⟨0,by omega,rfl,xjb _ _,fun j hj=>by omega⟩
  case round=>
   obtain ⟨i,hi,rfl,hg,hno⟩:=hrel;have HG:=hide hg;have HN:=hide hno;have RR:=xc9 R1.out hg (by simp);have z0:=xc7 RR 0 _ rfl;have z1:=xc7 RR 1 _ rfl;have hzl:w.heap.size<wr.heap.size:=(Array.getElem?_eq_some_iff.1 RR).1;have HRR:=hide RR;clear hg hno RR;by_cases hlt:i<n
   ·obtain ⟨g,off,rfl,hc⟩:=HL.out.at (by omega);have hgl:g<w.heap.size:=World.block_lt_of_cell? w _ (hc i hlt 0 (by omega));have m0:wr.cell? ⟨g,off+i*4,none⟩=some (.int .i64 (d i 0)):=HG.out.cell (G1.out.cell (hc i hlt 0 (by omega)) (by simp)) (by simp);have m1:=HG.out.cell (G1.out.cell (hc i hlt 1 (by omega)) (by simp)) (by simp);have m2:=HG.out.cell (G1.out.cell (hc i hlt 2 (by omega)) (by simp)) (by simp);have m3:=HG.out.cell (G1.out.cell (hc i hlt 3 (by omega)) (by simp)) (by simp);have hltI:(i:Int)<n:=by omega
    obtain ⟨x,hx⟩:∃x,x=d i:=⟨_,rfl⟩;rw [<-hx] at m0 m1 m2 m3;have HX:=hide hx;clear hx hc;have HBx:=hide (HB.out x);have HMx:Hid (∀ww,w.grownBy ww none->Calls Tryz.prog 156 #[.slice (some ⟨g,off,none⟩) i c,.agg #[.int .i64 (x 0),.int .i64 (x 1),.int .i64 (x 2),.int .i64 (x 3)]] ww fun e w'=>e=.returned (.bool (decide (meetS d i x)))/\ww.grownBy w' none):=fun ww hg=>HM.out i x ww (by omega) hg
    have hic:i<=c:=by have:=HCP.out;omega
    obtain ⟨wA,hwA⟩:∃wA,wA=wr.alloc (.cells #[.int .i64 (x 0),.int .i64 (x 1),.int .i64 (x 2),.int .i64 (x 3)] 139):=⟨_,rfl⟩;have gA:wr.grownBy wA none:=by rw [hwA];exact World.grownBy_alloc _ _ _
    have RA:Hid (wA.heap[wr.heap.size]?=some (.cells #[.int .i64 (x 0),.int .i64 (x 1),.int .i64 (x 2),.int .i64 (x 3)] 139 (0,0))):=by show _=_;rw [hwA];exact heap_alloc_new wr _
    go_upto_region 6 with fail
    rw [<-hwA];have RC:=hide (xc9 HRR.out gA (by simp));have GA:=hide (xje (xje G1.out HG.out) gA);have G1A:=hide (xje HG.out gA);clear z0 z1 m0 m1 m2 m3 hwA gA HRR HG;have z0:=xc7 RC.out 0 _ rfl;have z1:=xc7 RC.out 1 _ rfl;have m0:=xc7 RA.out 0 _ rfl;have m1:=xc7 RA.out 1 _ rfl;have m2:=xc7 RA.out 2 _ rfl;have m3:=xc7 RA.out 3 _ rfl;have hzA:wr.heap.size<wA.heap.size:=(Array.getElem?_eq_some_iff.1 RA.out).1;by_cases hb:btwS S x
    ·have HBT:Hid (∀ww,Calls Tryz.prog 155 #[.int .i64 S,.agg #[.int .i64 (x 0),.int .i64 (x 1),.int .i64 (x 2),.int .i64 (x 3)]] ww fun e w'=>e=.returned (.bool true)/\ww.grownBy w' none):=fun ww=>(HBx.out ww).mono (fun e w' h=>⟨by rw [h.1,decide_eq_true hb],h.2⟩)
     have HB2:=hide hb;clear hb HBx;by_cases hm:meetS d i x
     ·have HMT:Hid (∀ww,w.grownBy ww none->Calls Tryz.prog 156 #[.slice (some ⟨g,off,none⟩) i c,.agg #[.int .i64 (x 0),.int .i64 (x 1),.int .i64 (x 2),.int .i64 (x 3)]] ww fun e w'=>e=.returned (.bool true)/\ww.grownBy w' none):=fun ww hg=>(HMx.out ww hg).mono (fun e w' h=>⟨by rw [h.1,decide_eq_true hm],h.2⟩)
      have H0:Hid (R=false):=by show _=_;rw [HR.out];exact decide_eq_false (fun h=>(h.2 i hlt).2 (by rw [<-HX.out];exact hm))
      clear HMx hm HR
      go_region_with (first|(go_at_call 155;refine (HBT.out _).mono ?_;rintro e w2 ⟨rfl,g2⟩;have g2':wA.grownBy w2 none:=(by first|exact xjf g2|exact g2);have y0:=xc7 (xc9 RC.out g2' (by simp)) 0 _ rfl;have y1:=xc7 (xc9 RC.out g2' (by simp)) 1 _ rfl;have n0:=xc7 (xc9 RA.out g2' (by simp)) 0 _ rfl;have n1:=xc7 (xc9 RA.out g2' (by simp)) 1 _ rfl;have n2:=xc7 (xc9 RA.out g2' (by simp)) 2 _ rfl;have n3:=xc7 (xc9 RA.out g2' (by simp)) 3 _ rfl;have G2:=hide (xje GA.out g2');clear g2 g2')|(go_at_call 156;refine (HMT.out _ (by first|exact xi7 G2.out|exact G2.out)).mono ?_;rintro e w3 ⟨rfl,g3⟩;have G3:=hide (xje G2.out (show w2.grownBy w3 none by first|exact xjf g3|exact g3));clear g3))
      all_goals
       go_wp2_with fail;go_ret;exact ⟨by rw [H0.out];rfl,G3.out⟩
     ·have HMT:Hid (∀ww,w.grownBy ww none->Calls Tryz.prog 156 #[.slice (some ⟨g,off,none⟩) i c,.agg #[.int .i64 (x 0),.int .i64 (x 1),.int .i64 (x 2),.int .i64 (x 3)]] ww fun e w'=>e=.returned (.bool false)/\ww.grownBy w' none):=fun ww hg=>(HMx.out ww hg).mono (fun e w' h=>⟨by rw [h.1,decide_eq_false hm],h.2⟩)
      have HM2:=hide hm;clear HMx hm
      go_region_with (first|(go_at_call 155;refine (HBT.out _).mono ?_;rintro e w2 ⟨rfl,g2⟩;have g2':wA.grownBy w2 none:=(by first|exact xjf g2|exact g2);have y0:=xc7 (xc9 RC.out g2' (by simp)) 0 _ rfl;have y1:=xc7 (xc9 RC.out g2' (by simp)) 1 _ rfl;have n0:=xc7 (xc9 RA.out g2' (by simp)) 0 _ rfl;have n1:=xc7 (xc9 RA.out g2' (by simp)) 1 _ rfl;have n2:=xc7 (xc9 RA.out g2' (by simp)) 2 _ rfl;have n3:=xc7 (xc9 RA.out g2' (by simp)) 3 _ rfl;have G2:=hide (xje GA.out g2');have K2:=hide (xje G1A.out g2');clear g2 g2')|(go_at_call 156;refine (HMT.out _ (by first|exact xi7 G2.out|exact G2.out)).mono ?_;rintro e w3 ⟨rfl,g3⟩;have G3:=hide (xje G2.out (show w2.grownBy w3 none by first|exact xjf g3|exact g3));have K3:=hide (xje K2.out (show w2.grownBy w3 none by first|exact xjf g3|exact g3));clear g3))
      all_goals
       go_wp2_with fail;refine ⟨⟨i+1,by omega,by go_num,K3.out,fun j hj=>?_⟩,by simp [intOf];omega⟩;rcases Nat.lt_or_ge j i with e|e
       ·exact HN.out j e
       ·obtain rfl:j=i:=by omega
        rw [<-HX.out];exact ⟨HB2.out,HM2.out⟩
    ·have HBT:Hid (∀ww,Calls Tryz.prog 155 #[.int .i64 S,.agg #[.int .i64 (x 0),.int .i64 (x 1),.int .i64 (x 2),.int .i64 (x 3)]] ww fun e w'=>e=.returned (.bool false)/\ww.grownBy w' none):=fun ww=>(HBx.out ww).mono (fun e w' h=>⟨by rw [h.1,decide_eq_false hb],h.2⟩)
     have H0:Hid (R=false):=by show _=_;rw [HR.out];exact decide_eq_false (fun h=>hb (by rw [HX.out];exact (h.2 i hlt).1))
     clear hb HBx HR HMx;first|(go_region_with (go_at_call 155;refine (HBT.out _).mono ?_;rintro e w2 ⟨rfl,g2⟩;have g2':wA.grownBy w2 none:=(by first|exact xjf g2|exact g2);have y0:=xc7 (xc9 RC.out g2' (by simp)) 0 _ rfl;have y1:=xc7 (xc9 RC.out g2' (by simp)) 1 _ rfl;have n0:=xc7 (xc9 RA.out g2' (by simp)) 0 _ rfl;have n1:=xc7 (xc9 RA.out g2' (by simp)) 1 _ rfl;have n2:=xc7 (xc9 RA.out g2' (by simp)) 2 _ rfl;have n3:=xc7 (xc9 RA.out g2' (by simp)) 3 _ rfl;have G2:=hide (xje GA.out g2');clear g2 g2'))|fail
     all_goals
      go_wp2_with fail;go_ret;exact ⟨by rw [H0.out];rfl,G2.out⟩
   ·obtain rfl:n=i:=by omega
    have H0:Hid (R=true):=by show _=_;rw [HR.out];exact decide_eq_true ⟨⟨h1,h2,h3,h4⟩,HN.out⟩
    clear HR;go_wp2_with fail;go_ret;exact ⟨by rw [H0.out];rfl,xje G1.out HG.out⟩
 ·have H0:Hid (R=false):=by show _=_;rw [HR.out];exact decide_eq_false (fun h=>hs h.1)
  clear HR;by_cases h1:1<=S
  ·by_cases h2:S<=6
   ·by_cases h3:0<=room
    ·have h4:¬room<=5000:=fun h=>hs ⟨h1,h2,h3,h⟩
     clear hs;go_wp2_with fail;go_ret;exact ⟨by rw [H0.out];rfl,World.grownBy_alloc _ _ _⟩
    ·clear hs;go_wp2_with fail;go_ret;exact ⟨by rw [H0.out];rfl,World.grownBy_alloc _ _ _⟩
   ·clear hs;go_wp2_with fail;go_ret;exact ⟨by rw [H0.out];rfl,World.grownBy_alloc _ _ _⟩
  ·clear hs;go_wp2_with fail;go_ret;exact ⟨by rw [H0.out];rfl,World.grownBy_alloc _ _ _⟩
end Go.Proofs.YtlhkfafdioakeaaGreatDoor
