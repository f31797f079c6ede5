/- Parts of the proof. -/
import Derived.Test.YtlhkfafdioakeaaGreatDoorFi27
namespace Go.Proofs.YtlhkfafdioakeaaGreatDoor
set_option maxRecDepth 100000
set_option maxHeartbeats 4000000
open Go.RowKit Go.Weft Classical
set_option linter.unusedVariables false
set_option linter.unusedSimpArgs false
theorem M4:∀t:Code,lfD t=true->∀n∈AF t,1<n/\n<386:=by
 intro t;induction t with
 | exit n=>
  intro h m hm;unfold AF at hm;have hn:n<386:=by simpa[lfD] using h
  split at hm
  ·cases hm
  ·rw[List.mem_singleton]at hm;subst hm;omega
 | loop t ih=>exact fun h=>ih h
 | scope t ih=>exact fun h=>ih h
 | block k l ih=>exact fun h=>ih h
 | seq a l iha ihl=>
  intro h m hm;have h':(lfD a&&lfD l)=true:=h;rw[Bool.and_eq_true]at h';rcases List.mem_append.1 hm with hm|hm
  ·exact iha h'.1 m hm
  ·exact ihl h'.2 m hm
 | _=>exact fun h m hm=>by cases hm
theorem Uy{zs:List Int}{m n:Nat}(h:LM zs m)(k:LM zs n):m=n:=by
 rcases Nat.lt_trichotomy m n with e|e|e
 ·exact absurd (k.1 m e) h.2
 ·exact e
 ·exact absurd (h.1 n e) k.2
noncomputable def oT(t:Code)(f:Nat):Int:=if h:∃m:Nat,LM (Ak (AF t) (6+f)) m then((Classical.choose h:Nat):Int) else 0
theorem Ig{t:Code}{f m:Nat}(h:LM (Ak (AF t) (6+f)) m):oT t f=(m:Int):=by
 have hx:∃m:Nat,LM (Ak (AF t) (6+f)) m:=⟨m,h⟩;unfold oT;rw[dif_pos hx,Uy (Classical.choose_spec hx) h]
noncomputable def acT(t:Code)(k:Nat->Int):List (Nat->Int):=if h:∃A,SetOf A (D t k) then acS (Classical.choose h) k else[]
theorem Lj{t:Code}{k:Nat->Int}{A:List (Nat->Int)}(h:SetOf A (D t k)):acS A k=acT t k:=by
 have hx:∃A,SetOf A (D t k):=⟨A,h⟩;unfold acT;rw[dif_pos hx,(Classical.choose_spec hx).one h]
theorem Qs{A:List (Nat->Int)}{k:Nat->Int}(h:∀x∈A,Nm x):∀x∈acS A k,Nm x:=by
 intro x hx;unfold acS at hx;rw[FP (fun x hx=>by obtain⟨z,hz,rfl⟩:=List.mem_map.1 hx;exact HU (h z hz))]at hx;obtain⟨z,hz,rfl⟩:=List.mem_map.1 hx;exact HU (h z hz)
theorem Qu(t:Code)(k:Nat->Int):∀x∈acT t k,Nm x:=by
 unfold acT;split
 ·rename_i h;exact Qs (Classical.choose_spec h).nm
 ·intro x hx;cases hx
def Evy(w:World):Prop:=∀i,i<6->w.cell? ⟨0,i,none⟩=some (.int .i64 (-1))
theorem Evy.grown{w w':World}(h:Evy w)(hg:w.grownBy w' none):Evy w':=fun i hi=>hg.cell (h i hi) (by simp)
theorem XT{A:List Nat}{o:Nat->Int}{ac:(Nat->Int)->List (Nat->Int)}(hA:∀n∈A,fOf n<6)(h16:A.length<=16)(n:Nat)(k:Nat->Int)(hn:n<=5):(AJ (B0 A) o ac n k).length<=100000:=by
 have h1:=Pb (T:=B0 A) (o:=o) (ac:=ac) (fun f=>(Ak A f).length) (fun f _=>(EF A f).2.2) n k hn;have h2:=OF A hA
 have h3:((List.range n).map fun i=>(Ak A (5-i)).length).sum<=16:=by
  rcases(show n=0\/n=1\/n=2\/n=3\/n=4\/n=5 by omega) with rfl|rfl|rfl|rfl|rfl|rfl<;>simp[List.range,List.range.loop]<;>omega
 have h4:2 ^ ((List.range n).map fun i=>(Ak A (5-i)).length).sum<=2 ^ 16:=Nat.pow_le_pow_right (by omega) h3;have h5:(2:Nat) ^ 16<=100000:=by decide
 exact Nat.le_trans h1 (Nat.le_trans h4 h5)
theorem Oy{s:ByteArray}{w:World}{b:Nat}{t:Code}(h:D2 w b t)(hr:Ax s=.ok t)(he:Evy w):
  ∃pa pn pc ra rn rc,w.heap[b]?=some (.cells (#[.slice pa pn pc,.int .i64 ((Ah t).1:Int)]++mkC pa pn pc ((Ah t).1:Int) ra rn rc (oT t)) 115 (0,0))/\MkF (B0 (AF t)) (oT t) (acT t) Rt pa pn pc ((Ah t).1:Int) ra rn rc t w:=by
 obtain⟨n0,B,pv,r,o,hb,hfl,hmk⟩:=h;obtain⟨⟨hw,hk,hf⟩,_,_,hc⟩:=Dc hr;have h16:=IJ hr;have hat:=M4 t hf;have hA:∀n∈AF t,fOf n<6:=fun n hn=>by have:=hat n hn;unfold fOf;omega
 have hlen:=Mx t;obtain⟨hgd,hst⟩:=Jf 1900 (by omega) t hc hw hk hf
 have hpv:∃g c,pv=.slice (some ⟨g,0,none⟩) (Ah t).2.length c:=by
  obtain⟨g,c,d,s,e,_⟩:=hfl.at (List.getElem?_eq_getElem (show 0<(Ah t).2.length by omega));exact⟨g,c,e⟩
 obtain⟨pg,pc,hpv⟩:=hpv
 have ho:∀f,f<6->o f=oT t f:=fun f hf=>by
  obtain⟨m,e,hm⟩:=(hmk f hf).2;rw[e,Ig hm]
 have hor:∀f,f<6->0<=oT t f/\oT t f<32:=fun f hf=>by
  obtain⟨m,e,hm⟩:=(hmk f hf).2;rw[Ig hm];have h1:=Nh hm;have h2:=Ie (AF t) (6+f);omega
 have hrs:∀f,f<6->r f=.slice (sA (r f)) (sN (r f)) (sC (r f))/\sN (r f)=(B0 (AF t) f).length:=fun f hf=>by
  obtain⟨a,c,e⟩:=He (hmk f hf).1;rw[e];exact⟨rfl,rfl⟩
 refine⟨some ⟨pg,0,none⟩,(Ah t).2.length,pc,fun f=>sA (r f),fun f=>sN (r f),fun f=>sC (r f),?_,?_⟩
 ·rw[hb,ho 0 (by omega),ho 1 (by omega),ho 2 (by omega),ho 3 (by omega),ho 4 (by omega),ho 5 (by omega),(hrs 0 (by omega)).1,(hrs 1 (by omega)).1,(hrs 2 (by omega)).1,(hrs 3 (by omega)).1,(hrs 4 (by omega)).1,(hrs 5 (by omega)).1,hpv];rfl
 ·refine⟨fun k hk2 ww hww=>?_,fun f hf2=>⟨(hrs f hf2).2,B,?_⟩,he,fun k A _ hS=>Lj hS,fun k _=>Qu t k,fun n k hn=>XT hA h16 n k hn,fun k f v hk2 hf2 hv=>?_⟩
  ·have q:Calls Tryz.prog 56 #[.agg #[pv,.int .i64 ((Ah t).1:Int)],pkV k] ww (fun x w'=>∃a c n d A,x=.returned (.slice a n c)/\AH ww.heap.size w' (.slice a n c) n d/\Is A n d/\SetOf A (D t k)/\ww.grownBy w' none):=by
    refine(Pf n0 pv (Ah t).1 (Ah t).2 k ww (hfl.grown hww) (My 1900 (by omega) t hc hw hk hf) (fun q hq=>⟨(hgd q hq).1,Nat.le_trans (hgd q hq).2.2.2.2 (by omega)⟩) (by omega) hst hk2).mono ?_;rintro x w' ⟨v,n,d,A,rfl,h1,h2,h3,h4⟩;obtain⟨a,c,rfl⟩:=h1.slice;exact⟨a,c,n,d,A,rfl,h1,h2,h3.cong (fun y=>Mw t k y),h4⟩
   rw[hpv]at q;exact q
  ·have:=(hmk f hf2).1;rw[(hrs f hf2).1]at this;rw[(hrs f hf2).2];rw[(hrs f hf2).2]at this;exact this
  ·refine KQ hk2 f hf2 v ?_;rcases hv with hv|rfl
   ·obtain⟨n,hn,_,_,rfl⟩:=((KC (AF t) hA f hf2 v).1).1 (((EF (AF t) f).1 v).1 hv);unfold vOf;omega
   ·exact hor f hf2
theorem Yc{s:ByteArray}{w:World}{b:Nat}{t:Code}(h:D2 w b t)(hr:Ax s=.ok t)(he:Evy w)(z:Int)(h0:¬z<0)(h1:¬31<z):
  Calls Tryz.prog 62 #[.pointer (some ⟨b,0,none⟩),.int .i64 z] w fun e w'=>∃v,e=.returned (.tuple #[v,.int .i64 0])/\Lg (B0 (AF t)) (oT t) (acT t) (swK z) w.heap.size w' v/\w.grownBy w' none:=by
 obtain⟨pa,pn,pc,ra,rn,rc,hb,F⟩:=Oy h hr he;have hk:Rt (swK z):=⟨fun i hi=>by unfold swK;rw[if_neg (by omega)],fun i hi=>by unfold swK;split<;>omega⟩;have HC:=A0 (Nw z hk w F);obtain⟨st,hst⟩:∃st:Int,st=((Ah t).1:Int):=⟨_,rfl⟩;obtain⟨o,ho⟩:∃o,o=oT t:=⟨_,rfl⟩;rw[<-hst,<-ho]at hb HC;rw[<-ho];have m:∀j u,(#[.slice pa pn pc,.int .i64 st]++mkC pa pn pc st ra rn rc o)[j]?=some u->w.cell? ⟨b,j,none⟩=some u:=fun j u hu=>K6 hb j u hu
 have m0:w.cell? ⟨b,2,none⟩=_:=m 2 _ rfl;have m1:w.cell? ⟨b,3,none⟩=_:=m 3 _ rfl;have m2:w.cell? ⟨b,4,none⟩=_:=m 4 _ rfl;have m3:w.cell? ⟨b,5,none⟩=_:=m 5 _ rfl;have m4:w.cell? ⟨b,6,none⟩=_:=m 6 _ rfl;have m5:w.cell? ⟨b,7,none⟩=_:=m 7 _ rfl;have m6:w.cell? ⟨b,8,none⟩=_:=m 8 _ rfl;have m7:w.cell? ⟨b,9,none⟩=_:=m 9 _ rfl;have m8:w.cell? ⟨b,10,none⟩=_:=m 10 _ rfl;have m9:w.cell? ⟨b,11,none⟩=_:=m 11 _ rfl;have m10:w.cell? ⟨b,12,none⟩=_:=m 12 _ rfl;have m11:w.cell? ⟨b,13,none⟩=_:=m 13 _ rfl;have m12:w.cell? ⟨b,14,none⟩=_:=m 14 _ rfl;have m13:w.cell? ⟨b,15,none⟩=_:=m 15 _ rfl;unfold mkC at HC;clear F hk h hr he hb m hst ho;go_enter Tryz.func62,Tryz.ntmps62;go_wp2_with fail;refine HC.o.mono ?_;rintro e w2 ⟨v,rfl,hT,g2⟩;have HT:=A0 hT;have G2:=A0 g2;clear hT g2;go_wp2;go_ret2;exact⟨v,rfl,HT.o,G2.o⟩
end Go.Proofs.YtlhkfafdioakeaaGreatDoor
