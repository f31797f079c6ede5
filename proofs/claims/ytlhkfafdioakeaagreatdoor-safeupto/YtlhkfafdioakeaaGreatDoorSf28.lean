/- Parts of the proof. -/
import Derived.Test.YtlhkfafdioakeaaGreatDoorSf25
import Derived.Test.YtlhkfafdioakeaaGreatDoorSf27
namespace Go.Proofs.YtlhkfafdioakeaaGreatDoor
open Go.RowKit Go.Weft Classical
set_option linter.unusedVariables false
set_option linter.unusedSimpArgs false
theorem xcq:∀t:Code,lfD t=true->∀n∈xcc t,1<n/\n<386:=by
 intro t;induction t with
 | exit n=>
  intro h m hm;unfold xcc at hm;have hn:n<386:=by simpa [lfD] using h
  split at hm
  ·cases hm
  ·rw [List.mem_singleton] at hm;subst hm;omega
 | loop t ih=>exact fun h=>ih h
 | scope t ih=>exact fun h=>ih h
 | block k l ih=>exact fun h=>ih h
 | seq a l iha ihl=>
  intro h m hm;have h':(lfD a&&lfD l)=true:=h;rw [Bool.and_eq_true] at h';rcases List.mem_append.1 hm with hm|hm
  ·exact iha h'.1 m hm
  ·exact ihl h'.2 m hm
 | _=>exact fun h m hm=>by cases hm
theorem xl7{zs:List Int}{m n:Nat}(h:LM zs m)(k:LM zs n):m=n:=by
 rcases Nat.lt_trichotomy m n with e|e|e
 ·exact absurd (k.1 m e) h.2
 ·exact e
 ·exact absurd (h.1 n e) k.2
noncomputable def oT(t:Code)(f:Nat):Int:=if h:∃m:Nat,LM (xo4 (xcc t) (6+f)) m then ((Classical.choose h:Nat):Int) else 0
theorem oT_of{t:Code}{f m:Nat}(h:LM (xo4 (xcc t) (6+f)) m):oT t f=(m:Int):=by
 have hx:∃m:Nat,LM (xo4 (xcc t) (6+f)) m:=⟨m,h⟩;unfold oT;rw [dif_pos hx,xl7 (Classical.choose_spec hx) h]
noncomputable def acT(t:Code)(k:Nat->Int):List (Nat->Int):=if h:∃A,SetOf A (D t k) then acS (Classical.choose h) k else []
theorem xa6{t:Code}{k:Nat->Int}{A:List (Nat->Int)}(h:SetOf A (D t k)):acS A k=acT t k:=by
 have hx:∃A,SetOf A (D t k):=⟨A,h⟩;unfold acT;rw [dif_pos hx,(Classical.choose_spec hx).one h]
theorem xa2{A:List (Nat->Int)}{k:Nat->Int}(h:∀x∈A,Nm x):∀x∈acS A k,Nm x:=by
 intro x hx;unfold acS at hx;rw [xv2 (fun x hx=>by obtain ⟨z,hz,rfl⟩:=List.mem_map.1 hx;exact xmy (h z hz))] at hx;obtain ⟨z,hz,rfl⟩:=List.mem_map.1 hx;exact xmy (h z hz)
theorem xa5(t:Code)(k:Nat->Int):∀x∈acT t k,Nm x:=by
 unfold acT;split
 ·rename_i h;exact xa2 (Classical.choose_spec h).nm
 ·intro x hx;cases hx
def Evy(w:World):Prop:=∀i,i<6->w.cell? ⟨0,i,none⟩=some (.int .i64 (-1))
theorem Evy.grown{w w':World}(h:Evy w)(hg:w.grownBy w' none):Evy w':=fun i hi=>hg.cell (h i hi) (by simp)
theorem xuv{A:List Nat}{o:Nat->Int}{ac:(Nat->Int)->List (Nat->Int)}(hA:∀n∈A,fOf n<6)(h16:A.length<=16)(n:Nat)(k:Nat->Int)(hn:n<=5):(xuj (tstd A) o ac n k).length<=100000:=by
 have h1:=xun (T:=tstd A) (o:=o) (ac:=ac) (fun f=>(xo4 A f).length) (fun f _=>(xz3 A f).2.2) n k hn;have h2:=xo8 A hA
 have h3:((List.range n).map fun i=>(xo4 A (5-i)).length).sum<=16:=by
  rcases (show n=0\/n=1\/n=2\/n=3\/n=4\/n=5 by omega) with rfl|rfl|rfl|rfl|rfl|rfl<;>simp [List.range,List.range.loop]<;>omega
 have h4:2 ^ ((List.range n).map fun i=>(xo4 A (5-i)).length).sum<=2 ^ 16:=Nat.pow_le_pow_right (by omega) h3;have h5:(2:Nat) ^ 16<=100000:=by decide
 exact Nat.le_trans h1 (Nat.le_trans h4 h5)
theorem xsf{s:ByteArray}{w:World}{b:Nat}{t:Code}(h:PolAt w b t)(hr:readS s=.ok t)(he:Evy w):
  ∃pa pn pc ra rn rc,w.heap[b]?=some (.cells (#[.slice pa pn pc,.int .i64 ((xh4 t).1:Int)]++mkC pa pn pc ((xh4 t).1:Int) ra rn rc (oT t)) 115 (0,0))/\MkF (tstd (xcc t)) (oT t) (acT t) Rt pa pn pc ((xh4 t).1:Int) ra rn rc t w:=by
 obtain ⟨n0,B,pv,r,o,hb,hfl,hmk⟩:=h;obtain ⟨⟨hw,hk,hf⟩,_,_,hc⟩:=xtk hr;have h16:=xcl hr;have hat:=xcq t hf;have hA:∀n∈xcc t,fOf n<6:=fun n hn=>by have:=hat n hn;unfold fOf;omega
 have hlen:=xh7 t;obtain ⟨hgd,hst⟩:=xh6 1900 (by omega) t hc hw hk hf
 have hpv:∃g c,pv=.slice (some ⟨g,0,none⟩) (xh4 t).2.length c:=by
  obtain ⟨g,c,d,s,e,_⟩:=hfl.at (List.getElem?_eq_getElem (show 0<(xh4 t).2.length by omega));exact ⟨g,c,e⟩
 obtain ⟨pg,pc,hpv⟩:=hpv
 have ho:∀f,f<6->o f=oT t f:=fun f hf=>by
  obtain ⟨m,e,hm⟩:=(hmk f hf).2;rw [e,oT_of hm]
 have hor:∀f,f<6->0<=oT t f/\oT t f<32:=fun f hf=>by
  obtain ⟨m,e,hm⟩:=(hmk f hf).2;rw [oT_of hm];have h1:=lm_le hm;have h2:=xo5 (xcc t) (6+f);omega
 have hrs:∀f,f<6->r f=.slice (sA (r f)) (sN (r f)) (sC (r f))/\sN (r f)=(tstd (xcc t) f).length:=fun f hf=>by
  obtain ⟨a,c,e⟩:=xqh (hmk f hf).1;rw [e];exact ⟨rfl,rfl⟩
 refine ⟨some ⟨pg,0,none⟩,(xh4 t).2.length,pc,fun f=>sA (r f),fun f=>sN (r f),fun f=>sC (r f),?_,?_⟩
 ·rw [hb,ho 0 (by omega),ho 1 (by omega),ho 2 (by omega),ho 3 (by omega),ho 4 (by omega),ho 5 (by omega),(hrs 0 (by omega)).1,(hrs 1 (by omega)).1,(hrs 2 (by omega)).1,(hrs 3 (by omega)).1,(hrs 4 (by omega)).1,(hrs 5 (by omega)).1,hpv];rfl
 ·refine ⟨fun k hk2 ww hww=>?_,fun f hf2=>⟨(hrs f hf2).2,B,?_⟩,he,fun k A _ hS=>xa6 hS,fun k _=>xa5 t k,fun n k hn=>xuv hA h16 n k hn,fun k f v hk2 hf2 hv=>?_⟩
  ·have q:Calls Tryz.prog 56 #[.agg #[pv,.int .i64 ((xh4 t).1:Int)],pkV k] ww (fun x w'=>∃a c n d A,x=.returned (.slice a n c)/\OwnV ww.heap.size w' (.slice a n c) n d/\Is A n d/\SetOf A (D t k)/\ww.grownBy w' none):=by
    refine (xu6 n0 pv (xh4 t).1 (xh4 t).2 k ww (hfl.grown hww) (xh8 1900 (by omega) t hc hw hk hf) (fun q hq=>⟨(hgd q hq).1,Nat.le_trans (hgd q hq).2.2.2.2 (by omega)⟩) (by omega) hst hk2).mono ?_;rintro x w' ⟨v,n,d,A,rfl,h1,h2,h3,h4⟩;obtain ⟨a,c,rfl⟩:=h1.slice;exact ⟨a,c,n,d,A,rfl,h1,h2,h3.cong (fun y=>xh5 t k y),h4⟩
   rw [hpv] at q;exact q
  ·have:=(hmk f hf2).1;rw [(hrs f hf2).1] at this;rw [(hrs f hf2).2];rw [(hrs f hf2).2] at this;exact this
  ·refine xs4 hk2 f hf2 v ?_;rcases hv with hv|rfl
   ·obtain ⟨n,hn,_,_,rfl⟩:=((xo6 (xcc t) hA f hf2 v).1).1 (((xz3 (xcc t) f).1 v).1 hv);unfold vOf;omega
   ·exact hor f hf2
end Go.Proofs.YtlhkfafdioakeaaGreatDoor
