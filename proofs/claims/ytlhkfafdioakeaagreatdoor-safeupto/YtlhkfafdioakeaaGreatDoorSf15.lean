/- Parts of the proof. -/
import Derived.Test.YtlhkfafdioakeaaGreatDoorSf04
import Derived.Test.YtlhkfafdioakeaaGreatDoorSf14
namespace Go.Proofs.YtlhkfafdioakeaaGreatDoor
open Go.RowKit Go.Weft
set_option linter.unusedVariables false
set_option linter.unusedSimpArgs false
theorem Is.drop{L:List (Nat->Int)}{n:Nat}{d:Nat->Nat->Int}(h:Is L n d){i:Nat}(hi:i<n):L.drop i=d i::L.drop (i+1):=by
 have hl:i<L.length:=by rw [h.len];exact hi
 rw [List.drop_eq_getElem_cons hl];have h1:=h.get i hi;rw [List.getElem?_eq_getElem hl] at h1;rw [Option.some.inj h1]
theorem Is.past{L:List (Nat->Int)}{n:Nat}{d:Nat->Nat->Int}(h:Is L n d){i:Nat}(hi:¬i<n):L.drop i=[]:=List.drop_of_length_le (by rw [h.len];omega)
theorem Is.mem{L:List (Nat->Int)}{n:Nat}{d:Nat->Nat->Int}(h:Is L n d){i:Nat}(hi:i<n):d i∈L:=List.mem_of_getElem? (h.get i hi)
theorem Is.more{L:List (Nat->Int)}{n:Nat}{d:Nat->Nat->Int}(h:Is L n d)(k:Nat->Int):Is (L++[k]) (n+1) (cat n d fun _=>k):=by
 refine ⟨by simp [h.len],fun j hj=>?_⟩;unfold cat;by_cases e:j<n
 ·rw [if_pos e,List.getElem?_append_left (by rw [h.len];exact e)];exact h.get j e
 ·rw [if_neg e,List.getElem?_append_right (by rw [h.len];omega),h.len,show j-n=0 by omega];rfl
theorem Is.none(d:Nat->Nat->Int):Is [] 0 d:=⟨rfl,fun j hj=>by omega⟩
def SetO(L:List (Nat->Int))(w:World)(e:Ending)(w':World):Prop:=∃v n d,e=.returned v/\OwnV w.heap.size w' v n d/\Is L n d/\w.grownBy w' none
theorem xne{x:Nat->Int}{a b:List (Nat->Int)}:xnd (x::a) (x::b)=x::xnd a b:=by rw [xnd,if_pos rfl]
theorem xnh{x y:Nat->Int}{a b:List (Nat->Int)}(h:ltP x y):xnd (x::a) (y::b)=x::xnd a (y::b):=by rw [xnd,if_neg h.ne,if_pos h]
theorem xnf{x y:Nat->Int}{a b:List (Nat->Int)}(h:x≠y)(k:¬ltP x y):xnd (x::a) (y::b)=y::xnd (x::a) b:=by rw [xnd,if_neg h,if_neg k]
theorem xi1{w wr w1 w2:World}{v v':Value}{n:Nat}{d:Nat->Nat->Int}(hg:w.grownBy wr none)(ho:OwnV w.heap.size wr v n d)(h1:wr.grownBy w1 none)(h2:w1.grownBy w2 v.ownBlock):w.grownBy w2 none:=
 xja (xje hg h1) h2 (fun b hb=>(ho.lt b hb).1)
def Al(A:List Nat)(x x':Nat->Int):Prop:=∀f,x f=x' f\/∀n∈A,n%2=0->fOf n=f->¬x f=(vOf n:Int)/\¬x' f=(vOf n:Int)
theorem Al.symm{A:List Nat}{x x':Nat->Int}(h:Al A x x'):Al A x' x:=fun f=>(h f).imp Eq.symm (fun k n hn he hf=>⟨(k n hn he hf).2,(k n hn he hf).1⟩)
def Qr(x x' y y':Nat->Int):Prop:=∀f,y f=y' f\/(y f=x f/\y' f=x' f)
theorem Qr.symm{x x' y y':Nat->Int}(h:Qr x x' y y'):Qr x' x y' y:=fun f=>(h f).imp Eq.symm (fun k=>⟨k.2,k.1⟩)
theorem Qr.start(x x':Nat->Int):Qr x x' x x':=fun f=>.inr ⟨rfl,rfl⟩
def Bis(x x':Nat->Int)(R:(Nat->Int)->(Nat->Int)->Prop):Prop:=∀y y' z,Qr x x' y y'->R y z->∃z',R y' z'/\Qr x x' z z'
theorem Bis.id(x x':Nat->Int):Bis x x' (fun y z=>z=y):=fun y y' z hq h=>by
 subst h;exact ⟨y',rfl,hq⟩
theorem Bis.none(x x':Nat->Int):Bis x x' (fun _ _=>False):=fun y y' z _ h=>h.elim
theorem xlh{A:List Nat}{n:Nat}(hn:n<=1\/n∈A){x x':Nat->Int}(hA:Al A x x'):Bis x x' (leafD n):=by
 intro y y' z hq h;unfold leafD at h ⊢;by_cases h0:n=0
 ·rw [if_pos h0] at h;subst h;exact ⟨y',by rw [if_pos h0],hq⟩
 rw [if_neg h0] at h;by_cases h1:n=1
 ·rw [if_pos h1] at h;exact h.elim
 rw [if_neg h1] at h
 have hm:n∈A:=by
  rcases hn with hn|hn
  ·omega
  ·exact hn
 by_cases h2:n%2=0
 ·rw [if_pos h2] at h;obtain ⟨hv,rfl⟩:=h;refine ⟨y',?_,hq⟩;rw [if_neg h0,if_neg h1,if_pos h2];refine ⟨?_,rfl⟩;rcases hq (fOf n) with e|⟨e1,e2⟩
  ·rw [<-e];exact hv
  ·rcases hA (fOf n) with e|e
   ·rw [e2,<-e,<-e1];exact hv
   ·exact absurd (e1 ▸ hv) (e n hm h2 rfl).1
 ·rw [if_neg h2] at h;subst h;refine ⟨putF y' (fOf n) (vOf n:Int),by rw [if_neg h0,if_neg h1,if_neg h2],fun f=>?_⟩;unfold putF;by_cases e:f=fOf n
  ·simp [e]
  ·rw [if_neg e,if_neg e];exact hq f
theorem xmu{x x':Nat->Int}{R:(Nat->Int)->(Nat->Int)->Prop}(h:Bis x x' R):Bis x x' (Many R):=by
 intro y y' z hq hm;induction hm generalizing y' with
 | refl a=>exact ⟨y',.refl _,hq⟩
 | step h1 _ ih=>
  obtain ⟨u,hu,hqu⟩:=h _ y' _ hq h1;obtain ⟨z',hz,hqz⟩:=ih u hqu;exact ⟨z',.step hu hz,hqz⟩
theorem xc4(A:List Nat)(t:Code):(∀n∈xcc t,n∈A)->∀x x',Al A x x'->Bis x x' (den t).1/\Bis x x' (den t).2.1/\Bis x x' (den t).2.2:=by
 induction t with
 | exit n=>
  intro h x x' hA;refine ⟨xlh ?_ hA,Bis.none _ _,Bis.id _ _⟩;by_cases hn:n<=1
  ·exact .inl hn
  ·exact .inr (h n (by simp [xcc,hn]))
 | loop t ih=>exact fun h x x' hA=>⟨xmu (ih h x x' hA).1,Bis.none _ _,Bis.id _ _⟩
 | scope t ih=>
  intro h x x' hA;refine ⟨fun y y' z hq hd=>?_,Bis.none _ _,Bis.id _ _⟩;obtain ⟨h1,rfl⟩:=hd;refine ⟨y',⟨fun ⟨u,hu⟩=>h1 ?_,rfl⟩,hq⟩;obtain ⟨v,hv,_⟩:=(ih h x' x hA.symm).1 y' z u hq.symm hu;exact ⟨v,hv⟩
 | block k l ih=>
  intro h x x' hA;refine ⟨?_,Bis.none _ _,Bis.id _ _⟩;show Bis x x' (if k=0 then (den l).2.1 else (den l).2.2);split
  ·exact (ih h x x' hA).2.1
  ·exact (ih h x x' hA).2.2
 | seq a l iha ihl=>
  intro h x x' hA;have ha:=iha (fun n hn=>h n (List.mem_append.2 (.inl hn))) x x' hA;have hl:=ihl (fun n hn=>h n (List.mem_append.2 (.inr hn))) x x' hA;refine ⟨Bis.id _ _,fun y y' z hq hd=>?_,fun y y' z hq hd=>?_⟩
  ·rcases hd with hd|hd
   ·obtain ⟨u,hu,hq2⟩:=ha.1 y y' z hq hd;exact ⟨u,.inl hu,hq2⟩
   ·obtain ⟨u,hu,hq2⟩:=hl.2.1 y y' z hq hd;exact ⟨u,.inr hu,hq2⟩
  ·obtain ⟨v,h1,h2⟩:=hd;obtain ⟨v',hv,hq2⟩:=ha.1 y y' v hq h1;obtain ⟨u,hu,hq3⟩:=hl.2.2 v v' z hq2 h2;exact ⟨u,⟨v',hv,hu⟩,hq3⟩
 | _=>exact fun h x x' hA=>⟨Bis.id _ _,Bis.none _ _,Bis.id _ _⟩
def Prov(A:List Nat)(x z:Nat->Int):Prop:=∀f,z f=x f\/∃n∈A,fOf n=f/\z f=(vOf n:Int)
theorem Prov.trans{A:List Nat}{x y z:Nat->Int}(h:Prov A x y)(k:Prov A y z):Prov A x z:=fun f=>by
 rcases k f with e|e
 ·rw [e];exact h f
 ·exact .inr e
theorem Prov.refl(A:List Nat)(x:Nat->Int):Prov A x x:=fun f=>.inl rfl
theorem xss(A:List Nat)(t:Code):(∀n∈xcc t,n∈A)->(∀x z,(den t).1 x z->Prov A x z)/\(∀x z,(den t).2.1 x z->Prov A x z)/\(∀x z,(den t).2.2 x z->Prov A x z):=by
 induction t with
 | exit n=>
  intro h;refine ⟨fun x z hd=>?_,fun x z hd=>hd.elim,fun x z hd=>by cases hd;exact Prov.refl _ _⟩;have hd:leafD n x z:=hd;unfold leafD at hd;split at hd
  ·rw [hd];exact Prov.refl _ _
  ·split at hd
   ·exact hd.elim
   ·split at hd
    ·rw [hd.2];exact Prov.refl _ _
    ·rename_i h0 h1 h2;subst hd;intro f;unfold putF;by_cases e:f=fOf n
     ·right;exact ⟨n,h n (by simp [xcc];omega),e.symm,by rw [if_pos e]⟩
     ·left;rw [if_neg e]
 | loop t ih=>
  intro h;refine ⟨fun x z hd=>?_,fun x z hd=>hd.elim,fun x z hd=>by cases hd;exact Prov.refl _ _⟩
  have key:∀x z,Many (den t).1 x z->Prov A x z:=by
   intro x z hm;induction hm with
   | refl a=>exact Prov.refl _ _
   | step h1 _ ih2=>exact ((ih h).1 _ _ h1).trans ih2
  exact key x z hd
 | scope t ih=>exact fun h=>⟨fun x z hd=>(by rw [hd.2];exact Prov.refl _ _),fun x z hd=>hd.elim,fun x z hd=>by cases hd;exact Prov.refl _ _⟩
 | block k l ih=>
  intro h;refine ⟨fun x z hd=>?_,fun x z hd=>hd.elim,fun x z hd=>by cases hd;exact Prov.refl _ _⟩;have hd:(if k=0 then (den l).2.1 else (den l).2.2) x z:=hd;split at hd
  ·exact (ih h).2.1 x z hd
  ·exact (ih h).2.2 x z hd
 | seq a l iha ihl=>
  intro h;have ha:=iha (fun n hn=>h n (List.mem_append.2 (.inl hn)));have hl:=ihl (fun n hn=>h n (List.mem_append.2 (.inr hn)));refine ⟨fun x z hd=>(by cases hd;exact Prov.refl _ _),fun x z hd=>?_,fun x z hd=>?_⟩
  ·exact hd.elim (ha.1 x z) (hl.2.1 x z)
  ·obtain ⟨v,h1,h2⟩:=hd;exact (ha.1 x v h1).trans (hl.2.2 v z h2)
 | _=>exact fun h=>⟨fun x z hd=>(by cases hd;exact Prov.refl _ _),fun x z hd=>hd.elim,fun x z hd=>by cases hd;exact Prov.refl _ _⟩
def xaj(A:List Nat)(k x:Nat->Int):Prop:=∀f,x f=k f\/((∀n∈A,fOf n=f->¬k f=(vOf n:Int))/\∀n∈A,n%2=0->fOf n=f->¬x f=(vOf n:Int))
def actK(k z x:Nat->Int):Nat->Int:=fun f=>if z f=k f then x f else z f
theorem xbh{A:List Nat}{t:Code}(hA:∀n∈xcc t,n∈A){k x:Nat->Int}(h:xaj A k x)(z:Nat->Int):D t x z↔∃z',D t k z'/\z=actK k z' x:=by
 have hal:Al A x k:=fun f=>(h f).imp id (fun ⟨h1,h2⟩ n hn he hf=>⟨h2 n hn he hf,h1 n hn hf⟩)
 have key:∀z z',D t x z->Qr x k z z'->z=actK k z' x:=by
  intro z z' hz hq;funext f;unfold actK;by_cases e:z' f=k f
  ·rw [if_pos e];rcases hq f with e1|⟨e1,_⟩
   ·rcases h f with e2|⟨h1,_⟩
    ·rw [e1,e,e2]
    ·rcases (xss A t hA).1 x z hz f with e3|⟨n,hn,hf,hv⟩
     ·exact e3
     ·exact absurd ((e.symm.trans e1.symm).trans hv) (h1 n hn hf)
   ·exact e1
  ·rw [if_neg e];rcases hq f with e1|⟨_,e1⟩
   ·exact e1
   ·exact absurd e1 e
 constructor
 ·intro hz;obtain ⟨z',h1,hq⟩:=(xc4 A t hA x k hal).1 x k z (Qr.start x k) hz;exact ⟨z',h1,key z z' hz hq⟩
 ·rintro ⟨z',h1,rfl⟩;obtain ⟨z,h2,hq⟩:=(xc4 A t hA k x hal.symm).1 k x z' (Qr.start k x) h1;rw [<-key z z' h2 hq.symm];exact h2
open Go.RowKit Go.Weft Classical
def evry:Nat->Int:=fun i=>if i<6 then -1 else 0
noncomputable def xuj(T:Nat->List Int)(o:Nat->Int)(ac:(Nat->Int)->List (Nat->Int)):Nat->(Nat->Int)->List ((Nat->Int)×List (Nat->Int))
 | 0,k=>[(evry,ac k)]
 | n+1,k=>((T (5-n)).flatMap fun v=>if xuj T o ac n (putF k (5-n) v)=xuj T o ac n (putF k (5-n) (o (5-n))) then [] else (xuj T o ac n (putF k (5-n) v)).map fun r=>(putF r.1 (5-n) v,r.2))++xuj T o ac n (putF k (5-n) (o (5-n)))
section
variable{T:Nat->List Int}{o:Nat->Int}{ac:(Nat->Int)->List (Nat->Int)}
theorem xur:∀(n:Nat) (k:Nat->Int),n<=5->∀r∈xuj T o ac n k,(∀i,i<6-n->r.1 i=-1)/\(∀i,i<6->r.1 i=-1\/r.1 i∈T i)/\(∀i,6<=i->r.1 i=0)/\∃k',r.2=ac k'
 | 0,k,_,r,hr=>by
  rw [xuj,List.mem_singleton] at hr;subst hr;refine ⟨fun i hi=>?_,fun i hi=>.inl ?_,fun i hi=>?_,k,rfl⟩
  ·show evry i=-1;unfold evry;rw [if_pos hi]
  ·show evry i=-1;unfold evry;rw [if_pos hi]
  ·show evry i=0;unfold evry;rw [if_neg (by omega)]
 | n+1,k,hn,r,hr=>by
  rw [xuj,List.mem_append] at hr;rcases hr with hr|hr
  ·obtain ⟨v,hv,hr⟩:=List.mem_flatMap.1 hr;split at hr
   ·cases hr
   ·obtain ⟨q,hq,rfl⟩:=List.mem_map.1 hr;obtain ⟨h1,h2,h3,h4⟩:=xur n _ (by omega) q hq;refine ⟨fun i hi=>?_,fun i hi=>?_,fun i hi=>?_,h4⟩
    ·show putF q.1 (5-n) v i=-1;unfold putF;rw [if_neg (by omega)];exact h1 i (by omega)
    ·show putF q.1 (5-n) v i=-1\/putF q.1 (5-n) v i∈T i;unfold putF;by_cases e:i=5-n
     ·rw [if_pos e,e];exact .inr hv
     ·rw [if_neg e];exact h2 i hi
    ·show putF q.1 (5-n) v i=0;unfold putF;rw [if_neg (by omega)];exact h3 i hi
  ·obtain ⟨h1,h2,h3,h4⟩:=xur n _ (by omega) r hr;exact ⟨fun i hi=>h1 i (by omega),h2,h3,h4⟩
noncomputable def hitB(x:Nat->Int)(r:(Nat->Int)×List (Nat->Int)):Bool:=decide (xm4 r.1 x)
theorem xhd{α β:Type}{g:α->Option β}:∀{l:List α},(∀v∈l,g v=none)->l.findSome? g=none
 | [],_=>rfl
 | a::l,h=>by rw [List.findSome?_cons,h a (by simp)];exact xhd (fun v hv=>h v (by simp [hv]))
theorem xm6{m x:Nat->Int}{f:Nat}{v:Int}(hf1:1<=f)(hf:f<6)(hm:m f=-1)(hv:v ≠ -1):xm4 (putF m f v) x↔x f=v/\xm4 m x:=by
 constructor
 ·intro h;have h1:=h f hf1 hf;unfold putF at h1;rw [if_pos rfl] at h1;refine ⟨(h1.resolve_left hv).symm,fun i hi1 hi=>?_⟩;by_cases e:i=f
  ·subst e;exact .inl hm
  ·have:=h i hi1 hi;unfold putF at this;rw [if_neg e] at this;exact this
 ·rintro ⟨h1,h2⟩ i hi1 hi;unfold putF;by_cases e:i=f
  ·subst e;rw [if_pos rfl];exact .inr h1.symm
  ·rw [if_neg e];exact h2 i hi1 hi
theorem xhe{x:Nat->Int}{f:Nat}{v:Int}(hf1:1<=f)(hf:f<6)(hv:v ≠ -1){l:List ((Nat->Int)×List (Nat->Int))}(hl:∀r∈l,r.1 f=-1):
  (x f≠v->(l.map fun r=>(putF r.1 f v,r.2)).find? (hitB x)=none)/\(x f=v->(l.map fun r=>(putF r.1 f v,r.2)).find? (hitB x)=(l.find? (hitB x)).map fun r=>(putF r.1 f v,r.2)):=by
 constructor
 ·intro h;rw [List.find?_eq_none];intro q hq;obtain ⟨r,hr,rfl⟩:=List.mem_map.1 hq;unfold hitB;rw [decide_eq_true_eq];exact fun hm=>h ((xm6 hf1 hf (hl r hr) hv).1 hm).1
 ·intro h;induction l with
  | nil=>rfl
  | cons r l ih=>
   have hr:=hl r (by simp)
   have e:hitB x (putF r.1 f v,r.2)=hitB x r:=by
    unfold hitB;exact decide_eq_decide.2 ⟨fun hm=>((xm6 hf1 hf hr hv).1 hm).2,fun hm=>(xm6 hf1 hf hr hv).2 ⟨h,hm⟩⟩
   rw [List.map_cons,List.find?_cons,List.find?_cons,e];cases hitB x r with
   | true=>rfl
   | false=>exact ih (fun q hq=>hl q (by simp [hq]))
def St(A:List Nat)(f:Nat)(a b:Int):Prop:=b=a\/((∀n∈A,fOf n=f->¬a=(vOf n:Int))/\∀n∈A,n%2=0->fOf n=f->¬b=(vOf n:Int))
variable{A:List Nat}
theorem xuo(hT:∀f v,f<6->(v∈T f↔∃n∈A,n%2=0/\fOf n=f/\v=(vOf n:Int)))(ho:∀f,f<6->∀n∈A,fOf n=f->¬o f=(vOf n:Int))(x:Nat->Int):
  ∀(n:Nat) (k:Nat->Int),n<=5->(∀f,(f<6-n\/6<=f)->St A f (k f) (x f))->∃m k',(xuj T o ac n k).find? (hitB x)=some (m,ac k')/\xaj A k' x
 | 0,k,_,h=>by
  refine ⟨evry,k,?_,fun f=>?_⟩
  ·rw [xuj,List.find?_cons]
   have:hitB x (evry,ac k)=true:=by
    unfold hitB;rw [decide_eq_true_eq];intro i _ hi;left;show evry i=-1;unfold evry;rw [if_pos hi]
   rw [this]
  ·exact h f (by omega)
 | n+1,k,hn,h=>by
  have hTv:∀v∈T (5-n),v ≠ -1:=fun v hv e=>by
   obtain ⟨m,_,_,_,e2⟩:=(hT (5-n) v (by omega)).1 hv;omega
  have put:∀v,St A (5-n) v (x (5-n))->∀f,(f<6-n\/6<=f)->St A f (putF k (5-n) v f) (x f):=fun v hv f hf=>by
   unfold putF;by_cases e:f=5-n
   ·rw [if_pos e,e];exact hv
   ·rw [if_neg e];exact h f (by omega)
  have hop:=fun k=>xur (T:=T) (o:=o) (ac:=ac) n k (by omega)
  have blk:∀v,v ≠ -1->x (5-n)≠v->(if xuj T o ac n (putF k (5-n) v)=xuj T o ac n (putF k (5-n) (o (5-n))) then [] else (xuj T o ac n (putF k (5-n) v)).map fun r=>(putF r.1 (5-n) v,r.2)).find? (hitB x)=none:=fun v hv hx=>by
   split
   ·rfl
   ·exact (xhe (by omega) (by omega) hv (fun r hr=>(hop _ r hr).1 (5-n) (by omega))).1 hx
  rw [xuj,List.find?_append,List.find?_flatMap];by_cases hx:x (5-n)∈T (5-n)
  ·obtain ⟨m,k',h1,h2⟩:=xuo hT ho x n (putF k (5-n) (x (5-n))) (by omega) (put _ (.inl rfl));by_cases he:xuj T o ac n (putF k (5-n) (x (5-n)))=xuj T o ac n (putF k (5-n) (o (5-n)))
   ·rw [xhd (fun v hv=>?_),Option.none_or,<-he]
    ·exact ⟨m,k',h1,h2⟩
    ·by_cases e:x (5-n)=v
     ·rw [<-e,if_pos he];rfl
     ·exact blk v (hTv v hv) e
   ·have hb:=(xhe (x:=x) (f:=5-n) (v:=x (5-n)) (by omega) (by omega) (hTv _ hx) (fun r hr=>(hop (putF k (5-n) (x (5-n))) r hr).1 (5-n) (by omega))).2 rfl;rw [h1] at hb;refine ⟨putF m (5-n) (x (5-n)),k',?_,h2⟩
    have hg:(T (5-n)).findSome? (fun v=>(if xuj T o ac n (putF k (5-n) v)=xuj T o ac n (putF k (5-n) (o (5-n))) then [] else (xuj T o ac n (putF k (5-n) v)).map fun r=>(putF r.1 (5-n) v,r.2)).find? (hitB x))=some (putF m (5-n) (x (5-n)),ac k'):=by
     have h3:∀l:List Int,(∀v∈l,v ≠ -1)->x (5-n)∈l->l.findSome? (fun v=>(if xuj T o ac n (putF k (5-n) v)=xuj T o ac n (putF k (5-n) (o (5-n))) then [] else (xuj T o ac n (putF k (5-n) v)).map fun r=>(putF r.1 (5-n) v,r.2)).find? (hitB x))=some (putF m (5-n) (x (5-n)),ac k'):=by
      intro l;induction l with
      | nil=>intro _ hm;cases hm
      | cons a l ih=>
       intro hl hm;rw [List.findSome?_cons];by_cases e:x (5-n)=a
       ·rw [<-e,if_neg he,hb];rfl
       ·rw [blk a (hl a (by simp)) e];exact ih (fun v hv=>hl v (by simp [hv])) ((List.mem_cons.1 hm).resolve_left e)
     exact h3 _ hTv hx
    rw [hg];rfl
  ·rw [xhd (fun v hv=>blk v (hTv v hv) (fun e=>hx (by rw [e];exact hv))),Option.none_or];refine xuo hT ho x n _ (by omega) (put _ (.inr ⟨ho (5-n) (by omega),fun m hm he hf hv=>hx ?_⟩));exact (hT (5-n) _ (by omega)).2 ⟨m,hm,he,hf,hv⟩
def ownX(o m:Nat->Int):Nat->Int:=fun f=>if m f=-1 then o f else m f
theorem xqb{m:Nat->Int}{f:Nat}{v:Int}(hv:v ≠ -1):ownX o (putF m f v) f=v:=by
 unfold ownX putF;simp [hv]
theorem xqc{m:Nat->Int}{f i:Nat}{v:Int}(h:i≠f):ownX o (putF m f v) i=ownX o m i:=by
 unfold ownX putF;simp [h]
theorem xuu(hT1:∀f,f<6->∀v∈T f,v ≠ -1/\v≠o f)(hnd:∀f,f<6->(T f).Nodup):∀(n:Nat) (k:Nat->Int),n<=5->(xuj T o ac n k).Pairwise fun q r=>¬xm4 q.1 (ownX o r.1)
 | 0,k,_=>by rw [xuj];exact List.pairwise_singleton _ _
 | n+1,k,hn=>by
  have hop:=fun k=>xur (T:=T) (o:=o) (ac:=ac) n k (by omega)
  rw [xuj,List.pairwise_append];refine ⟨?_,xuu hT1 hnd n _ (by omega),fun q hq r hr hm=>?_⟩
  ·rw [List.pairwise_flatMap];refine ⟨fun v hv=>?_,?_⟩
   ·split
    ·exact List.Pairwise.nil
    ·rw [List.pairwise_map];refine List.Pairwise.imp_of_mem (fun {q r} hq hr hqr hm=>hqr ?_) (xuu hT1 hnd n _ (by omega));have hq1:=(hop _ q hq).1 (5-n) (by omega);have hm2:=((xm6 (by omega) (by omega) hq1 (hT1 _ (by omega) v hv).1).1 hm).2;intro i hi1 hi;by_cases e:i=5-n
     ·rw [e];exact .inl hq1
     ·have:=hm2 i hi1 hi;rw [xqc e] at this;exact this
   ·refine List.Pairwise.imp_of_mem (fun {u v} hu hv huv q hq r hr hm=>?_) (hnd (5-n) (by omega));split at hq
    ·cases hq
    ·split at hr
     ·cases hr
     ·obtain ⟨q0,hq0,rfl⟩:=List.mem_map.1 hq;obtain ⟨r0,hr0,rfl⟩:=List.mem_map.1 hr;have h1:=((xm6 (by omega) (by omega) ((hop _ q0 hq0).1 (5-n) (by omega)) (hT1 _ (by omega) u hu).1).1 hm).1;rw [xqb (hT1 _ (by omega) v hv).1] at h1;exact huv h1.symm
  ·obtain ⟨v,hv,hq⟩:=List.mem_flatMap.1 hq;split at hq
   ·cases hq
   ·obtain ⟨q0,hq0,rfl⟩:=List.mem_map.1 hq;have h1:=((xm6 (by omega) (by omega) ((hop _ q0 hq0).1 (5-n) (by omega)) (hT1 _ (by omega) v hv).1).1 hm).1;unfold ownX at h1;rw [if_pos ((hop _ r hr).1 (5-n) (by omega))] at h1;exact (hT1 _ (by omega) v hv).2 h1.symm
theorem xun(c:Nat->Nat)(hc:∀f,f<6->(T f).length<=c f):∀(n:Nat) (k:Nat->Int),n<=5->(xuj T o ac n k).length<=2 ^ ((List.range n).map fun i=>c (5-i)).sum
 | 0,k,_=>by rw [xuj];simp
 | n+1,k,hn=>by
  have ih:=fun k=>xun c hc n k (by omega)
  rw [xuj,List.length_append,List.length_flatMap,List.range_succ,List.map_append,List.sum_append]
  have h1:((T (5-n)).map fun v=>(if xuj T o ac n (putF k (5-n) v)=xuj T o ac n (putF k (5-n) (o (5-n))) then [] else (xuj T o ac n (putF k (5-n) v)).map fun r=>(putF r.1 (5-n) v,r.2)).length).sum<=(T (5-n)).length*2 ^ ((List.range n).map fun i=>c (5-i)).sum:=by
   generalize T (5-n)=l;induction l with
   | nil=>simp
   | cons v l ih2=>
    rw [List.map_cons,List.sum_cons,List.length_cons,Nat.add_mul,Nat.one_mul]
    have:(if xuj T o ac n (putF k (5-n) v)=xuj T o ac n (putF k (5-n) (o (5-n))) then [] else (xuj T o ac n (putF k (5-n) v)).map fun r=>(putF r.1 (5-n) v,r.2)).length<=2 ^ ((List.range n).map fun i=>c (5-i)).sum:=by
     split
     ·simp
     ·rw [List.length_map];exact ih _
    omega
  have h2:=ih (putF k (5-n) (o (5-n)));have h3:=hc (5-n) (by omega);have h4:c (5-n)+1<=2 ^ c (5-n):=Nat.lt_two_pow_self;simp only [List.map_cons,List.map_nil,List.sum_cons,List.sum_nil,Nat.add_zero];rw [Nat.pow_add];generalize 2 ^ ((List.range n).map fun i=>c (5-i)).sum=M at *;have h5:(T (5-n)).length*M<=c (5-n)*M:=Nat.mul_le_mul_right _ h3;have h6:(c (5-n)+1)*M<=2 ^ c (5-n)*M:=Nat.mul_le_mul_right _ h4;rw [Nat.add_mul,Nat.one_mul] at h6;rw [Nat.mul_comm M];omega
end
end Go.Proofs.YtlhkfafdioakeaaGreatDoor
