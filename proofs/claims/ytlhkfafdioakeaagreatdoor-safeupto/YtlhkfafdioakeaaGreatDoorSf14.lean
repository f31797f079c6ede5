/- Parts of the proof. -/
import Derived.Test.YtlhkfafdioakeaaGreatDoorSf03
import Derived.Test.YtlhkfafdioakeaaGreatDoorSf10
import Derived.Test.YtlhkfafdioakeaaGreatDoorSf11
import Derived.Test.YtlhkfafdioakeaaGreatDoorSf12
import Derived.Test.YtlhkfafdioakeaaGreatDoorSf13
namespace Go.Proofs.YtlhkfafdioakeaaGreatDoor
set_option maxRecDepth 100000
set_option maxHeartbeats 2000000
open Go.RowKit Go.Weft
set_option linter.unusedVariables false
set_option linter.unusedSimpArgs false
def putF(x:Nat->Int)(f:Nat)(v:Int):Nat->Int:=fun i=>if i=f then v else x i
inductive Many{α:Type}(R:α->α->Prop):α->α->Prop
 | refl (a:α):Many R a a
 | step {a b c:α}:R a b->Many R b c->Many R a c
theorem Many.one{α:Type}{R:α->α->Prop}{a b:α}(h:R a b):Many R a b:=.step h (.refl b)
theorem Many.trans{α:Type}{R:α->α->Prop}{a b c:α}(h:Many R a b)(k:Many R b c):Many R a c:=by
 induction h with
 | refl a=>exact k
 | step h1 _ ih=>exact .step h1 (ih k)
theorem Many.mono{α:Type}{R S:α->α->Prop}(h:∀a b,R a b->S a b){a b:α}(k:Many R a b):Many S a b:=by
 induction k with
 | refl a=>exact .refl a
 | step h1 _ ih=>exact .step (h _ _ h1) ih
theorem Many.flat{α:Type}{R:α->α->Prop}{a b:α}(h:Many (Many R) a b):Many R a b:=by
 induction h with
 | refl a=>exact .refl a
 | step h1 _ ih=>exact h1.trans ih
def leafD(n:Nat)(x y:Nat->Int):Prop:=
 if n=0 then y=x else if n=1 then False else if n%2=0 then x (fOf n)=(vOf n:Int)/\y=x else y=putF x (fOf n) (vOf n:Int)
def den:Code->((Nat->Int)->(Nat->Int)->Prop)×((Nat->Int)->(Nat->Int)->Prop)×((Nat->Int)->(Nat->Int)->Prop)
 | .exit n=>(leafD n,fun _ _=>False,fun x y=>y=x)
 | .loop t=>(Many (den t).1,fun _ _=>False,fun x y=>y=x)
 | .scope t=>(fun x y=>(¬∃z,(den t).1 x z)/\y=x,fun _ _=>False,fun x y=>y=x)
 | .block k l=>(if k=0 then (den l).2.1 else (den l).2.2,fun _ _=>False,fun x y=>y=x)
 | .seq a l=>(fun x y=>y=x,fun x y=>(den a).1 x y\/(den l).2.1 x y,fun x y=>∃z,(den a).1 x z/\(den l).2.2 z y)
 | _=>(fun x y=>y=x,fun _ _=>False,fun x y=>y=x)
def D(t:Code)(x y:Nat->Int):Prop:=(den t).1 x y
theorem xf3:∀(l:Code) (x y:Nat->Int),(den l).2.1 x y↔∃t,t∈elems l/\D t x y:=by
 intro l;induction l with
 | seq a b _ ih=>
  intro x y;simp only [den,elems,List.mem_cons,ih];constructor
  ·rintro (h|⟨t,h1,h2⟩)
   ·exact ⟨a,.inl rfl,h⟩
   ·exact ⟨t,.inr h1,h2⟩
  ·rintro ⟨t,rfl|h1,h2⟩
   ·exact .inl h2
   ·exact .inr ⟨t,h1,h2⟩
 | _=>intro x y;simp [den,elems]
def thru:List Code->(Nat->Int)->(Nat->Int)->Prop
 | [],x,y=>y=x
 | t::ts,x,y=>∃z,D t x z/\thru ts z y
theorem xf2:∀(l:Code) (x y:Nat->Int),(den l).2.2 x y↔thru (elems l) x y:=by
 intro l;induction l with
 | seq a b _ ih=>
  intro x y;simp only [den,elems,thru,ih];rfl
 | _=>intro x y;simp [den,elems,thru]
theorem D_sum(l:Code)(x y:Nat->Int):D (.block 0 l) x y↔∃t,t∈elems l/\D t x y:=by
 show (if (0:Nat)=0 then (den l).2.1 else (den l).2.2) x y↔_;rw [if_pos rfl];exact xf3 l x y
theorem D_seq(l:Code)(x y:Nat->Int):D (.block 1 l) x y↔thru (elems l) x y:=by
 show (if (1:Nat)=0 then (den l).2.1 else (den l).2.2) x y↔_;rw [if_neg (by decide)];exact xf2 l x y
theorem xzj:∀(a b:List Code) (x y:Nat->Int),thru (a++b) x y↔∃z,thru a x z/\thru b z y
 | [],b,x,y=>by simp [thru]
 | t::a,b,x,y=>by
  simp only [List.cons_append,thru,xzj a b];constructor
  ·rintro ⟨z,h1,u,h2,h3⟩;exact ⟨u,⟨z,h1,h2⟩,h3⟩
  ·rintro ⟨u,⟨z,h1,h2⟩,h3⟩;exact ⟨z,h1,u,h2,h3⟩
def doesP(d:Option Code)(x y:Nat->Int):Prop:=match d with
 | none=>y=x
 | some t=>D t x y
def stepP(L:List Plc)(a b:Nat×(Nat->Int)):Prop:=∃q,L[a.1]?=some q/\doesP q.1 a.2 b.2/\b.1∈q.2
def goN(L:List Plc):Nat->Nat×(Nat->Int)->Nat×(Nat->Int)->Prop
 | 0,a,b=>b=a
 | n+1,a,b=>∃c,stepP L a c/\goN L n c b
theorem xmv{L:List Plc}{a b:Nat×(Nat->Int)}(h:Many (stepP L) a b):∃n,goN L n a b:=by
 induction h with
 | refl a=>exact ⟨0,rfl⟩
 | step h1 _ ih=>obtain ⟨n,hn⟩:=ih;exact ⟨n+1,_,h1,hn⟩
structure Laid(L:List Plc)(lo hi s nx:Nat)(R:(Nat->Int)->(Nat->Int)->Prop):Prop where
 there:∀x y,R x y->Many (stepP L) (s,x) (nx,y)
 back:∀n x p z,goN L n (s,x) (p,z)->(p<lo\/hi<=p)->∃m y,m<=n/\R x y/\goN L m (nx,y) (p,z)
theorem Laid.id(L:List Plc)(lo hi s:Nat):Laid L lo hi s s (fun x y=>y=x):=
 ⟨fun x y h=>by cases h;exact .refl _,fun n x p z h _=>⟨n,x,Nat.le_refl _,rfl,h⟩⟩
theorem Laid.wider{L:List Plc}{lo hi lo' hi' s nx:Nat}{R:(Nat->Int)->(Nat->Int)->Prop}(h:Laid L lo hi s nx R)(h1:lo'<=lo)(h2:hi<=hi'):Laid L lo' hi' s nx R:=
 ⟨h.there,fun n x p z hg hp=>h.back n x p z hg (by omega)⟩
theorem Laid.cong{L:List Plc}{lo hi s nx:Nat}{R S:(Nat->Int)->(Nat->Int)->Prop}(h:Laid L lo hi s nx R)(he:∀x y,R x y↔S x y):Laid L lo hi s nx S:=
 ⟨fun x y hs=>h.there x y ((he x y).2 hs),fun n x p z hg hp=>by
  obtain ⟨m,y,h1,h2,h3⟩:=h.back n x p z hg hp;exact ⟨m,y,h1,(he x y).1 h2,h3⟩⟩
theorem Laid.comp{L:List Plc}{lo hi s m nx:Nat}{R S:(Nat->Int)->(Nat->Int)->Prop}(h:Laid L lo hi s m R)(k:Laid L lo hi m nx S):Laid L lo hi s nx (fun x y=>∃z,R x z/\S z y):=
 ⟨fun x y ⟨z,h1,h2⟩=>(h.there x z h1).trans (k.there z y h2),fun n x p z hg hp=>by
  obtain ⟨n1,y,h1,h2,h3⟩:=h.back n x p z hg hp;obtain ⟨n2,u,k1,k2,k3⟩:=k.back n1 y p z h3 hp;exact ⟨n2,u,by omega,⟨y,h2,k2⟩,k3⟩⟩
theorem Laid.place{L:List Plc}{s nx:Nat}{d:Option Code}(h:L[s]?=some (d,[nx])):Laid L s (s+1) s nx (doesP d):=
 ⟨fun x y hd=>.one ⟨_,h,hd,by simp⟩,fun n x p z hg hp=>by
  cases n with
  | zero=>cases hg;omega
  | succ n=>
   obtain ⟨⟨c1,c2⟩,⟨q,hq,hd,hm⟩,h2⟩:=hg;rw [h] at hq;cases hq;simp at hm;subst hm;exact ⟨n,c2,by omega,hd,h2⟩⟩
theorem Laid.dead{L:List Plc}{s nx:Nat}{d:Option Code}(h:L[s]?=some (d,[])):Laid L s (s+1) s nx (fun _ _=>False):=
 ⟨fun x y hd=>hd.elim,fun n x p z hg hp=>by
  cases n with
  | zero=>cases hg;omega
  | succ n=>
   obtain ⟨⟨c1,c2⟩,⟨q,hq,hd,hm⟩,h2⟩:=hg;rw [h] at hq;cases hq;simp at hm⟩
theorem Laid.fork{L:List Plc}{lo hi s nx:Nat}{ss:List Nat}{R:(Nat->Int)->(Nat->Int)->Prop}(h:L[s]?=some (none,ss))(hs:lo<=s/\s<hi)(h1:∀x y,R x y->∃i,i∈ss/\Many (stepP L) (i,x) (nx,y))
  (h2:∀i,i∈ss->∀n x p z,goN L n (i,x) (p,z)->(p<lo\/hi<=p)->∃m y,m<=n/\R x y/\goN L m (nx,y) (p,z)):Laid L lo hi s nx R:=
 ⟨fun x y hr=>by
  obtain ⟨i,him,hm⟩:=h1 x y hr;exact .step (b:=(i,x)) ⟨_,h,rfl,him⟩ hm,fun n x p z hg hp=>by
  cases n with
  | zero=>cases hg;omega
  | succ n=>
   obtain ⟨⟨c1,c2⟩,⟨q,hq,hd,hm⟩,h3⟩:=hg;rw [h] at hq;cases hq;cases hd;obtain ⟨m,y,k1,k2,k3⟩:=h2 c1 hm n x p z h3 hp;exact ⟨m,y,by omega,k2,k3⟩⟩
theorem Laid.star{L:List Plc}{lo hi f s nx:Nat}{R:(Nat->Int)->(Nat->Int)->Prop}(h:L[f]?=some (none,[nx,s]))(hf:lo<=f/\f<hi)(k:Laid L (f+1) hi s f R):Laid L lo hi f nx (Many R):=by
 have one:∀x,stepP L (f,x) (nx,x):=fun x=>⟨_,h,rfl,by simp⟩
 have two:∀x,stepP L (f,x) (s,x):=fun x=>⟨_,h,rfl,by simp⟩
 refine ⟨fun x y hr=>?_,?_⟩
 ·induction hr with
  | refl a=>exact .one (one a)
  | step h1 _ ih=>exact (Many.step (two _) (k.there _ _ h1)).trans ih
 ·intro n;induction n using Nat.strongRecOn with
  | ind n ih=>
   intro x p z hg hp;cases n with
   | zero=>cases hg;omega
   | succ n=>
    obtain ⟨⟨c1,c2⟩,⟨q,hq,hd,hm⟩,h3⟩:=hg;rw [h] at hq;cases hq;cases hd;simp at hm;rcases hm with rfl|rfl
    ·exact ⟨n,x,by omega,.refl x,h3⟩
    ·obtain ⟨m,y,k1,k2,k3⟩:=k.back n x p z h3 (by omega);obtain ⟨m2,u,j1,j2,j3⟩:=ih m (by omega) y p z k3 hp;exact ⟨m2,u,by omega,.step k2 j2,j3⟩
def Has(L P:List Plc)(lo:Nat):Prop:=∀j,lo<=j->j<P.length->L[j]?=P[j]?
theorem Has.less{L P Q:List Plc}{lo:Nat}(h:Has L Q lo)(hk:∀j,j<P.length->Q[j]?=P[j]?)(hl:P.length<=Q.length):Has L P lo:=fun j h1 h2=>(h j h1 (by omega)).trans (hk j h2)
theorem Has.from{L P:List Plc}{lo lo':Nat}(h:Has L P lo)(hl:lo<=lo'):Has L P lo':=fun j h1 h2=>h j (by omega) h2
theorem xk4:∀(t:Code) (nx:Nat) (L0 L:List Plc),
  (Has L ((lay t).1 nx L0).2 L0.length->Laid L L0.length ((lay t).1 nx L0).2.length ((lay t).1 nx L0).1 nx (den t).1)/\
  (Has L ((lay t).2.1 nx L0).2 L0.length->(∀x y,(den t).2.1 x y->∃i,i∈((lay t).2.1 nx L0).1/\Many (stepP L) (i,x) (nx,y))/\(∀i,i∈((lay t).2.1 nx L0).1->∀n x p z,goN L n (i,x) (p,z)->(p<L0.length\/((lay t).2.1 nx L0).2.length<=p)->∃m y,m<=n/\(den t).2.1 x y/\goN L m (nx,y) (p,z)))/\
  (Has L ((lay t).2.2 nx L0).2 L0.length->Laid L L0.length ((lay t).2.2 nx L0).2.length ((lay t).2.2 nx L0).1 nx (den t).2.2):=by
 intro t;have triv:∀(nx:Nat) (L0 L:List Plc),(∀x y:Nat->Int,False->∃i,i∈([]:List Nat)/\Many (stepP L) (i,x) (nx,y))/\(∀i,i∈([]:List Nat)->∀n (x:Nat->Int) p z,goN L n (i,x) (p,z)->(p<L0.length\/L0.length<=p)->∃m y,m<=n/\False/\goN L m (nx,y) (p,z)):=fun nx L0 L=>⟨fun x y h=>h.elim,fun i hi=>by cases hi⟩
 induction t with
 | exit m=>
  intro nx L0 L;refine ⟨fun h=>?_,fun _=>triv nx L0 L,fun _=>Laid.id _ _ _ _⟩;have e:(lay (.exit m)).1 nx L0=if m=0 then (nx,L0) else if m=1 then (L0.length,L0++[(none,[])]) else (L0.length,L0++[(some (.exit m),[nx])]):=rfl
  rw [e] at h ⊢;by_cases h0:m=0
  ·rw [if_pos h0];refine (Laid.id L L0.length L0.length nx).cong (fun x y=>?_);show _↔leafD m x y;unfold leafD;rw [if_pos h0]
  rw [if_neg h0] at h ⊢;by_cases h1:m=1
  ·rw [if_pos h1] at h ⊢;have hp:L[L0.length]?=some (none,[]):=by rw [h L0.length (Nat.le_refl _) (by simp)];simp
   have:=Laid.dead (nx:=nx) hp;simp only [List.length_append,List.length_singleton];refine this.cong (fun x y=>?_);show _↔leafD m x y;unfold leafD;rw [if_neg h0,if_pos h1]
  ·rw [if_neg h1] at h ⊢;have hp:L[L0.length]?=some (some (.exit m),[nx]):=by rw [h L0.length (Nat.le_refl _) (by simp)];simp
   simp only [List.length_append,List.length_singleton];exact Laid.place hp
 | scope t ih=>
  intro nx L0 L;refine ⟨fun h=>?_,fun _=>triv nx L0 L,fun _=>Laid.id _ _ _ _⟩;have e:(lay (.scope t)).1 nx L0=(L0.length,L0++[(some (.scope t),[nx])]):=rfl;rw [e] at h ⊢;have hp:L[L0.length]?=some (some (.scope t),[nx]):=by rw [h L0.length (Nat.le_refl _) (by simp)];simp
  simp only [List.length_append,List.length_singleton];exact Laid.place hp
 | loop t ih=>
  intro nx L0 L;refine ⟨fun h=>?_,fun _=>triv nx L0 L,fun _=>Laid.id _ _ _ _⟩;by_cases hl:xj3 t=true
  ·rw [xk6 hl] at h ⊢;refine ((ih nx L0 L).1 h).cong (fun x y=>?_);cases t with
   | loop t2=>exact ⟨fun h=>.one h,fun h=>h.flat⟩
   | _=>cases hl
  ·have hl':xj3 t=false:=by simpa using hl
   rw [xk7 hl'] at h ⊢;have hlen:=(xk5 t L0.length (L0++[(none,[])])).1;simp only [List.length_append,List.length_singleton] at hlen
   have hf:L[L0.length]?=some (none,[nx,((lay t).1 L0.length (L0++[(none,[])])).1]):=by
    rw [h L0.length (Nat.le_refl _) (by simp;omega)];show (((lay t).1 L0.length (L0++[(none,[])])).2.set L0.length _)[L0.length]?=_;rw [List.getElem?_set_self (by omega)]
   have hin:=(ih L0.length (L0++[(none,[])]) L).1 (fun j h1 h2=>by
    simp only [List.length_append,List.length_singleton] at h1;rw [h j (by omega) (by simpa using h2)];exact List.getElem?_set_ne (by omega))
   simp only [List.length_append,List.length_singleton] at hin;simp only [List.length_set];exact Laid.star hf ⟨Nat.le_refl _,by omega⟩ hin
 | block k l ih=>
  intro nx L0 L;refine ⟨fun h=>?_,fun _=>triv nx L0 L,fun _=>Laid.id _ _ _ _⟩;have hd:(den (.block k l)).1=if k=0 then (den l).2.1 else (den l).2.2:=rfl
  rw [hd];by_cases hk:k=0
  ·have e:(lay (.block k l)).1 nx L0=(((lay l).2.1 nx L0).2.length,((lay l).2.1 nx L0).2++[(none,((lay l).2.1 nx L0).1)]):=by simp only [lay,if_pos hk]
   rw [e] at h ⊢;rw [if_pos hk];have hlen:=(xk5 l nx L0).2.1;have hp:L[((lay l).2.1 nx L0).2.length]?=some (none,((lay l).2.1 nx L0).1):=by rw [h _ hlen.1 (by simp)];simp
   have hin:=(ih nx L0 L).2.1 (fun j h1 h2=>by rw [h j h1 (by simp;omega)];exact List.getElem?_append_left h2);simp only [List.length_append,List.length_singleton];exact Laid.fork hp ⟨hlen.1,by omega⟩ hin.1 (fun i hi n x p z hg hq=>hin.2 i hi n x p z hg (by omega))
  ·have e:(lay (.block k l)).1 nx L0=(lay l).2.2 nx L0:=by simp only [lay,if_neg hk]
   rw [e] at h ⊢;rw [if_neg hk];exact (ih nx L0 L).2.2 h
 | seq a l iha ihl=>
  intro nx L0 L;refine ⟨fun _=>Laid.id _ _ _ _,fun h=>?_,fun h=>?_⟩
  ·have e:(lay (.seq a l)).2.1 nx L0=(((lay a).1 nx L0).1::((lay l).2.1 nx ((lay a).1 nx L0).2).1,((lay l).2.1 nx ((lay a).1 nx L0).2).2):=rfl;rw [e] at h ⊢;have h1:=(xk5 a nx L0).1;have h2:=(xk5 l nx ((lay a).1 nx L0).2).2.1;have ka:=(iha nx L0 L).1 (h.less (fun j hj=>(xk3 l nx ((lay a).1 nx L0).2).2.1 j hj) h2.1);have kl:=(ihl nx ((lay a).1 nx L0).2 L).2.1 (h.from h1.1);refine ⟨fun x y hr=>?_,fun i hi n x p z hg hp=>?_⟩
   ·rcases (show (den a).1 x y\/(den l).2.1 x y from hr) with hr|hr
    ·exact ⟨_,by simp,ka.there x y hr⟩
    ·obtain ⟨i,i1,i2⟩:=kl.1 x y hr;exact ⟨i,by simp [i1],i2⟩
   ·dsimp only at hp;rcases List.mem_cons.1 hi with rfl|hi
    ·obtain ⟨m,y,m1,m2,m3⟩:=ka.back n x p z hg (by omega);exact ⟨m,y,m1,.inl m2,m3⟩
    ·obtain ⟨m,y,m1,m2,m3⟩:=kl.2 i hi n x p z hg (by omega);exact ⟨m,y,m1,.inr m2,m3⟩
  ·have e:(lay (.seq a l)).2.2 nx L0=(lay a).1 ((lay l).2.2 nx L0).1 ((lay l).2.2 nx L0).2:=rfl;rw [e] at h ⊢;have h1:=(xk5 l nx L0).2.2;have h2:=(xk5 a ((lay l).2.2 nx L0).1 ((lay l).2.2 nx L0).2).1;have kl:=(ihl nx L0 L).2.2 (h.less (fun j hj=>(xk3 a ((lay l).2.2 nx L0).1 ((lay l).2.2 nx L0).2).1 j hj) h2.1);have ka:=(iha ((lay l).2.2 nx L0).1 ((lay l).2.2 nx L0).2 L).1 (h.from h1.1);exact (ka.wider h1.1 (Nat.le_refl _)).comp (kl.wider (Nat.le_refl _) h2.1)
 | _=>
  intro nx L0 L;exact ⟨fun _=>Laid.id _ _ _ _,fun _=>triv nx L0 L,fun _=>Laid.id _ _ _ _⟩
theorem xh5(t:Code)(x z:Nat->Int):Many (stepP (xh4 t).2) ((xh4 t).1,x) (0,z)↔D t x z:=by
 have h:=(xk4 t 0 [(none,[])] (xh4 t).2).1 (fun j _ _=>rfl);have h0:(xh4 t).2[0]?=some (none,[]):=(xk3 t 0 [(none,[])]).1 0 (by simp);constructor
 ·intro hm;obtain ⟨n,hn⟩:=xmv hm;obtain ⟨m,y,_,h2,h3⟩:=h.back n x 0 z hn (.inl (by simp));cases m with
  | zero=>cases h3;exact h2
  | succ m=>
   obtain ⟨c,⟨q,hq,_,hm⟩,_⟩:=h3;rw [h0] at hq;cases hq;cases hm
 ·exact h.there x z
theorem xgf:∀l:List Code,elems (chain l)=l
 | []=>rfl
 | t::l=>by show t::elems (chain l)=_;rw [xgf l]
def denL(k:Nat)(l:List Code)(x y:Nat->Int):Prop:=if k=0 then ∃t,t∈l/\D t x y else thru l x y
theorem xab(k:Nat)(l:Code)(x y:Nat->Int):D (.block k l) x y↔denL k (elems l) x y:=by
 unfold denL;show (if k=0 then (den l).2.1 else (den l).2.2) x y↔_;by_cases hk:k=0
 ·rw [if_pos hk,if_pos hk];exact xf3 l x y
 ·rw [if_neg hk,if_neg hk];exact xf2 l x y
theorem xfy(k:Nat)(t:Code)(x y:Nat->Int):denL k [t] x y↔D t x y:=by
 unfold denL;split
 ·simp
 ·simp only [thru];constructor
  ·rintro ⟨z,h,rfl⟩;exact h
  ·intro h;exact ⟨y,h,rfl⟩
theorem xfu(k:Nat)(a b:List Code)(x y:Nat->Int):denL k (a++b) x y↔if k=0 then denL k a x y\/denL k b x y else ∃z,denL k a x z/\denL k b z y:=by
 unfold denL;by_cases hk:k=0
 ·simp only [if_pos hk,List.mem_append];constructor
  ·rintro ⟨t,h|h,h2⟩
   ·exact .inl ⟨t,h,h2⟩
   ·exact .inr ⟨t,h,h2⟩
  ·rintro (⟨t,h,h2⟩|⟨t,h,h2⟩)
   ·exact ⟨t,.inl h,h2⟩
   ·exact ⟨t,.inr h,h2⟩
 ·simp only [if_neg hk];exact xzj a b x y
theorem xfw(k:Nat)(t:Code)(x y:Nat->Int):denL k (flatE k t) x y↔D t x y:=by
 unfold flatE;split
 ·rename_i k' l;by_cases hk:k'=k
  ·subst hk;rw [if_pos rfl];exact (xab k' l x y).symm
  ·rw [if_neg hk];exact xfy k _ x y
 ·exact xfy k _ x y
theorem xfx(k:Nat)(x y:Nat->Int):denL k [] x y↔if k=0 then False else y=x:=by
 unfold denL;by_cases hk:k=0
 ·simp [hk]
 ·simp [hk,thru]
theorem xfv(k:Nat):∀(l:List Code) (x y:Nat->Int),denL k (l.flatMap (flatE k)) x y↔denL k l x y
 | [],x,y=>Iff.rfl
 | t::l,x,y=>by
  rw [List.flatMap_cons,xfu,show t::l=[t]++l from rfl,xfu];by_cases hk:k=0
  ·simp only [if_pos hk,xfw,xfy,xfv k l]
  ·simp only [if_neg hk,xfw,xfy,xfv k l]
theorem xfz(k:Nat)(l:List Code)(x y:Nat->Int):D (rjoin k l) x y↔denL k l x y:=by
 unfold rjoin;split
 ·exact (xfy k _ x y).symm
 ·rw [xab,xgf,xfv]
theorem xhz:∀t:Code,((wfC t).1=true->∀x y,D (flatP t).1 x y↔D t x y)/\((wfC t).2=true->∀k x y,denL k (flatP t).2 x y↔denL k (elems t) x y):=by
 intro t;induction t with
 | exit n=>exact ⟨fun _ x y=>Iff.rfl,fun h=>by cases h⟩
 | skip=>exact ⟨fun h=>(by cases h),fun _ k x y=>Iff.rfl⟩
 | loop t ih=>
  refine ⟨fun h x y=>?_,fun h=>by cases h⟩;have hh:=ih.1 h;exact ⟨Many.mono (fun a b=>(hh a b).1),Many.mono (fun a b=>(hh a b).2)⟩
 | scope t ih=>
  refine ⟨fun h x y=>?_,fun h=>by cases h⟩;have hh:=ih.1 h;show ((¬∃z,D (flatP t).1 x z)/\y=x)↔((¬∃z,D t x z)/\y=x);simp only [hh]
 | block k l ih=>
  refine ⟨fun h x y=>?_,fun h=>by cases h⟩;show D (rjoin k (flatP l).2) x y↔_;rw [xfz,xab];exact ih.2 h k x y
 | seq a b iha ihb=>
  refine ⟨fun h=>(by cases h),fun h k x y=>?_⟩;have h':((wfC a).1&&(wfC b).2)=true:=h;rw [Bool.and_eq_true] at h';show denL k ([(flatP a).1]++(flatP b).2) x y↔denL k ([a]++elems b) x y;rw [xfu,xfu];by_cases hk:k=0
  ·simp only [if_pos hk,xfy,iha.1 h'.1,ihb.2 h'.2 k]
  ·simp only [if_neg hk,xfy,iha.1 h'.1,ihb.2 h'.2 k]
 | _=>exact ⟨fun h=>(by cases h),fun h=>by cases h⟩
theorem xzi:∀t:Code,((wfC t).1=true->isT t=true->∀x y,D t x y->y=x)/\((wfC t).2=true->isT t=true->∀k x y,denL k (elems t) x y->y=x):=by
 intro t;induction t with
 | exit n=>
  refine ⟨fun _ h x y hd=>?_,fun h=>by cases h⟩;have hd':leafD n x y:=hd;unfold leafD at hd';simp only [isT,Bool.or_eq_true,decide_eq_true_eq,beq_iff_eq] at h;split at hd'
  ·exact hd'
  ·split at hd'
   ·exact hd'.elim
   ·rw [if_pos (by omega)] at hd';exact hd'.2
 | skip=>
  refine ⟨fun h=>(by cases h),fun _ _ k x y hd=>?_⟩;have:=(xfx k x y).1 hd;split at this
  ·exact this.elim
  ·exact this
 | loop t ih=>exact ⟨fun _ h=>(by cases h),fun h=>by cases h⟩
 | scope t ih=>exact ⟨fun _ _ x y hd=>hd.2,fun h=>by cases h⟩
 | block k l ih=>exact ⟨fun h1 h2 x y hd=>ih.2 h1 h2 k x y ((xab k l x y).1 hd),fun h=>by cases h⟩
 | seq a b iha ihb=>
  refine ⟨fun h=>(by cases h),fun h hT k x y hd=>?_⟩;have h':((wfC a).1&&(wfC b).2)=true:=h;have hT':(isT a&&isT b)=true:=hT;rw [Bool.and_eq_true] at h' hT';have hd':denL k ([a]++elems b) x y:=hd;rw [xfu] at hd';by_cases hk:k=0
  ·rw [if_pos hk] at hd';rcases hd' with h1|h1
   ·exact iha.1 h'.1 hT'.1 x y ((xfy k a x y).1 h1)
   ·exact ihb.2 h'.2 hT'.2 k x y h1
  ·rw [if_neg hk] at hd';obtain ⟨z,h1,h2⟩:=hd';have e1:=iha.1 h'.1 hT'.1 x z ((xfy k a x z).1 h1);have e2:=ihb.2 h'.2 hT'.2 k z y h2;rw [e2,e1]
 | _=>exact ⟨fun h=>(by cases h),fun h=>by cases h⟩
structure SetOf(l:List (Nat->Int))(P:(Nat->Int)->Prop):Prop where
 srt:Srt l
 nm:∀x∈l,Nm x
 mem:∀x,x∈l↔P x
theorem SetOf.one{l m:List (Nat->Int)}{P:(Nat->Int)->Prop}(h:SetOf l P)(k:SetOf m P):l=m:=xw2 h.srt k.srt (fun x=>(h.mem x).trans (k.mem x).symm)
theorem SetOf.cong{l:List (Nat->Int)}{P Q:(Nat->Int)->Prop}(h:SetOf l P)(he:∀x,P x↔Q x):SetOf l Q:=⟨h.srt,h.nm,fun x=>(h.mem x).trans (he x)⟩
theorem Srt.get{l:List (Nat->Int)}(h:Srt l){i j:Nat}(hij:i<j)(hj:j<l.length):ltP (l[i]'(by omega)) l[j]:=List.pairwise_iff_getElem.1 h i j (by omega) hj hij
open Go.RowKit Go.Weft Classical
theorem ltP.ne{x y:Nat->Int}(h:ltP x y):x≠y:=fun e=>by subst e;exact ltP.irrefl x h
noncomputable def xnd:List (Nat->Int)->List (Nat->Int)->List (Nat->Int)
 | [],b=>b
 | x::a,[]=>x::a
 | x::a,y::b=>if x=y then x::xnd a b else if ltP x y then x::xnd a (y::b) else y::xnd (x::a) b
 termination_by a b=>a.length+b.length
 decreasing_by all_goals (simp only [List.length_cons];omega)
theorem xnj(a:List (Nat->Int)):xnd a []=a:=by cases a<;>simp [xnd]
theorem xol(b:List (Nat->Int)):xnd [] b=b:=by simp [xnd]
theorem xni:∀(n:Nat) (a b:List (Nat->Int)),a.length+b.length<=n->∀x,x∈xnd a b↔x∈a\/x∈b:=by
 intro n;induction n with
 | zero=>
  intro a b hn x;have h1:a=[]:=List.eq_nil_of_length_eq_zero (by omega);have h2:b=[]:=List.eq_nil_of_length_eq_zero (by omega);subst h1;subst h2;simp [xol]
 | succ n ih=>
  intro a b hn z;cases a with
  | nil=>simp [xol]
  | cons x a=>
   cases b with
   | nil=>simp [xnj]
   | cons y b=>
    simp only [List.length_cons] at hn;rw [xnd];split
    ·rename_i e;subst e;rw [List.mem_cons,ih a b (by omega)];simp only [List.mem_cons];constructor
     ·rintro (h|h|h)
      ·exact .inl (.inl h)
      ·exact .inl (.inr h)
      ·exact .inr (.inr h)
     ·rintro ((h|h)|(h|h))
      ·exact .inl h
      ·exact .inr (.inl h)
      ·exact .inl h
      ·exact .inr (.inr h)
    ·split
     ·rw [List.mem_cons,ih a (y::b) (by simp only [List.length_cons];omega)];simp only [List.mem_cons];constructor
      ·rintro (h|h|h)
       ·exact .inl (.inl h)
       ·exact .inl (.inr h)
       ·exact .inr h
      ·rintro ((h|h)|h)
       ·exact .inl h
       ·exact .inr (.inl h)
       ·exact .inr (.inr h)
     ·rw [List.mem_cons,ih (x::a) b (by simp only [List.length_cons];omega)];simp only [List.mem_cons];constructor
      ·rintro (h|h|h)
       ·exact .inr (.inl h)
       ·exact .inl h
       ·exact .inr (.inr h)
      ·rintro (h|(h|h))
       ·exact .inr (.inl h)
       ·exact .inl h
       ·exact .inr (.inr h)
theorem xnk:∀(n:Nat) (a b:List (Nat->Int)),a.length+b.length<=n->Srt a->Srt b->(∀x∈a,Nm x)->(∀x∈b,Nm x)->Srt (xnd a b):=by
 intro n;induction n with
 | zero=>
  intro a b hn ha hb _ _;have h1:a=[]:=List.eq_nil_of_length_eq_zero (by omega);subst h1;rw [xol];exact hb
 | succ n ih=>
  intro a b hn ha hb na nb;cases a with
  | nil=>rw [xol];exact hb
  | cons x a=>
   cases b with
   | nil=>rw [xnj];exact ha
   | cons y b=>
    simp only [List.length_cons] at hn;have ha':=List.pairwise_cons.1 ha;have hb':=List.pairwise_cons.1 hb;have nx:=na x (by simp);have ny:=nb y (by simp);rw [xnd];split
    ·rename_i e;subst e;refine List.pairwise_cons.2 ⟨fun z hz=>?_,ih a b (by omega) ha'.2 hb'.2 (fun z hz=>na z (by simp [hz])) (fun z hz=>nb z (by simp [hz]))⟩;rcases (xni _ a b (Nat.le_refl _) z).1 hz with h|h
     ·exact ha'.1 z h
     ·exact hb'.1 z h
    ·rename_i hne;split
     ·rename_i hlt;refine List.pairwise_cons.2 ⟨fun z hz=>?_,ih a (y::b) (by simp only [List.length_cons];omega) ha'.2 hb (fun z hz=>na z (by simp [hz])) nb⟩;rcases (xni _ a (y::b) (Nat.le_refl _) z).1 hz with h|h
      ·exact ha'.1 z h
      ·rcases List.mem_cons.1 h with rfl|h
       ·exact hlt
       ·exact hlt.trans (hb'.1 z h)
     ·rename_i hnl
      have hyx:ltP y x:=by
       rcases ltP.total x y with h|h|h
       ·exact absurd h hnl
       ·exact h
       ·exact absurd (nx.ext ny h) hne
      refine List.pairwise_cons.2 ⟨fun z hz=>?_,ih (x::a) b (by simp only [List.length_cons];omega) ha hb'.2 na (fun z hz=>nb z (by simp [hz]))⟩;rcases (xni _ (x::a) b (Nat.le_refl _) z).1 hz with h|h
      ·rcases List.mem_cons.1 h with rfl|h
       ·exact hyx
       ·exact hyx.trans (ha'.1 z h)
      ·exact hb'.1 z h
def Rt(x:Nat->Int):Prop:=Nm x/\∀i,i<6->0<=x i/\x i<32
def numP(x:Nat->Int):Int:=x 0+32*(x 1+32*(x 2+32*(x 3+32*(x 4+32*x 5))))
theorem xpc{x y:Nat->Int}(hx:Rt x)(hy:Rt y)(h:numP x=numP y):x=y:=by
 have x0:=hx.2 0 (by omega);have x1:=hx.2 1 (by omega);have x2:=hx.2 2 (by omega);have x3:=hx.2 3 (by omega);have x4:=hx.2 4 (by omega);have x5:=hx.2 5 (by omega);have y0:=hy.2 0 (by omega);have y1:=hy.2 1 (by omega);have y2:=hy.2 2 (by omega);have y3:=hy.2 3 (by omega);have y4:=hy.2 4 (by omega);have y5:=hy.2 5 (by omega);unfold numP at h;refine hx.1.ext hy.1 (fun t ht=>?_);rcases (show t=0\/t=1\/t=2\/t=3\/t=4\/t=5 by omega) with rfl|rfl|rfl|rfl|rfl|rfl<;>omega
theorem xpd{x:Nat->Int}(hx:Rt x):0<=numP x/\numP x<1073741824:=by
 have x0:=hx.2 0 (by omega);have x1:=hx.2 1 (by omega);have x2:=hx.2 2 (by omega);have x3:=hx.2 3 (by omega);have x4:=hx.2 4 (by omega);have x5:=hx.2 5 (by omega);unfold numP;omega
theorem xt1{l:List (Nat->Int)}(hs:Srt l)(hr:∀x∈l,Rt x):l.length<=1073741824:=by
 have h1:=xox (l.map numP) ((List.range 1073741824).map fun (u:Nat)=>(u:Int)) (by
  rw [List.Nodup,List.pairwise_map];refine List.Pairwise.imp_of_mem (fun {a b} ha hb hab e=>?_) hs;exact hab.ne (xpc (hr a ha) (hr b hb) e)) (fun x hx=>by
  obtain ⟨y,hy,rfl⟩:=List.mem_map.1 hx;have:=xpd (hr y hy);exact List.mem_map.2 ⟨(numP y).toNat,List.mem_range.2 (by omega),by omega⟩)
 simpa using h1
theorem xs4{x:Nat->Int}(hx:Rt x)(f:Nat)(hf:f<6)(v:Int)(hv:0<=v/\v<32):Rt (putF x f v):=by
 refine ⟨fun i hi=>?_,fun i hi=>?_⟩
 ·unfold putF;rw [if_neg (by omega)];exact hx.1 i hi
 ·unfold putF;split
  ·exact hv
  ·exact hx.2 i hi
def lfD:Code->Bool
 | .exit n=>decide (n<2+2*192)
 | .loop t=>lfD t
 | .scope t=>lfD t
 | .block _ l=>lfD l
 | .seq a l=>lfD a&&lfD l
 | _=>true
theorem xf1:∀t:Code,lfD t=true->(∀x y,Rt x->(den t).1 x y->Rt y)/\(∀x y,Rt x->(den t).2.1 x y->Rt y)/\(∀x y,Rt x->(den t).2.2 x y->Rt y):=by
 intro t;induction t with
 | exit n=>
  intro hl;have hn:n<386:=by simpa [lfD] using hl
  refine ⟨fun x y hx h=>?_,fun x y _ h=>h.elim,fun x y hx h=>by cases h;exact hx⟩;have h':leafD n x y:=h;unfold leafD at h';split at h'
  ·subst h';exact hx
  ·split at h'
   ·exact h'.elim
   ·split at h'
    ·rw [h'.2];exact hx
    ·subst h';exact xs4 hx _ (by unfold fOf;omega) _ ⟨by omega,by unfold vOf;omega⟩
 | loop t ih=>
  intro hl;have hh:=(ih hl).1;refine ⟨fun x y hx h=>?_,fun x y _ h=>h.elim,fun x y hx h=>by cases h;exact hx⟩;have h':Many (den t).1 x y:=h;induction h' with
  | refl a=>exact hx
  | step h1 h2 ih2=>exact ih2 (hh _ _ hx h1) h2
 | scope t ih=>
  intro hl;exact ⟨fun x y hx h=>by rw [h.2];exact hx,fun x y _ h=>h.elim,fun x y hx h=>by cases h;exact hx⟩
 | block k l ih=>
  intro hl;refine ⟨fun x y hx h=>?_,fun x y _ h=>h.elim,fun x y hx h=>by cases h;exact hx⟩;have h':(if k=0 then (den l).2.1 else (den l).2.2) x y:=h;split at h'
  ·exact (ih hl).2.1 x y hx h'
  ·exact (ih hl).2.2 x y hx h'
 | seq a l iha ihl=>
  intro hl;have hl':(lfD a&&lfD l)=true:=hl;rw [Bool.and_eq_true] at hl';refine ⟨fun x y hx h=>by cases h;exact hx,fun x y hx h=>?_,fun x y hx h=>?_⟩
  ·exact h.elim ((iha hl'.1).1 x y hx) ((ihl hl'.2).2.1 x y hx)
  ·obtain ⟨z,h1,h2⟩:=h;exact (ihl hl'.2).2.2 z y ((iha hl'.1).1 x z hx h1) h2
 | _=>intro hl;exact ⟨fun x y hx h=>by cases h;exact hx,fun x y _ h=>h.elim,fun x y hx h=>by cases h;exact hx⟩
theorem xjk(f:Nat)(hf:f<6)(v:Int)(k:Nat->Int)(w:World):Calls Tryz.prog 246 #[.agg #[.int .i64 (f:Int),.int .i64 v],pkV k] w fun x w'=>x=.returned (.bool (k f == v))/\w.grownBy w' none:=by
 unfold pkV pkA;rcases (show f=0\/f=1\/f=2\/f=3\/f=4\/f=5 by omega) with rfl|rfl|rfl|rfl|rfl|rfl
 all_goals
  go_enter Tryz.func246,Tryz.ntmps246;go_wp2_with fail;go_quiet (fail)
  go_wp2;go_ret;exact ⟨rfl,by first|exact xi8 (xje (World.grownBy_alloc _ _ _) (World.grownBy_alloc _ _ _)) _|exact xje (World.grownBy_alloc _ _ _) (World.grownBy_alloc _ _ _)⟩
theorem xs7(f:Nat)(hf:f<6)(v:Int)(k:Nat->Int)(w:World):Calls Tryz.prog 204 #[.agg #[.int .i64 (f:Int),.int .i64 v],pkV k] w fun x w'=>x=.returned (pkV (putF k f v))/\w.grownBy w' none:=by
 have hq:pkV k=.agg #[.int .i64 (k 0),.int .i64 (k 1),.int .i64 (k 2),.int .i64 (k 3),.int .i64 (k 4),.int .i64 (k 5)]:=rfl;rw [hq];rcases (show f=0\/f=1\/f=2\/f=3\/f=4\/f=5 by omega) with rfl|rfl|rfl|rfl|rfl|rfl
 all_goals
  go_enter Tryz.func204,Tryz.ntmps204;go_wp2;refine bodyPost_ret (by simp [results,Tryz.results204,go_sem];try rfl) rfl ?_;exact ⟨rfl,xje (xje (World.grownBy_alloc _ _ _) (World.grownBy_alloc _ _ _)) (World.grownBy_alloc _ _ _)⟩
def pas(x:Nat->Int):Code->Bool×Nat
 | .exit n=>(if n=0 then true else if n=1 then false else if n%2=0 then (x (fOf n) == (vOf n:Int)) else false,0)
 | .scope t=>(!(pas x t).1,0)
 | .block k l=>(if k=0 then decide (0<(pas x l).2) else if k=1 then ((((pas x l).2:Nat):Int) == ((elems l).length:Int)) else false,0)
 | .seq a l=>(false,(if (pas x a).1 then 1 else 0)+(pas x l).2)
 | _=>(false,0)
def cntP(x:Nat->Int):List Code->Nat
 | []=>0
 | t::ts=>(if (pas x t).1 then 1 else 0)+cntP x ts
theorem xe1(x:Nat->Int)(t:Code):∀l,cntP x (l++[t])=cntP x l+(if (pas x t).1 then 1 else 0)
 | []=>by simp [cntP]
 | a::l=>by show (if (pas x a).1 then 1 else 0)+cntP x (l++[t])=_;rw [xe1 x t l];simp only [cntP];omega
theorem xe0(x:Nat->Int):∀l,cntP x l<=l.length
 | []=>Nat.le_refl _
 | a::l=>by have:=xe0 x l;simp only [cntP,List.length_cons];split<;>omega
theorem xq6(x:Nat->Int):∀l:Code,(pas x l).2=cntP x (elems l):=by
 intro l;induction l with
 | seq a b _ ih=>simp only [pas,elems,cntP,ih]
 | _=>simp [pas,elems,cntP]
def PasAt(k:Nat->Int)(w:World)(t:Code)(v:Value):Prop:=∀ww,w.grownBy ww none->Calls Tryz.prog 205 #[v,pkV k] ww fun x w'=>x=.returned (.bool (pas k t).1)/\ww.grownBy w' none
theorem xfj(kd:Int)(g cap:Nat)(es:List Code)(vals:Nat->Value)(k:Nat->Int)(w:World)(hn:es.length<=1000)(hc:∀j,j<es.length->w.cell? ⟨g,j,none⟩=some (vals j))(hv:∀j,j<es.length->∃T u,vals j=.iface T u)(ih:∀j (hj:j<es.length),PasAt k w es[j] (vals j)):
  Calls Tryz.prog 264 #[.agg #[.int .i64 kd,.slice (some ⟨g,0,none⟩) es.length cap],pkV k] w fun x w'=>x=.returned (.int .i64 (cntP k es:Int))/\w.grownBy w' none:=by
 have HC:=hide hc;have HV:=hide hv;have IH:=hide ih;clear hc hv ih;have hq:pkV k=.agg #[.int .i64 (k 0),.int .i64 (k 1),.int .i64 (k 2),.int .i64 (k 3),.int .i64 (k 4),.int .i64 (k 5)]:=rfl;rw [hq];have HQ:=hide hq;clear hq;go_enter Tryz.func264,Tryz.ntmps264;go_wp2_with fail;obtain ⟨W,hW⟩:∃W,W=(w.alloc (.cells #[.int .i64 kd,.slice (some ⟨g,0,none⟩) es.length cap] 234)).alloc (.cells #[.int .i64 (k 0),.int .i64 (k 1),.int .i64 (k 2),.int .i64 (k 3),.int .i64 (k 4),.int .i64 (k 5)] 46):=⟨_,rfl⟩;have GW:Hid (w.grownBy W none):=by rw [hW];exact xje (World.grownBy_alloc _ _ _) (World.grownBy_alloc _ _ _)
 have PW:Hid (pkBlk W (w.heap.size+1) k):=by
  rw [hW];have h1:=heap_alloc_new (w.alloc (.cells #[.int .i64 kd,.slice (some ⟨g,0,none⟩) es.length cap] 234)) (.cells (pkA k) 46);rw [World.size_alloc] at h1;exact h1
 rw [<-hW];clear hW;go_loopw [5,11] (fun s5 s11 wr=>∃j:Nat,j<=es.length/\s11=.int .i64 j/\s5=.int .i64 (cntP k (es.take j):Int)/\W.grownBy wr none) (fun _ s11 _=>es.length-(intOf s11).toNat)
 case atStart=>exact ⟨0,by omega,rfl,rfl,xjb _ _⟩
 case round=>
  obtain ⟨j,hj,rfl,rfl,hg⟩:=hrel;have HG:=hide hg;obtain ⟨c,hcc⟩:∃c,c=cntP k (es.take j):=⟨_,rfl⟩
  have hcle:c<=1000:=by
   rw [hcc];have:=xe0 k (es.take j);simp at this;omega
  rw [<-hcc];have HCC:=hide hcc;clear hg hcc;by_cases hlt:j<es.length
  ·obtain ⟨T,u,hTu⟩:=HV.out j hlt;have hcx:wr.cell? ⟨g,j,none⟩=some (.iface T u):=by rw [<-hTu];exact HG.out.cell (GW.out.cell (HC.out j hlt) (by simp)) (by simp)
   have pk:=PW.out.grown HG.out (by simp);have d0:=pk.cell 0 (by omega);have d1:=pk.cell 1 (by omega);have d2:=pk.cell 2 (by omega);have d3:=pk.cell 3 (by omega);have d4:=pk.cell 4 (by omega);have d5:=pk.cell 5 (by omega)
   have SN:Hid (cntP k (es.take (j+1))=c+(if (pas k es[j]).1 then 1 else 0)):=by
    show _=_;rw [List.take_succ_eq_append_getElem hlt,xe1,<-HCC.out]
   have CALL:=hide (IH.out j hlt wr (xje GW.out HG.out));rw [hTu,HQ.out] at CALL;obtain ⟨b,hb⟩:∃b,b=(pas k es[j]).1:=⟨_,rfl⟩;rw [<-hb] at CALL SN;clear hb hTu pk;cases b
   ·go_wp2_with fail;refine CALL.out.mono ?_;rintro x w1 ⟨rfl,g1⟩;have G1:=hide (xje HG.out g1);clear g1;go_wp2;go_roundw
    case rel=>exact ⟨j+1,by omega,by go_num,by rw [SN.out];simp,G1.out⟩
    case measure=>simp [intOf];omega
   ·go_wp2_with fail;refine CALL.out.mono ?_;rintro x w1 ⟨rfl,g1⟩;have G1:=hide (xje HG.out g1);clear g1;go_wp2;go_roundw
    case rel=>exact ⟨j+1,by omega,by go_num,by rw [SN.out];simp,G1.out⟩
    case measure=>simp [intOf];omega
  ·obtain rfl:j=es.length:=by omega
   obtain rfl:c=cntP k es:=HCC.out.trans (by rw [List.take_length]);go_wp2;go_ret;exact ⟨rfl,xje GW.out HG.out⟩
@[go_sem] theorem Tryz.okAsLeafLeaf(a:Array Value)(w:World):Sem.run Tryz.prog (Instr.typeAssert (.iface 317 (.agg a)) 101 317 true) w=.ok (.tuple #[.agg a,.bool true]) w:=by kernel_rfl
@[go_sem] theorem Tryz.okAsTestLeaf(a:Array Value)(w:World):Sem.run Tryz.prog (Instr.typeAssert (.iface 177 (.agg a)) 101 317 true) w=.ok (.tuple #[.agg #[.int .i64 0],.bool false]) w:=by kernel_rfl
@[go_sem] theorem Tryz.okAsSettingLeaf(a:Array Value)(w:World):Sem.run Tryz.prog (Instr.typeAssert (.iface 178 (.agg a)) 101 317 true) w=.ok (.tuple #[.agg #[.int .i64 0],.bool false]) w:=by kernel_rfl
@[go_sem] theorem Tryz.okAsGroupLeaf(a:Array Value)(w:World):Sem.run Tryz.prog (Instr.typeAssert (.iface 234 (.agg a)) 101 317 true) w=.ok (.tuple #[.agg #[.int .i64 0],.bool false]) w:=by kernel_rfl
theorem xq9(n:Nat)(k:Nat->Int)(w:World)(hn:n<386):Calls Tryz.prog 205 #[leafV n,pkV k] w fun x w'=>x=.returned (.bool (pas k (.exit n)).1)/\w.grownBy w' none:=by
 have hq:pkV k=.agg #[.int .i64 (k 0),.int .i64 (k 1),.int .i64 (k 2),.int .i64 (k 3),.int .i64 (k 4),.int .i64 (k 5)]:=rfl;have hp:(pas k (.exit n)).1=if n=0 then true else if n=1 then false else if n%2=0 then (k (fOf n) == (vOf n:Int)) else false:=rfl
 rw [hp];unfold leafV;by_cases h0:n=0
 ·rw [if_pos h0,if_pos h0,hq];clear hp hq;go_enter Tryz.func205,Tryz.ntmps205;go_wp2;go_ret;exact ⟨rfl,xje (World.grownBy_alloc _ _ _) (World.grownBy_alloc _ _ _)⟩
 rw [if_neg h0,if_neg h0];by_cases h1:n=1
 ·rw [if_pos h1,if_pos h1,hq];clear hp hq;go_enter Tryz.func205,Tryz.ntmps205;go_wp2;go_ret;exact ⟨rfl,xje (World.grownBy_alloc _ _ _) (World.grownBy_alloc _ _ _)⟩
 rw [if_neg h1,if_neg h1];by_cases h2:n%2=0
 ·rw [if_pos h2,if_pos h2];have HH:=hide (fun ww=>xjk (fOf n) (by unfold fOf;omega) (vOf n:Int) k ww);rw [hq] at HH ⊢;show Calls _ _ #[.iface 177 (.agg #[.int .i64 (fOf n:Int),.int .i64 (vOf n:Int)]),_] _ _;generalize fOf n=F at *;generalize vOf n=V at *;clear hp hq h0 h1 h2 hn;go_enter Tryz.func205,Tryz.ntmps205;go_wp2_with fail;refine (HH.out _).mono ?_;rintro x w1 ⟨rfl,g1⟩;have G1:=hide (xje (xje (World.grownBy_alloc w _ none) (World.grownBy_alloc _ _ none)) g1);clear g1;go_wp2;go_ret;exact ⟨rfl,G1.out⟩
 ·rw [if_neg h2,if_neg h2,hq];clear hp hq;go_enter Tryz.func205,Tryz.ntmps205;go_wp2;go_ret;exact ⟨rfl,World.grownBy_alloc _ _ _⟩
def GPas(b:Bool)(kd:Int)(g n cap:Nat)(k:Nat->Int)(w:World):Prop:=∀ww,w.grownBy ww none->Calls Tryz.prog 247 #[.agg #[.int .i64 kd,.slice (some ⟨g,0,none⟩) n cap],pkV k] ww fun x w'=>x=.returned (.bool b)/\ww.grownBy w' none
theorem xiz(g n cap:Nat)(k:Nat->Int)(w:World):GPas false 2 g n cap k w:=by
 intro ww hg;have hq:pkV k=.agg #[.int .i64 (k 0),.int .i64 (k 1),.int .i64 (k 2),.int .i64 (k 3),.int .i64 (k 4),.int .i64 (k 5)]:=rfl;rw [hq];clear hg hq;go_enter Tryz.func247,Tryz.ntmps247;go_wp2;go_ret;exact ⟨rfl,xje (World.grownBy_alloc _ _ _) (World.grownBy_alloc _ _ _)⟩
theorem xi0(g cap:Nat)(es:List Code)(vals:Nat->Value)(k:Nat->Int)(w:World)(hn:es.length<=1000)(hc:∀j,j<es.length->w.cell? ⟨g,j,none⟩=some (vals j))(hv:∀j,j<es.length->∃T u,vals j=.iface T u)(ih:∀j (hj:j<es.length),PasAt k w es[j] (vals j)):
  GPas (decide (0<cntP k es)) 0 g es.length cap k w:=by
 intro ww hg;have HC:=hide (fun w1 (h1:w.grownBy w1 none)=>xfj 0 g cap es vals k w1 hn (fun j hj=>h1.cell (hc j hj) (by simp)) hv (fun j hj w2 h2=>ih j hj w2 (xje h1 h2)));have hq:pkV k=.agg #[.int .i64 (k 0),.int .i64 (k 1),.int .i64 (k 2),.int .i64 (k 3),.int .i64 (k 4),.int .i64 (k 5)]:=rfl;rw [hq] at HC ⊢;have G0:=hide hg;generalize cntP k es=c at *;clear hc hv ih hg hq;go_enter Tryz.func247,Tryz.ntmps247;go_wp2_with fail;refine (HC.out _ (xje (xje G0.out (World.grownBy_alloc ww _ none)) (World.grownBy_alloc _ _ none))).mono ?_;rintro x w1 ⟨rfl,g1⟩;have G1:=hide (xje (xje (World.grownBy_alloc ww _ none) (World.grownBy_alloc _ _ none)) g1);clear g1;go_wp2;go_ret;exact ⟨rfl,G1.out⟩
theorem xiy(g cap:Nat)(es:List Code)(vals:Nat->Value)(k:Nat->Int)(w:World)(hn:es.length<=1000)(hc:∀j,j<es.length->w.cell? ⟨g,j,none⟩=some (vals j))(hv:∀j,j<es.length->∃T u,vals j=.iface T u)(ih:∀j (hj:j<es.length),PasAt k w es[j] (vals j)):
  GPas (((cntP k es:Nat):Int) == (es.length:Int)) 1 g es.length cap k w:=by
 intro ww hg;have HC:=hide (fun w1 (h1:w.grownBy w1 none)=>xfj 1 g cap es vals k w1 hn (fun j hj=>h1.cell (hc j hj) (by simp)) hv (fun j hj w2 h2=>ih j hj w2 (xje h1 h2)));have hq:pkV k=.agg #[.int .i64 (k 0),.int .i64 (k 1),.int .i64 (k 2),.int .i64 (k 3),.int .i64 (k 4),.int .i64 (k 5)]:=rfl;rw [hq] at HC ⊢;have G0:=hide hg;generalize cntP k es=c at *;clear hc hv ih hg hq;go_enter Tryz.func247,Tryz.ntmps247;go_upto_region 7 with fail
 obtain ⟨W,hW⟩:∃W,W=(ww.alloc (.cells #[.int .i64 1,.slice (some ⟨g,0,none⟩) es.length cap] 234)).alloc (.cells #[.int .i64 (k 0),.int .i64 (k 1),.int .i64 (k 2),.int .i64 (k 3),.int .i64 (k 4),.int .i64 (k 5)] 46):=⟨_,rfl⟩;have GW:Hid (ww.grownBy W none):=by rw [hW];exact xje (World.grownBy_alloc _ _ _) (World.grownBy_alloc _ _ _)
 have x0:W.cell? ⟨ww.heap.size,0,none⟩=some (.int .i64 1):=by rw [hW];simp
 have x1:W.cell? ⟨ww.heap.size,1,none⟩=some (.slice (some ⟨g,0,none⟩) es.length cap):=by rw [hW];simp
 have p0:W.cell? ⟨ww.heap.size+1,0,none⟩=some (.int .i64 (k 0)):=by rw [hW];simp
 have p1:W.cell? ⟨ww.heap.size+1,1,none⟩=some (.int .i64 (k 1)):=by rw [hW];simp
 have p2:W.cell? ⟨ww.heap.size+1,2,none⟩=some (.int .i64 (k 2)):=by rw [hW];simp
 have p3:W.cell? ⟨ww.heap.size+1,3,none⟩=some (.int .i64 (k 3)):=by rw [hW];simp
 have p4:W.cell? ⟨ww.heap.size+1,4,none⟩=some (.int .i64 (k 4)):=by rw [hW];simp
 have p5:W.cell? ⟨ww.heap.size+1,5,none⟩=some (.int .i64 (k 5)):=by rw [hW];simp
 rw [<-hW];clear hW
 go_region_with (go_at_call 264;refine (HC.out _ (by first|exact xi7 (xje G0.out GW.out)|exact xje G0.out GW.out)).mono ?_;rintro x w1 ⟨rfl,g1⟩;have e1:w1.cell? ⟨ww.heap.size,1,none⟩=some (.slice (some ⟨g,0,none⟩) es.length cap):=g1.cell x1 (by simp);have G1:Hid (ww.grownBy w1 none):=xje GW.out (by first|exact xjf g1|exact g1);clear g1)
 all_goals
  go_wp2;go_ret;exact ⟨rfl,G1.out⟩
theorem xix(g cap:Nat)(t:Code)(T:TypeId)(u:Value)(k:Nat->Int)(w:World)(hc:w.cell? ⟨g,0,none⟩=some (.iface T u))(ih:PasAt k w t (.iface T u)):GPas (!(pas k t).1) 3 g 1 cap k w:=by
 intro ww hg;have HC:=hide ih;unfold PasAt at HC;have hq:pkV k=.agg #[.int .i64 (k 0),.int .i64 (k 1),.int .i64 (k 2),.int .i64 (k 3),.int .i64 (k 4),.int .i64 (k 5)]:=rfl;rw [hq] at HC ⊢;have G0:=hide hg;have cx:ww.cell? ⟨g,0,none⟩=some (.iface T u):=hg.cell hc (by simp);have hgl:g<ww.heap.size:=World.block_lt_of_cell? ww _ cx;generalize (pas k t).1=b at *;clear hc ih hg hq;go_enter Tryz.func247,Tryz.ntmps247;go_upto_region 3 with fail
 obtain ⟨W,hW⟩:∃W,W=(ww.alloc (.cells #[.int .i64 3,.slice (some ⟨g,0,none⟩) 1 cap] 234)).alloc (.cells #[.int .i64 (k 0),.int .i64 (k 1),.int .i64 (k 2),.int .i64 (k 3),.int .i64 (k 4),.int .i64 (k 5)] 46):=⟨_,rfl⟩;have GW:Hid (ww.grownBy W none):=by rw [hW];exact xje (World.grownBy_alloc _ _ _) (World.grownBy_alloc _ _ _)
 have x1:W.cell? ⟨ww.heap.size,1,none⟩=some (.slice (some ⟨g,0,none⟩) 1 cap):=by rw [hW];simp
 have x2:W.cell? ⟨g,0,none⟩=some (.iface T u):=GW.out.cell cx (by simp);have p0:W.cell? ⟨ww.heap.size+1,0,none⟩=some (.int .i64 (k 0)):=by rw [hW];simp
 have p1:W.cell? ⟨ww.heap.size+1,1,none⟩=some (.int .i64 (k 1)):=by rw [hW];simp
 have p2:W.cell? ⟨ww.heap.size+1,2,none⟩=some (.int .i64 (k 2)):=by rw [hW];simp
 have p3:W.cell? ⟨ww.heap.size+1,3,none⟩=some (.int .i64 (k 3)):=by rw [hW];simp
 have p4:W.cell? ⟨ww.heap.size+1,4,none⟩=some (.int .i64 (k 4)):=by rw [hW];simp
 have p5:W.cell? ⟨ww.heap.size+1,5,none⟩=some (.int .i64 (k 5)):=by rw [hW];simp
 rw [<-hW];clear hW cx
 go_region_with (go_at_call 205;refine (HC.out _ (by first|exact xi7 (xje G0.out GW.out)|exact xje G0.out GW.out)).mono ?_;rintro x w1 ⟨rfl,g1⟩;have G1:Hid (ww.grownBy w1 none):=xje GW.out (by first|exact xjf g1|exact g1);clear g1)
 all_goals
  go_wp2;go_ret;exact ⟨rfl,G1.out⟩
theorem xq8(b:Bool)(kd:Int)(g n cap:Nat)(k:Nat->Int)(w:World)(h:GPas b kd g n cap k w):Calls Tryz.prog 205 #[xi2 kd g n cap,pkV k] w fun x w'=>x=.returned (.bool b)/\w.grownBy w' none:=by
 have HC:=hide h;unfold GPas at HC;have hq:pkV k=.agg #[.int .i64 (k 0),.int .i64 (k 1),.int .i64 (k 2),.int .i64 (k 3),.int .i64 (k 4),.int .i64 (k 5)]:=rfl;rw [hq] at HC ⊢;unfold xi2;clear h hq;go_enter Tryz.func205,Tryz.ntmps205;go_wp2_with fail;refine (HC.out _ (xje (World.grownBy_alloc w _ none) (World.grownBy_alloc _ _ none))).mono ?_;rintro x w1 ⟨rfl,g1⟩;have G1:=hide (xje (xje (World.grownBy_alloc w _ none) (World.grownBy_alloc _ _ none)) g1);clear g1;go_wp2;go_ret;exact ⟨rfl,G1.out⟩
theorem xq7(ok:Nat->Prop)(k:Nat->Int):∀(n:Nat) (t:Code) (v:Value) (w:World),szC t<=n->(TV ok w t).1 v->PasAt k w t v:=by
 intro n;induction n with
 | zero=>
  intro t v w hn h;cases t with
  | exit m=>intro ww hg;obtain ⟨rfl,hm⟩:=h;exact xq9 m k ww (by omega)
  | loop t=>simp [szC] at hn
  | scope t=>simp [szC] at hn
  | block j l=>simp [szC] at hn
  | _=>exact h.elim
 | succ n ih=>
  intro t v w hn h;cases t with
  | exit m=>intro ww hg;obtain ⟨rfl,hm⟩:=h;exact xq9 m k ww (by omega)
  | loop t=>
   obtain ⟨g,cap,x,rfl,_,hc,hx⟩:=h;intro ww hg;exact xq8 false 2 g 1 cap k ww (xiz g 1 cap k ww)
  | scope t=>
   obtain ⟨g,cap,x,rfl,_,hc,hx⟩:=h;simp only [szC] at hn;obtain ⟨T,u,rfl⟩:=xam hx;intro ww hg;exact xq8 _ 3 g 1 cap k ww (xix g cap t T u k ww (hg.cell hc (by simp)) (ih t _ ww (by omega) (xan hx hg)))
  | block j l=>
   obtain ⟨g,m,cap,rfl,hk,_,hm,_,hl⟩:=h;simp only [szC] at hn;intro ww hg;have hl2:=(xao (fun b _ _ hb _=>hb) (fun b i x hb hx=>hg.cell hx (by simp)) l).2 g 0 m (by assumption) hl;obtain ⟨hlen,hel⟩:=xak hl2
   have hcell:∀j (hj:j<(elems l).length),ww.cell? ⟨g,j,none⟩=some (x0o ww g j)/\(TV ok ww (elems l)[j]).1 (x0o ww g j):=by
    intro j hj;obtain ⟨x,h1,h2⟩:=hel j hj;rw [Nat.zero_add] at h1;unfold x0o;rw [h1];exact ⟨rfl,h2⟩
   have parts:∀j (hj:j<(elems l).length),PasAt k ww (elems l)[j] (x0o ww g j):=fun j hj=>ih _ _ ww (by have:=xyh (List.getElem_mem hj);omega) (hcell j hj).2
   have hpas:(pas k (.block j l)).1=if j=0 then decide (0<cntP k (elems l)) else if j=1 then (((cntP k (elems l):Nat):Int) == ((elems l).length:Int)) else false:=by rw [<-xq6];rfl
   rw [hpas];rcases (show j=0\/j=1 by omega) with rfl|rfl
   ·rw [if_pos rfl];have:=xq8 _ 0 g (elems l).length cap k ww (xi0 g cap (elems l) (x0o ww g) k ww (by omega) (fun j hj=>(hcell j hj).1) (fun j hj=>xam (hcell j hj).2) parts);rw [hlen] at this;exact this
   ·rw [if_neg (by decide),if_pos rfl];have:=xq8 _ 1 g (elems l).length cap k ww (xiy g cap (elems l) (x0o ww g) k ww (by omega) (fun j hj=>(hcell j hj).1) (fun j hj=>xam (hcell j hj).2) parts);rw [hlen] at this;rw [hlen];exact this
  | _=>exact h.elim
def kdC:Code->Bool
 | .loop t=>kdC t
 | .scope t=>isT t&&kdC t
 | .block k l=>decide (k<=1)&&kdC l
 | .seq a l=>kdC a&&kdC l
 | _=>true
theorem xq5:∀t:Code,((wfC t).1=true->isT t=true->kdC t=true->∀x,(pas x t).1=true↔∃z,D t x z)/\((wfC t).2=true->isT t=true->kdC t=true->∀x,(0<cntP x (elems t)↔∃z,denL 0 (elems t) x z)/\(cntP x (elems t)=(elems t).length↔∃z,denL 1 (elems t) x z)):=by
 intro t;induction t with
 | exit n=>
  refine ⟨fun _ hT _ x=>?_,fun h=>by cases h⟩;simp only [isT,Bool.or_eq_true,decide_eq_true_eq,beq_iff_eq] at hT;have hp:(pas x (.exit n)).1=if n=0 then true else if n=1 then false else if n%2=0 then (x (fOf n) == (vOf n:Int)) else false:=rfl
  have hd:∀z,D (.exit n) x z↔leafD n x z:=fun z=>Iff.rfl
  rw [hp];simp only [hd];unfold leafD;by_cases h0:n=0
  ·simp [h0]
  rw [if_neg h0];simp only [if_neg h0];by_cases h1:n=1
  ·simp [h1]
  rw [if_neg h1];simp only [if_neg h1];have h2:n%2=0:=by omega
  rw [if_pos h2];simp only [if_pos h2,beq_iff_eq];exact ⟨fun h=>⟨x,h,rfl⟩,fun ⟨z,h,_⟩=>h⟩
 | skip=>
  refine ⟨fun h=>(by cases h),fun _ _ _ x=>⟨?_,?_⟩⟩
  ·simp [elems,cntP,denL]
  ·simp [elems,cntP,denL,thru]
 | loop t ih=>exact ⟨fun _ h=>(by cases h),fun h=>by cases h⟩
 | scope t ih=>
  refine ⟨fun h1 _ h3 x=>?_,fun h=>by cases h⟩;have h3':(isT t&&kdC t)=true:=h3;rw [Bool.and_eq_true] at h3';have hh:=ih.1 h1 h3'.1 h3'.2 x;show (!(pas x t).1)=true↔∃z,(¬∃z,D t x z)/\z=x;rw [<-hh];cases (pas x t).1
  ·simp
  ·simp
 | block k l ih=>
  refine ⟨fun h1 h2 h3 x=>?_,fun h=>by cases h⟩;have h3':(decide (k<=1)&&kdC l)=true:=h3;rw [Bool.and_eq_true,decide_eq_true_eq] at h3';have hpas:(pas x (.block k l)).1=if k=0 then decide (0<cntP x (elems l)) else if k=1 then (((cntP x (elems l):Nat):Int) == ((elems l).length:Int)) else false:=by rw [<-xq6];rfl
  have hh:=ih.2 h1 h2 h3'.2 x;rw [hpas];simp only [xab];rcases (show k=0\/k=1 by omega) with rfl|rfl
  ·rw [if_pos rfl,decide_eq_true_eq];exact hh.1
  ·rw [if_neg (by decide),if_pos rfl,beq_iff_eq];rw [<-hh.2];exact ⟨fun h=>by omega,fun h=>by omega⟩
 | seq a b iha ihb=>
  refine ⟨fun h=>(by cases h),fun h hT h3 x=>?_⟩;have h':((wfC a).1&&(wfC b).2)=true:=h;have hT':(isT a&&isT b)=true:=hT;have h3':(kdC a&&kdC b)=true:=h3;rw [Bool.and_eq_true] at h' hT' h3';have ha:=iha.1 h'.1 hT'.1 h3'.1 x;have hb:=ihb.2 h'.2 hT'.2 h3'.2 x;have sa:=(xzi a).1 h'.1 hT'.1;refine ⟨?_,?_⟩
  ·show 0<(if (pas x a).1 then 1 else 0)+cntP x (elems b)↔∃z,denL 0 ([a]++elems b) x z;simp only [xfu,if_true,xfy];constructor
   ·intro hp;by_cases hpa:(pas x a).1=true
    ·obtain ⟨z,hz⟩:=ha.1 hpa;exact ⟨z,.inl hz⟩
    ·rw [if_neg hpa,Nat.zero_add] at hp;obtain ⟨z,hz⟩:=hb.1.1 hp;exact ⟨z,.inr hz⟩
   ·rintro ⟨z,hz|hz⟩
    ·rw [if_pos (ha.2 ⟨z,hz⟩)];omega
    ·have:=hb.1.2 ⟨z,hz⟩;omega
  ·show (if (pas x a).1 then 1 else 0)+cntP x (elems b)=(elems b).length+1↔∃z,denL 1 ([a]++elems b) x z;have hle:=xe0 x (elems b);simp only [xfu,Nat.one_ne_zero,if_false,xfy];constructor
   ·intro hp;by_cases hpa:(pas x a).1=true
    ·rw [if_pos hpa] at hp;obtain ⟨z,hz⟩:=ha.1 hpa;obtain ⟨y,hy⟩:=hb.2.1 (by omega);have e:=sa x z hz;subst e;exact ⟨y,z,hz,hy⟩
    ·rw [if_neg hpa] at hp;omega
   ·rintro ⟨y,z,hz,hy⟩;have e:=sa x z hz;subst e;rw [if_pos (ha.2 ⟨z,hz⟩)];have:=hb.2.2 ⟨y,hy⟩;omega
 | _=>exact ⟨fun h=>(by cases h),fun h=>by cases h⟩
def put6(w:World)(b:Nat)(x:Nat->Value):World:=(((((w.setCell ⟨b,0,none⟩ (x 0)).setCell ⟨b,1,none⟩ (x 1)).setCell ⟨b,2,none⟩ (x 2)).setCell ⟨b,3,none⟩ (x 3)).setCell ⟨b,4,none⟩ (x 4)).setCell ⟨b,5,none⟩ (x 5)
theorem xsx{w:World}{b:Nat}{T:TypeId}{c:Nat->Value}(h:mkBlk w b 6 T c)(x:Nat->Value):mkBlk (put6 w b x) b 6 T x:=by
 have h6:=(((((h.set 0 (x 0)).set 1 (x 1)).set 2 (x 2)).set 3 (x 3)).set 4 (x 4)).set 5 (x 5);refine h6.cong (fun j hj=>?_);rcases (show j=0\/j=1\/j=2\/j=3\/j=4\/j=5 by omega) with rfl|rfl|rfl|rfl|rfl|rfl<;>simp [updF]
theorem xsy(w:World)(b:Nat)(x:Nat->Value):w.grownBy (put6 w b x) (some b):=by
 unfold put6;exact xje (xje (xje (xje (xje (xjc _ _ _ _) (xjc _ _ _ _)) (xjc _ _ _ _)) (xjc _ _ _ _)) (xjc _ _ _ _)) (xjc _ _ _ _)
theorem mk_pk{w:World}{b:Nat}{k:Nat->Int}(h:mkBlk w b 6 46 (fun i=>.int .i64 (k i))):pkBlk w b k:=h
def plcD(d:Option Code)(x:Nat->Int):Option (Nat->Int):=match d with
 | none=>some x
 | some (.exit n)=>if 1<n/\n%2=1 then some (putF x (fOf n) (vOf n:Int)) else if (pas x (.exit n)).1=true then some x else none
 | some t=>if (pas x t).1=true then some x else none
theorem xtq{W:World}{b:Nat}{k:Nat->Int}(h:pkBlk W b k):W.cell? ⟨b,0,none⟩=some (.int .i64 (k 0))/\W.cell? ⟨b,1,none⟩=some (.int .i64 (k 1))/\W.cell? ⟨b,2,none⟩=some (.int .i64 (k 2))/\W.cell? ⟨b,3,none⟩=some (.int .i64 (k 3))/\W.cell? ⟨b,4,none⟩=some (.int .i64 (k 4))/\W.cell? ⟨b,5,none⟩=some (.int .i64 (k 5)):=
 ⟨h.cell 0 (by omega),h.cell 1 (by omega),h.cell 2 (by omega),h.cell 3 (by omega),h.cell 4 (by omega),h.cell 5 (by omega)⟩
theorem xf6(k:Nat->Int)(w:World):Calls Tryz.prog 150 #[.nilIface,pkV k] w fun x w'=>x=.returned (.tuple #[pkV k,.bool true])/\w.grownBy w' none:=by
 have hq:pkV k=.agg #[.int .i64 (k 0),.int .i64 (k 1),.int .i64 (k 2),.int .i64 (k 3),.int .i64 (k 4),.int .i64 (k 5)]:=rfl;rw [hq];clear hq;go_enter Tryz.func150,Tryz.ntmps150;go_wp2;refine bodyPost_ret (by simp [results,Tryz.results150,go_sem];try rfl) rfl ?_;exact ⟨rfl,by first|exact xje (World.grownBy_alloc _ _ _) (World.grownBy_alloc _ _ _)⟩
theorem xf8(f:Nat)(hf:f<6)(v:Int)(k:Nat->Int)(w:World):Calls Tryz.prog 150 #[.iface 178 (.agg #[.int .i64 (f:Int),.int .i64 v]),pkV k] w fun x w'=>x=.returned (.tuple #[pkV (putF k f v),.bool true])/\w.grownBy w' none:=by
 have HP:=hide (fun ww=>xs7 f hf v k ww);obtain ⟨m,hm⟩:∃m,m=putF k f v:=⟨_,rfl⟩;rw [<-hm] at HP;rw [<-hm];have hq:∀k,pkV k=.agg #[.int .i64 (k 0),.int .i64 (k 1),.int .i64 (k 2),.int .i64 (k 3),.int .i64 (k 4),.int .i64 (k 5)]:=fun _=>rfl
 rw [hq k,hq m] at HP;rw [hq k,hq m];clear hq hm;go_enter Tryz.func150,Tryz.ntmps150;go_wp2_with fail;obtain ⟨W,hW⟩:∃W,W=((w.alloc (.cells #[.int .i64 (k 0),.int .i64 (k 1),.int .i64 (k 2),.int .i64 (k 3),.int .i64 (k 4),.int .i64 (k 5)] 46)).alloc (.cells #[.int .i64 0,.int .i64 0,.int .i64 0,.int .i64 0,.int .i64 0,.int .i64 0] 46)).alloc (.cells #[.int .i64 (f:Int),.int .i64 v] 178):=⟨_,rfl⟩;have GW:w.grownBy W none:=by rw [hW];exact xje (xje (World.grownBy_alloc _ _ _) (World.grownBy_alloc _ _ _)) (World.grownBy_alloc _ _ _)
 have RW:mkBlk W (w.heap.size+1) 6 46 (fun _=>.int .i64 0):=by
  rw [hW];have h1:=heap_alloc_new (w.alloc (.cells #[.int .i64 (k 0),.int .i64 (k 1),.int .i64 (k 2),.int .i64 (k 3),.int .i64 (k 4),.int .i64 (k 5)] 46)) (.cells #[.int .i64 0,.int .i64 0,.int .i64 0,.int .i64 0,.int .i64 0,.int .i64 0] 46);rw [World.size_alloc] at h1;exact (Below.heap_alloc _ _ _ (by simp)).trans h1
 rw [<-hW];refine (HP.out W).mono ?_;clear hW HP;rintro x w1 ⟨rfl,g1⟩;have R1:=hide (RW.kept g1 (by simp));have G1:=hide (xje GW g1);have r0:w1.cell? ⟨w.heap.size+1,0,none⟩=some (.int .i64 0):=R1.out.cell 0 (by decide);have r1:w1.cell? ⟨w.heap.size+1,1,none⟩=some (.int .i64 0):=R1.out.cell 1 (by decide);have r2:w1.cell? ⟨w.heap.size+1,2,none⟩=some (.int .i64 0):=R1.out.cell 2 (by decide);have r3:w1.cell? ⟨w.heap.size+1,3,none⟩=some (.int .i64 0):=R1.out.cell 3 (by decide);have r4:w1.cell? ⟨w.heap.size+1,4,none⟩=some (.int .i64 0):=R1.out.cell 4 (by decide);have r5:w1.cell? ⟨w.heap.size+1,5,none⟩=some (.int .i64 0):=R1.out.cell 5 (by decide);have z0:=R1.out.frozen 0;have z1:=R1.out.frozen 1;have z2:=R1.out.frozen 2;have z3:=R1.out.frozen 3;have z4:=R1.out.frozen 4;have z5:=R1.out.frozen 5;clear g1 GW RW;go_wp2;obtain ⟨V,hV⟩:∃V,V=put6 w1 (w.heap.size+1) (fun i=>.int .i64 (m i)):=⟨_,rfl⟩;have BV:mkBlk V (w.heap.size+1) 6 46 (fun i=>.int .i64 (m i)):=by rw [hV];exact xsx R1.out _
 have GV:w.grownBy V none:=by rw [hV];exact xi9 G1.out (xsy _ _ _) (by omega)
 unfold put6 at hV;rw [<-hV];obtain ⟨y0,y1,y2,y3,y4,y5⟩:=xtq (mk_pk BV);refine bodyPost_ret (v:=.tuple #[.agg #[.int .i64 (m 0),.int .i64 (m 1),.int .i64 (m 2),.int .i64 (m 3),.int .i64 (m 4),.int .i64 (m 5)],.bool true]) (by simp [results,Tryz.results150,go_sem,y0,y1,y2,y3,y4,y5]) rfl ?_;exact ⟨rfl,GV⟩
theorem Srt.nodup{l:List (Nat->Int)}(h:Srt l):l.Nodup:=List.Pairwise.imp (fun {a b} hab=>hab.ne) h
theorem xoy:∀(l zs:List (Nat->Int)),l.Nodup->(∀x,x∈l->x∈zs)->l.length<=zs.length
 | [],zs,_,_=>Nat.zero_le _
 | a::l,zs,hn,hs=>by
  have ha:a∈zs:=hs a (by simp);rw [List.nodup_cons] at hn;have h1:=xoy l (zs.erase a) hn.2 (fun x hx=>(List.mem_erase_of_ne (show x≠a from fun e=>hn.1 (e ▸ hx))).2 (hs x (by simp [hx])));rw [List.length_erase_of_mem ha] at h1;have:0<zs.length:=List.length_pos_of_mem ha;simp only [List.length_cons];omega
theorem xng{a b:List (Nat->Int)}(x:Nat->Int):x∈xnd a b↔x∈a\/x∈b:=xni _ a b (Nat.le_refl _) x
theorem xkm(l:Code):kdC l=true->∀t,t∈elems l->kdC t=true:=by
 induction l with
 | seq a b _ ih=>
  intro h t ht;have h':(kdC a&&kdC b)=true:=h;rw [Bool.and_eq_true] at h';rcases List.mem_cons.1 (show t∈a::elems b from ht) with rfl|ht
  ·exact h'.1
  ·exact ih h'.2 t ht
 | _=>intro h t ht;cases ht
def okT(t:Code):Prop:=(wfC t).1=true/\kdC t=true/\lfD t=true
theorem xez(t:Code):((niceP t).1=true->4*cn t<=wt t)/\((niceP t).2=true->4*cn t+6*(elems t).length<=wt t):=by
 induction t with
 | exit n=>exact ⟨fun _=>(by show 4*1<=12;omega),fun h=>by cases h⟩
 | skip=>exact ⟨fun h=>(by cases h),fun _=>Nat.le_refl _⟩
 | loop t ih=>exact ⟨fun h=>(by have:=ih.1 h;show 4*(cn t+1)<=wt t+4;omega),fun h=>by cases h⟩
 | scope t ih=>exact ⟨fun h=>(by show 4*1<=wt t+4;omega),fun h=>by cases h⟩
 | block k l ih=>
  refine ⟨fun h=>?_,fun h=>by cases h⟩;have h':(decide (k<=1)&&(decide (2<=(elems l).length)&&(niceP l).2))=true:=h;simp only [Bool.and_eq_true,decide_eq_true_eq] at h';have:=ih.2 h'.2.2;show 4*(cn l+1)<=wt l;omega
 | seq a b iha ihb=>
  refine ⟨fun h=>(by cases h),fun h=>?_⟩;have h':((niceP a).1&&(niceP b).2)=true:=h;rw [Bool.and_eq_true] at h';have h1:=iha.1 h'.1;have h2:=ihb.2 h'.2;show 4*(cn a+cn b)+6*(a::elems b).length<=wt a+wt b+6;rw [List.length_cons];omega
 | _=>exact ⟨fun h=>(by cases h),fun h=>by cases h⟩
theorem xlw(t:Code):lfD t=lfC t:=by
 induction t with
 | loop t ih=>exact ih
 | scope t ih=>exact ih
 | block k l ih=>exact ih
 | seq a b iha ihb=>show (lfD a&&lfD b)=(lfC a&&lfC b);rw [iha,ihb]
 | _=>rfl
theorem xoh(t:Code):((niceP t).1=true->kdC t=true)/\((niceP t).2=true->kdC t=true):=by
 induction t with
 | exit n=>exact ⟨fun _=>rfl,fun h=>by cases h⟩
 | skip=>exact ⟨fun h=>(by cases h),fun _=>rfl⟩
 | loop t ih=>exact ⟨fun h=>ih.1 h,fun h=>by cases h⟩
 | scope t ih=>
  refine ⟨fun h=>?_,fun h=>by cases h⟩;have h':(isT t&&(niceP t).1)=true:=h;rw [Bool.and_eq_true] at h';show (isT t&&kdC t)=true;rw [h'.1,ih.1 h'.2];rfl
 | block k l ih=>
  refine ⟨fun h=>?_,fun h=>by cases h⟩;have h':(decide (k<=1)&&(decide (2<=(elems l).length)&&(niceP l).2))=true:=h;simp only [Bool.and_eq_true] at h';show (decide (k<=1)&&kdC l)=true;rw [h'.1,ih.2 h'.2.2];rfl
 | seq a b iha ihb=>
  refine ⟨fun h=>(by cases h),fun h=>?_⟩;have h':((niceP a).1&&(niceP b).2)=true:=h;rw [Bool.and_eq_true] at h';show (kdC a&&kdC b)=true;rw [iha.1 h'.1,ihb.2 h'.2];rfl
 | _=>exact ⟨fun h=>(by cases h),fun h=>by cases h⟩
theorem xkl:∀l:List Code,(∀t,t∈l->kdC t=true)->kdC (chain l)=true
 | [],_=>rfl
 | t::l,h=>by
  show (kdC t&&kdC (chain l))=true;rw [h t (by simp),xkl l (fun x hx=>h x (by simp [hx]))];rfl
theorem xkn(k:Nat)(t:Code)(h:kdC t=true):∀x,x∈flatE k t->kdC x=true:=by
 unfold flatE;split
 ·rename_i k' l;have h2:(decide (k'<=1)&&kdC l)=true:=h;rw [Bool.and_eq_true] at h2;split
  ·exact xkm l h2.2
  ·intro x hx;rw [List.mem_singleton] at hx;rw [hx];exact h
 ·intro x hx;rw [List.mem_singleton] at hx;rw [hx];exact h
theorem xko(k:Nat)(hk:k<=1)(l:List Code)(h:∀t,t∈l->kdC t=true):kdC (rjoin k l)=true:=by
 unfold rjoin;split
 ·exact h _ (by simp)
 ·show (decide (k<=1)&&kdC (chain _))=true
  rw [decide_eq_true hk,xkl _ (fun t ht=>by
   obtain ⟨x,hx,hy⟩:=List.mem_flatMap.1 ht;exact xkn k x (h x hx) t hy)]
  rfl
theorem xh1(t:Code):((wfC t).1=true->kdC t=true->kdC (flatP t).1=true)/\((wfC t).2=true->kdC t=true->∀x,x∈(flatP t).2->kdC x=true):=by
 induction t with
 | exit n=>exact ⟨fun _ _=>rfl,fun h=>by cases h⟩
 | skip=>exact ⟨fun h=>(by cases h),fun _ _ x hx=>by cases hx⟩
 | loop t ih=>exact ⟨fun h k=>ih.1 h k,fun h=>by cases h⟩
 | scope t ih=>
  refine ⟨fun h k=>?_,fun h=>by cases h⟩;have k':(isT t&&kdC t)=true:=k;rw [Bool.and_eq_true] at k';show (isT (flatP t).1&&kdC (flatP t).1)=true;rw [((xh0 t).1 h).1,k'.1,ih.1 h k'.2];rfl
 | block k l ih=>
  refine ⟨fun h kk=>?_,fun h=>by cases h⟩;have k':(decide (k<=1)&&kdC l)=true:=kk;rw [Bool.and_eq_true] at k';exact xko k (of_decide_eq_true k'.1) _ (ih.2 h k'.2)
 | seq a b iha ihb=>
  refine ⟨fun h=>(by cases h),fun h k x hx=>?_⟩;have h':((wfC a).1&&(wfC b).2)=true:=h;have k':(kdC a&&kdC b)=true:=k;rw [Bool.and_eq_true] at h' k';rcases List.mem_cons.1 (show x∈(flatP a).1::(flatP b).2 from hx) with rfl|hx
  ·exact iha.1 h'.1 k'.1
  ·exact ihb.2 h'.2 k'.2 x hx
 | _=>exact ⟨fun h=>(by cases h),fun h=>by cases h⟩
theorem xoj{t:Code}(h:nice t=true):okT t/\okT (flat t)/\∀x y,D (flat t) x y↔D t x y:=by
 have hw:=(xok t).1 h;have hk:=(xoh t).1 h;refine ⟨⟨hw,hk,by rw [xlw];exact (xoi t).1 h⟩,⟨((xh0 t).1 hw).2,(xh1 t).1 hw hk,by rw [xlw];exact (xh3 h).1⟩,(xhz t).1 hw⟩
theorem xtk{s:ByteArray}{t:Code}(h:readS s=.ok t):okT t/\okT (flat t)/\(∀x y,D (flat t) x y↔D t x y)/\cn t<=1900:=by
 obtain ⟨hn,hw⟩:=xth h;obtain ⟨h1,h2,h3⟩:=xoj hn;exact ⟨h1,h2,h3,by have:=(xez t).1 hn;omega⟩
end Go.Proofs.YtlhkfafdioakeaaGreatDoor
