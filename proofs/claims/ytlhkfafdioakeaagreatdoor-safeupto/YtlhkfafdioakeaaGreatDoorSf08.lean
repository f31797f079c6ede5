/- Parts of the proof. -/
import Derived.Test.YtlhkfafdioakeaaGreatDoorSf04
namespace Go.Proofs.YtlhkfafdioakeaaGreatDoor
set_option linter.unusedVariables false
set_option linter.unusedSimpArgs false
section
variable{ρ α:Type}
inductive Dm(ρ α:Type) where
 | add (r:ρ)|bar|out (L:List α)
inductive Um(α:Type) where
 | done|miss (k:α)|full
structure Gs(ρ α:Type) where
 rl:Nat->List ρ
 wl:Nat->List α
 dl:Nat->List (Dm ρ α)
 ul:Nat->List (Um α)
 nl:Nat->List ρ
 del:List α
structure Nx(ρ α:Type) where
 D:Nat
 pol:α->List α
 nxt:α->Option (Nat×α)
 hst:α->Bool
 ok:Nat->α->Prop
 T:Nat->List ρ
 room:Nat
def Gs.setRl(S:Gs ρ α)(s:Nat)(l:List ρ):Gs ρ α:={ S with rl:=updN S.rl s l }
def Gs.setWl(S:Gs ρ α)(s:Nat)(l:List α):Gs ρ α:={ S with wl:=updN S.wl s l }
def Gs.setDl(S:Gs ρ α)(s:Nat)(l:List (Dm ρ α)):Gs ρ α:={ S with dl:=updN S.dl s l }
def Gs.setUl(S:Gs ρ α)(s:Nat)(l:List (Um α)):Gs ρ α:={ S with ul:=updN S.ul s l }
def Gs.setNl(S:Gs ρ α)(s:Nat)(l:List ρ):Gs ρ α:={ S with nl:=updN S.nl s l }
def sumL{β:Type}(f:β->Nat):List β->Nat
 | []=>0
 | x::l=>f x+sumL f l
theorem xxv{β:Type}(f:β->Nat):∀(l m:List β),sumL f (l++m)=sumL f l+sumL f m
 | [],m=>by simp [sumL]
 | x::l,m=>by simp only [List.cons_append,sumL,xxv f l m];omega
theorem xxy{β:Type}(f:β->Nat)(x:β):sumL f [x]=f x:=by simp [sumL]
theorem xxx{β:Type}{f:β->Nat}(h:∀x,1<=f x):∀(l:List β),l.length<=sumL f l
 | []=>Nat.zero_le _
 | x::l=>by
  have h1:=h x;have h2:=xxx h l;simp only [sumL,List.length_cons];omega
def sumS(f:Nat->Nat):Nat->Nat
 | 0=>0
 | n+1=>sumS f n+f n
theorem xx0{f g:Nat->Nat}:∀n,(∀i,i<n->f i=g i)->sumS f n=sumS g n
 | 0,_=>rfl
 | n+1,h=>by rw [sumS,sumS,xx0 n (fun i hi=>h i (by omega)),h n (by omega)]
theorem xx1{f g:Nat->Nat}{s:Nat}(h:∀i,i≠s->g i=f i):∀n,s<n->sumS g n+f s=sumS f n+g s
 | 0,hs=>by omega
 | n+1,hs=>by
  by_cases e:s=n
  ·subst e;rw [sumS,sumS,xx0 s (fun i hi=>h i (by omega))];omega
  ·have:=xx1 h n (by omega);rw [sumS,sumS,h n (by omega)];omega
theorem xxz{f g:Nat->Nat}:∀n,(∀i,i<n->f i<=g i)->sumS f n<=sumS g n
 | 0,_=>Nat.le_refl _
 | n+1,h=>by
  have h1:=xxz n (fun i hi=>h i (by omega));have h2:=h n (by omega);simp only [sumS];omega
structure Wgt(ρ α:Type) where
 fw:α->Nat
 fd:Dm ρ α->Nat
 fu:Um α->Nat
 fn:Nat
 fx:α->Nat
def Wgt.at(W:Wgt ρ α)(S:Gs ρ α)(s:Nat):Nat:=sumL W.fw (S.wl s)+sumL W.fd (S.dl s)+sumL W.fu (S.ul s)+W.fn*(S.nl s).length
def Wgt.all(W:Wgt ρ α)(D:Nat)(S:Gs ρ α):Nat:=sumS (W.at S) D+sumL W.fx S.del
theorem Wgt.all_upd(W:Wgt ρ α){D:Nat}{S S':Gs ρ α}{s:Nat}(hs:s<D)(h:∀i,i≠s->W.at S' i=W.at S i)(hd:S'.del=S.del):W.all D S'+W.at S s=W.all D S+W.at S' s:=by
 have:=xx1 h D hs;unfold Wgt.all;rw [hd];omega
def Gs.waits(S:Gs ρ α)(D:Nat):Nat:=sumS (fun s=>(S.wl s).length) D
def Nx.out1(X:Nx ρ α)(S:Gs ρ α)(x:α):Gs ρ α:=
 match X.nxt x with
 | some (t,y)=>if 300<=S.waits X.D then S else S.setWl t (S.wl t++[y])
 | none=>if X.hst x then { S with del:=S.del++[x] } else S
def Nx.outA(X:Nx ρ α)(S:Gs ρ α)(L:List α):Gs ρ α:=L.foldl X.out1 S
def Nx.o(X:Nx ρ α)(fw fx:α->Nat)(x:α):Nat:=
 match X.nxt x with
 | some (_,y)=>fw y
 | none=>if X.hst x then fx x else 0
def Nx.lk(X:Nx ρ α):Prop:=∀x t y,X.nxt x=some (t,y)->t<X.D
theorem xpw(X:Nx ρ α)(hX:X.lk)(W:Wgt ρ α)(S:Gs ρ α)(x:α)(h:S.waits X.D<300):W.all X.D (X.out1 S x)=W.all X.D S+X.o W.fw W.fx x:=by
 unfold Nx.out1 Nx.o;cases hn:X.nxt x with
 | none=>
  simp only;split
  ·unfold Wgt.all;simp only;rw [xxv,xxy];have:sumS (W.at { S with del:=S.del++[x] }) X.D=sumS (W.at S) X.D:=rfl;omega
  ·rfl
 | some p=>
  obtain ⟨t,y⟩:=p;simp only;rw [if_neg (by omega)];have ht:=hX x t y hn
  have h1:=W.all_upd (S:=S) (S':=S.setWl t (S.wl t++[y])) ht (fun i hi=>by
   unfold Wgt.at Gs.setWl;simp only;rw [x0k hi]) rfl
  have h2:W.at (S.setWl t (S.wl t++[y])) t=W.at S t+W.fw y:=by
   unfold Wgt.at Gs.setWl;simp only;rw [x0l,xxv,xxy];omega
  omega
theorem x0x(W:Wgt ρ α)(h:∀k,1<=W.fw k)(D:Nat)(S:Gs ρ α):S.waits D<=W.all D S:=by
 unfold Gs.waits Wgt.all
 have:=xxz (f:=fun s=>(S.wl s).length) (g:=W.at S) D (fun i _=>by
  have:=xxx (f:=W.fw) h (S.wl i);unfold Wgt.at;omega)
 omega
theorem xpz(X:Nx ρ α)(hX:X.lk)(C:Wgt ρ α)(hC:∀k,1<=C.fw k):∀(L:List α) (S:Gs ρ α),C.all X.D S+sumL (X.o C.fw C.fx) L<=250->∀W:Wgt ρ α,W.all X.D (X.outA S L)=W.all X.D S+sumL (X.o W.fw W.fx) L
 | [],S,_,W=>by simp [Nx.outA,sumL]
 | x::L,S,h,W=>by
  have hw:=x0x C hC X.D S;simp only [sumL] at h;have h1:=xpw X hX C S x (by omega);have h2:=xpw X hX W S x (by omega);have h3:=xpz X hX C hC L (X.out1 S x) (by omega) W;show W.all X.D (X.outA (X.out1 S x) L)=_;rw [h3,h2];simp only [sumL];omega
def brL(nxt:α->Option (Nat×α))(hst:α->Bool)(F:α->Option (List α×Nat)):List α->Option (List α×Nat)
 | []=>some ([],0)
 | x::l=>
  match nxt x with
  | some (_,y)=>
   match F y,brL nxt hst F l with
   | some (f,c),some (g,d)=>some (f++g,c+d)
   | _,_=>none
  | none=>
   match brL nxt hst F l with
   | some (g,d)=>some ((if hst x then [x] else [])++g,d)
   | none=>none
def Nx.brF(X:Nx ρ α):Nat->α->Option (List α×Nat)
 | 0,_=>none
 | n+1,k=>
  match brL X.nxt X.hst (X.brF n) (X.pol k) with
  | some (f,c)=>some (f,c+1)
  | none=>none
theorem xdo{nxt:α->Option (Nat×α)}{hst:α->Bool}{F G:α->Option (List α×Nat)}(h:∀k r,F k=some r->G k=some r):∀L r,brL nxt hst F L=some r->brL nxt hst G L=some r
 | [],r,e=>e
 | x::L,r,e=>by
  unfold brL at e ⊢;cases hn:nxt x with
  | some p=>
   obtain ⟨t,y⟩:=p;rw [hn] at e;simp only at e ⊢;cases hF:F y with
   | none=>rw [hF] at e;simp at e
   | some q=>
    cases hL:brL nxt hst F L with
    | none=>rw [hF,hL] at e;simp at e
    | some q2=>
     rw [hF,hL] at e;rw [h y q hF,xdo h L q2 hL];exact e
  | none=>
   rw [hn] at e;simp only at e ⊢;cases hL:brL nxt hst F L with
   | none=>rw [hL] at e;simp at e
   | some q2=>
    rw [hL] at e;rw [xdo h L q2 hL];exact e
theorem xdk(X:Nx ρ α):∀n k r,X.brF n k=some r->X.brF (n+1) k=some r
 | 0,k,r,e=>by cases e
 | n+1,k,r,e=>by
  unfold Nx.brF at e ⊢;cases hL:brL X.nxt X.hst (X.brF n) (X.pol k) with
  | none=>rw [hL] at e;cases e
  | some q=>
   rw [hL] at e;rw [xdo (fun k' r' h'=>xdk X n k' r' h') _ q hL];exact e
theorem xdj(X:Nx ρ α){n m:Nat}(h:n<=m){k:α}{r:List α×Nat}(e:X.brF n k=some r):X.brF m k=some r:=by
 induction m with
 | zero=>obtain rfl:n=0:=by omega
         exact e
 | succ m ih=>
  by_cases hm:n=m+1
  ·rw [<-hm];exact e
  ·exact xdk X m k r (ih (by omega))
theorem xdl(X:Nx ρ α){n m:Nat}{k:α}{r q:List α×Nat}(e:X.brF n k=some r)(e2:X.brF m k=some q):r=q:=by
 have h1:=xdj X (Nat.le_max_left n m) e;have h2:=xdj X (Nat.le_max_right n m) e2;rw [h1] at h2;exact Option.some.inj h2
def Nx.good(X:Nx ρ α)(k:α):Prop:=∃n r,X.brF n k=some r
open Classical in
noncomputable def Nx.tot(X:Nx ρ α)(k:α):List α×Nat:=if h:X.good k then Classical.choose (Classical.choose_spec h) else ([],1)
theorem xzy(X:Nx ρ α){n:Nat}{k:α}{r:List α×Nat}(e:X.brF n k=some r):X.tot k=r:=by
 have h:X.good k:=⟨n,r,e⟩;unfold Nx.tot;rw [dif_pos h];exact xdl X (Classical.choose_spec (Classical.choose_spec h)) e
theorem xdm(X:Nx ρ α){n:Nat}{k:α}{r:List α×Nat}(e:X.brF n k=some r):1<=r.2:=by
 cases n with
 | zero=>cases e
 | succ n=>
  unfold Nx.brF at e;split at e
  ·cases e;simp
  ·cases e
theorem xzz(X:Nx ρ α)(k:α):1<=(X.tot k).2:=by
 by_cases h:X.good k
 ·obtain ⟨n,r,e⟩:=h;rw [xzy X e];exact xdm X e
 ·unfold Nx.tot;rw [dif_neg h];exact Nat.le_refl _
theorem xdr(X:Nx ρ α){n:Nat}(p:α->Bool):∀(L:List α) (r:List α×Nat),brL X.nxt X.hst (X.brF n) L=some r->r.2=sumL (X.o (fun k=>(X.tot k).2) (fun _=>0)) L/\r.1.countP p=sumL (X.o (fun k=>(X.tot k).1.countP p) (fun x=>[x].countP p)) L/\∀x∈L,∀t y,X.nxt x=some (t,y)->X.good y
 | [],r,e=>by
  unfold brL at e;cases e;exact ⟨rfl,rfl,fun x hx=>by cases hx⟩
 | x::L,r,e=>by
  unfold brL at e;cases hn:X.nxt x with
  | some q=>
   obtain ⟨t,y⟩:=q;rw [hn] at e;simp only at e;cases hF:X.brF n y with
   | none=>rw [hF] at e;simp at e
   | some q=>
    cases hL:brL X.nxt X.hst (X.brF n) L with
    | none=>rw [hF,hL] at e;simp at e
    | some q2=>
     rw [hF,hL] at e;obtain ⟨a,b⟩:=q;obtain ⟨a2,b2⟩:=q2;simp only [Option.some.injEq] at e;subst e;obtain ⟨h1,h2,h3⟩:=xdr X p L _ hL;have ht:=xzy X hF;simp only [sumL];have o1:X.o (fun k=>(X.tot k).2) (fun _=>0) x=b:=by unfold Nx.o;rw [hn];simp only;rw [ht]
     have o2:X.o (fun k=>(X.tot k).1.countP p) (fun x=>[x].countP p) x=a.countP p:=by unfold Nx.o;rw [hn];simp only;rw [ht]
     rw [o1,o2,List.countP_append];simp only at h1 h2;refine ⟨by omega,by omega,fun z hz t' y' e'=>?_⟩;rcases List.mem_cons.1 hz with rfl|hz
     ·rw [hn] at e';cases e';exact ⟨n,_,hF⟩
     ·exact h3 z hz t' y' e'
  | none=>
   rw [hn] at e;simp only at e;cases hL:brL X.nxt X.hst (X.brF n) L with
   | none=>rw [hL] at e;simp at e
   | some q2=>
    rw [hL] at e;obtain ⟨a2,b2⟩:=q2;simp only [Option.some.injEq] at e;subst e;obtain ⟨h1,h2,h3⟩:=xdr X p L _ hL;simp only [sumL];have o1:X.o (fun k=>(X.tot k).2) (fun _=>0) x=0:=by unfold Nx.o;rw [hn];simp only;split<;>rfl
    have o2:X.o (fun k=>(X.tot k).1.countP p) (fun x=>[x].countP p) x=(if X.hst x then [x] else []).countP p:=by unfold Nx.o;rw [hn];simp only;split<;>rfl
    rw [o1,o2,List.countP_append];simp only at h1 h2;refine ⟨by omega,?_,fun z hz t' y' e'=>?_⟩
    ·omega
    ·rcases List.mem_cons.1 hz with rfl|hz
     ·rw [hn] at e';cases e'
     ·exact h3 z hz t' y' e'
theorem xz0(X:Nx ρ α)(p:α->Bool){k:α}(h:X.good k):(X.tot k).2=sumL (X.o (fun k=>(X.tot k).2) (fun _=>0)) (X.pol k)+1/\(X.tot k).1.countP p=sumL (X.o (fun k=>(X.tot k).1.countP p) (fun x=>[x].countP p)) (X.pol k)/\∀x∈X.pol k,∀t y,X.nxt x=some (t,y)->X.good y:=by
 obtain ⟨n,r,e⟩:=h;rw [xzy X e];cases n with
 | zero=>cases e
 | succ n=>
  unfold Nx.brF at e;split at e
  ·rename_i f c hL;cases e;obtain ⟨h1,h2,h3⟩:=xdr X p _ _ hL;exact ⟨by simp only;rw [<-h1],h2,h3⟩
  ·cases e
inductive Reach(X:Nx ρ α)(sent:List α):α->Prop where
 | base (k:α):k∈sent->Reach X sent k
 | step (k x:α) (t:Nat) (y:α):Reach X sent k->x∈X.pol k->X.nxt x=some (t,y)->Reach X sent y
theorem Reach.good{X:Nx ρ α}{sent:List α}{k:α}(h:Reach X sent k)(hs:∀k∈sent,X.good k):X.good k:=by
 induction h with
 | base k hk=>exact hs k hk
 | step k x t y _ hx hn ih=>exact (xz0 X (fun _=>true) ih).2.2 x hx t y hn
theorem Reach.more{X:Nx ρ α}{sent:List α}{k:α}(z:α)(h:Reach X sent k):Reach X (sent++[z]) k:=by
 induction h with
 | base k hk=>exact .base k (by simp [hk])
 | step k x t y _ hx hn ih=>exact .step k x t y ih hx hn
end
section
variable{ρ α:Type}
def Dm.ctl:Dm ρ α->Bool
 | .out _=>false
 | _=>true
def Um.ctl:Um α->Bool
 | .miss _=>false
 | _=>true
inductive Ph(T:List ρ)(room:Nat):List ρ->List ρ->List (Dm ρ α)->List (Um α)->Prop where
 | send {rl nl:List ρ} {r:ρ}:T=rl++r::nl->rl.length<=room->Ph T room rl nl [.add r,.bar] []
 | took {rl nl:List ρ}:T=rl++nl->rl.length<=room->Ph T room rl nl [.bar] []
 | full {rl nl:List ρ}:rl <+: T->rl.length=room->nl.length<=T.length->room<=T.length->Ph T room rl nl [.bar] [.full]
 | fullc {rl:List ρ}:rl <+: T->rl.length=room->room<=T.length->Ph T room rl [] [.bar] []
 | done {rl nl:List ρ}:T=rl++nl->rl.length<=room->Ph T room rl nl [] [.done]
 | fdone {rl nl:List ρ}:rl <+: T->rl.length=room->nl.length<=T.length->room<=T.length->Ph T room rl nl [] [.full,.done]
 | cdone {rl:List ρ}:rl <+: T->rl.length=room->room<=T.length->Ph T room rl [] [] [.done]
 | idle {rl:List ρ}:T=rl->rl.length<=room->Ph T room rl [] [] []
 | cidle {rl:List ρ}:rl <+: T->rl.length=room->room<=T.length->Ph T room rl [] [] []
theorem Ph.pre{T:List ρ}{room:Nat}{rl nl:List ρ}{dc:List (Dm ρ α)}{uc:List (Um α)}(h:Ph T room rl nl dc uc):rl <+: T/\rl.length<=room:=by
 cases h with
 | send h1 h2=>exact ⟨h1 ▸ List.prefix_append _ _,h2⟩
 | took h1 h2=>exact ⟨h1 ▸ List.prefix_append _ _,h2⟩
 | done h1 h2=>exact ⟨h1 ▸ List.prefix_append _ _,h2⟩
 | idle h1 h2=>exact ⟨h1 ▸ List.prefix_refl _,h2⟩
 | full h1 h2|fullc h1 h2|fdone h1 h2|cdone h1 h2|cidle h1 h2=>exact ⟨h1,by omega⟩
theorem Ph.add_full{T:List ρ}{room:Nat}{rl nl:List ρ}{a b:List (Dm ρ α)}{uc:List (Um α)}{r:ρ}(h:Ph T room rl nl (a ++ .add r::b) uc)(hf:room<=rl.length):Ph T room rl nl (a++b) (uc++[.full]):=by
 generalize hx:a ++ .add r::b=dc at h;cases h with
 | send h1 h2=>
  match a,hx with
  | [],hx=>
   cases hx;exact .full (h1 ▸ List.prefix_append _ _) (by omega) (by rw [h1];simp;omega) (by rw [h1];simp;omega)
  | [_],hx=>cases hx
  | _::_::_,hx=>simp at hx
 | _=>
  match a,hx with
  | [],hx=>cases hx
  | [_],hx=>simp at hx
  | _::_::_,hx=>simp at hx
theorem Ph.add_room{T:List ρ}{room:Nat}{rl nl:List ρ}{a b:List (Dm ρ α)}{uc:List (Um α)}{r:ρ}(h:Ph T room rl nl (a ++ .add r::b) uc)(hf:rl.length<room):Ph T room (rl++[r]) nl (a++b) uc:=by
 generalize hx:a ++ .add r::b=dc at h;cases h with
 | send h1 h2=>
  match a,hx with
  | [],hx=>
   cases hx;exact .took (by rw [h1];simp) (by simp;omega)
  | [_],hx=>cases hx
  | _::_::_,hx=>simp at hx
 | _=>
  match a,hx with
  | [],hx=>cases hx
  | [_],hx=>simp at hx
  | _::_::_,hx=>simp at hx
theorem Ph.add_mem{T:List ρ}{room:Nat}{rl nl:List ρ}{a b:List (Dm ρ α)}{uc:List (Um α)}{r:ρ}(h:Ph T room rl nl (a ++ .add r::b) uc):r∈T:=by
 generalize hx:a ++ .add r::b=dc at h;cases h with
 | send h1 h2=>
  match a,hx with
  | [],hx=>cases hx;rw [h1];simp
  | [_],hx=>cases hx
  | _::_::_,hx=>simp at hx
 | _=>
  match a,hx with
  | [],hx=>cases hx
  | [_],hx=>simp at hx
  | _::_::_,hx=>simp at hx
theorem Ph.bar{T:List ρ}{room:Nat}{rl nl:List ρ}{b:List (Dm ρ α)}{uc:List (Um α)}(h:Ph T room rl nl (.bar::b) uc):Ph T room rl nl b (uc++[.done]):=by
 generalize hx:Dm.bar::b=dc at h;cases h with
 | send=>cases hx
 | took h1 h2=>cases hx;exact .done h1 h2
 | full h1 h2 h3 h4=>cases hx;exact .fdone h1 h2 h3 h4
 | fullc h1 h2 h3=>cases hx;exact .cdone h1 h2 h3
 | done=>cases hx
 | fdone=>cases hx
 | cdone=>cases hx
 | idle=>cases hx
 | cidle=>cases hx
theorem Ph.done_none{T:List ρ}{room:Nat}{rl:List ρ}{dc:List (Dm ρ α)}{uc:List (Um α)}(h:Ph T room rl [] dc (.done::uc)):Ph T room rl [] dc uc:=by
 generalize hx:Um.done::uc=ud at h;cases h with
 | done h1 h2=>cases hx;rw [List.append_nil] at h1;exact .idle h1 h2
 | cdone h1 h2 h3=>cases hx;exact .cidle h1 h2 h3
 | _=>cases hx
theorem Ph.done_some{T:List ρ}{room:Nat}{rl nl:List ρ}{r:ρ}{dc:List (Dm ρ α)}{uc:List (Um α)}(h:Ph T room rl (r::nl) dc (.done::uc)):Ph T room rl nl (dc++[.add r,.bar]) uc:=by
 generalize hx:Um.done::uc=ud at h;generalize hn:r::nl=ne at h;cases h with
 | done h1 h2=>cases hx;exact .send (by rw [h1,hn]) h2
 | cdone h1 h2 h3=>cases hn
 | _=>cases hx
theorem Ph.fulls{T:List ρ}{room:Nat}{rl nl:List ρ}{dc:List (Dm ρ α)}{uc:List (Um α)}(h:Ph T room rl nl dc (.full::uc)):Ph T room rl [] dc uc:=by
 generalize hx:Um.full::uc=ud at h;cases h with
 | full h1 h2 h3 h4=>cases hx;exact .fullc h1 h2 h4
 | fdone h1 h2 h3 h4=>cases hx;exact .cdone h1 h2 h4
 | _=>cases hx
noncomputable def Nx.c(X:Nx ρ α)(k:α):Nat:=(X.tot k).2
noncomputable def Nx.C(X:Nx ρ α):Wgt ρ α where
 fw:=X.c
 fd:=fun | .out L=>sumL (X.o X.c (fun _=>0)) L+1|_=>0
 fu:=fun | .miss k=>X.c k|_=>0
 fn:=0
 fx:=fun _=>0
noncomputable def Nx.y(X:Nx ρ α)(p:α->Bool)(k:α):Nat:=(X.tot k).1.countP p
noncomputable def Nx.Y(X:Nx ρ α)(p:α->Bool):Wgt ρ α where
 fw:=X.y p
 fd:=fun | .out L=>sumL (X.o (X.y p) (fun x=>[x].countP p)) L|_=>0
 fu:=fun | .miss k=>X.y p k|_=>0
 fn:=0
 fx:=fun x=>[x].countP p
noncomputable def Nx.M(X:Nx ρ α):Wgt ρ α where
 fw:=fun k=>3*X.c k
 fd:=fun | .out L=>3*sumL (X.o X.c (fun _=>0)) L+1|_=>2
 fu:=fun | .miss k=>3*X.c k-1|_=>1
 fn:=4
 fx:=fun _=>0
theorem xpk(X:Nx ρ α):∀L,sumL (X.o (fun k=>3*X.c k) (fun _=>0)) L=3*sumL (X.o X.c (fun _=>0)) L
 | []=>rfl
 | x::L=>by
  have:X.o (fun k=>3*X.c k) (fun _=>0) x=3*X.o X.c (fun _=>0) x:=by
   unfold Nx.o;split
   ·rfl
   ·split<;>rfl
  simp only [sumL];rw [this,xpk X L];omega
structure Nx.okay(X:Nx ρ α):Prop where
 lk:X.lk
 pr:∀s k x t y,s<X.D->X.ok s k->x∈X.pol k->X.nxt x=some (t,y)->X.ok t y
theorem xp2(X:Nx ρ α):∀(L:List α) (S:Gs ρ α),(X.outA S L).rl=S.rl/\(X.outA S L).dl=S.dl/\(X.outA S L).ul=S.ul/\(X.outA S L).nl=S.nl
 | [],S=>⟨rfl,rfl,rfl,rfl⟩
 | x::L,S=>by
  have h:=xp2 X L (X.out1 S x)
  have h1:(X.out1 S x).rl=S.rl/\(X.out1 S x).dl=S.dl/\(X.out1 S x).ul=S.ul/\(X.out1 S x).nl=S.nl:=by
   unfold Nx.out1;split
   ·split<;>exact ⟨rfl,rfl,rfl,rfl⟩
   ·split<;>exact ⟨rfl,rfl,rfl,rfl⟩
  exact ⟨h.1.trans h1.1,h.2.1.trans h1.2.1,h.2.2.1.trans h1.2.2.1,h.2.2.2.trans h1.2.2.2⟩
theorem xpy(X:Nx ρ α)(S:Gs ρ α)(x:α)(t:Nat)(k:α)(h:k∈(X.out1 S x).wl t):k∈S.wl t\/X.nxt x=some (t,k):=by
 unfold Nx.out1 at h;cases hn:X.nxt x with
 | none=>rw [hn] at h;simp only at h;split at h<;>exact .inl h
 | some p=>
  obtain ⟨t',y⟩:=p;rw [hn] at h;simp only at h;split at h
  ·exact .inl h
  ·unfold Gs.setWl at h;simp only at h;by_cases e:t=t'
   ·subst e;rw [x0l,List.mem_append,List.mem_singleton] at h;rcases h with h|rfl
    ·exact .inl h
    ·exact .inr rfl
   ·rw [x0k e] at h;exact .inl h
theorem xp4(X:Nx ρ α):∀(L:List α) (S:Gs ρ α) (t:Nat) (k:α),k∈(X.outA S L).wl t->k∈S.wl t\/∃x∈L,X.nxt x=some (t,k)
 | [],S,t,k,h=>.inl h
 | x::L,S,t,k,h=>by
  rcases xp4 X L (X.out1 S x) t k h with h|⟨z,hz,e⟩
  ·rcases xpy X S x t k h with h|e
   ·exact .inl h
   ·exact .inr ⟨x,by simp,e⟩
  ·exact .inr ⟨z,by simp [hz],e⟩
theorem xp0(X:Nx ρ α):∀(L:List α) (S:Gs ρ α) (k:α),k∈(X.outA S L).del->k∈S.del\/(k∈L/\X.nxt k=none/\X.hst k=true)
 | [],S,k,h=>.inl h
 | x::L,S,k,h=>by
  rcases xp0 X L (X.out1 S x) k h with h|⟨hz,e⟩
  ·unfold Nx.out1 at h;cases hn:X.nxt x with
   | none=>
    rw [hn] at h;simp only at h;split at h
    ·rename_i hh;simp only [List.mem_append,List.mem_singleton] at h;rcases h with h|rfl
     ·exact .inl h
     ·exact .inr ⟨by simp,hn,hh⟩
    ·exact .inl h
   | some p=>
    obtain ⟨t',y⟩:=p;rw [hn] at h;simp only at h;split at h<;>exact .inl h
  ·exact .inr ⟨by simp [hz],e⟩
theorem xpx(X:Nx ρ α)(hX:X.lk)(S:Gs ρ α)(x:α)(h:S.waits X.D<=300):(X.out1 S x).waits X.D<=300:=by
 unfold Nx.out1;cases hn:X.nxt x with
 | none=>simp only;split<;>exact h
 | some p=>
  obtain ⟨t,y⟩:=p;simp only;split
  ·exact h
  ·have ht:=hX x t y hn;have:=xx1 (f:=fun s=>(S.wl s).length) (g:=fun s=>((S.setWl t (S.wl t++[y])).wl s).length) (s:=t) (fun i hi=>by unfold Gs.setWl;simp only;rw [x0k hi]) X.D ht;have e:((S.setWl t (S.wl t++[y])).wl t).length=(S.wl t).length+1:=by unfold Gs.setWl;simp only;rw [x0l];simp
   unfold Gs.waits at *;rw [e] at this;omega
theorem xp3(X:Nx ρ α)(hX:X.lk):∀(L:List α) (S:Gs ρ α),S.waits X.D<=300->(X.outA S L).waits X.D<=300
 | [],S,h=>h
 | x::L,S,h=>xp3 X hX L (X.out1 S x) (xpx X hX S x h)
structure Inv0(X:Nx ρ α)(S:Gs ρ α)(sent:List α):Prop where
 ph:∀s,s<X.D->Ph (X.T s) X.room (S.rl s) (S.nl s) ((S.dl s).filter Dm.ctl) ((S.ul s).filter Um.ctl)
 wl:∀s,s<X.D->∀k,k∈S.wl s->X.ok s k/\Reach X sent k
 ms:∀s,s<X.D->∀k,Um.miss k∈S.ul s->X.ok s k/\Reach X sent k
 ot:∀s,s<X.D->∀L,Dm.out L∈S.dl s->∃k,X.ok s k/\Reach X sent k/\L=X.pol k
 de:∀x,x∈S.del->∃k,Reach X sent k/\x∈X.pol k/\X.nxt x=none/\X.hst x=true
 wt:S.waits X.D<=300
def Ends(X:Nx ρ α)(sent:List α):Prop:=(∀k∈sent,X.good k)/\sumL X.c sent<=250
structure Cnt(X:Nx ρ α)(S:Gs ρ α)(sent:List α):Prop where
 cost:X.C.all X.D S<=sumL X.c sent
 num:∀p,(X.Y p).all X.D S=sumL (X.y p) sent
structure Inv(X:Nx ρ α)(S:Gs ρ α)(sent:List α):Prop extends Inv0 X S sent where
 cnt:Ends X sent->Cnt X S sent
theorem C_pos(X:Nx ρ α):∀k,1<=X.C.fw k:=xzz X
def Stp(X:Nx ρ α)(S:Gs ρ α)(sent:List α)(S':Gs ρ α):Prop:=Inv X S' sent/\(Ends X sent->X.M.all X.D S'<X.M.all X.D S)
theorem Inv0.outs{X:Nx ρ α}(hX:X.okay){S:Gs ρ α}{sent:List α}(h:Inv0 X S sent){s:Nat}(hs:s<X.D){k:α}(hk:X.ok s k)(hr:Reach X sent k):Inv0 X (X.outA S (X.pol k)) sent:=by
 obtain ⟨e1,e2,e3,e4⟩:=xp2 X (X.pol k) S;refine ⟨fun t ht=>?_,fun t ht z hz=>?_,fun t ht z hz=>?_,fun t ht L hL=>?_,fun x hx=>?_,xp3 X hX.lk _ _ h.wt⟩
 ·rw [e1,e2,e3,e4];exact h.ph t ht
 ·rcases xp4 X _ _ t z hz with hz|⟨x,hx,e⟩
  ·exact h.wl t ht z hz
  ·exact ⟨hX.pr s k x t z hs hk hx e,.step k x t z hr hx e⟩
 ·rw [e3] at hz;exact h.ms t ht z hz
 ·rw [e2] at hL;exact h.ot t ht L hL
 ·rcases xp0 X _ _ x hx with hx|⟨hx,e,e'⟩
  ·exact h.de x hx
  ·exact ⟨k,hr,hx,e,e'⟩
theorem xe2{X:Nx ρ α}(hX:X.okay){S:Gs ρ α}{sent:List α}{k:α}(hk:X.good k)(he:sumL X.c sent<=250)(hc:X.C.all X.D S+X.c k<=sumL X.c sent+1)(hn:∀p,(X.Y p).all X.D S+X.y p k=sumL (X.y p) sent):
  Cnt X (X.outA S (X.pol k)) sent/\X.M.all X.D (X.outA S (X.pol k))+3=X.M.all X.D S+3*X.c k:=by
 obtain ⟨t1,_,_⟩:=xz0 X (fun _=>true) hk;have t1':X.c k=sumL (X.o X.c (fun _=>0)) (X.pol k)+1:=t1
 have hall:=xpz X hX.lk X.C (C_pos X) (X.pol k) S (by
  show X.C.all X.D S+sumL (X.o X.c (fun _=>0)) (X.pol k)<=250;omega)
 refine ⟨⟨?_,fun p=>?_⟩,?_⟩
 ·have h1:X.C.all X.D (X.outA S (X.pol k))=X.C.all X.D S+sumL (X.o X.c (fun _=>0)) (X.pol k):=hall X.C;omega
 ·obtain ⟨_,t2,_⟩:=xz0 X p hk;have t2':X.y p k=sumL (X.o (X.y p) (fun x=>[x].countP p)) (X.pol k):=t2;have h1:(X.Y p).all X.D (X.outA S (X.pol k))=(X.Y p).all X.D S+sumL (X.o (X.y p) (fun x=>[x].countP p)) (X.pol k):=hall (X.Y p);have:=hn p;omega
 ·have h1:X.M.all X.D (X.outA S (X.pol k))=X.M.all X.D S+sumL (X.o (fun k=>3*X.c k) (fun _=>0)) (X.pol k):=hall X.M;rw [xpk] at h1;omega
end
section
variable{ρ α:Type}{X:Nx ρ α}{S S':Gs ρ α}{sent:List α}{s:Nat}
structure Oth(S S':Gs ρ α)(s:Nat):Prop where
 rl:∀i,i≠s->S'.rl i=S.rl i
 wl:∀i,i≠s->S'.wl i=S.wl i
 dl:∀i,i≠s->S'.dl i=S.dl i
 ul:∀i,i≠s->S'.ul i=S.ul i
 nl:∀i,i≠s->S'.nl i=S.nl i
 del:S'.del=S.del
theorem Oth.refl(S:Gs ρ α)(s:Nat):Oth S S s:=⟨fun _ _=>rfl,fun _ _=>rfl,fun _ _=>rfl,fun _ _=>rfl,fun _ _=>rfl,rfl⟩
theorem Oth.setRl(h:Oth S S' s)(l:List ρ):Oth S (S'.setRl s l) s:=⟨fun i hi=>(x0k hi).trans (h.rl i hi),h.wl,h.dl,h.ul,h.nl,h.del⟩
theorem Oth.setWl(h:Oth S S' s)(l:List α):Oth S (S'.setWl s l) s:=⟨h.rl,fun i hi=>(x0k hi).trans (h.wl i hi),h.dl,h.ul,h.nl,h.del⟩
theorem Oth.setDl(h:Oth S S' s)(l:List (Dm ρ α)):Oth S (S'.setDl s l) s:=⟨h.rl,h.wl,fun i hi=>(x0k hi).trans (h.dl i hi),h.ul,h.nl,h.del⟩
theorem Oth.setUl(h:Oth S S' s)(l:List (Um α)):Oth S (S'.setUl s l) s:=⟨h.rl,h.wl,h.dl,fun i hi=>(x0k hi).trans (h.ul i hi),h.nl,h.del⟩
theorem Oth.setNl(h:Oth S S' s)(l:List ρ):Oth S (S'.setNl s l) s:=⟨h.rl,h.wl,h.dl,h.ul,fun i hi=>(x0k hi).trans (h.nl i hi),h.del⟩
theorem Oth.all(h:Oth S S' s)(hs:s<X.D)(W:Wgt ρ α):W.all X.D S'+W.at S s=W.all X.D S+W.at S' s:=
 W.all_upd hs (fun i hi=>by unfold Wgt.at;rw [h.wl i hi,h.dl i hi,h.ul i hi,h.nl i hi]) h.del
theorem Inv0.loc(h:Inv0 X S sent)(hs:s<X.D)(ho:Oth S S' s)
  (hph:Ph (X.T s) X.room (S'.rl s) (S'.nl s) ((S'.dl s).filter Dm.ctl) ((S'.ul s).filter Um.ctl))
  (hwl:∀k,k∈S'.wl s->X.ok s k/\Reach X sent k) (hms:∀k,Um.miss k∈S'.ul s->X.ok s k/\Reach X sent k)
  (hot:∀L,Dm.out L∈S'.dl s->∃k,X.ok s k/\Reach X sent k/\L=X.pol k) (hwt:(S'.wl s).length<=(S.wl s).length):Inv0 X S' sent:=by
 refine ⟨fun t ht=>?_,fun t ht k hk=>?_,fun t ht k hk=>?_,fun t ht L hL=>?_,fun x hx=>?_,?_⟩
 ·by_cases e:t=s
  ·subst e;exact hph
  ·rw [ho.rl t e,ho.nl t e,ho.dl t e,ho.ul t e];exact h.ph t ht
 ·by_cases e:t=s
  ·subst e;exact hwl k hk
  ·rw [ho.wl t e] at hk;exact h.wl t ht k hk
 ·by_cases e:t=s
  ·subst e;exact hms k hk
  ·rw [ho.ul t e] at hk;exact h.ms t ht k hk
 ·by_cases e:t=s
  ·subst e;exact hot L hL
  ·rw [ho.dl t e] at hL;exact h.ot t ht L hL
 ·rw [ho.del] at hx;exact h.de x hx
 ·have:=xx1 (f:=fun s=>(S.wl s).length) (g:=fun s=>(S'.wl s).length) (s:=s) (fun i hi=>by rw [ho.wl i hi]) X.D hs;have h2:=h.wt;unfold Gs.waits at *;omega
theorem wt_at(W:Wgt ρ α)(S:Gs ρ α)(s:Nat){wl:List α}{dl:List (Dm ρ α)}{ul:List (Um α)}{nl:List ρ}(h1:S.wl s=wl)(h2:S.dl s=dl)(h3:S.ul s=ul)(h4:S.nl s=nl):W.at S s=sumL W.fw wl+sumL W.fd dl+sumL W.fu ul+W.fn*nl.length:=by
 unfold Wgt.at;rw [h1,h2,h3,h4]
theorem xxn(hX:X.okay)(h:Inv X S sent)(hs:s<X.D){k:α}{rest:List α}(hw:S.wl s=k::rest):Stp X S sent (X.outA (S.setWl s rest) (X.pol k)):=by
 have ho:Oth S (S.setWl s rest) s:=(Oth.refl S s).setWl rest;obtain ⟨hk,hr⟩:=h.wl s hs k (by rw [hw];simp);have e1:(S.setWl s rest).wl s=rest:=x0l _ _ _;have i0:Inv0 X (S.setWl s rest) sent:=h.toInv0.loc hs ho (h.ph s hs) (fun z hz=>h.wl s hs z (by rw [e1] at hz;rw [hw];simp [hz])) (h.ms s hs) (h.ot s hs) (by rw [e1,hw];simp)
 have hW:∀W:Wgt ρ α,W.all X.D (S.setWl s rest)+W.fw k=W.all X.D S:=fun W=>by
  have h1:=ho.all hs W;rw [wt_at W S s hw rfl rfl rfl,wt_at W (S.setWl s rest) s e1 rfl rfl rfl] at h1;simp only [sumL] at h1;have e2:(S.setWl s rest).dl=S.dl:=rfl;have e3:(S.setWl s rest).ul=S.ul:=rfl;have e4:(S.setWl s rest).nl=S.nl:=rfl;rw [e2,e3,e4] at h1;omega
 have hC:Ends X sent->_:=fun he=>xe2 hX (S:=S.setWl s rest) (sent:=sent) (hr.good he.1) he.2 (by
  have h1:X.C.all X.D (S.setWl s rest)+X.c k=X.C.all X.D S:=hW X.C;have h2:=(h.cnt he).cost;omega) (fun p=>by
  have h1:(X.Y p).all X.D (S.setWl s rest)+X.y p k=(X.Y p).all X.D S:=hW (X.Y p);have h2:=(h.cnt he).num p;omega)
 refine ⟨⟨i0.outs hX hs hk hr,fun he=>(hC he).1⟩,fun he=>?_⟩;have h1:X.M.all X.D (S.setWl s rest)+3*X.c k=X.M.all X.D S:=hW X.M;have h2:=(hC he).2;omega
theorem xxq(hX:X.okay)(h:Inv X S sent)(hs:s<X.D){L:List α}{a b:List (Dm ρ α)}(hd:S.dl s=a ++ .out L::b):Stp X S sent (X.outA (S.setDl s (a++b)) L):=by
 have ho:Oth S (S.setDl s (a++b)) s:=(Oth.refl S s).setDl _;obtain ⟨k,hk,hr,rfl⟩:=h.ot s hs L (by rw [hd];simp);have e1:(S.setDl s (a++b)).dl s=a++b:=x0l _ _ _
 have i0:Inv0 X (S.setDl s (a++b)) sent:=h.toInv0.loc hs ho (by
  have:=h.ph s hs;rw [hd,List.filter_append,List.filter_cons_of_neg (by simp [Dm.ctl]),<-List.filter_append] at this;rw [e1];exact this) (h.wl s hs) (h.ms s hs) (fun M hM=>h.ot s hs M (by rw [e1] at hM;rw [hd];rcases List.mem_append.1 hM with hM|hM<;>simp [hM])) (Nat.le_refl _)
 have hW:∀W:Wgt ρ α,W.all X.D (S.setDl s (a++b))+W.fd (.out (X.pol k))=W.all X.D S:=fun W=>by
  have h1:=ho.all hs W;rw [wt_at W S s rfl hd rfl rfl,wt_at W (S.setDl s (a++b)) s rfl e1 rfl rfl] at h1;simp only [sumL,xxv] at h1;have e2:(S.setDl s (a++b)).wl=S.wl:=rfl;have e3:(S.setDl s (a++b)).ul=S.ul:=rfl;have e4:(S.setDl s (a++b)).nl=S.nl:=rfl;rw [e2,e3,e4] at h1;omega
 have hC:Ends X sent->_:=fun he=>xe2 hX (S:=S.setDl s (a++b)) (sent:=sent) (hr.good he.1) he.2 (by
  have h1:X.C.all X.D (S.setDl s (a++b))+(sumL (X.o X.c (fun _=>0)) (X.pol k)+1)=X.C.all X.D S:=hW X.C;have h2:=(h.cnt he).cost;have t1:X.c k=sumL (X.o X.c (fun _=>0)) (X.pol k)+1:=(xz0 X (fun _=>true) (hr.good he.1)).1;omega) (fun p=>by
  have h1:(X.Y p).all X.D (S.setDl s (a++b))+sumL (X.o (X.y p) (fun x=>[x].countP p)) (X.pol k)=(X.Y p).all X.D S:=hW (X.Y p);have h2:=(h.cnt he).num p;have t2:X.y p k=sumL (X.o (X.y p) (fun x=>[x].countP p)) (X.pol k):=(xz0 X p (hr.good he.1)).2.1;omega)
 refine ⟨⟨i0.outs hX hs hk hr,fun he=>(hC he).1⟩,fun he=>?_⟩;have h1:X.M.all X.D (S.setDl s (a++b))+(3*sumL (X.o X.c (fun _=>0)) (X.pol k)+1)=X.M.all X.D S:=hW X.M;have h2:=(hC he).2;have t1:X.c k=sumL (X.o X.c (fun _=>0)) (X.pol k)+1:=(xz0 X (fun _=>true) (hr.good he.1)).1;omega
theorem xxo(h:Inv X S sent)(hs:s<X.D)(ho:Oth S S' s)
  (hph:Ph (X.T s) X.room (S'.rl s) (S'.nl s) ((S'.dl s).filter Dm.ctl) ((S'.ul s).filter Um.ctl))
  (hwl:∀k,k∈S'.wl s->X.ok s k/\Reach X sent k) (hms:∀k,Um.miss k∈S'.ul s->X.ok s k/\Reach X sent k)
  (hot:∀L,Dm.out L∈S'.dl s->∃k,X.ok s k/\Reach X sent k/\L=X.pol k) (hwt:(S'.wl s).length<=(S.wl s).length)
  (hc:Ends X sent->X.C.at S' s<=X.C.at S s/\(∀p,(X.Y p).at S' s=(X.Y p).at S s)/\X.M.at S' s<X.M.at S s):Stp X S sent S':=by
 refine ⟨⟨h.toInv0.loc hs ho hph hwl hms hot hwt,fun he=>⟨?_,fun p=>?_⟩⟩,fun he=>?_⟩
 ·have:=ho.all hs X.C;have:=(h.cnt he).cost;have:=(hc he).1;omega
 ·have:=ho.all hs (X.Y p);have:=(h.cnt he).num p;have:=(hc he).2.1 p;omega
 ·have:=ho.all hs X.M;have:=(hc he).2.2;omega
theorem xxp(h:Inv X S sent)(hs:s<X.D){k:α}{rest:List α}(hw:S.wl s=k::rest):Stp X S sent ((S.setWl s rest).setUl s (S.ul s++[.miss k])):=by
 obtain ⟨S',hS⟩:∃S',S'=(S.setWl s rest).setUl s (S.ul s++[.miss k]):=⟨_,rfl⟩;have ho:Oth S S' s:=by rw [hS];exact ((Oth.refl S s).setWl rest).setUl _
 have e1:S'.wl s=rest:=by rw [hS];exact x0l _ _ _
 have e2:S'.ul s=S.ul s++[.miss k]:=by rw [hS];exact x0l _ _ _
 have e3:S'.rl=S.rl:=by rw [hS];rfl
 have e4:S'.dl=S.dl:=by rw [hS];rfl
 have e5:S'.nl=S.nl:=by rw [hS];rfl
 rw [<-hS];have hk:=h.wl s hs k (by rw [hw];simp);refine xxo h hs ho ?_ (fun z hz=>h.wl s hs z (by rw [e1] at hz;rw [hw];simp [hz])) (fun z hz=>?_) (fun L hL=>h.ot s hs L (by rw [e4] at hL;exact hL)) (by rw [e1,hw];simp) (fun he=>?_)
 ·rw [e3,e4,e5,e2];simpa [Um.ctl] using h.ph s hs
 ·rw [e2,List.mem_append,List.mem_singleton] at hz;rcases hz with hz|hz
  ·exact h.ms s hs z hz
  ·cases hz;exact hk
 ·have key:∀W:Wgt ρ α,W.at S s=W.fw k+sumL W.fw rest+sumL W.fd (S.dl s)+sumL W.fu (S.ul s)+W.fn*(S.nl s).length:=fun W=>by rw [wt_at W S s hw rfl rfl rfl];rfl
  have key':∀W:Wgt ρ α,W.at S' s=sumL W.fw rest+sumL W.fd (S.dl s)+(sumL W.fu (S.ul s)+W.fu (.miss k))+W.fn*(S.nl s).length:=fun W=>by rw [wt_at W S' s e1 (by rw [e4]) e2 (by rw [e5]),xxv,xxy]
  have hp:=xzz X k;refine ⟨?_,fun p=>?_,?_⟩
  ·rw [key,key'];show _+(_+X.c k)+_<=X.c k+_+_+_+_;omega
  ·rw [key,key'];show _+(_+X.y p k)+_=X.y p k+_+_+_+_;omega
  ·rw [key,key'];show _+(_+(3*X.c k-1))+_<3*X.c k+_+_+_+_;have:1<=X.c k:=hp;omega
theorem xxh(h:Inv X S sent)(hs:s<X.D){b:List (Dm ρ α)}(hd:S.dl s=.bar::b):Stp X S sent ((S.setDl s b).setUl s (S.ul s++[.done])):=by
 obtain ⟨S',hS⟩:∃S',S'=(S.setDl s b).setUl s (S.ul s++[.done]):=⟨_,rfl⟩;have ho:Oth S S' s:=by rw [hS];exact ((Oth.refl S s).setDl b).setUl _
 have e1:S'.dl s=b:=by rw [hS];exact x0l _ _ _
 have e2:S'.ul s=S.ul s++[.done]:=by rw [hS];exact x0l _ _ _
 have e3:S'.rl=S.rl:=by rw [hS];rfl
 have e4:S'.wl=S.wl:=by rw [hS];rfl
 have e5:S'.nl=S.nl:=by rw [hS];rfl
 rw [<-hS];refine xxo h hs ho ?_ (fun z hz=>h.wl s hs z (by rw [e4] at hz;exact hz)) (fun z hz=>?_) (fun L hL=>h.ot s hs L (by rw [e1] at hL;rw [hd];simp [hL])) (by rw [e4];exact Nat.le_refl _) (fun he=>?_)
 ·have:=h.ph s hs;rw [hd] at this;rw [e3,e1,e5,e2,List.filter_append];exact Ph.bar this
 ·rw [e2,List.mem_append,List.mem_singleton] at hz;rcases hz with hz|hz
  ·exact h.ms s hs z hz
  ·cases hz
 ·have key:∀W:Wgt ρ α,W.at S s=sumL W.fw (S.wl s)+(W.fd .bar+sumL W.fd b)+sumL W.fu (S.ul s)+W.fn*(S.nl s).length:=fun W=>by rw [wt_at W S s rfl hd rfl rfl];rfl
  have key':∀W:Wgt ρ α,W.at S' s=sumL W.fw (S.wl s)+sumL W.fd b+(sumL W.fu (S.ul s)+W.fu .done)+W.fn*(S.nl s).length:=fun W=>by rw [wt_at W S' s (by rw [e4]) e1 e2 (by rw [e5]),xxv,xxy]
  refine ⟨?_,fun p=>?_,?_⟩
  ·rw [key,key'];show _+(_+0)+_<=_+(0+_)+_+_;omega
  ·rw [key,key'];show _+(_+0)+_=_+(0+_)+_+_;omega
  ·rw [key,key'];show _+(_+1)+_<_+(2+_)+_+_;omega
theorem xxm(h:Inv X S sent)(hs:s<X.D){r:ρ}{a b:List (Dm ρ α)}(hd:S.dl s=a ++ .add r::b)(hf:X.room<=(S.rl s).length):Stp X S sent ((S.setDl s (a++b)).setUl s (S.ul s++[.full])):=by
 obtain ⟨S',hS⟩:∃S',S'=(S.setDl s (a++b)).setUl s (S.ul s++[.full]):=⟨_,rfl⟩;have ho:Oth S S' s:=by rw [hS];exact ((Oth.refl S s).setDl _).setUl _
 have e1:S'.dl s=a++b:=by rw [hS];exact x0l _ _ _
 have e2:S'.ul s=S.ul s++[.full]:=by rw [hS];exact x0l _ _ _
 have e3:S'.rl=S.rl:=by rw [hS];rfl
 have e4:S'.wl=S.wl:=by rw [hS];rfl
 have e5:S'.nl=S.nl:=by rw [hS];rfl
 rw [<-hS];refine xxo h hs ho ?_ (fun z hz=>h.wl s hs z (by rw [e4] at hz;exact hz)) (fun z hz=>?_) (fun L hL=>h.ot s hs L (by rw [e1] at hL;rw [hd];rcases List.mem_append.1 hL with hL|hL<;>simp [hL])) (by rw [e4];exact Nat.le_refl _) (fun he=>?_)
 ·have:=h.ph s hs;rw [hd,List.filter_append,List.filter_cons_of_pos (by rfl)] at this;rw [e3,e1,e5,e2,List.filter_append,List.filter_append];exact Ph.add_full this hf
 ·rw [e2,List.mem_append,List.mem_singleton] at hz;rcases hz with hz|hz
  ·exact h.ms s hs z hz
  ·cases hz
 ·have key:∀W:Wgt ρ α,W.at S s=sumL W.fw (S.wl s)+(sumL W.fd a+(W.fd (.add r)+sumL W.fd b))+sumL W.fu (S.ul s)+W.fn*(S.nl s).length:=fun W=>by rw [wt_at W S s rfl hd rfl rfl,xxv];rfl
  have key':∀W:Wgt ρ α,W.at S' s=sumL W.fw (S.wl s)+(sumL W.fd a+sumL W.fd b)+(sumL W.fu (S.ul s)+W.fu .full)+W.fn*(S.nl s).length:=fun W=>by rw [wt_at W S' s (by rw [e4]) e1 e2 (by rw [e5]),xxv,xxv,xxy]
  refine ⟨?_,fun p=>?_,?_⟩
  ·rw [key,key'];show _+(_+0)+_<=_+(_+(0+_))+_+_;omega
  ·rw [key,key'];show _+(_+0)+_=_+(_+(0+_))+_+_;omega
  ·rw [key,key'];show _+(_+1)+_<_+(_+(2+_))+_+_;omega
theorem xxr(h:Inv X S sent)(hs:s<X.D){r:ρ}{a b:List (Dm ρ α)}(hd:S.dl s=a ++ .add r::b)(hf:(S.rl s).length<X.room):Stp X S sent ((S.setDl s (a++b)).setRl s (S.rl s++[r])):=by
 obtain ⟨S',hS⟩:∃S',S'=(S.setDl s (a++b)).setRl s (S.rl s++[r]):=⟨_,rfl⟩;have ho:Oth S S' s:=by rw [hS];exact ((Oth.refl S s).setDl _).setRl _
 have e1:S'.dl s=a++b:=by rw [hS];exact x0l _ _ _
 have e2:S'.rl s=S.rl s++[r]:=by rw [hS];exact x0l _ _ _
 have e3:S'.ul=S.ul:=by rw [hS];rfl
 have e4:S'.wl=S.wl:=by rw [hS];rfl
 have e5:S'.nl=S.nl:=by rw [hS];rfl
 rw [<-hS];refine xxo h hs ho ?_ (fun z hz=>h.wl s hs z (by rw [e4] at hz;exact hz)) (fun z hz=>h.ms s hs z (by rw [e3] at hz;exact hz)) (fun L hL=>h.ot s hs L (by rw [e1] at hL;rw [hd];rcases List.mem_append.1 hL with hL|hL<;>simp [hL])) (by rw [e4];exact Nat.le_refl _) (fun he=>?_)
 ·have:=h.ph s hs;rw [hd,List.filter_append,List.filter_cons_of_pos (by rfl)] at this;rw [e3,e1,e5,e2,List.filter_append];exact Ph.add_room this hf
 ·have key:∀W:Wgt ρ α,W.at S s=sumL W.fw (S.wl s)+(sumL W.fd a+(W.fd (.add r)+sumL W.fd b))+sumL W.fu (S.ul s)+W.fn*(S.nl s).length:=fun W=>by rw [wt_at W S s rfl hd rfl rfl,xxv];rfl
  have key':∀W:Wgt ρ α,W.at S' s=sumL W.fw (S.wl s)+(sumL W.fd a+sumL W.fd b)+sumL W.fu (S.ul s)+W.fn*(S.nl s).length:=fun W=>by rw [wt_at W S' s (by rw [e4]) e1 (by rw [e3]) (by rw [e5]),xxv]
  refine ⟨?_,fun p=>?_,?_⟩
  ·rw [key,key'];show _<=_+(_+(0+_))+_+_;omega
  ·rw [key,key'];show _=_+(_+(0+_))+_+_;omega
  ·rw [key,key'];show _<_+(_+(2+_))+_+_;omega
theorem xxj(h:Inv X S sent)(hs:s<X.D){k:α}{rest:List (Um α)}(hu:S.ul s=.miss k::rest):Stp X S sent ((S.setUl s rest).setDl s (S.dl s++[.out (X.pol k)])):=by
 obtain ⟨S',hS⟩:∃S',S'=(S.setUl s rest).setDl s (S.dl s++[.out (X.pol k)]):=⟨_,rfl⟩;have ho:Oth S S' s:=by rw [hS];exact ((Oth.refl S s).setUl _).setDl _
 have e1:S'.ul s=rest:=by rw [hS];exact x0l _ _ _
 have e2:S'.dl s=S.dl s++[.out (X.pol k)]:=by rw [hS];exact x0l _ _ _
 have e3:S'.rl=S.rl:=by rw [hS];rfl
 have e4:S'.wl=S.wl:=by rw [hS];rfl
 have e5:S'.nl=S.nl:=by rw [hS];rfl
 rw [<-hS];obtain ⟨hk,hr⟩:=h.ms s hs k (by rw [hu];simp);refine xxo h hs ho ?_ (fun z hz=>h.wl s hs z (by rw [e4] at hz;exact hz)) (fun z hz=>h.ms s hs z (by rw [e1] at hz;rw [hu];simp [hz])) (fun L hL=>?_) (by rw [e4];exact Nat.le_refl _) (fun he=>?_)
 ·have:=h.ph s hs;rw [hu] at this;rw [e3,e1,e5,e2];simpa [Um.ctl,Dm.ctl] using this
 ·rw [e2,List.mem_append,List.mem_singleton] at hL;rcases hL with hL|hL
  ·exact h.ot s hs L hL
  ·cases hL;exact ⟨k,hk,hr,rfl⟩
 ·have key:∀W:Wgt ρ α,W.at S s=sumL W.fw (S.wl s)+sumL W.fd (S.dl s)+(W.fu (.miss k)+sumL W.fu rest)+W.fn*(S.nl s).length:=fun W=>by rw [wt_at W S s rfl rfl hu rfl];rfl
  have key':∀W:Wgt ρ α,W.at S' s=sumL W.fw (S.wl s)+(sumL W.fd (S.dl s)+W.fd (.out (X.pol k)))+sumL W.fu rest+W.fn*(S.nl s).length:=fun W=>by rw [wt_at W S' s (by rw [e4]) e2 e1 (by rw [e5]),xxv,xxy]
  have t1:X.c k=sumL (X.o X.c (fun _=>0)) (X.pol k)+1:=(xz0 X (fun _=>true) (hr.good he.1)).1;refine ⟨?_,fun p=>?_,?_⟩
  ·rw [key,key'];show _+(_+(sumL (X.o X.c (fun _=>0)) (X.pol k)+1))+_+_<=_+_+(X.c k+_)+_;omega
  ·rw [key,key'];show _+(_+sumL (X.o (X.y p) (fun x=>[x].countP p)) (X.pol k))+_+_=_+_+(X.y p k+_)+_;have t2:X.y p k=sumL (X.o (X.y p) (fun x=>[x].countP p)) (X.pol k):=(xz0 X p (hr.good he.1)).2.1;omega
  ·rw [key,key'];show _+(_+(3*sumL (X.o X.c (fun _=>0)) (X.pol k)+1))+_+_<_+_+(3*X.c k-1+_)+_;omega
theorem xxk(h:Inv X S sent)(hs:s<X.D){rest:List (Um α)}(hu:S.ul s=.done::rest)(hn:S.nl s=[]):Stp X S sent (S.setUl s rest):=by
 have ho:Oth S (S.setUl s rest) s:=(Oth.refl S s).setUl _;have e1:(S.setUl s rest).ul s=rest:=x0l _ _ _;refine xxo h hs ho ?_ (h.wl s hs) (fun z hz=>h.ms s hs z (by rw [e1] at hz;rw [hu];simp [hz])) (h.ot s hs) (Nat.le_refl _) (fun he=>?_)
 ·have:=h.ph s hs;rw [hu,hn,List.filter_cons_of_pos (by rfl)] at this;have h2:=this.done_none;rw [<-hn,<-e1] at h2;exact h2
 ·have key:∀W:Wgt ρ α,W.at S s=sumL W.fw (S.wl s)+sumL W.fd (S.dl s)+(W.fu .done+sumL W.fu rest)+W.fn*(S.nl s).length:=fun W=>by rw [wt_at W S s rfl rfl hu rfl];rfl
  have key':∀W:Wgt ρ α,W.at (S.setUl s rest) s=sumL W.fw (S.wl s)+sumL W.fd (S.dl s)+sumL W.fu rest+W.fn*(S.nl s).length:=fun W=>wt_at W (S.setUl s rest) s rfl rfl e1 rfl
  refine ⟨?_,fun p=>?_,?_⟩
  ·rw [key,key'];show _<=_+_+(0+_)+_;omega
  ·rw [key,key'];show _=_+_+(0+_)+_;omega
  ·rw [key,key'];show _<_+_+(1+_)+_;omega
theorem xxl(h:Inv X S sent)(hs:s<X.D){rest:List (Um α)}(hu:S.ul s=.done::rest){r:ρ}{t:List ρ}(hn:S.nl s=r::t):Stp X S sent (((S.setUl s rest).setNl s t).setDl s (S.dl s++[.add r,.bar])):=by
 obtain ⟨S',hS⟩:∃S',S'=((S.setUl s rest).setNl s t).setDl s (S.dl s++[.add r,.bar]):=⟨_,rfl⟩;have ho:Oth S S' s:=by rw [hS];exact (((Oth.refl S s).setUl _).setNl _).setDl _
 have e1:S'.ul s=rest:=by rw [hS];exact x0l _ _ _
 have e2:S'.dl s=S.dl s++[.add r,.bar]:=by rw [hS];exact x0l _ _ _
 have e3:S'.rl=S.rl:=by rw [hS];rfl
 have e4:S'.wl=S.wl:=by rw [hS];rfl
 have e5:S'.nl s=t:=by rw [hS];exact x0l _ _ _
 rw [<-hS];refine xxo h hs ho ?_ (fun z hz=>h.wl s hs z (by rw [e4] at hz;exact hz)) (fun z hz=>h.ms s hs z (by rw [e1] at hz;rw [hu];simp [hz])) (fun L hL=>?_) (by rw [e4];exact Nat.le_refl _) (fun he=>?_)
 ·have:=h.ph s hs;rw [hu,hn,List.filter_cons_of_pos (by rfl)] at this;rw [e3,e1,e5,e2,List.filter_append];exact this.done_some
 ·rw [e2,List.mem_append] at hL;rcases hL with hL|hL
  ·exact h.ot s hs L hL
  ·simp at hL
 ·have key:∀W:Wgt ρ α,W.at S s=sumL W.fw (S.wl s)+sumL W.fd (S.dl s)+(W.fu .done+sumL W.fu rest)+W.fn*(t.length+1):=fun W=>by rw [wt_at W S s rfl rfl hu hn];rfl
  have key':∀W:Wgt ρ α,W.at S' s=sumL W.fw (S.wl s)+(sumL W.fd (S.dl s)+(W.fd (.add r)+(W.fd .bar+0)))+sumL W.fu rest+W.fn*t.length:=fun W=>by rw [wt_at W S' s (by rw [e4]) e2 e1 e5,xxv];rfl
  refine ⟨?_,fun p=>?_,?_⟩
  ·rw [key,key'];show _+(_+(0+(0+0)))+_+0*t.length<=_+_+(0+_)+0*(t.length+1);omega
  ·rw [key,key'];show _+(_+(0+(0+0)))+_+0*t.length=_+_+(0+_)+0*(t.length+1);omega
  ·rw [key,key'];show _+(_+(2+(2+0)))+_+4*t.length<_+_+(1+_)+4*(t.length+1);omega
theorem xxi(h:Inv X S sent)(hs:s<X.D){rest:List (Um α)}(hu:S.ul s=.full::rest):Stp X S sent ((S.setUl s rest).setNl s []):=by
 obtain ⟨S',hS⟩:∃S',S'=(S.setUl s rest).setNl s []:=⟨_,rfl⟩;have ho:Oth S S' s:=by rw [hS];exact ((Oth.refl S s).setUl _).setNl _
 have e1:S'.ul s=rest:=by rw [hS];exact x0l _ _ _
 have e2:S'.dl=S.dl:=by rw [hS];rfl
 have e3:S'.rl=S.rl:=by rw [hS];rfl
 have e4:S'.wl=S.wl:=by rw [hS];rfl
 have e5:S'.nl s=[]:=by rw [hS];exact x0l _ _ _
 rw [<-hS];refine xxo h hs ho ?_ (fun z hz=>h.wl s hs z (by rw [e4] at hz;exact hz)) (fun z hz=>h.ms s hs z (by rw [e1] at hz;rw [hu];simp [hz])) (fun L hL=>h.ot s hs L (by rw [e2] at hL;exact hL)) (by rw [e4];exact Nat.le_refl _) (fun he=>?_)
 ·have:=h.ph s hs;rw [hu,List.filter_cons_of_pos (by rfl)] at this;rw [e3,e1,e5,e2];exact this.fulls
 ·have key:∀W:Wgt ρ α,W.at S s=sumL W.fw (S.wl s)+sumL W.fd (S.dl s)+(W.fu .full+sumL W.fu rest)+W.fn*(S.nl s).length:=fun W=>by rw [wt_at W S s rfl rfl hu rfl];rfl
  have key':∀W:Wgt ρ α,W.at S' s=sumL W.fw (S.wl s)+sumL W.fd (S.dl s)+sumL W.fu rest+0:=fun W=>by rw [wt_at W S' s (by rw [e4]) (by rw [e2]) e1 e5];simp
  refine ⟨?_,fun p=>?_,?_⟩
  ·rw [key,key'];show _<=_+_+(0+_)+0*(S.nl s).length;omega
  ·rw [key,key'];show _=_+_+(0+_)+0*(S.nl s).length;omega
  ·rw [key,key'];show _<_+_+(1+_)+4*(S.nl s).length;omega
theorem xjy(h:Inv X S sent)(hs:s<X.D){k:α}(hk:X.ok s k)(hw:S.waits X.D<300):Inv X (S.setWl s (S.wl s++[k])) (sent++[k]):=by
 have ho:Oth S (S.setWl s (S.wl s++[k])) s:=(Oth.refl S s).setWl _;have e1:(S.setWl s (S.wl s++[k])).wl s=S.wl s++[k]:=x0l _ _ _;refine ⟨⟨h.ph,fun t ht z hz=>?_,fun t ht z hz=>⟨(h.ms t ht z hz).1,(h.ms t ht z hz).2.more k⟩,fun t ht L hL=>?_,fun x hx=>?_,?_⟩,fun he=>?_⟩
 ·by_cases e:t=s
  ·subst e;rw [e1,List.mem_append,List.mem_singleton] at hz;rcases hz with hz|rfl
   ·exact ⟨(h.wl t ht z hz).1,(h.wl t ht z hz).2.more k⟩
   ·exact ⟨hk,.base _ (by simp)⟩
  ·rw [ho.wl t e] at hz;exact ⟨(h.wl t ht z hz).1,(h.wl t ht z hz).2.more k⟩
 ·obtain ⟨z,h1,h2,h3⟩:=h.ot t ht L hL;exact ⟨z,h1,h2.more k,h3⟩
 ·obtain ⟨z,h1,h2⟩:=h.de x hx;exact ⟨z,h1.more k,h2⟩
 ·have:=xx1 (f:=fun s=>(S.wl s).length) (g:=fun t=>((S.setWl s (S.wl s++[k])).wl t).length) (s:=s) (fun i hi=>by rw [ho.wl i hi]) X.D hs;rw [e1,List.length_append,List.length_singleton] at this;unfold Gs.waits at *;omega
 ·have he':Ends X sent:=⟨fun z hz=>he.1 z (by simp [hz]),by have:=he.2;rw [xxv] at this;omega⟩;obtain ⟨c1,c2⟩:=h.cnt he'
  have hW:∀W:Wgt ρ α,W.all X.D (S.setWl s (S.wl s++[k]))=W.all X.D S+W.fw k:=fun W=>by
   have h1:=ho.all hs W;rw [wt_at W S s rfl rfl rfl rfl,wt_at W (S.setWl s (S.wl s++[k])) s e1 rfl rfl rfl,xxv,xxy] at h1;have e2:(S.setWl s (S.wl s++[k])).dl=S.dl:=rfl;have e3:(S.setWl s (S.wl s++[k])).ul=S.ul:=rfl;have e4:(S.setWl s (S.wl s++[k])).nl=S.nl:=rfl;rw [e2,e3,e4] at h1;omega
  refine ⟨?_,fun p=>?_⟩
  ·have h1:X.C.all X.D (S.setWl s (S.wl s++[k]))=X.C.all X.D S+X.c k:=hW X.C;rw [h1,xxv,xxy];omega
  ·have h1:(X.Y p).all X.D (S.setWl s (S.wl s++[k]))=(X.Y p).all X.D S+X.y p k:=hW (X.Y p);rw [h1,xxv,xxy,c2 p]
theorem xjz(hph:∀s,s<X.D->Ph (X.T s) X.room (S.rl s) (S.nl s) ((S.dl s).filter Dm.ctl) ((S.ul s).filter Um.ctl))(hw:∀s,S.wl s=[])(hu:∀s,S.ul s=[])(hd:∀s L,Dm.out L∉S.dl s)(hx:S.del=[]):Inv X S []:=by
 have hz:∀(W:Wgt ρ α),(∀m,m.ctl=true->W.fd m=0)->W.fn=0->W.all X.D S=0:=fun W h1 h2=>by
  unfold Wgt.all;rw [hx]
  have h3:∀l:List (Dm ρ α),(∀L,Dm.out L∉l)->sumL W.fd l=0:=fun l=>by
   induction l with
   | nil=>intro _;rfl
   | cons m l ih=>
    intro hl
    rw [sumL,ih (fun L hL=>hl L (by simp [hL])),h1 m (by
     cases m with
     | out L=>exact absurd (by simp) (hl L)
     | _=>rfl)]
  have h4:sumS (W.at S) X.D=sumS (fun _=>0) X.D:=xx0 _ (fun i _=>by
   rw [wt_at W S i (hw i) rfl (hu i) rfl,h3 _ (hd i),h2];simp [sumL])
  have h5:∀n,sumS (fun _=>0) n=0:=fun n=>by
   induction n with
   | zero=>rfl
   | succ n ih=>rw [sumS,ih]
  rw [h4,h5];rfl
 refine ⟨⟨hph,fun t _ z h=>by rw [hw] at h;(cases h),fun t _ z h=>by rw [hu] at h;(cases h),fun t _ L h=>absurd h (hd t L),fun x h=>by rw [hx] at h;(cases h),?_⟩,fun _=>⟨?_,fun p=>?_⟩⟩
 ·unfold Gs.waits;have h4:sumS (fun s=>(S.wl s).length) X.D=sumS (fun _=>0) X.D:=xx0 _ (fun i _=>by rw [hw i];rfl)
  have h5:∀n,sumS (fun _=>0) n=0:=fun n=>by
   induction n with
   | zero=>rfl
   | succ n ih=>rw [sumS,ih]
  rw [h4,h5];omega
 ·rw [hz X.C (fun m hm=>by cases m<;>first|rfl|cases hm) rfl];exact Nat.zero_le _
 ·rw [hz (X.Y p) (fun m hm=>by cases m<;>first|rfl|cases hm) rfl];rfl
end
section
variable{ρ α:Type}{X:Nx ρ α}{S S':Gs ρ α}{sent:List α}{s:Nat}
theorem xxw(p:α->Bool):∀l:List α,sumL (fun x=>[x].countP p) l=l.countP p
 | []=>rfl
 | x::l=>by rw [sumL,xxw p l,<-List.countP_append];rfl
theorem xhc(h:Inv X S sent)(he:Ends X sent)(p:α->Bool):S.del.countP p<=sumL (X.y p) sent:=by
 rw [<-(h.cnt he).num p,<-xxw];unfold Wgt.all;exact Nat.le_add_left _ _
theorem x1y(p:α->Bool):∀l:List α,(l.flatMap fun k=>(X.tot k).1).countP p=sumL (X.y p) l
 | []=>rfl
 | k::l=>by rw [List.flatMap_cons,List.countP_append,x1y p l];rfl
end
end Go.Proofs.YtlhkfafdioakeaaGreatDoor
