/- Parts of the proof. -/
import Derived.Test.YtlhkfafdioakeaaGreatDoorSf09
import Derived.Test.YtlhkfafdioakeaaGreatDoorSf12
namespace Go.Proofs.YtlhkfafdioakeaaGreatDoor
open Go.RowKit Go.Weft
set_option linter.unusedVariables false
set_option linter.unusedSimpArgs false
def wt:Code->Nat
 | .exit _=>12
 | .loop t=>wt t+4
 | .scope t=>wt t+4
 | .block _ l=>wt l
 | .seq a l=>wt a+wt l+6
 | _=>0
def Wt(ts:List Tok)(p:St->Except (Int×Nat) (Code×St)):Prop:=∀st t st',p st=.ok (t,st')->st.i<=st'.i/\wt t+6+18*st.i<=18*st'.i
section
variable{s:ByteArray}{ts:List Tok}
theorem x1r(k:Int)(f n:Nat):wt (leafC k f n)=12:=by unfold leafC;split<;>rfl
theorem x1t(f:Nat):Wt ts (pairP s ts f):=by
 intro st t st' h;unfold pairP at h;by_cases b1:f=0/\(tk ts (st.i+1)).kind=11
 ·rw [if_pos b1] at h;cases h
 rw [if_neg b1] at h;by_cases b2:st.atoms=16
 ·rw [if_pos b2] at h;cases h
 rw [if_neg b2] at h;by_cases b3:¬(tk ts (st.i+1)).kind=10/\¬(tk ts (st.i+1)).kind=11
 ·rw [if_pos b3] at h;cases h
 rw [if_neg b3] at h;by_cases b4:¬(tk ts (st.i+2)).kind=3
 ·rw [if_pos b4] at h;cases h
 rw [if_neg b4] at h;by_cases b5:31<xpf (txt s (tk ts (st.i+2)))
 ·rw [if_pos b5] at h;cases h
 rw [if_neg b5] at h;cases h;rw [x1r];exact ⟨by simp,by simp;omega⟩
theorem x1x:Wt ts (wordP s ts):=by
 intro st t st' h;unfold wordP at h;split at h
 ·cases h;exact ⟨by simp,by simp [wt];omega⟩
 ·split at h
  ·cases h;exact ⟨by simp,by simp [wt];omega⟩
  ·split at h
   ·cases h
   ·exact x1t _ st t st' h
theorem x1v:∀(f:Nat) (t:Code) (i:Nat),i<=(xw4 ts f t i).2/\wt (xw4 ts f t i).1+18*i<=wt t+18*(xw4 ts f t i).2
 | 0,t,i=>⟨Nat.le_refl _,Nat.le_refl _⟩
 | f+1,t,i=>by
  unfold xw4;split
  ·have:=x1v f (.loop t) (i+1);simp only [wt] at this;omega
  ·exact ⟨Nat.le_refl _,Nat.le_refl _⟩
theorem x1u{p:St->Except (Int×Nat) (Code×St)}(hp:Wt ts p):Wt ts (partP ts p):=by
 intro st t st' h;unfold partP at h;split at h
 ·cases h
 ·rename_i t1 st1 h1;cases h;have g1:=hp st t1 st1 h1;have g2:=x1v (ts:=ts) ts.length t1 st1.i;exact ⟨by simp;omega,by simp;omega⟩
theorem x1s{p:St->Except (Int×Nat) (Code×St)}(hp:Wt ts p)(sep:Int):∀(f:Nat) (st:St) (l:List Code) (st':St),listP ts sep p f st=.ok (l,st')->
  st.i<=st'.i/\(l.map fun t=>wt t+6).sum+18*st.i+18*(l.length-1)<=18*st'.i:=by
 intro f;induction f with
 | zero=>intro st l st' h;unfold listP at h;cases h;exact ⟨Nat.le_refl _,by simp⟩
 | succ f ih=>
  intro st l st' h;unfold listP at h;split at h
  ·cases h
  ·rename_i t1 st1 e1;have g1:=hp st t1 st1 e1;split at h
   ·split at h
    ·cases h
    ·rename_i l2 st2 e2;cases h;have g2:=ih _ l2 _ e2;simp only [List.map_cons,List.sum_cons,List.length_cons] at g2 ⊢;omega
   ·cases h;simp only [List.map_cons,List.sum_cons,List.length_cons,List.map_nil,List.sum_nil,List.length_nil];omega
theorem x1o:∀l:List Code,wt (chain l)=(l.map fun t=>wt t+6).sum
 | []=>rfl
 | t::l=>by simp only [chain,wt,List.map_cons,List.sum_cons,x1o l];omega
theorem x1p{k:Nat}{l:List Code}(hl:l≠[]):wt (joinC k l)+6<=(l.map fun t=>wt t+6).sum+18*(l.length-1):=by
 match l,hl with
 | [t],_=>simp [joinC]
 | t::u::r,_=>
  have:wt (joinC k (t::u::r))=wt (chain (t::u::r)):=rfl;rw [this,x1o];simp;omega
theorem xl5{p:St->Except (Int×Nat) (Code×St)}{sep:Int}{f:Nat}{st st':St}{l:List Code}(hf:0<f)(h:listP ts sep p f st=.ok (l,st')):l≠[]:=by
 obtain ⟨f,rfl⟩:∃f',f=f'+1:=⟨f-1,by omega⟩;unfold listP at h;split at h
 ·cases h
 ·split at h
  ·split at h
   ·cases h
   ·cases h;simp
  ·cases h;simp
theorem x1q{k:Nat}{p:St->Except (Int×Nat) (Code×St)}(hp:Wt ts p)(sep:Int)(h0:0<ts.length):Wt ts (fun st=>joinP k (listP ts sep p ts.length st)):=by
 intro st t st' h;obtain ⟨l,hl,rfl⟩:=xip h;have g:=x1s hp sep _ st l st' hl;have:=x1p (k:=k) (xl5 h0 hl);exact ⟨g.1,by omega⟩
theorem x1n(h0:0<ts.length):∀d,Wt ts (atomP s ts d):=by
 intro d;induction d with
 | zero=>
  intro st t st' h;unfold atomP at h;split at h
  ·exact x1x st t st' h
  ·repeat' split at h
   all_goals cases h
 | succ d ih=>
  intro st t st' h;unfold atomP at h;split at h
  ·exact x1x st t st' h
  ·split at h
   ·unfold notP at h;split at h
    ·cases h
    ·rename_i t1 st1 e1;cases h;have g:=ih _ t1 st1 e1;simp only [wt] at g ⊢;exact ⟨by omega,by omega⟩
   ·split at h
    ·unfold xds at h;split at h
     ·cases h
     ·rename_i t1 st1 e1;have g:=(x1q (k:=0) (x1q (k:=1) (x1u ih) 5 h0) 4 h0) _ t1 st1 e1;split at h
      ·cases h;simp only at g ⊢;exact ⟨by omega,by omega⟩
      ·cases h
    ·cases h
end
def Er(p:St->Except (Int×Nat) (Code×St)):Prop:=∀st e,p st=.error e->e.1≠0
section
variable{s:ByteArray}{ts:List Tok}
theorem xgw(f:Nat):Er (pairP s ts f):=by
 intro st e h;unfold pairP at h;repeat' split at h
 all_goals first|(cases h;simp;done)|cases h
theorem xgy:Er (wordP s ts):=by
 intro st e h;unfold wordP at h;split at h
 ·cases h
 ·split at h
  ·cases h
  ·split at h
   ·cases h;simp
   ·exact xgw _ st e h
theorem xgx{p:St->Except (Int×Nat) (Code×St)}(hp:Er p):Er (partP ts p):=by
 intro st e h;unfold partP at h;split at h
 ·rename_i e1 h1;cases h;exact hp st _ h1
 ·cases h
theorem xgv{p:St->Except (Int×Nat) (Code×St)}(hp:Er p)(sep:Int):∀(f:Nat) (st:St) (e:Int×Nat),listP ts sep p f st=.error e->e.1≠0:=by
 intro f;induction f with
 | zero=>intro st e h;unfold listP at h;cases h
 | succ f ih=>
  intro st e h;unfold listP at h;split at h
  ·rename_i e1 h1;cases h;exact hp st _ h1
  ·split at h
   ·split at h
    ·rename_i e2 h2;cases h;exact ih _ _ h2
    ·cases h
   ·cases h
theorem xgu{k:Nat}{p:St->Except (Int×Nat) (Code×St)}(hp:Er p)(sep:Int)(n:Nat):Er (fun st=>joinP k (listP ts sep p n st)):=by
 intro st e h;unfold joinP at h;simp only at h;split at h
 ·rename_i e1 h1;cases h;exact xgv hp sep _ st _ h1
 ·cases h
theorem xgt:∀d,Er (atomP s ts d):=by
 intro d;induction d with
 | zero=>
  intro st e h;unfold atomP at h;split at h
  ·exact xgy st e h
  ·repeat' split at h
   all_goals (cases h;simp)
 | succ d ih=>
  intro st e h;unfold atomP at h;split at h
  ·exact xgy st e h
  ·split at h
   ·unfold notP at h;split at h
    ·rename_i e1 h1;cases h;exact ih _ _ h1
    ·cases h
   ·split at h
    ·unfold xds at h;split at h
     ·rename_i e1 h1;cases h;exact (xgu (k:=0) (xgu (k:=1) (xgx ih) 5 ts.length) 4 ts.length) _ _ h1
     ·split at h
      ·cases h
      ·cases h;simp
    ·cases h;simp
end
theorem xti{s:ByteArray}{en:Int}{pl:Nat}(h:readS s=.error (en,pl)):(en != 0)=true:=by
 rw [bne_iff_ne];unfold readS at h;split at h
 ·cases h;simp
 ·unfold readP at h;split at h
  ·rename_i e1 h1;cases h;exact (xgu (k:=0) (xgu (k:=1) (xgx (xgt 12)) 5 _) 4 _) _ _ h1
  ·split at h
   ·split at h
    ·cases h
    ·cases h;simp
   ·cases h;simp
def niceP:Code->Bool×Bool
 | .exit n=>(decide (n<2+2*192),false)
 | .loop t=>((niceP t).1,false)
 | .scope t=>(isT t&&(niceP t).1,false)
 | .block k l=>(decide (k<=1)&&(decide (2<=(elems l).length)&&(niceP l).2),false)
 | .seq a l=>(false,(niceP a).1&&(niceP l).2)
 | .skip=>(false,true)
 | _=>(false,false)
def nice(t:Code):Bool:=(niceP t).1
theorem xok:∀t:Code,((niceP t).1=true->(wfC t).1=true)/\((niceP t).2=true->(wfC t).2=true):=by
 intro t;induction t with
 | exit n=>exact ⟨fun _=>rfl,fun h=>by cases h⟩
 | skip=>exact ⟨fun h=>(by cases h),fun _=>rfl⟩
 | loop t ih=>exact ⟨fun h=>ih.1 h,fun h=>by cases h⟩
 | scope t ih=>exact ⟨fun h=>ih.1 ((Bool.and_eq_true _ _ ▸ (show (isT t&&(niceP t).1)=true from h)).2),fun h=>by cases h⟩
 | block k l ih=>
  refine ⟨fun h=>?_,fun h=>by cases h⟩;have h':(decide (k<=1)&&(decide (2<=(elems l).length)&&(niceP l).2))=true:=h;rw [Bool.and_eq_true,Bool.and_eq_true] at h';exact ih.2 h'.2.2
 | seq a b iha ihb=>
  refine ⟨fun h=>(by cases h),fun h=>?_⟩;have h':((niceP a).1&&(niceP b).2)=true:=h;rw [Bool.and_eq_true] at h';show ((wfC a).1&&(wfC b).2)=true;rw [iha.1 h'.1,ihb.2 h'.2];rfl
 | _=>exact ⟨fun h=>(by cases h),fun h=>by cases h⟩
theorem xge:∀l:List Code,elems (chain l)=l
 | []=>rfl
 | t::l=>by show t::elems (chain l)=_;rw [xge l]
def Ni(p:St->Except (Int×Nat) (Code×St)):Prop:=∀st t st',p st=.ok (t,st')->st'.bad=401->st.bad=401/\nice t=true
theorem xof:∀l:List Code,(∀t,t∈l->nice t=true)->(niceP (chain l)).2=true
 | [],_=>rfl
 | t::l,h=>by
  show ((niceP t).1&&(niceP (chain l)).2)=true;rw [show (niceP t).1=true from h t (by simp),xof l (fun x hx=>h x (by simp [hx]))];rfl
theorem xog(k:Nat)(hk:k<=1)(l:List Code)(hl:l≠[])(h:∀t,t∈l->nice t=true):nice (joinC k l)=true:=by
 match l,hl with
 | [t],_=>exact h t (by simp)
 | a::b::l,_=>
  show (decide (k<=1)&&(decide (2<=(elems (chain (a::b::l))).length)&&(niceP (chain (a::b::l))).2))=true;rw [xge,xof _ h,decide_eq_true hk,decide_eq_true (by simp)];rfl
theorem xg7{b:List UInt8}{f:Nat}(h:xg6 b=some f):f<6:=by
 unfold xg6 at h;repeat' split at h
 all_goals first|(cases h;done)|(simp only [Option.some.injEq] at h;omega)
section
variable{s:ByteArray}{ts:List Tok}
theorem xob(f:Nat)(hf:f<6):Ni (pairP s ts f):=by
 intro st t st' h hb;unfold pairP at h;by_cases b1:f=0/\(tk ts (st.i+1)).kind=11
 ·rw [if_pos b1] at h;cases h
 rw [if_neg b1] at h;by_cases b2:st.atoms=16
 ·rw [if_pos b2] at h;cases h
 rw [if_neg b2] at h;by_cases b3:¬(tk ts (st.i+1)).kind=10/\¬(tk ts (st.i+1)).kind=11
 ·rw [if_pos b3] at h;cases h
 rw [if_neg b3] at h;by_cases b4:¬(tk ts (st.i+2)).kind=3
 ·rw [if_pos b4] at h;cases h
 rw [if_neg b4] at h;by_cases b5:31<xpf (txt s (tk ts (st.i+2)))
 ·rw [if_pos b5] at h;cases h
 rw [if_neg b5] at h;cases h;refine ⟨hb,?_⟩;have nl:∀m,m<2+2*192->nice (.exit m)=true:=fun m hm=>decide_eq_true hm
 generalize xpf (txt s (tk ts (st.i+2)))=z at b5 ⊢;unfold leafC;split
 ·exact nl _ (by omega)
 ·exact nl _ (by omega)
theorem xoe:Ni (wordP s ts):=by
 intro st t st' h hb;unfold wordP at h;split at h
 ·cases h;exact ⟨hb,rfl⟩
 ·split at h
  ·cases h;exact ⟨hb,rfl⟩
  ·split at h
   ·cases h
   ·rename_i f hf;exact xob f (xg7 hf) st t st' h hb
theorem xod:∀n t i,nice t=true->nice (xw4 ts n t i).1=true
 | 0,t,i,h=>h
 | n+1,t,i,h=>by
  rw [xw4];split
  ·exact xod n (.loop t) (i+1) h
  ·exact h
theorem xoc{p:St->Except (Int×Nat) (Code×St)}(h:Ni p):Ni (partP ts p):=by
 intro st t st' hp hb;unfold partP at hp;split at hp
 ·cases hp
 ·rename_i t1 st1 e1;cases hp;have:=h st t1 st1 e1 hb;exact ⟨this.1,xod _ _ _ this.2⟩
theorem xoa{p:St->Except (Int×Nat) (Code×St)}(h:Ni p)(sep:Int):∀n st l st',listP ts sep p n st=.ok (l,st')->st'.bad=401->st.bad=401/\∀t,t∈l->nice t=true
 | 0,st,l,st',hp,hb=>by
  rw [listP] at hp;cases hp;exact ⟨hb,fun t ht=>by cases ht⟩
 | n+1,st,l,st',hp,hb=>by
  rw [listP] at hp;split at hp
  ·cases hp
  ·rename_i t1 st1 e1;split at hp
   ·split at hp
    ·cases hp
    ·rename_i l2 st2 e2;cases hp;have g2:=xoa h sep n _ l2 _ e2 hb;have h1:=h st t1 st1 e1 g2.1;refine ⟨h1.1,fun t ht=>?_⟩;rcases List.mem_cons.1 ht with rfl|ht
     ·exact h1.2
     ·exact g2.2 t ht
   ·cases hp;have h1:=h st t1 _ e1 hb;refine ⟨h1.1,fun t ht=>?_⟩;rcases List.mem_cons.1 ht with rfl|ht
    ·exact h1.2
    ·cases ht
theorem xn9{k:Nat}(hk:k<=1){p:St->Except (Int×Nat) (Code×St)}(hp:Ni p)(sep:Int)(h0:0<ts.length):Ni (fun st=>joinP k (listP ts sep p ts.length st)):=by
 intro st t st' h hb;obtain ⟨l,hl,rfl⟩:=xip h;have g:=xoa hp sep _ st l st' hl hb;exact ⟨g.1,xog k hk l (xl5 h0 hl) g.2⟩
theorem xn8(h0:0<ts.length)(ha:∀i,(tk ts i).at_<=400):∀d,Ni (atomP s ts d):=by
 intro d;induction d with
 | zero=>
  intro st t st' h hb;unfold atomP at h;split at h
  ·exact xoe st t st' h hb
  ·repeat' split at h
   all_goals cases h
 | succ d ih=>
  intro st t st' h hb;unfold atomP at h;split at h
  ·exact xoe st t st' h hb
  ·split at h
   ·unfold notP at h;split at h
    ·cases h
    ·rename_i t1 st1 e1;cases h;have:=ha st.i;by_cases hT:isT t1=true
     ·have g:=ih _ t1 st1 e1 (by simp only [hT,if_true] at hb;exact hb);refine ⟨g.1,?_⟩;show (isT t1&&(niceP t1).1)=true;rw [hT,show (niceP t1).1=true from g.2];rfl
     ·exfalso;simp only [hT,if_false] at hb;have h2:min st1.bad (tk ts st.i).at_<=(tk ts st.i).at_:=Nat.min_le_right _ _;have hb':min st1.bad (tk ts st.i).at_=401:=by simpa using hb
      omega
   ·split at h
    ·unfold xds at h;split at h
     ·cases h
     ·rename_i t1 st1 e1;split at h
      ·cases h;have g:=(xn9 (k:=0) (by decide) (xn9 (k:=1) (by decide) (xoc ih) 5 h0) 4 h0) _ _ st1 e1 hb;exact g
      ·cases h
    ·cases h
end
theorem xth{s:ByteArray}{t:Code}(h:readS s=.ok t):nice t=true/\wt t<=7300:=by
 unfold readS at h;split at h
 ·cases h
 ·rename_i hs;have hcl:=xzt s 0;have hlen:=xzv s true;unfold readP at h;split at h
  ·cases h
  ·rename_i t1 st1 e1;have g:=(x1q (k:=0) (x1q (k:=1) (x1u (x1n (s:=s) hcl.1 12)) 5 hcl.1) 4 hcl.1) _ t1 st1 e1;have g2:=xiu hcl (xio (s:=s) hcl 12) _ t1 st1 hcl.1 (by simp) e1;have g3:=(xn9 (k:=0) (by decide) (xn9 (k:=1) (by decide) (xoc (xn8 (s:=s) hcl.1 (fun i=>Nat.le_trans (xzs s true i) (by omega)) 12)) 5 hcl.1) 4 hcl.1) _ t1 st1 e1;split at h
   ·split at h
    ·rename_i hb;cases h;simp at g;exact ⟨(g3 hb).2,by omega⟩
    ·cases h
   ·cases h
def lfC:Code->Bool
 | .exit n=>decide (n<2+2*192)
 | .loop t=>lfC t
 | .scope t=>lfC t
 | .block _ l=>lfC l
 | .seq a l=>lfC a&&lfC l
 | _=>true
theorem xlx:∀l:List Code,lfC (chain l)=l.all lfC
 | []=>rfl
 | t::l=>by show (lfC t&&lfC (chain l))=_;rw [xlx l];rfl
theorem xly:∀l:Code,(wfC l).2=true->(elems l).all lfC=lfC l
 | .skip,_=>rfl
 | .seq a b,h=>by
  have h':((wfC a).1&&(wfC b).2)=true:=h;rw [Bool.and_eq_true] at h';show (a::elems b).all lfC=(lfC a&&lfC b);rw [List.all_cons,xly b h'.2]
theorem x1w:∀l:Code,(wfC l).2=true->((elems l).map fun t=>wt t+6).sum=wt l
 | .skip,_=>rfl
 | .seq a b,h=>by
  have h':((wfC a).1&&(wfC b).2)=true:=h;rw [Bool.and_eq_true] at h';show ((a::elems b).map fun t=>wt t+6).sum=wt a+wt b+6;rw [List.map_cons,List.sum_cons,x1w b h'.2];omega
theorem xhv(k:Nat)(t:Code)(h:(wfC t).1=true):(flatE k t).all lfC=lfC t/\((flatE k t).map fun t=>wt t+6).sum<=wt t+6:=by
 unfold flatE;split
 ·rename_i k' l;split
  ·exact ⟨xly l h,by rw [x1w l h];simp [wt]⟩
  ·simp
 ·simp
theorem xhw(k:Nat):∀l:List Code,(∀t,t∈l->(wfC t).1=true)->(l.flatMap (flatE k)).all lfC=l.all lfC/\((l.flatMap (flatE k)).map fun t=>wt t+6).sum<=(l.map fun t=>wt t+6).sum
 | [],_=>⟨rfl,by simp⟩
 | t::l,h=>by
  have h1:=xhv k t (h t (by simp));have h2:=xhw k l (fun x hx=>h x (by simp [hx]));rw [List.flatMap_cons,List.all_append,List.all_cons,h1.1,h2.1,List.map_append,List.sum_append,List.map_cons,List.sum_cons];exact ⟨rfl,by omega⟩
theorem xt4(k:Nat)(l:List Code)(h:∀t,t∈l->(wfC t).1=true):lfC (rjoin k l)=l.all lfC/\wt (rjoin k l)<=(l.map fun t=>wt t+6).sum:=by
 unfold rjoin;split
 ·exact ⟨by simp,by simp⟩
 ·have h1:=xhw k l h;exact ⟨(xlx _).trans h1.1,by show wt (chain _)<=_;rw [x1o];exact h1.2⟩
theorem xh2:∀t:Code,((wfC t).1=true->lfC (flatP t).1=lfC t/\wt (flatP t).1<=wt t)/\((wfC t).2=true->(flatP t).2.all lfC=lfC t/\((flatP t).2.map fun t=>wt t+6).sum<=wt t):=by
 intro t;induction t with
 | exit n=>exact ⟨fun _=>⟨rfl,Nat.le_refl _⟩,fun h=>by cases h⟩
 | skip=>exact ⟨fun h=>(by cases h),fun _=>⟨rfl,Nat.le_refl _⟩⟩
 | loop t ih=>exact ⟨fun h=>⟨(ih.1 h).1,Nat.add_le_add_right (ih.1 h).2 4⟩,fun h=>by cases h⟩
 | scope t ih=>exact ⟨fun h=>⟨(ih.1 h).1,Nat.add_le_add_right (ih.1 h).2 4⟩,fun h=>by cases h⟩
 | block k l ih=>
  refine ⟨fun h=>?_,fun h=>by cases h⟩;have hl:=ih.2 h;have hw:=((xh0 l).2 h).2;have hr:=xt4 k _ hw;exact ⟨hr.1.trans hl.1,Nat.le_trans hr.2 hl.2⟩
 | seq a b iha ihb=>
  refine ⟨fun h=>(by cases h),fun h=>?_⟩;have h':((wfC a).1&&(wfC b).2)=true:=h;rw [Bool.and_eq_true] at h';have ha:=iha.1 h'.1;have hb:=ihb.2 h'.2;refine ⟨?_,?_⟩
  ·show ((flatP a).1::(flatP b).2).all lfC=(lfC a&&lfC b);rw [List.all_cons,ha.1,hb.1]
  ·show (((flatP a).1::(flatP b).2).map fun t=>wt t+6).sum<=wt a+wt b+6;rw [List.map_cons,List.sum_cons];omega
 | _=>exact ⟨fun h=>(by cases h),fun h=>by cases h⟩
theorem xoi:∀t:Code,((niceP t).1=true->lfC t=true)/\((niceP t).2=true->lfC t=true):=by
 intro t;induction t with
 | exit n=>exact ⟨fun h=>h,fun h=>by cases h⟩
 | skip=>exact ⟨fun h=>(by cases h),fun _=>rfl⟩
 | loop t ih=>exact ⟨fun h=>ih.1 h,fun h=>by cases h⟩
 | scope t ih=>exact ⟨fun h=>ih.1 ((Bool.and_eq_true _ _ ▸ (show (isT t&&(niceP t).1)=true from h)).2),fun h=>by cases h⟩
 | block k l ih=>
  refine ⟨fun h=>?_,fun h=>by cases h⟩;have h':(decide (k<=1)&&(decide (2<=(elems l).length)&&(niceP l).2))=true:=h;rw [Bool.and_eq_true,Bool.and_eq_true] at h';exact ih.2 h'.2.2
 | seq a b iha ihb=>
  refine ⟨fun h=>(by cases h),fun h=>?_⟩;have h':((niceP a).1&&(niceP b).2)=true:=h;rw [Bool.and_eq_true] at h';show (lfC a&&lfC b)=true;rw [iha.1 h'.1,ihb.2 h'.2];rfl
 | _=>exact ⟨fun h=>(by cases h),fun h=>by cases h⟩
theorem xh3{t:Code}(h:nice t=true):lfC (flat t)=true/\wt (flat t)<=wt t:=by
 have h1:=(xh2 t).1 ((xok t).1 h);exact ⟨h1.1.trans ((xoi t).1 h),h1.2⟩
end Go.Proofs.YtlhkfafdioakeaaGreatDoor
namespace Go.Weft
set_option linter.unusedVariables false
set_option linter.unusedSimpArgs false
abbrev Sym:=Int×List UInt8
def symT(s:ByteArray)(t:Tok):Sym:=(t.kind,txt s t)
def runL(l:Bool):List UInt8->List UInt8
 | []=>[]
 | c::r=>if clsB l (c.toNat:Int)=true then c::runL l r else []
def lexL:Nat->List UInt8->List Sym
 | 0,_=>[(0,[])]
 | _+1,[]=>[(0,[])]
 | f+1,c::r=>
  if (c.toNat:Int)=32\/(c.toNat:Int)=10 then lexL f r
  else if letB (c.toNat:Int)=true then (2,c::runL true r)::lexL f (r.drop (runL true r).length)
  else if (c.toNat:Int)=48 then (3,[c])::lexL f r
  else if digB (c.toNat:Int)=true then (3,c::runL false r)::lexL f (r.drop (runL false r).length)
  else if (c.toNat:Int)=58 then
   (if r.head?=some 61 then (11,[c,61])::lexL f (r.drop 1) else [(1,[])])
  else if signK (c.toNat:Int)=1 then [(1,[])]
  else (signK (c.toNat:Int),[c])::lexL f r
theorem xdz(s:ByteArray)(i:Nat)(c:UInt8)(r:List UInt8)(h:s.data.toList.drop i=c::r):i<s.size/\byt s i=(c.toNat:Int)/\s.data.toList.drop (i+1)=r:=by
 have hl:i<s.data.toList.length:=by
  rcases Nat.lt_or_ge i s.data.toList.length with h1|h1
  ·exact h1
  ·rw [List.drop_eq_nil_of_le h1] at h;cases h
 rw [List.drop_eq_getElem_cons hl] at h;have hs:i<s.size:=by simpa using hl
 refine ⟨hs,?_,(List.cons.inj h).2⟩;rw [xd1 s i hs];have:=(List.cons.inj h).1;rw [<-this];rfl
theorem xgd(s:ByteArray)(i:Nat)(h:s.data.toList.drop i=[]):s.size<=i:=by
 have:=List.drop_eq_nil_iff.1 h;simpa using this
theorem xu1(s:ByteArray)(l:Bool):∀(r:List UInt8) (i:Nat),s.data.toList.drop i=r->xux s l s.size i=i+(runL l r).length
 | [],i,h=>by
  rw [xu3 s l i (fun c=>by have:=xgd s i h;omega)];rfl
 | c::r,i,h=>by
  obtain ⟨h1,h2,h3⟩:=xdz s i c r h;unfold runL;by_cases hc:clsB l (c.toNat:Int)=true
  ·rw [if_pos hc,xu2 s l i h1 (by rw [h2];exact hc),xu1 s l r (i+1) h3];simp only [List.length_cons];omega
  ·rw [if_neg hc,xu3 s l i (fun k=>hc (by rw [<-h2];exact k.2))];rfl
theorem xu5(l:Bool):∀r:List UInt8,r.take (runL l r).length=runL l r
 | []=>rfl
 | c::r=>by
  unfold runL;split
  ·simp only [List.length_cons,List.take_succ_cons];rw [xu5 l r]
  ·rfl
theorem x0b(s:ByteArray)(k:Int)(i n:Nat):txt s ⟨k,i,i+n⟩=(s.data.toList.drop i).take n:=by
 unfold txt;simp [ByteArray.data_extract]
theorem xzw(s:ByteArray):∀(f:Nat) (r:List UInt8) (i:Nat),s.data.toList.drop i=r->r.length<=f->(toks s true i).map (symT s)=lexL f r
 | f,[],i,h,hf=>by
  have hs:=xgd s i h;rw [xzu,if_pos hs]
  have e:symT s ⟨0,i,i⟩=(0,[]):=by
   unfold symT;have:=x0b s 0 i 0;simp only [Nat.add_zero,List.take_zero] at this;rw [this]
  cases f with
  | zero=>simp [lexL,e]
  | succ f=>simp [lexL,e]
 | 0,c::r,i,h,hf=>by simp at hf
 | f+1,c::r,i,h,hf=>by
  obtain ⟨h1,h2,h3⟩:=xdz s i c r h;have hf':r.length<=f:=by simpa using hf
  rw [xzu,if_neg (by omega),lexL,h2]
  have one:∀k:Int,symT s ⟨k,i,i+1⟩=(k,[c]):=fun k=>by
   unfold symT;rw [x0b,h];rfl
  have nul:symT s ⟨1,i,i⟩=(1,[]):=by
   unfold symT;have:=x0b s 1 i 0;simp only [Nat.add_zero,List.take_zero] at this;rw [this]
  have run:∀(k:Int) (l:Bool),symT s ⟨k,i,i+1+(runL l r).length⟩=(k,c::runL l r):=fun k l=>by
   unfold symT;rw [show i+1+(runL l r).length=i+((runL l r).length+1) by omega,x0b,h,List.take_succ_cons,xu5]
  have rd:∀l:Bool,s.data.toList.drop (i+1+(runL l r).length)=r.drop (runL l r).length:=fun l=>by rw [<-List.drop_drop,h3]
  by_cases b1:(c.toNat:Int)=32\/(c.toNat:Int)=10
  ·rw [if_pos b1,if_pos b1];exact xzw s f r (i+1) h3 hf'
  rw [if_neg b1,if_neg b1];by_cases b2:letB (c.toNat:Int)=true
  ·rw [if_pos b2,if_pos b2,xu1 s true r (i+1) h3,List.map_cons,run,xzw s f _ _ (rd true) (by rw [List.length_drop];omega)]
  rw [if_neg b2,if_neg b2];by_cases b3:(c.toNat:Int)=48
  ·rw [if_pos b3,if_pos b3,List.map_cons,one,xzw s f r (i+1) h3 hf']
  rw [if_neg b3,if_neg b3];by_cases b4:digB (c.toNat:Int)=true
  ·rw [if_pos b4,if_pos b4,xu1 s false r (i+1) h3,List.map_cons,run,xzw s f _ _ (rd false) (by rw [List.length_drop];omega)]
  rw [if_neg b4,if_neg b4];by_cases b5:(c.toNat:Int)=58
  ·rw [if_pos b5,if_pos b5];match r,h3,h with
   | [],h3,h=>
    have:=xgd s (i+1) h3;rw [if_neg (by omega)];simp [nul]
   | d::r',h3,h=>
    obtain ⟨g1,g2,g3⟩:=xdz s (i+1) d r' h3;by_cases hd:d=61
    ·subst hd;rw [if_pos ⟨g1,by rw [g2];rfl⟩,List.map_cons,xzw s f r' (i+2) g3 (by simp at hf';omega)];show _=(if (61::r').head?=some 61 then (11,[c,61])::lexL f ((61::r').drop 1) else [(1,[])]);rw [if_pos (show (61::r').head?=some 61 from rfl)];show _=(11,[c,61])::lexL f r';congr 1;unfold symT;rw [x0b,h];rfl
    ·have hne:¬byt s (i+1)=61:=by
      rw [g2];intro e;apply hd;have:d.toNat=61:=by omega
      exact UInt8.toNat_inj.1 (by rw [this];rfl)
     rw [if_neg (fun k=>hne k.2)];show [symT s ⟨1,i,i⟩]=(if (d::r').head?=some 61 then (11,[c,61])::lexL f ((d::r').drop 1) else [(1,[])]);rw [nul,if_neg (show ¬(d::r').head?=some 61 from fun e=>hd (Option.some.inj e))]
  rw [if_neg b5,if_neg b5];by_cases b6:signK (c.toNat:Int)=1
  ·rw [if_pos b6,if_pos b6];simp [nul]
  ·rw [if_neg b6,if_neg b6,List.map_cons,one,xzw s f r (i+1) h3 hf']
def symsL(r:List UInt8):List Sym:=lexL r.length r
theorem xlp:∀(f g:Nat) (r:List UInt8),r.length<=f->r.length<=g->lexL f r=lexL g r
 | 0,0,r,_,_=>rfl
 | 0,g+1,r,h,_=>by
  have:r=[]:=List.eq_nil_of_length_eq_zero (by omega);subst this;rfl
 | f+1,0,r,_,h=>by
  have:r=[]:=List.eq_nil_of_length_eq_zero (by omega);subst this;rfl
 | f+1,g+1,[],_,_=>rfl
 | f+1,g+1,c::r,h,k=>by
  have h':r.length<=f:=by simpa using h
  have k':r.length<=g:=by simpa using k
  have d:∀n,lexL f (r.drop n)=lexL g (r.drop n):=fun n=>xlp f g _ (by rw [List.length_drop];omega) (by rw [List.length_drop];omega)
  rw [lexL,lexL,xlp f g r h' k',d,d,d]
theorem xye(c:UInt8)(r:List UInt8):symsL (c::r) =
  if (c.toNat:Int)=32\/(c.toNat:Int)=10 then symsL r
  else if letB (c.toNat:Int)=true then (2,c::runL true r)::symsL (r.drop (runL true r).length)
  else if (c.toNat:Int)=48 then (3,[c])::symsL r
  else if digB (c.toNat:Int)=true then (3,c::runL false r)::symsL (r.drop (runL false r).length)
  else if (c.toNat:Int)=58 then
   (if r.head?=some 61 then (11,[c,61])::symsL (r.drop 1) else [(1,[])])
  else if signK (c.toNat:Int)=1 then [(1,[])]
  else (signK (c.toNat:Int),[c])::symsL r:=by
 unfold symsL;rw [show (c::r).length=r.length+1 from rfl,lexL];have d:∀n,lexL r.length (r.drop n)=lexL (r.drop n).length (r.drop n):=fun n=>xlp _ _ _ (by rw [List.length_drop];omega) (Nat.le_refl _)
 rw [d,d,d]
theorem xzx(s:ByteArray):(toks s true 0).map (symT s)=symsL s.data.toList:=xzw s _ _ 0 rfl (Nat.le_refl _)
end Go.Weft
namespace Go.Weft
set_option linter.unusedVariables false
set_option linter.unusedSimpArgs false
def nsym(x:Sym):Sym:=(x.1,if x.1=2\/x.1=3 then x.2 else [])
inductive Ct
 | leaf (ys:List Sym) (n:Nat) (a:Nat)
 | neg (a:Ct)
 | brk (a:Ct)
 | star (a:Ct)
 | sq (a b:Ct)
 | sm (a b:Ct)
def syms:Ct->List Sym
 | .leaf ys _ _=>ys
 | .neg a=>(7,[])::syms a
 | .brk a=>(8,[])::(syms a++[(9,[])])
 | .star a=>syms a++[(6,[])]
 | .sq a b=>syms a++(5,[])::syms b
 | .sm a b=>syms a++(4,[])::syms b
def trees:Ct->Code×List Code×List Code
 | .leaf _ n _=>(.exit n,[.exit n],[.exit n])
 | .neg a=>(.scope (trees a).1,[.scope (trees a).1],[.scope (trees a).1])
 | .brk a=>((trees a).1,[(trees a).1],[(trees a).1])
 | .star a=>(.loop (trees a).1,[.loop (trees a).1],[.loop (trees a).1])
 | .sq a b=>(joinC 1 ((trees a).1::(trees b).2.1),(trees a).1::(trees b).2.1,[joinC 1 ((trees a).1::(trees b).2.1)])
 | .sm a b=>(joinC 0 ((trees a).1::(trees b).2.2),[joinC 0 ((trees a).1::(trees b).2.2)],(trees a).1::(trees b).2.2)
def treeC(c:Ct):Code:=(trees c).1
def depC:Ct->Nat
 | .leaf _ _ _=>0
 | .neg a=>depC a+1
 | .brk a=>depC a+1
 | .star a=>depC a
 | .sq a b=>max (depC a) (depC b)
 | .sm a b=>max (depC a) (depC b)
def atsC:Ct->Nat
 | .leaf _ _ a=>a
 | .neg a=>atsC a
 | .brk a=>atsC a
 | .star a=>atsC a
 | .sq a b=>atsC a+atsC b
 | .sm a b=>atsC a+atsC b
def lvl:Ct->Nat
 | .leaf _ _ _=>0
 | .neg _=>0
 | .brk _=>0
 | .star _=>1
 | .sq _ _=>2
 | .sm _ _=>3
def xae(ys:List Sym)(n a:Nat):Prop:=
 (ys=[(2,[105,100])]/\n=0/\a=0)\/(ys=[(2,[100,114,111,112])]/\n=1/\a=0)\/
 ∃nm f k tx,ys=[(2,nm),(k,[]),(3,tx)]/\¬nm=[105,100]/\¬nm=[100,114,111,112]/\xg6 nm=some f/\(k=10\/k=11)/\¬(f=0/\k=11)/\xpf tx<=31/\Code.exit n=leafC k f (xpf tx)/\a=1
def okC:Ct->Prop
 | .leaf ys n a=>xae ys n a
 | .neg a=>lvl a=0/\okC a/\isT (treeC a)=true
 | .brk a=>okC a
 | .star a=>lvl a<=1/\okC a
 | .sq a b=>lvl a<=1/\lvl b<=2/\okC a/\okC b
 | .sm a b=>lvl a<=2/\lvl b<=3/\okC a/\okC b
theorem xvx{c:Ct}(h:lvl c<=1):(trees c).2.1=[treeC c]:=by cases c<;>first|rfl|(simp [lvl] at h)
theorem xx8{c:Ct}(h:lvl c<=2):(trees c).2.2=[treeC c]:=by cases c<;>first|rfl|(simp [lvl] at h)
theorem xvw{c:Ct}(h:lvl c<=2):joinC 1 (trees c).2.1=treeC c:=by cases c<;>first|rfl|(simp [lvl] at h)
theorem xx7(c:Ct):joinC 0 (trees c).2.2=treeC c:=by cases c<;>rfl
section
variable(s:ByteArray)(ts:List Tok)
def sy(i:Nat):Sym:=nsym (symT s (tk ts i))
def At(i:Nat)(xs:List Sym):Prop:=∀j x,xs[j]?=some x->sy s ts (i+j)=x
end
section
variable{s:ByteArray}{ts:List Tok}
theorem sy_of{i:Nat}{k:Int}(h:(tk ts i).kind=k)(hk:¬(k=2\/k=3)):sy s ts i=(k,[]):=by
 show (_,_)=_;show ((tk ts i).kind,if (tk ts i).kind=2\/(tk ts i).kind=3 then txt s (tk ts i) else [])=_;rw [h,if_neg hk]
theorem xyd{i:Nat}{k:Int}(h:(tk ts i).kind=k)(hk:k=2\/k=3):sy s ts i=(k,txt s (tk ts i)):=by
 show ((tk ts i).kind,if (tk ts i).kind=2\/(tk ts i).kind=3 then txt s (tk ts i) else [])=_;rw [h,if_pos hk]
theorem At.nil(i:Nat):At s ts i []:=fun j x h=>by simp at h
theorem At.cons{i:Nat}{x:Sym}{xs:List Sym}:At s ts i (x::xs)↔sy s ts i=x/\At s ts (i+1) xs:=by
 constructor
 ·intro h;refine ⟨by simpa using h 0 x (by simp),fun j y hj=>?_⟩;rw [show i+1+j=i+(j+1) by omega];exact h (j+1) y (by simpa using hj)
 ·rintro ⟨h1,h2⟩ j y hj;cases j with
  | zero=>simp at hj;subst hj;simpa using h1
  | succ j=>
   rw [show i+(j+1)=i+1+j by omega];exact h2 j y (by simpa using hj)
theorem At.append{i:Nat}{xs ys:List Sym}:At s ts i (xs++ys)↔At s ts i xs/\At s ts (i+xs.length) ys:=by
 induction xs generalizing i with
 | nil=>simp [At.nil]
 | cons x xs ih=>
  rw [List.cons_append,At.cons,At.cons,ih,List.length_cons,show i+(xs.length+1)=i+1+xs.length by omega,and_assoc]
theorem xyg(c:Ct):okC c->(∀x∈syms c,2<=x.1)/\0<(syms c).length:=by
 induction c with
 | leaf ys n a=>
  intro h;rcases h with ⟨rfl,_⟩|⟨rfl,_⟩|⟨nm,f,k,tx,rfl,_,_,_,hk,_⟩
  ·exact ⟨fun x hx=>by simp [syms] at hx;subst hx;decide,by simp [syms]⟩
  ·exact ⟨fun x hx=>by simp [syms] at hx;subst hx;decide,by simp [syms]⟩
  ·refine ⟨fun x hx=>?_,by simp [syms]⟩;simp only [syms,List.mem_cons,List.not_mem_nil,or_false] at hx;rcases hx with rfl|rfl|rfl
   ·show (2:Int)<=2;decide
   ·show 2<=k;omega
   ·show (2:Int)<=3;decide
 | neg a ih=>
  intro h;have:=ih h.2.1;refine ⟨fun x hx=>?_,by simp [syms]⟩;rcases List.mem_cons.1 (show x∈(7,[])::syms a from hx) with rfl|hx
  ·show (2:Int)<=7;decide
  ·exact this.1 x hx
 | brk a ih=>
  intro h;have:=ih h;refine ⟨fun x hx=>?_,by simp [syms]⟩;rcases List.mem_cons.1 (show x∈(8,[])::(syms a++[(9,[])]) from hx) with rfl|hx
  ·show (2:Int)<=8;decide
  ·rcases List.mem_append.1 hx with hx|hx
   ·exact this.1 x hx
   ·rw [List.mem_singleton] at hx;subst hx;show (2:Int)<=9;decide
 | star a ih=>
  intro h;have:=ih h.2;refine ⟨fun x hx=>?_,by simp [syms]⟩;rcases List.mem_append.1 (show x∈syms a++[(6,[])] from hx) with hx|hx
  ·exact this.1 x hx
  ·rw [List.mem_singleton] at hx;subst hx;show (2:Int)<=6;decide
 | sq a b iha ihb=>
  intro h;have h1:=iha h.2.2.1;have h2:=ihb h.2.2.2;refine ⟨fun x hx=>?_,by simp [syms];omega⟩;rcases List.mem_append.1 (show x∈syms a++(5,[])::syms b from hx) with hx|hx
  ·exact h1.1 x hx
  ·rcases List.mem_cons.1 hx with rfl|hx
   ·show (2:Int)<=5;decide
   ·exact h2.1 x hx
 | sm a b iha ihb=>
  intro h;have h1:=iha h.2.2.1;have h2:=ihb h.2.2.2;refine ⟨fun x hx=>?_,by simp [syms];omega⟩;rcases List.mem_append.1 (show x∈syms a++(4,[])::syms b from hx) with hx|hx
  ·exact h1.1 x hx
  ·rcases List.mem_cons.1 hx with rfl|hx
   ·show (2:Int)<=4;decide
   ·exact h2.1 x hx
theorem xyf(c:Ct)(h:okC c):(∀x∈syms c,x.1≠0)/\0<(syms c).length:=⟨fun x hx=>by have:=(xyg c h).1 x hx;omega,(xyg c h).2⟩
end
end Go.Weft
namespace Go.Weft
set_option linter.unusedVariables false
set_option linter.unusedSimpArgs false
end Go.Weft
namespace Go.Weft
set_option linter.unusedVariables false
set_option linter.unusedSimpArgs false
section
variable(s:ByteArray)(ts:List Tok)
structure Wrote(st st':St)(L d:Nat)(c:Ct):Prop where
 ok:okC c
 lv:lvl c<=L
 at_:At s ts st.i (syms c)
 i:st'.i=st.i+(syms c).length
 atoms:st'.atoms=st.atoms+atsC c
 dep:depC c<=d
 bad:st.bad=401
 few:st.atoms<=16->st'.atoms<=16
def Snd(p:St->Except (Int×Nat) (Code×St))(L d:Nat):Prop:=∀st t st',p st=.ok (t,st')->st'.bad=401->∃c,treeC c=t/\Wrote s ts st st' L d c
end
section
variable{s:ByteArray}{ts:List Tok}
theorem xwo(d:Nat){st st':St}{t:Code}(hk:(tk ts st.i).kind=2)(h:wordP s ts st=.ok (t,st'))(hb:st'.bad=401):∃c,treeC c=t/\Wrote s ts st st' 0 d c:=by
 have a1:=xyd (s:=s) hk (.inl rfl);unfold wordP at h;by_cases h1:txt s (tk ts st.i)=[105,100]
 ·rw [if_pos h1] at h;cases h;exact ⟨.leaf [(2,[105,100])] 0 0,rfl,⟨.inl ⟨rfl,rfl,rfl⟩,Nat.le_refl _,At.cons.2 ⟨by rw [a1,h1],At.nil _⟩,rfl,rfl,Nat.zero_le _,hb,fun h=>h⟩⟩
 rw [if_neg h1] at h;by_cases h2:txt s (tk ts st.i)=[100,114,111,112]
 ·rw [if_pos h2] at h;cases h;exact ⟨.leaf [(2,[100,114,111,112])] 1 0,rfl,⟨.inr (.inl ⟨rfl,rfl,rfl⟩),Nat.le_refl _,At.cons.2 ⟨by rw [a1,h2],At.nil _⟩,rfl,rfl,Nat.zero_le _,hb,fun h=>h⟩⟩
 rw [if_neg h2] at h;split at h
 ·cases h
 ·rename_i f hf;unfold pairP at h;by_cases b1:f=0/\(tk ts (st.i+1)).kind=11
  ·rw [if_pos b1] at h;cases h
  rw [if_neg b1] at h;by_cases b2:st.atoms=16
  ·rw [if_pos b2] at h;cases h
  rw [if_neg b2] at h;by_cases b3:¬(tk ts (st.i+1)).kind=10/\¬(tk ts (st.i+1)).kind=11
  ·rw [if_pos b3] at h;cases h
  rw [if_neg b3] at h;by_cases b4:¬(tk ts (st.i+2)).kind=3
  ·rw [if_pos b4] at h;cases h
  rw [if_neg b4] at h;by_cases b5:31<xpf (txt s (tk ts (st.i+2)))
  ·rw [if_pos b5] at h;cases h
  rw [if_neg b5] at h;cases h;have hk2:(tk ts (st.i+1)).kind=10\/(tk ts (st.i+1)).kind=11:=by omega
  have a2:=sy_of (s:=s) (i:=st.i+1) rfl (show ¬((tk ts (st.i+1)).kind=2\/(tk ts (st.i+1)).kind=3) by omega);have a3:=xyd (s:=s) (i:=st.i+2) (show (tk ts (st.i+2)).kind=3 by omega) (.inr rfl)
  obtain ⟨n,hn⟩:∃n,leafC (tk ts (st.i+1)).kind f (xpf (txt s (tk ts (st.i+2))))=.exit n:=by
   unfold leafC;split
   ·exact ⟨_,rfl⟩
   ·exact ⟨_,rfl⟩
  refine ⟨.leaf [(2,txt s (tk ts st.i)),((tk ts (st.i+1)).kind,[]),(3,txt s (tk ts (st.i+2)))] n 1,hn.symm,⟨.inr (.inr ⟨_,f,_,_,rfl,h1,h2,hf,hk2,b1,by omega,hn.symm,rfl⟩),Nat.le_refl _,At.cons.2 ⟨a1,At.cons.2 ⟨a2,At.cons.2 ⟨a3,At.nil _⟩⟩⟩,rfl,rfl,Nat.zero_le _,hb,fun h=>?_⟩⟩;show st.atoms+1<=16;omega
theorem xwl:∀(f:Nat) (c:Ct) (i0:Nat),okC c->lvl c<=1->At s ts i0 (syms c)->∃c',okC c'/\lvl c'<=1/\At s ts i0 (syms c')/\xw4 ts f (treeC c) (i0+(syms c).length)=(treeC c',i0+(syms c').length)/\atsC c'=atsC c/\depC c'=depC c
 | 0,c,i0,h1,h2,h3=>⟨c,h1,h2,h3,rfl,rfl,rfl⟩
 | f+1,c,i0,h1,h2,h3=>by
  by_cases hk:(tk ts (i0+(syms c).length)).kind=6
  ·obtain ⟨c',g1,g2,g3,g4,g5,g6⟩:=xwl f (.star c) i0 ⟨h2,h1⟩ (by simp [lvl]) (At.append.2 ⟨h3,At.cons.2 ⟨sy_of hk (by decide),At.nil _⟩⟩);refine ⟨c',g1,g2,g3,?_,g5,g6⟩;rw [xw4,if_pos hk,<-g4];have e:(syms (.star c)).length=(syms c).length+1:=by simp [syms]
   rw [e];rfl
  ·exact ⟨c,h1,h2,h3,by rw [xw4,if_neg hk],rfl,rfl⟩
theorem xwi{p:St->Except (Int×Nat) (Code×St)}{d:Nat}(h:Snd s ts p 0 d):Snd s ts (partP ts p) 1 d:=by
 intro st t st' hp hb;unfold partP at hp;split at hp
 ·cases hp
 ·rename_i t1 st1 e1;cases hp;obtain ⟨c,rfl,w⟩:=h st t1 st1 e1 hb;obtain ⟨c',g1,g2,g3,g4,g5,g6⟩:=xwl ts.length c st.i w.ok (by have:=w.lv;omega) w.at_;rw [w.i,g4];exact ⟨c',rfl,⟨g1,g2,g3,rfl,by rw [g5];exact w.atoms,by rw [g6];exact w.dep,w.bad,w.few⟩⟩
theorem xkv{i:Nat}(h:(tk ts i).kind≠0):i<ts.length:=by
 rcases Nat.lt_or_ge i ts.length with h1|h1
 ·exact h1
 ·exfalso;apply h;unfold tk;rw [List.getD_eq_getElem?_getD,List.getElem?_eq_none h1];rfl
theorem xcx{p:St->Except (Int×Nat) (Code×St)}{L d:Nat}(h:Snd s ts p L d)(sep:Int):∀f st l st',listP ts sep p f st=.ok (l,st')->st'.bad=401->st.bad=401
 | 0,st,l,st',hp,hb=>by
  rw [listP] at hp;cases hp;exact hb
 | f+1,st,l,st',hp,hb=>by
  rw [listP] at hp;split at hp
  ·cases hp
  ·rename_i t1 st1 e1;split at hp
   ·split at hp
    ·cases hp
    ·rename_i l2 st2 e2;cases hp;obtain ⟨_,_,w⟩:=h st t1 st1 e1 (xcx h sep f ⟨st1.i+1,st1.atoms,st1.bad⟩ l2 _ e2 hb);exact w.bad
   ·cases hp;obtain ⟨_,_,w⟩:=h st t1 _ e1 hb;exact w.bad
theorem xwk{p:St->Except (Int×Nat) (Code×St)}{d:Nat}(h:Snd s ts p 1 d):∀f st l st',0<f->ts.length<=f+st.i->listP ts 5 p f st=.ok (l,st')->st'.bad=401->∃c,(trees c).2.1=l/\Wrote s ts st st' 2 d c
 | 0,st,l,st',h0,_,_,_=>by omega
 | f+1,st,l,st',_,hf,hp,hb=>by
  rw [listP] at hp;split at hp
  ·cases hp
  ·rename_i t1 st1 e1;split at hp
   ·rename_i hk;split at hp
    ·cases hp
    ·rename_i l2 st2 e2;cases hp;have hlt:=xkv (show (tk ts st1.i).kind≠0 by rw [hk];decide);obtain ⟨c1,rfl,w1⟩:=h st t1 st1 e1 (xcx h 5 f ⟨st1.i+1,st1.atoms,st1.bad⟩ l2 _ e2 hb);have hpos:=(xyf c1 w1.ok).2;have hi:=w1.i;obtain ⟨c2,rfl,w2⟩:=xwk h f ⟨st1.i+1,st1.atoms,st1.bad⟩ l2 _ (by omega) (by show ts.length<=f+(st1.i+1);omega) e2 hb;have a2:At s ts (st1.i+1) (syms c2):=w2.at_;refine ⟨.sq c1 c2,rfl,⟨⟨w1.lv,w2.lv,w1.ok,w2.ok⟩,Nat.le_refl _,At.append.2 ⟨w1.at_,At.cons.2 ⟨by rw [<-hi];exact sy_of hk (by decide),by rw [<-hi];exact a2⟩⟩,?_,?_,?_,w1.bad,fun h16=>w2.few (w1.few h16)⟩⟩
     ·rw [w2.i];show st1.i+1+(syms c2).length=st.i+(syms c1++(5,[])::syms c2).length;rw [hi,List.length_append,List.length_cons];omega
     ·rw [w2.atoms];show st1.atoms+atsC c2=st.atoms+(atsC c1+atsC c2);rw [w1.atoms];omega
     ·show max (depC c1) (depC c2)<=d;have:=w1.dep;have:=w2.dep;omega
   ·cases hp;obtain ⟨c1,rfl,w1⟩:=h st t1 _ e1 hb;exact ⟨c1,xvx w1.lv,⟨w1.ok,by have:=w1.lv;omega,w1.at_,w1.i,w1.atoms,w1.dep,w1.bad,w1.few⟩⟩
theorem xwn{p:St->Except (Int×Nat) (Code×St)}{d:Nat}(h:Snd s ts p 2 d):∀f st l st',0<f->ts.length<=f+st.i->listP ts 4 p f st=.ok (l,st')->st'.bad=401->∃c,(trees c).2.2=l/\Wrote s ts st st' 3 d c
 | 0,st,l,st',h0,_,_,_=>by omega
 | f+1,st,l,st',_,hf,hp,hb=>by
  rw [listP] at hp;split at hp
  ·cases hp
  ·rename_i t1 st1 e1;split at hp
   ·rename_i hk;split at hp
    ·cases hp
    ·rename_i l2 st2 e2;cases hp;have hlt:=xkv (show (tk ts st1.i).kind≠0 by rw [hk];decide);obtain ⟨c1,rfl,w1⟩:=h st t1 st1 e1 (xcx h 4 f ⟨st1.i+1,st1.atoms,st1.bad⟩ l2 _ e2 hb);have hpos:=(xyf c1 w1.ok).2;have hi:=w1.i;obtain ⟨c2,rfl,w2⟩:=xwn h f ⟨st1.i+1,st1.atoms,st1.bad⟩ l2 _ (by omega) (by show ts.length<=f+(st1.i+1);omega) e2 hb;have a2:At s ts (st1.i+1) (syms c2):=w2.at_;refine ⟨.sm c1 c2,rfl,⟨⟨w1.lv,w2.lv,w1.ok,w2.ok⟩,Nat.le_refl _,At.append.2 ⟨w1.at_,At.cons.2 ⟨by rw [<-hi];exact sy_of hk (by decide),by rw [<-hi];exact a2⟩⟩,?_,?_,?_,w1.bad,fun h16=>w2.few (w1.few h16)⟩⟩
     ·rw [w2.i];show st1.i+1+(syms c2).length=st.i+(syms c1++(4,[])::syms c2).length;rw [hi,List.length_append,List.length_cons];omega
     ·rw [w2.atoms];show st1.atoms+atsC c2=st.atoms+(atsC c1+atsC c2);rw [w1.atoms];omega
     ·show max (depC c1) (depC c2)<=d;have:=w1.dep;have:=w2.dep;omega
   ·cases hp;obtain ⟨c1,rfl,w1⟩:=h st t1 _ e1 hb;exact ⟨c1,xx8 w1.lv,⟨w1.ok,by have:=w1.lv;omega,w1.at_,w1.i,w1.atoms,w1.dep,w1.bad,w1.few⟩⟩
theorem xwj{p:St->Except (Int×Nat) (Code×St)}{d:Nat}(h0:0<ts.length)(h:Snd s ts p 0 d):Snd s ts (seqP ts p) 2 d:=by
 intro st t st' hp hb;unfold seqP joinP at hp;split at hp
 ·cases hp
 ·rename_i l st1 e1;cases hp;obtain ⟨c,rfl,w⟩:=xwk (xwi h) ts.length st l _ h0 (by omega) e1 hb;exact ⟨c,(xvw w.lv).symm,w⟩
theorem xwm{p:St->Except (Int×Nat) (Code×St)}{d:Nat}(h0:0<ts.length)(h:Snd s ts p 0 d):Snd s ts (sumP ts p) 3 d:=by
 intro st t st' hp hb;unfold sumP joinP at hp;split at hp
 ·cases hp
 ·rename_i l st1 e1;cases hp;obtain ⟨c,rfl,w⟩:=xwn (xwj h0 h) ts.length st l _ h0 (by omega) e1 hb;exact ⟨c,(xx7 c).symm,w⟩
theorem xwh(h0:0<ts.length)(ha:∀i,(tk ts i).at_<=400):∀d,Snd s ts (atomP s ts d) 0 d:=by
 intro d;induction d with
 | zero=>
  intro st t st' h hb;unfold atomP at h;split at h
  ·rename_i hk;exact xwo 0 hk h hb
  ·repeat' split at h
   all_goals cases h
 | succ d ih=>
  intro st t st' h hb;unfold atomP at h;split at h
  ·rename_i hk;exact xwo (d+1) hk h hb
  ·split at h
   ·rename_i hk;unfold notP at h;split at h
    ·cases h
    ·rename_i t1 st1 e1;cases h;have:=ha st.i;by_cases hT:isT t1=true
     ·obtain ⟨c,rfl,w⟩:=ih _ t1 st1 e1 (by simp only [hT,if_true] at hb;exact hb);have hlv:lvl c=0:=by have:=w.lv;omega
      have a2:At s ts (st.i+1) (syms c):=w.at_;refine ⟨.neg c,rfl,⟨⟨hlv,w.ok,hT⟩,Nat.le_refl _,At.cons.2 ⟨sy_of hk (by decide),a2⟩,?_,w.atoms,by show depC c+1<=d+1;have:=w.dep;omega,w.bad,w.few⟩⟩;show st1.i=st.i+((syms c).length+1);rw [w.i];show st.i+1+(syms c).length=_;omega
     ·exfalso;simp only [hT,if_false] at hb;have h2:min st1.bad (tk ts st.i).at_<=(tk ts st.i).at_:=Nat.min_le_right _ _;have hb':min st1.bad (tk ts st.i).at_=401:=by simpa using hb
      omega
   ·split at h
    ·rename_i hk;unfold xds at h;split at h
     ·cases h
     ·rename_i t1 st1 e1;split at h
      ·rename_i h9;cases h;obtain ⟨c,rfl,w⟩:=xwm h0 ih _ _ st1 e1 hb;have a2:At s ts (st.i+1) (syms c):=w.at_;have hi:st1.i=st.i+1+(syms c).length:=w.i;refine ⟨.brk c,rfl,⟨w.ok,Nat.le_refl _,At.cons.2 ⟨sy_of hk (by decide),At.append.2 ⟨a2,At.cons.2 ⟨by rw [<-hi];exact sy_of h9 (by decide),At.nil _⟩⟩⟩,?_,w.atoms,by show depC c+1<=d+1;have:=w.dep;omega,w.bad,w.few⟩⟩;show st1.i+1=st.i+((8,[])::(syms c++[((9:Int),([]:List UInt8))])).length;rw [hi];simp;omega
      ·cases h
    ·cases h
theorem xto(h0:0<ts.length)(ha:∀i,(tk ts i).at_<=400){t:Code}(h:readP s ts=.ok t):∃c,treeC c=t/\okC c/\At s ts 0 (syms c)/\(tk ts (syms c).length).kind=0/\depC c<=12/\atsC c<=16:=by
 unfold readP at h;split at h
 ·cases h
 ·rename_i t1 st1 e1;split at h
  ·rename_i hk;split at h
   ·rename_i hb;cases h;obtain ⟨c,rfl,w⟩:=xwm h0 (xwh h0 ha 12) _ _ st1 e1 hb;have hi:st1.i=0+(syms c).length:=w.i;have hat:st1.atoms=0+atsC c:=w.atoms;have hf:st1.atoms<=16:=w.few (by show 0<=16;omega);exact ⟨c,rfl,w.ok,w.at_,by rw [<-Nat.zero_add (syms c).length,<-hi];exact hk,w.dep,by omega⟩
   ·cases h
  ·cases h
end
end Go.Weft
namespace Go.Weft
set_option linter.unusedVariables false
set_option linter.unusedSimpArgs false
theorem xwa(c:Int):signK c≠0/\signK c≠2/\signK c≠3:=by
 unfold signK;repeat' split
 all_goals decide
theorem xlv:∀(n:Nat) (r:List UInt8),r.length<=n->∃xs e,symsL r=xs++[e]/\(e=(0,[])\/e=(1,[]))/\∀x∈xs,x.1≠0/\x.1≠1
 | n,[],_=>⟨[],(0,[]),rfl,.inl rfl,fun x hx=>by cases hx⟩
 | 0,c::r,h=>by simp at h
 | n+1,c::r,h=>by
  have h':r.length<=n:=by simpa using h
  have add:∀(x:Sym) (r':List UInt8),x.1≠0->x.1≠1->r'.length<=n->∃xs e,x::symsL r'=xs++[e]/\(e=(0,[])\/e=(1,[]))/\∀x∈xs,x.1≠0/\x.1≠1:=by
   intro x r' h0 h1 hl;obtain ⟨xs,e,g1,g2,g3⟩:=xlv n r' hl;refine ⟨x::xs,e,by rw [g1];rfl,g2,fun y hy=>?_⟩;rcases List.mem_cons.1 hy with rfl|hy
   ·exact ⟨h0,h1⟩
   ·exact g3 y hy
  have dl:∀k,(r.drop k).length<=n:=fun k=>by rw [List.length_drop];omega
  rw [xye];split
  ·exact xlv n r h'
  split
  ·exact add _ _ (by show (2:Int)≠0;decide) (by show (2:Int)≠1;decide) (dl _)
  split
  ·exact add _ _ (by show (3:Int)≠0;decide) (by show (3:Int)≠1;decide) h'
  split
  ·exact add _ _ (by show (3:Int)≠0;decide) (by show (3:Int)≠1;decide) (dl _)
  split
  ·split
   ·exact add _ _ (by show (11:Int)≠0;decide) (by show (11:Int)≠1;decide) (dl _)
   ·exact ⟨[],(1,[]),rfl,.inr rfl,fun x hx=>by cases hx⟩
  split
  ·exact ⟨[],(1,[]),rfl,.inr rfl,fun x hx=>by cases hx⟩
  ·rename_i h1;exact add _ _ (xwa _).1 h1 h'
def lexN(r:List UInt8):List Sym:=(symsL r).map nsym
section
variable(s:ByteArray)
theorem xyc{i:Nat}{x:Sym}:(lexN s.data.toList)[i]?=some x->sy s (toks s true 0) i=x:=by
 intro h;unfold lexN at h;rw [<-xzx,List.map_map,List.getElem?_map] at h;cases ht:(toks s true 0)[i]? with
 | none=>rw [ht] at h;cases h
 | some t=>
  rw [ht] at h;have e:tk (toks s true 0) i=t:=by unfold tk;rw [List.getD_eq_getElem?_getD,ht];rfl
  unfold sy;rw [e];exact Option.some.inj h
theorem xlq{xs:List Sym}(h:At s (toks s true 0) 0 xs)(hx:∀x∈xs,2<=x.1)(h0:(tk (toks s true 0) xs.length).kind=0):lexN s.data.toList=xs++[(0,[])]:=by
 obtain ⟨ys,e,g1,g2,g3⟩:=xlv _ s.data.toList (Nat.le_refl _);have hN:lexN s.data.toList=ys.map nsym++[nsym e]:=by unfold lexN;rw [g1];simp
 have hs:∀j (hj:j<ys.length),sy s (toks s true 0) j=nsym ys[j]:=fun j hj=>xyc s (by rw [hN,List.getElem?_append_left (by simpa using hj)];simp [hj])
 have he:sy s (toks s true 0) ys.length=nsym e:=xyc s (by rw [hN];simp)
 have hle:ys.length<=xs.length:=by
  rcases Nat.lt_or_ge xs.length ys.length with hlt|hge
  ·exfalso;have h1:=hs _ hlt;have h2:(sy s (toks s true 0) xs.length).1=0:=h0;rw [h1] at h2;exact (g3 _ (List.getElem_mem hlt)).1 h2
  ·exact hge
 have hxl:xs.length=ys.length:=by
  rcases Nat.lt_or_ge ys.length xs.length with hlt|hge
  ·exfalso;have hm:=h ys.length xs[ys.length] (List.getElem?_eq_getElem hlt);rw [Nat.zero_add,he] at hm;have h2:=hx _ (List.getElem_mem hlt);rw [<-hm] at h2;rcases g2 with rfl|rfl
   ·exact absurd h2 (by show ¬(2:Int)<=0;decide)
   ·exact absurd h2 (by show ¬(2:Int)<=1;decide)
  ·omega
 have hxy:xs=ys.map nsym:=by
  refine List.ext_getElem (by simp [hxl]) (fun j h1 h2=>?_);have:=h j xs[j] (List.getElem?_eq_getElem h1);rw [Nat.zero_add,hs j (by omega)] at this;simp [<-this]
 have he0:nsym e=(0,[]):=by
  have h2:(sy s (toks s true 0) xs.length).1=0:=h0;rw [hxl,he] at h2;rcases g2 with rfl|rfl
  ·rfl
  ·exact absurd h2 (by show ¬(1:Int)=0;decide)
 rw [hN,<-hxy,he0]
end
end Go.Weft
namespace Go.Proofs.YtlhkfafdioakeaaGreatDoor
open Go.Weft
set_option linter.unusedVariables false
set_option linter.unusedSimpArgs false
section
variable(s:ByteArray)
theorem xtn{t:Code}(h:readS s=.ok t):∃c,treeC c=t/\okC c/\lexN s.data.toList=syms c++[(0,[])]/\depC c<=12/\atsC c<=16/\s.size<=400:=by
 unfold readS at h;split at h
 ·cases h
 ·rename_i hs;obtain ⟨c,h1,h2,h3,h4,h5,h6⟩:=xto (xzt s 0).1 (fun i=>Nat.le_trans (xzs s true i) (by omega)) h;exact ⟨c,h1,h2,xlq s h3 (xyg c h2).1 h4,h5,h6,by omega⟩
end
end Go.Proofs.YtlhkfafdioakeaaGreatDoor
