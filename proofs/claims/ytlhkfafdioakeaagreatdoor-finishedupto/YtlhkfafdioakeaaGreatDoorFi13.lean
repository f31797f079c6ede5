/- Parts of the proof. -/
import Derived.Test.YtlhkfafdioakeaaGreatDoorFi12
namespace Go.Proofs.YtlhkfafdioakeaaGreatDoor
open Go.RowKit Go.Weft
set_option linter.unusedVariables false
set_option linter.unusedSimpArgs false
def wt:Code->Nat
 | .exit _=>12
 | .loop t=>wt t+4
 | .scope t=>wt t+4
 | .block _ l=>wt l
 | .seq a l=>wt a+wt l+6
 | _=>0
def Wt(ts:List Tok)(p:St->Except (Int×Nat) (Code×St)):Prop:=∀st t st',p st=.ok (t,st')->st.i<=st'.i/\wt t+6+18*st.i<=18*st'.i
section
variable{s:ByteArray}{ts:List Tok}
theorem ZL(k:Int)(f n:Nat):wt (DP k f n)=12:=by unfold DP;split<;>rfl
theorem ZN(f:Nat):Wt ts (D9 s ts f):=by
 intro st t st' h;unfold D9 at h;by_cases b1:f=0/\(tk ts (st.i+1)).kind=11
 ·rw[if_pos b1]at h;cases h
 rw[if_neg b1]at h;by_cases b2:st.atoms=16
 ·rw[if_pos b2]at h;cases h
 rw[if_neg b2]at h;by_cases b3:¬(tk ts (st.i+1)).kind=10/\¬(tk ts (st.i+1)).kind=11
 ·rw[if_pos b3]at h;cases h
 rw[if_neg b3]at h;by_cases b4:¬(tk ts (st.i+2)).kind=3
 ·rw[if_pos b4]at h;cases h
 rw[if_neg b4]at h;by_cases b5:31<Bg (txt s (tk ts (st.i+2)))
 ·rw[if_pos b5]at h;cases h
 rw[if_neg b5]at h;cases h;rw[ZL];exact⟨by simp,by simp;omega⟩
theorem Qk:Wt ts (Cz s ts):=by
 intro st t st' h;unfold Cz at h;split at h
 ·cases h;exact⟨by simp,by simp[wt];omega⟩
 ·split at h
  ·cases h;exact⟨by simp,by simp[wt];omega⟩
  ·split at h
   ·cases h
   ·exact ZN _ st t st' h
theorem Qi:∀(f:Nat) (t:Code) (i:Nat),i<=(Bh ts f t i).2/\wt (Bh ts f t i).1+18*i<=wt t+18*(Bh ts f t i).2
 | 0,t,i=>⟨Nat.le_refl _,Nat.le_refl _⟩
 | f+1,t,i=>by
  unfold Bh;split
  ·have:=Qi f (.loop t) (i+1);simp only[wt]at this;omega
  ·exact⟨Nat.le_refl _,Nat.le_refl _⟩
theorem Qh{p:St->Except (Int×Nat) (Code×St)}(hp:Wt ts p):Wt ts (DD ts p):=by
 intro st t st' h;unfold DD at h;split at h
 ·cases h
 ·rename_i t1 st1 h1;cases h;have g1:=hp st t1 st1 h1;have g2:=Qi (ts:=ts) ts.length t1 st1.i;exact⟨by simp;omega,by simp;omega⟩
theorem ZM{p:St->Except (Int×Nat) (Code×St)}(hp:Wt ts p)(sep:Int):∀(f:Nat) (st:St) (l:List Code) (st':St),Ar ts sep p f st=.ok (l,st')->
  st.i<=st'.i/\(l.map fun t=>wt t+6).sum+18*st.i+18*(l.length-1)<=18*st'.i:=by
 intro f;induction f with
 | zero=>intro st l st' h;unfold Ar at h;cases h;exact⟨Nat.le_refl _,by simp⟩
 | succ f ih=>
  intro st l st' h;unfold Ar at h;split at h
  ·cases h
  ·rename_i t1 st1 e1;have g1:=hp st t1 st1 e1;split at h
   ·split at h
    ·cases h
    ·rename_i l2 st2 e2;cases h;have g2:=ih _ l2 _ e2;simp only[List.map_cons,List.sum_cons,List.length_cons]at g2 ⊢;omega
   ·cases h;simp only[List.map_cons,List.sum_cons,List.length_cons,List.map_nil,List.sum_nil,List.length_nil];omega
theorem LQ:∀l:List Code,wt (Ac l)=(l.map fun t=>wt t+6).sum
 | []=>rfl
 | t::l=>by simp only[Ac,wt,List.map_cons,List.sum_cons,LQ l];omega
theorem ZK{k:Nat}{l:List Code}(hl:l≠[]):wt (Bo k l)+6<=(l.map fun t=>wt t+6).sum+18*(l.length-1):=by
 match l,hl with
 | [t],_=>simp[Bo]
 | t::u::r,_=>
  have:wt (Bo k (t::u::r))=wt (Ac (t::u::r)):=rfl;rw[this,LQ];simp;omega
theorem Nd{p:St->Except (Int×Nat) (Code×St)}{sep:Int}{f:Nat}{st st':St}{l:List Code}(hf:0<f)(h:Ar ts sep p f st=.ok (l,st')):l≠[]:=by
 obtain⟨f,rfl⟩:∃f',f=f'+1:=⟨f-1,by omega⟩;unfold Ar at h;split at h
 ·cases h
 ·split at h
  ·split at h
   ·cases h
   ·cases h;simp
  ·cases h;simp
theorem J9{k:Nat}{p:St->Except (Int×Nat) (Code×St)}(hp:Wt ts p)(sep:Int)(h0:0<ts.length):Wt ts (fun st=>DN k (Ar ts sep p ts.length st)):=by
 intro st t st' h;obtain⟨l,hl,rfl⟩:=IQ h;have g:=ZM hp sep _ st l st' hl;have:=ZK (k:=k) (Nd h0 hl);exact⟨g.1,by omega⟩
theorem ZJ(h0:0<ts.length):∀d,Wt ts (Bj s ts d):=by
 intro d;induction d with
 | zero=>
  intro st t st' h;unfold Bj at h;split at h
  ·exact Qk st t st' h
  ·repeat' split at h
   all_goals cases h
 | succ d ih=>
  intro st t st' h;unfold Bj at h;split at h
  ·exact Qk st t st' h
  ·split at h
   ·unfold Dr at h;split at h
    ·cases h
    ·rename_i t1 st1 e1;cases h;have g:=ih _ t1 st1 e1;simp only[wt]at g ⊢;exact⟨by omega,by omega⟩
   ·split at h
    ·unfold DW at h;split at h
     ·cases h
     ·rename_i t1 st1 e1;have g:=(J9 (k:=0) (J9 (k:=1) (Qh ih) 5 h0) 4 h0) _ t1 st1 e1;split at h
      ·cases h;simp only at g ⊢;exact⟨by omega,by omega⟩
      ·cases h
    ·cases h
end
def Er(p:St->Except (Int×Nat) (Code×St)):Prop:=∀st e,p st=.error e->e.1≠0
section
variable{s:ByteArray}{ts:List Tok}
theorem TN(f:Nat):Er (D9 s ts f):=by
 intro st e h;unfold D9 at h;repeat' split at h
 all_goals first|(cases h;simp;done)|cases h
theorem Mk:Er (Cz s ts):=by
 intro st e h;unfold Cz at h;split at h
 ·cases h
 ·split at h
  ·cases h
  ·split at h
   ·cases h;simp
   ·exact TN _ st e h
theorem Mj{p:St->Except (Int×Nat) (Code×St)}(hp:Er p):Er (DD ts p):=by
 intro st e h;unfold DD at h;split at h
 ·rename_i e1 h1;cases h;exact hp st _ h1
 ·cases h
theorem TM{p:St->Except (Int×Nat) (Code×St)}(hp:Er p)(sep:Int):∀(f:Nat) (st:St) (e:Int×Nat),Ar ts sep p f st=.error e->e.1≠0:=by
 intro f;induction f with
 | zero=>intro st e h;unfold Ar at h;cases h
 | succ f ih=>
  intro st e h;unfold Ar at h;split at h
  ·rename_i e1 h1;cases h;exact hp st _ h1
  ·split at h
   ·split at h
    ·rename_i e2 h2;cases h;exact ih _ _ h2
    ·cases h
   ·cases h
theorem IN{k:Nat}{p:St->Except (Int×Nat) (Code×St)}(hp:Er p)(sep:Int)(n:Nat):Er (fun st=>DN k (Ar ts sep p n st)):=by
 intro st e h;unfold DN at h;simp only at h;split at h
 ·rename_i e1 h1;cases h;exact TM hp sep _ st _ h1
 ·cases h
theorem TL:∀d,Er (Bj s ts d):=by
 intro d;induction d with
 | zero=>
  intro st e h;unfold Bj at h;split at h
  ·exact Mk st e h
  ·repeat' split at h
   all_goals (cases h;simp)
 | succ d ih=>
  intro st e h;unfold Bj at h;split at h
  ·exact Mk st e h
  ·split at h
   ·unfold Dr at h;split at h
    ·rename_i e1 h1;cases h;exact ih _ _ h1
    ·cases h
   ·split at h
    ·unfold DW at h;split at h
     ·rename_i e1 h1;cases h;exact(IN (k:=0) (IN (k:=1) (Mj ih) 5 ts.length) 4 ts.length) _ _ h1
     ·split at h
      ·cases h
      ·cases h;simp
    ·cases h;simp
end
theorem PM{s:ByteArray}{en:Int}{pl:Nat}(h:Ax s=.error (en,pl)):(en != 0)=true:=by
 rw[bne_iff_ne];unfold Ax at h;split at h
 ·cases h;simp
 ·unfold EY at h;split at h
  ·rename_i e1 h1;cases h;exact(IN (k:=0) (IN (k:=1) (Mj (TL 12)) 5 _) 4 _) _ _ h1
  ·split at h
   ·split at h
    ·cases h
    ·cases h;simp
   ·cases h;simp
def Au:Code->Bool×Bool
 | .exit n=>(decide (n<2+2*192),false)
 | .loop t=>((Au t).1,false)
 | .scope t=>(isT t&&(Au t).1,false)
 | .block k l=>(decide (k<=1)&&(decide (2<=(AE l).length)&&(Au l).2),false)
 | .seq a l=>(false,(Au a).1&&(Au l).2)
 | .skip=>(false,true)
 | _=>(false,false)
def DR(t:Code):Bool:=(Au t).1
theorem OD:∀t:Code,((Au t).1=true->(wfC t).1=true)/\((Au t).2=true->(wfC t).2=true):=by
 intro t;induction t with
 | exit n=>exact⟨fun _=>rfl,fun h=>by cases h⟩
 | skip=>exact⟨fun h=>(by cases h),fun _=>rfl⟩
 | loop t ih=>exact⟨fun h=>ih.1 h,fun h=>by cases h⟩
 | scope t ih=>exact⟨fun h=>ih.1 ((Bool.and_eq_true _ _ ▸ (show(isT t&&(Au t).1)=true from h)).2),fun h=>by cases h⟩
 | block k l ih=>
  refine⟨fun h=>?_,fun h=>by cases h⟩;have h':(decide (k<=1)&&(decide (2<=(AE l).length)&&(Au l).2))=true:=h;rw[Bool.and_eq_true,Bool.and_eq_true]at h';exact ih.2 h'.2.2
 | seq a b iha ihb=>
  refine⟨fun h=>(by cases h),fun h=>?_⟩;have h':((Au a).1&&(Au b).2)=true:=h;rw[Bool.and_eq_true]at h';show((wfC a).1&&(wfC b).2)=true;rw[iha.1 h'.1,ihb.2 h'.2];rfl
 | _=>exact⟨fun h=>(by cases h),fun h=>by cases h⟩
theorem Mf:∀l:List Code,AE (Ac l)=l
 | []=>rfl
 | t::l=>by show t::AE (Ac l)=_;rw[Mf l]
def Ni(p:St->Except (Int×Nat) (Code×St)):Prop:=∀st t st',p st=.ok (t,st')->st'.bad=401->st.bad=401/\DR t=true
theorem OB:∀l:List Code,(∀t,t∈l->DR t=true)->(Au (Ac l)).2=true
 | [],_=>rfl
 | t::l,h=>by
  show((Au t).1&&(Au (Ac l)).2)=true;rw[show(Au t).1=true from h t (by simp),OB l (fun x hx=>h x (by simp[hx]))];rfl
theorem Vo(k:Nat)(hk:k<=1)(l:List Code)(hl:l≠[])(h:∀t,t∈l->DR t=true):DR (Bo k l)=true:=by
 match l,hl with
 | [t],_=>exact h t (by simp)
 | a::b::l,_=>
  show(decide (k<=1)&&(decide (2<=(AE (Ac (a::b::l))).length)&&(Au (Ac (a::b::l))).2))=true;rw[Mf,OB _ h,decide_eq_true hk,decide_eq_true (by simp)];rfl
theorem TR{b:List UInt8}{f:Nat}(h:D6 b=some f):f<6:=by
 unfold D6 at h;repeat' split at h
 all_goals first|(cases h;done)|(simp only[Option.some.injEq]at h;omega)
section
variable{s:ByteArray}{ts:List Tok}
theorem Vn(f:Nat)(hf:f<6):Ni (D9 s ts f):=by
 intro st t st' h hb;unfold D9 at h;by_cases b1:f=0/\(tk ts (st.i+1)).kind=11
 ·rw[if_pos b1]at h;cases h
 rw[if_neg b1]at h;by_cases b2:st.atoms=16
 ·rw[if_pos b2]at h;cases h
 rw[if_neg b2]at h;by_cases b3:¬(tk ts (st.i+1)).kind=10/\¬(tk ts (st.i+1)).kind=11
 ·rw[if_pos b3]at h;cases h
 rw[if_neg b3]at h;by_cases b4:¬(tk ts (st.i+2)).kind=3
 ·rw[if_pos b4]at h;cases h
 rw[if_neg b4]at h;by_cases b5:31<Bg (txt s (tk ts (st.i+2)))
 ·rw[if_pos b5]at h;cases h
 rw[if_neg b5]at h;cases h;refine⟨hb,?_⟩;have nl:∀m,m<2+2*192->DR (.exit m)=true:=fun m hm=>decide_eq_true hm
 generalize Bg (txt s (tk ts (st.i+2)))=z at b5 ⊢;unfold DP;split
 ·exact nl _ (by omega)
 ·exact nl _ (by omega)
theorem OA:Ni (Cz s ts):=by
 intro st t st' h hb;unfold Cz at h;split at h
 ·cases h;exact⟨hb,rfl⟩
 ·split at h
  ·cases h;exact⟨hb,rfl⟩
  ·split at h
   ·cases h
   ·rename_i f hf;exact Vn f (TR hf) st t st' h hb
theorem O8:∀n t i,DR t=true->DR (Bh ts n t i).1=true
 | 0,t,i,h=>h
 | n+1,t,i,h=>by
  rw[Bh];split
  ·exact O8 n (.loop t) (i+1) h
  ·exact h
theorem O0{p:St->Except (Int×Nat) (Code×St)}(h:Ni p):Ni (DD ts p):=by
 intro st t st' hp hb;unfold DD at hp;split at hp
 ·cases hp
 ·rename_i t1 st1 e1;cases hp;have:=h st t1 st1 e1 hb;exact⟨this.1,O8 _ _ _ this.2⟩
theorem Nz{p:St->Except (Int×Nat) (Code×St)}(h:Ni p)(sep:Int):∀n st l st',Ar ts sep p n st=.ok (l,st')->st'.bad=401->st.bad=401/\∀t,t∈l->DR t=true
 | 0,st,l,st',hp,hb=>by
  rw[Ar]at hp;cases hp;exact⟨hb,fun t ht=>by cases ht⟩
 | n+1,st,l,st',hp,hb=>by
  rw[Ar]at hp;split at hp
  ·cases hp
  ·rename_i t1 st1 e1;split at hp
   ·split at hp
    ·cases hp
    ·rename_i l2 st2 e2;cases hp;have g2:=Nz h sep n _ l2 _ e2 hb;have h1:=h st t1 st1 e1 g2.1;refine⟨h1.1,fun t ht=>?_⟩;rcases List.mem_cons.1 ht with rfl|ht
     ·exact h1.2
     ·exact g2.2 t ht
   ·cases hp;have h1:=h st t1 _ e1 hb;refine⟨h1.1,fun t ht=>?_⟩;rcases List.mem_cons.1 ht with rfl|ht
    ·exact h1.2
    ·cases ht
theorem Ia{k:Nat}(hk:k<=1){p:St->Except (Int×Nat) (Code×St)}(hp:Ni p)(sep:Int)(h0:0<ts.length):Ni (fun st=>DN k (Ar ts sep p ts.length st)):=by
 intro st t st' h hb;obtain⟨l,hl,rfl⟩:=IQ h;have g:=Nz hp sep _ st l st' hl hb;exact⟨g.1,Vo k hk l (Nd h0 hl) g.2⟩
theorem Vm(h0:0<ts.length)(ha:∀i,(tk ts i).at_<=400):∀d,Ni (Bj s ts d):=by
 intro d;induction d with
 | zero=>
  intro st t st' h hb;unfold Bj at h;split at h
  ·exact OA st t st' h hb
  ·repeat' split at h
   all_goals cases h
 | succ d ih=>
  intro st t st' h hb;unfold Bj at h;split at h
  ·exact OA st t st' h hb
  ·split at h
   ·unfold Dr at h;split at h
    ·cases h
    ·rename_i t1 st1 e1;cases h;have:=ha st.i;by_cases hT:isT t1=true
     ·have g:=ih _ t1 st1 e1 (by simp only[hT,if_true]at hb;exact hb);refine⟨g.1,?_⟩;show(isT t1&&(Au t1).1)=true;rw[hT,show(Au t1).1=true from g.2];rfl
     ·exfalso;simp only[hT,if_false]at hb;have h2:min st1.bad (tk ts st.i).at_<=(tk ts st.i).at_:=Nat.min_le_right _ _;have hb':min st1.bad (tk ts st.i).at_=401:=by simpa using hb
      omega
   ·split at h
    ·unfold DW at h;split at h
     ·cases h
     ·rename_i t1 st1 e1;split at h
      ·cases h;have g:=(Ia (k:=0) (by decide) (Ia (k:=1) (by decide) (O0 ih) 5 h0) 4 h0) _ _ st1 e1 hb;exact g
      ·cases h
    ·cases h
end
theorem PJ{s:ByteArray}{t:Code}(h:Ax s=.ok t):DR t=true/\wt t<=7300:=by
 unfold Ax at h;split at h
 ·cases h
 ·rename_i hs;have hcl:=Hr s 0;have hlen:=QL s true;unfold EY at h;split at h
  ·cases h
  ·rename_i t1 st1 e1;have g:=(J9 (k:=0) (J9 (k:=1) (Qh (ZJ (s:=s) hcl.1 12)) 5 hcl.1) 4 hcl.1) _ t1 st1 e1;have g2:=IR hcl (Fp (s:=s) hcl 12) _ t1 st1 hcl.1 (by simp) e1;have g3:=(Ia (k:=0) (by decide) (Ia (k:=1) (by decide) (O0 (Vm (s:=s) hcl.1 (fun i=>Nat.le_trans (LE s true i) (by omega)) 12)) 5 hcl.1) 4 hcl.1) _ t1 st1 e1;split at h
   ·split at h
    ·rename_i hb;cases h;simp at g;exact⟨(g3 hb).2,by omega⟩
    ·cases h
   ·cases h
def lfC:Code->Bool
 | .exit n=>decide (n<2+2*192)
 | .loop t=>lfC t
 | .scope t=>lfC t
 | .block _ l=>lfC l
 | .seq a l=>lfC a&&lfC l
 | _=>true
theorem Nb:∀l:List Code,lfC (Ac l)=l.all lfC
 | []=>rfl
 | t::l=>by show(lfC t&&lfC (Ac l))=_;rw[Nb l];rfl
theorem Nc:∀l:Code,(wfC l).2=true->(AE l).all lfC=lfC l
 | .skip,_=>rfl
 | .seq a b,h=>by
  have h':((wfC a).1&&(wfC b).2)=true:=h;rw[Bool.and_eq_true]at h';show(a::AE b).all lfC=(lfC a&&lfC b);rw[List.all_cons,Nc b h'.2]
theorem Qj:∀l:Code,(wfC l).2=true->((AE l).map fun t=>wt t+6).sum=wt l
 | .skip,_=>rfl
 | .seq a b,h=>by
  have h':((wfC a).1&&(wfC b).2)=true:=h;rw[Bool.and_eq_true]at h';show((a::AE b).map fun t=>wt t+6).sum=wt a+wt b+6;rw[List.map_cons,List.sum_cons,Qj b h'.2];omega
theorem Tk(k:Nat)(t:Code)(h:(wfC t).1=true):(CZ k t).all lfC=lfC t/\((CZ k t).map fun t=>wt t+6).sum<=wt t+6:=by
 unfold CZ;split
 ·rename_i k' l;split
  ·exact⟨Nc l h,by rw[Qj l h];simp[wt]⟩
  ·simp
 ·simp
theorem Mv(k:Nat):∀l:List Code,(∀t,t∈l->(wfC t).1=true)->(l.flatMap (CZ k)).all lfC=l.all lfC/\((l.flatMap (CZ k)).map fun t=>wt t+6).sum<=(l.map fun t=>wt t+6).sum
 | [],_=>⟨rfl,by simp⟩
 | t::l,h=>by
  have h1:=Tk k t (h t (by simp));have h2:=Mv k l (fun x hx=>h x (by simp[hx]));rw[List.flatMap_cons,List.all_append,List.all_cons,h1.1,h2.1,List.map_append,List.sum_append,List.map_cons,List.sum_cons];exact⟨rfl,by omega⟩
theorem XI(k:Nat)(l:List Code)(h:∀t,t∈l->(wfC t).1=true):lfC (DF k l)=l.all lfC/\wt (DF k l)<=(l.map fun t=>wt t+6).sum:=by
 unfold DF;split
 ·exact⟨by simp,by simp⟩
 ·have h1:=Mv k l h;exact⟨(Nb _).trans h1.1,by show wt (Ac _)<=_;rw[LQ];exact h1.2⟩
theorem Tp:∀t:Code,((wfC t).1=true->lfC (B6 t).1=lfC t/\wt (B6 t).1<=wt t)/\((wfC t).2=true->(B6 t).2.all lfC=lfC t/\((B6 t).2.map fun t=>wt t+6).sum<=wt t):=by
 intro t;induction t with
 | exit n=>exact⟨fun _=>⟨rfl,Nat.le_refl _⟩,fun h=>by cases h⟩
 | skip=>exact⟨fun h=>(by cases h),fun _=>⟨rfl,Nat.le_refl _⟩⟩
 | loop t ih=>exact⟨fun h=>⟨(ih.1 h).1,Nat.add_le_add_right (ih.1 h).2 4⟩,fun h=>by cases h⟩
 | scope t ih=>exact⟨fun h=>⟨(ih.1 h).1,Nat.add_le_add_right (ih.1 h).2 4⟩,fun h=>by cases h⟩
 | block k l ih=>
  refine⟨fun h=>?_,fun h=>by cases h⟩;have hl:=ih.2 h;have hw:=((Je l).2 h).2;have hr:=XI k _ hw;exact⟨hr.1.trans hl.1,Nat.le_trans hr.2 hl.2⟩
 | seq a b iha ihb=>
  refine⟨fun h=>(by cases h),fun h=>?_⟩;have h':((wfC a).1&&(wfC b).2)=true:=h;rw[Bool.and_eq_true]at h';have ha:=iha.1 h'.1;have hb:=ihb.2 h'.2;refine⟨?_,?_⟩
  ·show((B6 a).1::(B6 b).2).all lfC=(lfC a&&lfC b);rw[List.all_cons,ha.1,hb.1]
  ·show(((B6 a).1::(B6 b).2).map fun t=>wt t+6).sum<=wt a+wt b+6;rw[List.map_cons,List.sum_cons];omega
 | _=>exact⟨fun h=>(by cases h),fun h=>by cases h⟩
theorem OC:∀t:Code,((Au t).1=true->lfC t=true)/\((Au t).2=true->lfC t=true):=by
 intro t;induction t with
 | exit n=>exact⟨fun h=>h,fun h=>by cases h⟩
 | skip=>exact⟨fun h=>(by cases h),fun _=>rfl⟩
 | loop t ih=>exact⟨fun h=>ih.1 h,fun h=>by cases h⟩
 | scope t ih=>exact⟨fun h=>ih.1 ((Bool.and_eq_true _ _ ▸ (show(isT t&&(Au t).1)=true from h)).2),fun h=>by cases h⟩
 | block k l ih=>
  refine⟨fun h=>?_,fun h=>by cases h⟩;have h':(decide (k<=1)&&(decide (2<=(AE l).length)&&(Au l).2))=true:=h;rw[Bool.and_eq_true,Bool.and_eq_true]at h';exact ih.2 h'.2.2
 | seq a b iha ihb=>
  refine⟨fun h=>(by cases h),fun h=>?_⟩;have h':((Au a).1&&(Au b).2)=true:=h;rw[Bool.and_eq_true]at h';show(lfC a&&lfC b)=true;rw[iha.1 h'.1,ihb.2 h'.2];rfl
 | _=>exact⟨fun h=>(by cases h),fun h=>by cases h⟩
theorem Tq{t:Code}(h:DR t=true):lfC (flat t)=true/\wt (flat t)<=wt t:=by
 have h1:=(Tp t).1 ((OD t).1 h);exact⟨h1.1.trans ((OC t).1 h),h1.2⟩
end Go.Proofs.YtlhkfafdioakeaaGreatDoor
namespace Go.Weft
set_option linter.unusedVariables false
set_option linter.unusedSimpArgs false
abbrev Sym:=Int×List UInt8
def DG(s:ByteArray)(t:Tok):Sym:=(t.kind,txt s t)
def By(l:Bool):List UInt8->List UInt8
 | []=>[]
 | c::r=>if Gt l (c.toNat:Int)=true then c::By l r else[]
def Bl:Nat->List UInt8->List Sym
 | 0,_=>[(0,[])]
 | _+1,[]=>[(0,[])]
 | f+1,c::r=>
  if (c.toNat:Int)=32\/(c.toNat:Int)=10 then Bl f r
  else if CD (c.toNat:Int)=true then(2,c::By true r)::Bl f (r.drop (By true r).length)
  else if (c.toNat:Int)=48 then(3,[c])::Bl f r
  else if C8 (c.toNat:Int)=true then(3,c::By false r)::Bl f (r.drop (By false r).length)
  else if (c.toNat:Int)=58 then
   (if r.head?=some 61 then(11,[c,61])::Bl f (r.drop 1) else[(1,[])])
  else if Bt (c.toNat:Int)=1 then[(1,[])]
  else(Bt (c.toNat:Int),[c])::Bl f r
theorem JV(s:ByteArray)(i:Nat)(c:UInt8)(r:List UInt8)(h:s.data.toList.drop i=c::r):i<s.size/\byt s i=(c.toNat:Int)/\s.data.toList.drop (i+1)=r:=by
 have hl:i<s.data.toList.length:=by
  rcases Nat.lt_or_ge i s.data.toList.length with h1|h1
  ·exact h1
  ·rw[List.drop_eq_nil_of_le h1]at h;cases h
 rw[List.drop_eq_getElem_cons hl]at h;have hs:i<s.size:=by simpa using hl
 refine⟨hs,?_,(List.cons.inj h).2⟩;rw[Gr s i hs];have:=(List.cons.inj h).1;rw[<-this];rfl
theorem Jc(s:ByteArray)(i:Nat)(h:s.data.toList.drop i=[]):s.size<=i:=by
 have:=List.drop_eq_nil_iff.1 h;simpa using this
theorem Ke(s:ByteArray)(l:Bool):∀(r:List UInt8) (i:Nat),s.data.toList.drop i=r->BE s l s.size i=i+(By l r).length
 | [],i,h=>by
  rw[Ir s l i (fun c=>by have:=Jc s i h;omega)];rfl
 | c::r,i,h=>by
  obtain⟨h1,h2,h3⟩:=JV s i c r h;unfold By;by_cases hc:Gt l (c.toNat:Int)=true
  ·rw[if_pos hc,Kf s l i h1 (by rw[h2];exact hc),Ke s l r (i+1) h3];simp only[List.length_cons];omega
  ·rw[if_neg hc,Ir s l i (fun k=>hc (by rw[<-h2];exact k.2))];rfl
theorem Pe(l:Bool):∀r:List UInt8,r.take (By l r).length=By l r
 | []=>rfl
 | c::r=>by
  unfold By;split
  ·simp only[List.length_cons,List.take_succ_cons];rw[Pe l r]
  ·rfl
theorem Ht(s:ByteArray)(k:Int)(i n:Nat):txt s ⟨k,i,i+n⟩=(s.data.toList.drop i).take n:=by
 unfold txt;simp[ByteArray.data_extract]
theorem FU(s:ByteArray):∀(f:Nat) (r:List UInt8) (i:Nat),s.data.toList.drop i=r->r.length<=f->(toks s true i).map (DG s)=Bl f r
 | f,[],i,h,hf=>by
  have hs:=Jc s i h;rw[Dd,if_pos hs]
  have e:DG s ⟨0,i,i⟩=(0,[]):=by
   unfold DG;have:=Ht s 0 i 0;simp only[Nat.add_zero,List.take_zero]at this;rw[this]
  cases f with
  | zero=>simp[Bl,e]
  | succ f=>simp[Bl,e]
 | 0,c::r,i,h,hf=>by simp at hf
 | f+1,c::r,i,h,hf=>by
  obtain⟨h1,h2,h3⟩:=JV s i c r h;have hf':r.length<=f:=by simpa using hf
  rw[Dd,if_neg (by omega),Bl,h2]
  have one:∀k:Int,DG s ⟨k,i,i+1⟩=(k,[c]):=fun k=>by
   unfold DG;rw[Ht,h];rfl
  have nul:DG s ⟨1,i,i⟩=(1,[]):=by
   unfold DG;have:=Ht s 1 i 0;simp only[Nat.add_zero,List.take_zero]at this;rw[this]
  have run:∀(k:Int) (l:Bool),DG s ⟨k,i,i+1+(By l r).length⟩=(k,c::By l r):=fun k l=>by
   unfold DG;rw[show i+1+(By l r).length=i+((By l r).length+1) by omega,Ht,h,List.take_succ_cons,Pe]
  have rd:∀l:Bool,s.data.toList.drop (i+1+(By l r).length)=r.drop (By l r).length:=fun l=>by rw[<-List.drop_drop,h3]
  by_cases b1:(c.toNat:Int)=32\/(c.toNat:Int)=10
  ·rw[if_pos b1,if_pos b1];exact FU s f r (i+1) h3 hf'
  rw[if_neg b1,if_neg b1];by_cases b2:CD (c.toNat:Int)=true
  ·rw[if_pos b2,if_pos b2,Ke s true r (i+1) h3,List.map_cons,run,FU s f _ _ (rd true) (by rw[List.length_drop];omega)]
  rw[if_neg b2,if_neg b2];by_cases b3:(c.toNat:Int)=48
  ·rw[if_pos b3,if_pos b3,List.map_cons,one,FU s f r (i+1) h3 hf']
  rw[if_neg b3,if_neg b3];by_cases b4:C8 (c.toNat:Int)=true
  ·rw[if_pos b4,if_pos b4,Ke s false r (i+1) h3,List.map_cons,run,FU s f _ _ (rd false) (by rw[List.length_drop];omega)]
  rw[if_neg b4,if_neg b4];by_cases b5:(c.toNat:Int)=58
  ·rw[if_pos b5,if_pos b5];match r,h3,h with
   | [],h3,h=>
    have:=Jc s (i+1) h3;rw[if_neg (by omega)];simp[nul]
   | d::r',h3,h=>
    obtain⟨g1,g2,g3⟩:=JV s (i+1) d r' h3;by_cases hd:d=61
    ·subst hd;rw[if_pos ⟨g1,by rw[g2];rfl⟩,List.map_cons,FU s f r' (i+2) g3 (by simp at hf';omega)];show _=(if (61::r').head?=some 61 then(11,[c,61])::Bl f ((61::r').drop 1) else[(1,[])]);rw[if_pos (show(61::r').head?=some 61 from rfl)];show _=(11,[c,61])::Bl f r';congr 1;unfold DG;rw[Ht,h];rfl
    ·have hne:¬byt s (i+1)=61:=by
      rw[g2];intro e;apply hd;have:d.toNat=61:=by omega
      exact UInt8.toNat_inj.1 (by rw[this];rfl)
     rw[if_neg (fun k=>hne k.2)];show[DG s ⟨1,i,i⟩]=(if (d::r').head?=some 61 then(11,[c,61])::Bl f ((d::r').drop 1) else[(1,[])]);rw[nul,if_neg (show ¬(d::r').head?=some 61 from fun e=>hd (Option.some.inj e))]
  rw[if_neg b5,if_neg b5];by_cases b6:Bt (c.toNat:Int)=1
  ·rw[if_pos b6,if_pos b6];simp[nul]
  ·rw[if_neg b6,if_neg b6,List.map_cons,one,FU s f r (i+1) h3 hf']
def DU(r:List UInt8):List Sym:=Bl r.length r
theorem Jr:∀(f g:Nat) (r:List UInt8),r.length<=f->r.length<=g->Bl f r=Bl g r
 | 0,0,r,_,_=>rfl
 | 0,g+1,r,h,_=>by
  have:r=[]:=List.eq_nil_of_length_eq_zero (by omega);subst this;rfl
 | f+1,0,r,_,h=>by
  have:r=[]:=List.eq_nil_of_length_eq_zero (by omega);subst this;rfl
 | f+1,g+1,[],_,_=>rfl
 | f+1,g+1,c::r,h,k=>by
  have h':r.length<=f:=by simpa using h
  have k':r.length<=g:=by simpa using k
  have d:∀n,Bl f (r.drop n)=Bl g (r.drop n):=fun n=>Jr f g _ (by rw[List.length_drop];omega) (by rw[List.length_drop];omega)
  rw[Bl,Bl,Jr f g r h' k',d,d,d]
theorem YJ(c:UInt8)(r:List UInt8):DU (c::r) =
  if (c.toNat:Int)=32\/(c.toNat:Int)=10 then DU r
  else if CD (c.toNat:Int)=true then(2,c::By true r)::DU (r.drop (By true r).length)
  else if (c.toNat:Int)=48 then(3,[c])::DU r
  else if C8 (c.toNat:Int)=true then(3,c::By false r)::DU (r.drop (By false r).length)
  else if (c.toNat:Int)=58 then
   (if r.head?=some 61 then(11,[c,61])::DU (r.drop 1) else[(1,[])])
  else if Bt (c.toNat:Int)=1 then[(1,[])]
  else(Bt (c.toNat:Int),[c])::DU r:=by
 unfold DU;rw[show(c::r).length=r.length+1 from rfl,Bl];have d:∀n,Bl r.length (r.drop n)=Bl (r.drop n).length (r.drop n):=fun n=>Jr _ _ _ (by rw[List.length_drop];omega) (Nat.le_refl _)
 rw[d,d,d]
theorem Yu(s:ByteArray):(toks s true 0).map (DG s)=DU s.data.toList:=FU s _ _ 0 rfl (Nat.le_refl _)
end Go.Weft
namespace Go.Weft
set_option linter.unusedVariables false
set_option linter.unusedSimpArgs false
def EP(x:Sym):Sym:=(x.1,if x.1=2\/x.1=3 then x.2 else[])
inductive Ct
 | leaf (ys:List Sym) (n:Nat) (a:Nat)
 | neg (a:Ct)
 | brk (a:Ct)
 | star (a:Ct)
 | sq (a b:Ct)
 | sm (a b:Ct)
def AU:Ct->List Sym
 | .leaf ys _ _=>ys
 | .neg a=>(7,[])::AU a
 | .brk a=>(8,[])::(AU a++[(9,[])])
 | .star a=>AU a++[(6,[])]
 | .sq a b=>AU a++(5,[])::AU b
 | .sm a b=>AU a++(4,[])::AU b
def AK:Ct->Code×List Code×List Code
 | .leaf _ n _=>(.exit n,[.exit n],[.exit n])
 | .neg a=>(.scope (AK a).1,[.scope (AK a).1],[.scope (AK a).1])
 | .brk a=>((AK a).1,[(AK a).1],[(AK a).1])
 | .star a=>(.loop (AK a).1,[.loop (AK a).1],[.loop (AK a).1])
 | .sq a b=>(Bo 1 ((AK a).1::(AK b).2.1),(AK a).1::(AK b).2.1,[Bo 1 ((AK a).1::(AK b).2.1)])
 | .sm a b=>(Bo 0 ((AK a).1::(AK b).2.2),[Bo 0 ((AK a).1::(AK b).2.2)],(AK a).1::(AK b).2.2)
def De(c:Ct):Code:=(AK c).1
def C7:Ct->Nat
 | .leaf _ _ _=>0
 | .neg a=>C7 a+1
 | .brk a=>C7 a+1
 | .star a=>C7 a
 | .sq a b=>max (C7 a) (C7 b)
 | .sm a b=>max (C7 a) (C7 b)
def B9:Ct->Nat
 | .leaf _ _ a=>a
 | .neg a=>B9 a
 | .brk a=>B9 a
 | .star a=>B9 a
 | .sq a b=>B9 a+B9 b
 | .sm a b=>B9 a+B9 b
def lvl:Ct->Nat
 | .leaf _ _ _=>0
 | .neg _=>0
 | .brk _=>0
 | .star _=>1
 | .sq _ _=>2
 | .sm _ _=>3
def JE(ys:List Sym)(n a:Nat):Prop:=
 (ys=[(2,[105,100])]/\n=0/\a=0)\/(ys=[(2,[100,114,111,112])]/\n=1/\a=0)\/
 ∃nm f k tx,ys=[(2,nm),(k,[]),(3,tx)]/\¬nm=[105,100]/\¬nm=[100,114,111,112]/\D6 nm=some f/\(k=10\/k=11)/\¬(f=0/\k=11)/\Bg tx<=31/\Code.exit n=DP k f (Bg tx)/\a=1
def okC:Ct->Prop
 | .leaf ys n a=>JE ys n a
 | .neg a=>lvl a=0/\okC a/\isT (De a)=true
 | .brk a=>okC a
 | .star a=>lvl a<=1/\okC a
 | .sq a b=>lvl a<=1/\lvl b<=2/\okC a/\okC b
 | .sm a b=>lvl a<=2/\lvl b<=3/\okC a/\okC b
theorem Xi{c:Ct}(h:lvl c<=1):(AK c).2.1=[De c]:=by cases c<;>first|rfl|(simp[lvl]at h)
theorem YI{c:Ct}(h:lvl c<=2):(AK c).2.2=[De c]:=by cases c<;>first|rfl|(simp[lvl]at h)
theorem Xh{c:Ct}(h:lvl c<=2):Bo 1 (AK c).2.1=De c:=by cases c<;>first|rfl|(simp[lvl]at h)
theorem YH(c:Ct):Bo 0 (AK c).2.2=De c:=by cases c<;>rfl
section
variable(s:ByteArray)(ts:List Tok)
def sy(i:Nat):Sym:=EP (DG s (tk ts i))
def At(i:Nat)(xs:List Sym):Prop:=∀j x,xs[j]?=some x->sy s ts (i+j)=x
end
section
variable{s:ByteArray}{ts:List Tok}
theorem z_{i:Nat}{k:Int}(h:(tk ts i).kind=k)(hk:¬(k=2\/k=3)):sy s ts i=(k,[]):=by
 show(_,_)=_;show((tk ts i).kind,if (tk ts i).kind=2\/(tk ts i).kind=3 then txt s (tk ts i) else[])=_;rw[h,if_neg hk]
theorem QB{i:Nat}{k:Int}(h:(tk ts i).kind=k)(hk:k=2\/k=3):sy s ts i=(k,txt s (tk ts i)):=by
 show((tk ts i).kind,if (tk ts i).kind=2\/(tk ts i).kind=3 then txt s (tk ts i) else[])=_;rw[h,if_pos hk]
theorem At.nil(i:Nat):At s ts i []:=fun j x h=>by simp at h
theorem At.cons{i:Nat}{x:Sym}{xs:List Sym}:At s ts i (x::xs)↔sy s ts i=x/\At s ts (i+1) xs:=by
 constructor
 ·intro h;refine⟨by simpa using h 0 x (by simp),fun j y hj=>?_⟩;rw[show i+1+j=i+(j+1) by omega];exact h (j+1) y (by simpa using hj)
 ·rintro⟨h1,h2⟩ j y hj;cases j with
  | zero=>simp at hj;subst hj;simpa using h1
  | succ j=>
   rw[show i+(j+1)=i+1+j by omega];exact h2 j y (by simpa using hj)
theorem At.append{i:Nat}{xs ys:List Sym}:At s ts i (xs++ys)↔At s ts i xs/\At s ts (i+xs.length) ys:=by
 induction xs generalizing i with
 | nil=>simp[At.nil]
 | cons x xs ih=>
  rw[List.cons_append,At.cons,At.cons,ih,List.length_cons,show i+(xs.length+1)=i+1+xs.length by omega,and_assoc]
theorem L8(c:Ct):okC c->(∀x∈AU c,2<=x.1)/\0<(AU c).length:=by
 induction c with
 | leaf ys n a=>
  intro h;rcases h with⟨rfl,_⟩|⟨rfl,_⟩|⟨nm,f,k,tx,rfl,_,_,_,hk,_⟩
  ·exact⟨fun x hx=>by simp[AU]at hx;subst hx;decide,by simp[AU]⟩
  ·exact⟨fun x hx=>by simp[AU]at hx;subst hx;decide,by simp[AU]⟩
  ·refine⟨fun x hx=>?_,by simp[AU]⟩;simp only[AU,List.mem_cons,List.not_mem_nil,or_false]at hx;rcases hx with rfl|rfl|rfl
   ·show(2:Int)<=2;decide
   ·show 2<=k;omega
   ·show(2:Int)<=3;decide
 | neg a ih=>
  intro h;have:=ih h.2.1;refine⟨fun x hx=>?_,by simp[AU]⟩;rcases List.mem_cons.1 (show x∈(7,[])::AU a from hx) with rfl|hx
  ·show(2:Int)<=7;decide
  ·exact this.1 x hx
 | brk a ih=>
  intro h;have:=ih h;refine⟨fun x hx=>?_,by simp[AU]⟩;rcases List.mem_cons.1 (show x∈(8,[])::(AU a++[(9,[])]) from hx) with rfl|hx
  ·show(2:Int)<=8;decide
  ·rcases List.mem_append.1 hx with hx|hx
   ·exact this.1 x hx
   ·rw[List.mem_singleton]at hx;subst hx;show(2:Int)<=9;decide
 | star a ih=>
  intro h;have:=ih h.2;refine⟨fun x hx=>?_,by simp[AU]⟩;rcases List.mem_append.1 (show x∈AU a++[(6,[])] from hx) with hx|hx
  ·exact this.1 x hx
  ·rw[List.mem_singleton]at hx;subst hx;show(2:Int)<=6;decide
 | sq a b iha ihb=>
  intro h;have h1:=iha h.2.2.1;have h2:=ihb h.2.2.2;refine⟨fun x hx=>?_,by simp[AU];omega⟩;rcases List.mem_append.1 (show x∈AU a++(5,[])::AU b from hx) with hx|hx
  ·exact h1.1 x hx
  ·rcases List.mem_cons.1 hx with rfl|hx
   ·show(2:Int)<=5;decide
   ·exact h2.1 x hx
 | sm a b iha ihb=>
  intro h;have h1:=iha h.2.2.1;have h2:=ihb h.2.2.2;refine⟨fun x hx=>?_,by simp[AU];omega⟩;rcases List.mem_append.1 (show x∈AU a++(4,[])::AU b from hx) with hx|hx
  ·exact h1.1 x hx
  ·rcases List.mem_cons.1 hx with rfl|hx
   ·show(2:Int)<=4;decide
   ·exact h2.1 x hx
theorem QC(c:Ct)(h:okC c):(∀x∈AU c,x.1≠0)/\0<(AU c).length:=⟨fun x hx=>by have:=(L8 c h).1 x hx;omega,(L8 c h).2⟩
end
end Go.Weft
namespace Go.Weft
set_option linter.unusedVariables false
set_option linter.unusedSimpArgs false
end Go.Weft
namespace Go.Weft
set_option linter.unusedVariables false
set_option linter.unusedSimpArgs false
section
variable(s:ByteArray)(ts:List Tok)
structure Wrote(st st':St)(L d:Nat)(c:Ct):Prop where
 ok:okC c
 lv:lvl c<=L
 at_:At s ts st.i (AU c)
 i:st'.i=st.i+(AU c).length
 atoms:st'.atoms=st.atoms+B9 c
 dep:C7 c<=d
 bad:st.bad=401
 few:st.atoms<=16->st'.atoms<=16
def Snd(p:St->Except (Int×Nat) (Code×St))(L d:Nat):Prop:=∀st t st',p st=.ok (t,st')->st'.bad=401->∃c,De c=t/\Wrote s ts st st' L d c
end
section
variable{s:ByteArray}{ts:List Tok}
theorem Pu(d:Nat){st st':St}{t:Code}(hk:(tk ts st.i).kind=2)(h:Cz s ts st=.ok (t,st'))(hb:st'.bad=401):∃c,De c=t/\Wrote s ts st st' 0 d c:=by
 have a1:=QB (s:=s) hk (.inl rfl);unfold Cz at h;by_cases h1:txt s (tk ts st.i)=[105,100]
 ·rw[if_pos h1]at h;cases h;exact⟨.leaf [(2,[105,100])] 0 0,rfl,⟨.inl ⟨rfl,rfl,rfl⟩,Nat.le_refl _,At.cons.2 ⟨by rw[a1,h1],At.nil _⟩,rfl,rfl,Nat.zero_le _,hb,fun h=>h⟩⟩
 rw[if_neg h1]at h;by_cases h2:txt s (tk ts st.i)=[100,114,111,112]
 ·rw[if_pos h2]at h;cases h;exact⟨.leaf [(2,[100,114,111,112])] 1 0,rfl,⟨.inr (.inl ⟨rfl,rfl,rfl⟩),Nat.le_refl _,At.cons.2 ⟨by rw[a1,h2],At.nil _⟩,rfl,rfl,Nat.zero_le _,hb,fun h=>h⟩⟩
 rw[if_neg h2]at h;split at h
 ·cases h
 ·rename_i f hf;unfold D9 at h;by_cases b1:f=0/\(tk ts (st.i+1)).kind=11
  ·rw[if_pos b1]at h;cases h
  rw[if_neg b1]at h;by_cases b2:st.atoms=16
  ·rw[if_pos b2]at h;cases h
  rw[if_neg b2]at h;by_cases b3:¬(tk ts (st.i+1)).kind=10/\¬(tk ts (st.i+1)).kind=11
  ·rw[if_pos b3]at h;cases h
  rw[if_neg b3]at h;by_cases b4:¬(tk ts (st.i+2)).kind=3
  ·rw[if_pos b4]at h;cases h
  rw[if_neg b4]at h;by_cases b5:31<Bg (txt s (tk ts (st.i+2)))
  ·rw[if_pos b5]at h;cases h
  rw[if_neg b5]at h;cases h;have hk2:(tk ts (st.i+1)).kind=10\/(tk ts (st.i+1)).kind=11:=by omega
  have a2:=z_ (s:=s) (i:=st.i+1) rfl (show ¬((tk ts (st.i+1)).kind=2\/(tk ts (st.i+1)).kind=3) by omega);have a3:=QB (s:=s) (i:=st.i+2) (show(tk ts (st.i+2)).kind=3 by omega) (.inr rfl)
  obtain⟨n,hn⟩:∃n,DP (tk ts (st.i+1)).kind f (Bg (txt s (tk ts (st.i+2))))=.exit n:=by
   unfold DP;split
   ·exact⟨_,rfl⟩
   ·exact⟨_,rfl⟩
  refine⟨.leaf [(2,txt s (tk ts st.i)),((tk ts (st.i+1)).kind,[]),(3,txt s (tk ts (st.i+2)))] n 1,hn.symm,⟨.inr (.inr ⟨_,f,_,_,rfl,h1,h2,hf,hk2,b1,by omega,hn.symm,rfl⟩),Nat.le_refl _,At.cons.2 ⟨a1,At.cons.2 ⟨a2,At.cons.2 ⟨a3,At.nil _⟩⟩⟩,rfl,rfl,Nat.zero_le _,hb,fun h=>?_⟩⟩;show st.atoms+1<=16;omega
theorem Pr:∀(f:Nat) (c:Ct) (i0:Nat),okC c->lvl c<=1->At s ts i0 (AU c)->∃c',okC c'/\lvl c'<=1/\At s ts i0 (AU c')/\Bh ts f (De c) (i0+(AU c).length)=(De c',i0+(AU c').length)/\B9 c'=B9 c/\C7 c'=C7 c
 | 0,c,i0,h1,h2,h3=>⟨c,h1,h2,h3,rfl,rfl,rfl⟩
 | f+1,c,i0,h1,h2,h3=>by
  by_cases hk:(tk ts (i0+(AU c).length)).kind=6
  ·obtain⟨c',g1,g2,g3,g4,g5,g6⟩:=Pr f (.star c) i0 ⟨h2,h1⟩ (by simp[lvl]) (At.append.2 ⟨h3,At.cons.2 ⟨z_ hk (by decide),At.nil _⟩⟩);refine⟨c',g1,g2,g3,?_,g5,g6⟩;rw[Bh,if_pos hk,<-g4];have e:(AU (.star c)).length=(AU c).length+1:=by simp[AU]
   rw[e];rfl
  ·exact⟨c,h1,h2,h3,by rw[Bh,if_neg hk],rfl,rfl⟩
theorem Xs{p:St->Except (Int×Nat) (Code×St)}{d:Nat}(h:Snd s ts p 0 d):Snd s ts (DD ts p) 1 d:=by
 intro st t st' hp hb;unfold DD at hp;split at hp
 ·cases hp
 ·rename_i t1 st1 e1;cases hp;obtain⟨c,rfl,w⟩:=h st t1 st1 e1 hb;obtain⟨c',g1,g2,g3,g4,g5,g6⟩:=Pr ts.length c st.i w.ok (by have:=w.lv;omega) w.at_;rw[w.i,g4];exact⟨c',rfl,⟨g1,g2,g3,rfl,by rw[g5];exact w.atoms,by rw[g6];exact w.dep,w.bad,w.few⟩⟩
theorem NR{i:Nat}(h:(tk ts i).kind≠0):i<ts.length:=by
 rcases Nat.lt_or_ge i ts.length with h1|h1
 ·exact h1
 ·exfalso;apply h;unfold tk;rw[List.getD_eq_getElem?_getD,List.getElem?_eq_none h1];rfl
theorem JR{p:St->Except (Int×Nat) (Code×St)}{L d:Nat}(h:Snd s ts p L d)(sep:Int):∀f st l st',Ar ts sep p f st=.ok (l,st')->st'.bad=401->st.bad=401
 | 0,st,l,st',hp,hb=>by
  rw[Ar]at hp;cases hp;exact hb
 | f+1,st,l,st',hp,hb=>by
  rw[Ar]at hp;split at hp
  ·cases hp
  ·rename_i t1 st1 e1;split at hp
   ·split at hp
    ·cases hp
    ·rename_i l2 st2 e2;cases hp;obtain⟨_,_,w⟩:=h st t1 st1 e1 (JR h sep f ⟨st1.i+1,st1.atoms,st1.bad⟩ l2 _ e2 hb);exact w.bad
   ·cases hp;obtain⟨_,_,w⟩:=h st t1 _ e1 hb;exact w.bad
theorem Pq{p:St->Except (Int×Nat) (Code×St)}{d:Nat}(h:Snd s ts p 1 d):∀f st l st',0<f->ts.length<=f+st.i->Ar ts 5 p f st=.ok (l,st')->st'.bad=401->∃c,(AK c).2.1=l/\Wrote s ts st st' 2 d c
 | 0,st,l,st',h0,_,_,_=>by omega
 | f+1,st,l,st',_,hf,hp,hb=>by
  rw[Ar]at hp;split at hp
  ·cases hp
  ·rename_i t1 st1 e1;split at hp
   ·rename_i hk;split at hp
    ·cases hp
    ·rename_i l2 st2 e2;cases hp;have hlt:=NR (show(tk ts st1.i).kind≠0 by rw[hk];decide);obtain⟨c1,rfl,w1⟩:=h st t1 st1 e1 (JR h 5 f ⟨st1.i+1,st1.atoms,st1.bad⟩ l2 _ e2 hb);have hpos:=(QC c1 w1.ok).2;have hi:=w1.i;obtain⟨c2,rfl,w2⟩:=Pq h f ⟨st1.i+1,st1.atoms,st1.bad⟩ l2 _ (by omega) (by show ts.length<=f+(st1.i+1);omega) e2 hb;have a2:At s ts (st1.i+1) (AU c2):=w2.at_;refine⟨.sq c1 c2,rfl,⟨⟨w1.lv,w2.lv,w1.ok,w2.ok⟩,Nat.le_refl _,At.append.2 ⟨w1.at_,At.cons.2 ⟨by rw[<-hi];exact z_ hk (by decide),by rw[<-hi];exact a2⟩⟩,?_,?_,?_,w1.bad,fun h16=>w2.few (w1.few h16)⟩⟩
     ·rw[w2.i];show st1.i+1+(AU c2).length=st.i+(AU c1++(5,[])::AU c2).length;rw[hi,List.length_append,List.length_cons];omega
     ·rw[w2.atoms];show st1.atoms+B9 c2=st.atoms+(B9 c1+B9 c2);rw[w1.atoms];omega
     ·show max (C7 c1) (C7 c2)<=d;have:=w1.dep;have:=w2.dep;omega
   ·cases hp;obtain⟨c1,rfl,w1⟩:=h st t1 _ e1 hb;exact⟨c1,Xi w1.lv,⟨w1.ok,by have:=w1.lv;omega,w1.at_,w1.i,w1.atoms,w1.dep,w1.bad,w1.few⟩⟩
theorem Pt{p:St->Except (Int×Nat) (Code×St)}{d:Nat}(h:Snd s ts p 2 d):∀f st l st',0<f->ts.length<=f+st.i->Ar ts 4 p f st=.ok (l,st')->st'.bad=401->∃c,(AK c).2.2=l/\Wrote s ts st st' 3 d c
 | 0,st,l,st',h0,_,_,_=>by omega
 | f+1,st,l,st',_,hf,hp,hb=>by
  rw[Ar]at hp;split at hp
  ·cases hp
  ·rename_i t1 st1 e1;split at hp
   ·rename_i hk;split at hp
    ·cases hp
    ·rename_i l2 st2 e2;cases hp;have hlt:=NR (show(tk ts st1.i).kind≠0 by rw[hk];decide);obtain⟨c1,rfl,w1⟩:=h st t1 st1 e1 (JR h 4 f ⟨st1.i+1,st1.atoms,st1.bad⟩ l2 _ e2 hb);have hpos:=(QC c1 w1.ok).2;have hi:=w1.i;obtain⟨c2,rfl,w2⟩:=Pt h f ⟨st1.i+1,st1.atoms,st1.bad⟩ l2 _ (by omega) (by show ts.length<=f+(st1.i+1);omega) e2 hb;have a2:At s ts (st1.i+1) (AU c2):=w2.at_;refine⟨.sm c1 c2,rfl,⟨⟨w1.lv,w2.lv,w1.ok,w2.ok⟩,Nat.le_refl _,At.append.2 ⟨w1.at_,At.cons.2 ⟨by rw[<-hi];exact z_ hk (by decide),by rw[<-hi];exact a2⟩⟩,?_,?_,?_,w1.bad,fun h16=>w2.few (w1.few h16)⟩⟩
     ·rw[w2.i];show st1.i+1+(AU c2).length=st.i+(AU c1++(4,[])::AU c2).length;rw[hi,List.length_append,List.length_cons];omega
     ·rw[w2.atoms];show st1.atoms+B9 c2=st.atoms+(B9 c1+B9 c2);rw[w1.atoms];omega
     ·show max (C7 c1) (C7 c2)<=d;have:=w1.dep;have:=w2.dep;omega
   ·cases hp;obtain⟨c1,rfl,w1⟩:=h st t1 _ e1 hb;exact⟨c1,YI w1.lv,⟨w1.ok,by have:=w1.lv;omega,w1.at_,w1.i,w1.atoms,w1.dep,w1.bad,w1.few⟩⟩
theorem Xt{p:St->Except (Int×Nat) (Code×St)}{d:Nat}(h0:0<ts.length)(h:Snd s ts p 0 d):Snd s ts (GT ts p) 2 d:=by
 intro st t st' hp hb;unfold GT DN at hp;split at hp
 ·cases hp
 ·rename_i l st1 e1;cases hp;obtain⟨c,rfl,w⟩:=Pq (Xs h) ts.length st l _ h0 (by omega) e1 hb;exact⟨c,(Xh w.lv).symm,w⟩
theorem Ps{p:St->Except (Int×Nat) (Code×St)}{d:Nat}(h0:0<ts.length)(h:Snd s ts p 0 d):Snd s ts (ED ts p) 3 d:=by
 intro st t st' hp hb;unfold ED DN at hp;split at hp
 ·cases hp
 ·rename_i l st1 e1;cases hp;obtain⟨c,rfl,w⟩:=Pt (Xt h0 h) ts.length st l _ h0 (by omega) e1 hb;exact⟨c,(YH c).symm,w⟩
theorem Xr(h0:0<ts.length)(ha:∀i,(tk ts i).at_<=400):∀d,Snd s ts (Bj s ts d) 0 d:=by
 intro d;induction d with
 | zero=>
  intro st t st' h hb;unfold Bj at h;split at h
  ·rename_i hk;exact Pu 0 hk h hb
  ·repeat' split at h
   all_goals cases h
 | succ d ih=>
  intro st t st' h hb;unfold Bj at h;split at h
  ·rename_i hk;exact Pu (d+1) hk h hb
  ·split at h
   ·rename_i hk;unfold Dr at h;split at h
    ·cases h
    ·rename_i t1 st1 e1;cases h;have:=ha st.i;by_cases hT:isT t1=true
     ·obtain⟨c,rfl,w⟩:=ih _ t1 st1 e1 (by simp only[hT,if_true]at hb;exact hb);have hlv:lvl c=0:=by have:=w.lv;omega
      have a2:At s ts (st.i+1) (AU c):=w.at_;refine⟨.neg c,rfl,⟨⟨hlv,w.ok,hT⟩,Nat.le_refl _,At.cons.2 ⟨z_ hk (by decide),a2⟩,?_,w.atoms,by show C7 c+1<=d+1;have:=w.dep;omega,w.bad,w.few⟩⟩;show st1.i=st.i+((AU c).length+1);rw[w.i];show st.i+1+(AU c).length=_;omega
     ·exfalso;simp only[hT,if_false]at hb;have h2:min st1.bad (tk ts st.i).at_<=(tk ts st.i).at_:=Nat.min_le_right _ _;have hb':min st1.bad (tk ts st.i).at_=401:=by simpa using hb
      omega
   ·split at h
    ·rename_i hk;unfold DW at h;split at h
     ·cases h
     ·rename_i t1 st1 e1;split at h
      ·rename_i h9;cases h;obtain⟨c,rfl,w⟩:=Ps h0 ih _ _ st1 e1 hb;have a2:At s ts (st.i+1) (AU c):=w.at_;have hi:st1.i=st.i+1+(AU c).length:=w.i;refine⟨.brk c,rfl,⟨w.ok,Nat.le_refl _,At.cons.2 ⟨z_ hk (by decide),At.append.2 ⟨a2,At.cons.2 ⟨by rw[<-hi];exact z_ h9 (by decide),At.nil _⟩⟩⟩,?_,w.atoms,by show C7 c+1<=d+1;have:=w.dep;omega,w.bad,w.few⟩⟩;show st1.i+1=st.i+((8,[])::(AU c++[((9:Int),([]:List UInt8))])).length;rw[hi];simp;omega
      ·cases h
    ·cases h
theorem X9(h0:0<ts.length)(ha:∀i,(tk ts i).at_<=400){t:Code}(h:EY s ts=.ok t):∃c,De c=t/\okC c/\At s ts 0 (AU c)/\(tk ts (AU c).length).kind=0/\C7 c<=12/\B9 c<=16:=by
 unfold EY at h;split at h
 ·cases h
 ·rename_i t1 st1 e1;split at h
  ·rename_i hk;split at h
   ·rename_i hb;cases h;obtain⟨c,rfl,w⟩:=Ps h0 (Xr h0 ha 12) _ _ st1 e1 hb;have hi:st1.i=0+(AU c).length:=w.i;have hat:st1.atoms=0+B9 c:=w.atoms;have hf:st1.atoms<=16:=w.few (by show 0<=16;omega);exact⟨c,rfl,w.ok,w.at_,by rw[<-Nat.zero_add (AU c).length,<-hi];exact hk,w.dep,by omega⟩
   ·cases h
  ·cases h
end
end Go.Weft
namespace Go.Weft
set_option linter.unusedVariables false
set_option linter.unusedSimpArgs false
theorem Xn(c:Int):Bt c≠0/\Bt c≠2/\Bt c≠3:=by
 unfold Bt;repeat' split
 all_goals decide
theorem Js:∀(n:Nat) (r:List UInt8),r.length<=n->∃xs e,DU r=xs++[e]/\(e=(0,[])\/e=(1,[]))/\∀x∈xs,x.1≠0/\x.1≠1
 | n,[],_=>⟨[],(0,[]),rfl,.inl rfl,fun x hx=>by cases hx⟩
 | 0,c::r,h=>by simp at h
 | n+1,c::r,h=>by
  have h':r.length<=n:=by simpa using h
  have add:∀(x:Sym) (r':List UInt8),x.1≠0->x.1≠1->r'.length<=n->∃xs e,x::DU r'=xs++[e]/\(e=(0,[])\/e=(1,[]))/\∀x∈xs,x.1≠0/\x.1≠1:=by
   intro x r' h0 h1 hl;obtain⟨xs,e,g1,g2,g3⟩:=Js n r' hl;refine⟨x::xs,e,by rw[g1];rfl,g2,fun y hy=>?_⟩;rcases List.mem_cons.1 hy with rfl|hy
   ·exact⟨h0,h1⟩
   ·exact g3 y hy
  have dl:∀k,(r.drop k).length<=n:=fun k=>by rw[List.length_drop];omega
  rw[YJ];split
  ·exact Js n r h'
  split
  ·exact add _ _ (by show(2:Int)≠0;decide) (by show(2:Int)≠1;decide) (dl _)
  split
  ·exact add _ _ (by show(3:Int)≠0;decide) (by show(3:Int)≠1;decide) h'
  split
  ·exact add _ _ (by show(3:Int)≠0;decide) (by show(3:Int)≠1;decide) (dl _)
  split
  ·split
   ·exact add _ _ (by show(11:Int)≠0;decide) (by show(11:Int)≠1;decide) (dl _)
   ·exact⟨[],(1,[]),rfl,.inr rfl,fun x hx=>by cases hx⟩
  split
  ·exact⟨[],(1,[]),rfl,.inr rfl,fun x hx=>by cases hx⟩
  ·rename_i h1;exact add _ _ (Xn _).1 h1 h'
def Fx(r:List UInt8):List Sym:=(DU r).map EP
section
variable(s:ByteArray)
theorem QA{i:Nat}{x:Sym}:(Fx s.data.toList)[i]?=some x->sy s (toks s true 0) i=x:=by
 intro h;unfold Fx at h;rw[<-Yu,List.map_map,List.getElem?_map]at h;cases ht:(toks s true 0)[i]? with
 | none=>rw[ht]at h;cases h
 | some t=>
  rw[ht]at h;have e:tk (toks s true 0) i=t:=by unfold tk;rw[List.getD_eq_getElem?_getD,ht];rfl
  unfold sy;rw[e];exact Option.some.inj h
theorem Up{xs:List Sym}(h:At s (toks s true 0) 0 xs)(hx:∀x∈xs,2<=x.1)(h0:(tk (toks s true 0) xs.length).kind=0):Fx s.data.toList=xs++[(0,[])]:=by
 obtain⟨ys,e,g1,g2,g3⟩:=Js _ s.data.toList (Nat.le_refl _);have hN:Fx s.data.toList=ys.map EP++[EP e]:=by unfold Fx;rw[g1];simp
 have hs:∀j (hj:j<ys.length),sy s (toks s true 0) j=EP ys[j]:=fun j hj=>QA s (by rw[hN,List.getElem?_append_left (by simpa using hj)];simp[hj])
 have he:sy s (toks s true 0) ys.length=EP e:=QA s (by rw[hN];simp)
 have hle:ys.length<=xs.length:=by
  rcases Nat.lt_or_ge xs.length ys.length with hlt|hge
  ·exfalso;have h1:=hs _ hlt;have h2:(sy s (toks s true 0) xs.length).1=0:=h0;rw[h1]at h2;exact(g3 _ (List.getElem_mem hlt)).1 h2
  ·exact hge
 have hxl:xs.length=ys.length:=by
  rcases Nat.lt_or_ge ys.length xs.length with hlt|hge
  ·exfalso;have hm:=h ys.length xs[ys.length] (List.getElem?_eq_getElem hlt);rw[Nat.zero_add,he]at hm;have h2:=hx _ (List.getElem_mem hlt);rw[<-hm]at h2;rcases g2 with rfl|rfl
   ·exact absurd h2 (by show ¬(2:Int)<=0;decide)
   ·exact absurd h2 (by show ¬(2:Int)<=1;decide)
  ·omega
 have hxy:xs=ys.map EP:=by
  refine List.ext_getElem (by simp[hxl]) (fun j h1 h2=>?_);have:=h j xs[j] (List.getElem?_eq_getElem h1);rw[Nat.zero_add,hs j (by omega)]at this;simp[<-this]
 have he0:EP e=(0,[]):=by
  have h2:(sy s (toks s true 0) xs.length).1=0:=h0;rw[hxl,he]at h2;rcases g2 with rfl|rfl
  ·rfl
  ·exact absurd h2 (by show ¬(1:Int)=0;decide)
 rw[hN,<-hxy,he0]
end
end Go.Weft
namespace Go.Proofs.YtlhkfafdioakeaaGreatDoor
open Go.Weft
set_option linter.unusedVariables false
set_option linter.unusedSimpArgs false
section
variable(s:ByteArray)
theorem PO{t:Code}(h:Ax s=.ok t):∃c,De c=t/\okC c/\Fx s.data.toList=AU c++[(0,[])]/\C7 c<=12/\B9 c<=16/\s.size<=400:=by
 unfold Ax at h;split at h
 ·cases h
 ·rename_i hs;obtain⟨c,h1,h2,h3,h4,h5,h6⟩:=X9 (Hr s 0).1 (fun i=>Nat.le_trans (LE s true i) (by omega)) h;exact⟨c,h1,h2,Up s h3 (L8 c h2).1 h4,h5,h6,by omega⟩
end
end Go.Proofs.YtlhkfafdioakeaaGreatDoor
