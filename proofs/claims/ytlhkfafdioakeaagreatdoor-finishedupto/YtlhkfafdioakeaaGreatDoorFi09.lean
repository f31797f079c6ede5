/- Parts of the proof. -/
import Derived.Test.YtlhkfafdioakeaaGreatDoorFi01
import Derived.Scope
namespace Go.Weft
def CD(c:Int):Bool:=decide (97<=c/\c<=122)
def C8(c:Int):Bool:=decide (48<=c/\c<=57)
def Bt(c:Int):Int:=
 if c=43 then 4 else if c=59 then 5 else if c=42 then 6 else if c=33 then 7 else if c=40 then 8 else if c=41 then 9 else if c=61 then 10 else 1
def byt(s:ByteArray)(i:Nat):Int:=if h:i<s.size then((s[i]'h).toNat:Int) else 0
theorem Gr(s:ByteArray)(i:Nat)(h:i<s.size):byt s i=((s[i]'h).toNat:Int):=by simp[byt,h]
def Gt(l:Bool)(c:Int):Bool:=match l with|true=>CD c|false=>C8 c
def BE(s:ByteArray)(l:Bool):Nat->Nat->Nat
 | 0,i=>i
 | f+1,i=>if i<s.size/\Gt l (byt s i)=true then BE s l f (i+1) else i
structure Tok where
 kind:Int
 at_:Nat
 to:Nat
def lex(s:ByteArray)(stop:Bool):Nat->Nat->List Tok
 | 0,i=>[⟨0,i,i⟩]
 | f+1,i=>
  if s.size<=i then[⟨0,i,i⟩]
  else if byt s i=32\/byt s i=10 then lex s stop f (i+1)
  else if CD (byt s i)=true then⟨2,i,BE s true s.size (i+1)⟩::lex s stop f (BE s true s.size (i+1))
  else if byt s i=48 then⟨3,i,i+1⟩::lex s stop f (i+1)
  else if C8 (byt s i)=true then⟨3,i,BE s false s.size (i+1)⟩::lex s stop f (BE s false s.size (i+1))
  else if byt s i=58 then
   (if i+1<s.size/\byt s (i+1)=61 then⟨11,i,i+2⟩::lex s stop f (i+2)
    else⟨1,i,i⟩::(if stop then[] else lex s stop f (i+1)))
  else if Bt (byt s i)=1 then⟨1,i,i⟩::(if stop then[] else lex s stop f (i+1))
  else⟨Bt (byt s i),i,i+1⟩::lex s stop f (i+1)
theorem FM(s:ByteArray)(l:Bool):∀f i,i<=BE s l f i
 | 0,i=>Nat.le_refl _
 | f+1,i=>by
  unfold BE;split
  ·have:=FM s l f (i+1);omega
  ·exact Nat.le_refl _
theorem Hn(s:ByteArray)(l:Bool):∀f i,i<=s.size->BE s l f i<=s.size
 | 0,i,h=>h
 | f+1,i,h=>by
  unfold BE;split
  ·rename_i hc;exact Hn s l f (i+1) hc.1
  ·exact h
theorem Pd(s:ByteArray)(l:Bool):∀f g i,s.size<=f+i->s.size<=g+i->BE s l f i=BE s l g i
 | 0,0,i,_,_=>rfl
 | 0,g+1,i,h,_=>by
  rw[BE,BE,if_neg (by omega)]
 | f+1,0,i,_,h=>by
  rw[BE,BE,if_neg (by omega)]
 | f+1,g+1,i,h,k=>by
  rw[BE,BE];split
  ·exact Pd s l f g (i+1) (by omega) (by omega)
  ·rfl
theorem Kf(s:ByteArray)(l:Bool)(i:Nat)(h:i<s.size)(hc:Gt l (byt s i)=true):
  BE s l s.size i=BE s l s.size (i+1):=by
 rw[Pd s l s.size (s.size+1) i (by omega) (by omega),BE,if_pos ⟨h,hc⟩]
theorem Ir(s:ByteArray)(l:Bool)(i:Nat)(h:¬(i<s.size/\Gt l (byt s i)=true)):
  BE s l s.size i=i:=by
 cases hs:s.size with
 | zero=>rfl
 | succ n=>rw[BE,if_neg h]
theorem Uq(s:ByteArray)(stop:Bool):∀f g i,s.size<=f+i->s.size<=g+i->lex s stop f i=lex s stop g i:=by
 intro f;induction f with
 | zero=>
  intro g i h k;cases g with
  | zero=>rfl
  | succ g=>rw[lex,lex,if_pos (by omega)]
 | succ f ih=>
  intro g i h k;cases g with
  | zero=>rw[lex,lex,if_pos (by omega)]
  | succ g=>
   have h1:=ih g (i+1) (by omega) (by omega);have h2:=ih g (i+2) (by omega) (by omega);have e1:=FM s true s.size (i+1);have e2:=FM s false s.size (i+1);have h3:=ih g (BE s true s.size (i+1)) (by omega) (by omega);have h4:=ih g (BE s false s.size (i+1)) (by omega) (by omega);rw[lex,lex,h1,h2,h3,h4]
def toks(s:ByteArray)(stop:Bool)(i:Nat):List Tok:=lex s stop s.size i
theorem Dd(s:ByteArray)(stop:Bool)(i:Nat):toks s stop i =
  if s.size<=i then[⟨0,i,i⟩]
  else if byt s i=32\/byt s i=10 then toks s stop (i+1)
  else if CD (byt s i)=true then⟨2,i,BE s true s.size (i+1)⟩::toks s stop (BE s true s.size (i+1))
  else if byt s i=48 then⟨3,i,i+1⟩::toks s stop (i+1)
  else if C8 (byt s i)=true then⟨3,i,BE s false s.size (i+1)⟩::toks s stop (BE s false s.size (i+1))
  else if byt s i=58 then
   (if i+1<s.size/\byt s (i+1)=61 then⟨11,i,i+2⟩::toks s stop (i+2)
    else⟨1,i,i⟩::(if stop then[] else toks s stop (i+1)))
  else if Bt (byt s i)=1 then⟨1,i,i⟩::(if stop then[] else toks s stop (i+1))
  else⟨Bt (byt s i),i,i+1⟩::toks s stop (i+1):=by
 unfold toks;rw[Uq s stop s.size (s.size+1) i (by omega) (by omega),lex]
end Go.Weft
namespace Go.Weft
set_option linter.unusedVariables false
set_option linter.unusedSimpArgs false
structure St where
 i:Nat
 atoms:Nat
 bad:Nat
def tk(ts:List Tok)(i:Nat):Tok:=ts.getD i ⟨0,0,0⟩
def txt(s:ByteArray)(t:Tok):List UInt8:=(s.extract t.at_ t.to).data.toList
def D6(b:List UInt8):Option Nat:=
 if b=[115,119] then some 0 else if b=[112,116] then some 1 else if b=[116,121,112] then some 2 else if b=[115,114,99] then some 3
 else if b=[100,115,116] then some 4 else if b=[116,97,103] then some 5 else none
def Fh(c:UInt8):Nat:=(((c.toNat:Int)-48)%256).toNat
def Bg(b:List UInt8):Nat:=b.foldl (fun n c=>min (10*n+Fh c) 32) 0
def DP(k:Int)(f n:Nat):Code:=if k=11 then .exit (3+2*(32*f+n)) else .exit (2+2*(32*f+n))
def isT:Code->Bool
 | .exit n=>decide (n<=1)||n%2 == 0
 | .scope _=>true
 | .block _ l=>isT l
 | .seq a b=>isT a&&isT b
 | .skip=>true
 | _=>false
def Ac:List Code->Code
 | []=>.skip
 | t::l=>.seq t (Ac l)
def Bo(k:Nat):List Code->Code
 | [t]=>t
 | l=>.block k (Ac l)
section
variable(s:ByteArray)(ts:List Tok)
def D9(f:Nat)(st:St):Except (Int×Nat) (Code×St):=
 if f=0/\(tk ts (st.i+1)).kind=11 then .error (5,(tk ts st.i).at_)
 else if st.atoms=16 then .error (7,(tk ts st.i).at_)
 else if ¬(tk ts (st.i+1)).kind=10/\¬(tk ts (st.i+1)).kind=11 then .error (3,(tk ts (st.i+1)).at_)
 else if ¬(tk ts (st.i+2)).kind=3 then .error (3,(tk ts (st.i+2)).at_)
 else if 31<Bg (txt s (tk ts (st.i+2))) then .error (4,(tk ts (st.i+2)).at_)
 else .ok (DP (tk ts (st.i+1)).kind f (Bg (txt s (tk ts (st.i+2)))),⟨st.i+3,st.atoms+1,st.bad⟩)
def Cz(st:St):Except (Int×Nat) (Code×St):=
 if txt s (tk ts st.i)=[105,100] then .ok (.exit 0,⟨st.i+1,st.atoms,st.bad⟩)
 else if txt s (tk ts st.i)=[100,114,111,112] then .ok (.exit 1,⟨st.i+1,st.atoms,st.bad⟩)
 else match D6 (txt s (tk ts st.i)) with
  | none=>.error (3,(tk ts st.i).at_)
  | some f=>D9 s ts f st
def Bh:Nat->Code->Nat->Code×Nat
 | 0,t,i=>(t,i)
 | f+1,t,i=>if (tk ts i).kind=6 then Bh f (.loop t) (i+1) else(t,i)
def DD(atom:St->Except (Int×Nat) (Code×St))(st:St):Except (Int×Nat) (Code×St):=
 match atom st with
 | .error e=>.error e
 | .ok (t,st')=>.ok ((Bh ts ts.length t st'.i).1,⟨(Bh ts ts.length t st'.i).2,st'.atoms,st'.bad⟩)
def Ar(sep:Int)(part:St->Except (Int×Nat) (Code×St)):Nat->St->Except (Int×Nat) (List Code×St)
 | 0,st=>.ok ([],st)
 | f+1,st=>
  match part st with
  | .error e=>.error e
  | .ok (t,st')=>
   if (tk ts st'.i).kind=sep then
    match Ar sep part f ⟨st'.i+1,st'.atoms,st'.bad⟩ with
    | .error e=>.error e
    | .ok (l,st'')=>.ok (t::l,st'')
   else .ok ([t],st')
def DN(k:Nat)(r:Except (Int×Nat) (List Code×St)):Except (Int×Nat) (Code×St):=
 match r with
 | .error e=>.error e
 | .ok (l,st)=>.ok (Bo k l,st)
def GT(atom:St->Except (Int×Nat) (Code×St))(st:St):Except (Int×Nat) (Code×St):=
 DN 1 (Ar ts 5 (DD ts atom) ts.length st)
def ED(atom:St->Except (Int×Nat) (Code×St))(st:St):Except (Int×Nat) (Code×St):=
 DN 0 (Ar ts 4 (GT ts atom) ts.length st)
def Dr(p:Nat)(r:Except (Int×Nat) (Code×St)):Except (Int×Nat) (Code×St):=
 match r with
 | .error e=>.error e
 | .ok (t,st)=>.ok (.scope t,⟨st.i,st.atoms,if isT t then st.bad else min st.bad p⟩)
def DW(r:Except (Int×Nat) (Code×St)):Except (Int×Nat) (Code×St):=
 match r with
 | .error e=>.error e
 | .ok (t,st)=>if (tk ts st.i).kind=9 then .ok (t,⟨st.i+1,st.atoms,st.bad⟩) else .error (3,(tk ts st.i).at_)
def Bj:Nat->St->Except (Int×Nat) (Code×St)
 | 0,st=>
  if (tk ts st.i).kind=2 then Cz s ts st
  else if (tk ts st.i).kind=7 then .error (7,(tk ts st.i).at_)
  else if (tk ts st.i).kind=8 then .error (7,(tk ts st.i).at_)
  else .error (3,(tk ts st.i).at_)
 | d+1,st=>
  if (tk ts st.i).kind=2 then Cz s ts st
  else if (tk ts st.i).kind=7 then Dr (tk ts st.i).at_ (Bj d ⟨st.i+1,st.atoms,st.bad⟩)
  else if (tk ts st.i).kind=8 then DW ts (ED ts (Bj d) ⟨st.i+1,st.atoms,st.bad⟩)
  else .error (3,(tk ts st.i).at_)
def EY:Except (Int×Nat) Code:=
 match ED ts (Bj s ts 12) ⟨0,0,401⟩ with
 | .error e=>.error e
 | .ok (t,st)=>if (tk ts st.i).kind=0 then(if st.bad=401 then .ok t else .error (6,st.bad)) else .error (3,(tk ts st.i).at_)
def Co:Prop:=0<ts.length/\((tk ts (ts.length-1)).kind=0\/(tk ts (ts.length-1)).kind=1)
def Cf(p:St->Except (Int×Nat) (Code×St)):Prop:=∀st t st',st.i<ts.length->st.atoms<=16->p st=.ok (t,st')->st.i<st'.i/\st'.i<ts.length/\st'.atoms<=16/\st'.bad<=st.bad
end
section
variable{s:ByteArray}{ts:List Tok}
theorem Co.next(h:Co ts){i:Nat}(hi:i<ts.length)(h0:¬(tk ts i).kind=0)(h1:¬(tk ts i).kind=1):i+1<ts.length:=by
 rcases Nat.lt_or_ge (i+1) ts.length with h2|h2
 ·exact h2
 ·have:i=ts.length-1:=by omega
  subst this;rcases h.2 with h3|h3<;>contradiction
theorem Tz(h:Co ts)(f:Nat)(st:St)(t:Code)(st':St)(hi:st.i<ts.length)(hk:(tk ts st.i).kind=2)(ha:st.atoms<=16)(hp:D9 s ts f st=.ok (t,st')):
  st.i<st'.i/\st'.i<ts.length/\st'.atoms<=16/\st'.bad<=st.bad:=by
 have h1:=h.next hi (by omega) (by omega);unfold D9 at hp;by_cases b1:f=0/\(tk ts (st.i+1)).kind=11
 ·rw[if_pos b1]at hp;cases hp
 rw[if_neg b1]at hp;by_cases b2:st.atoms=16
 ·rw[if_pos b2]at hp;cases hp
 rw[if_neg b2]at hp;by_cases b3:¬(tk ts (st.i+1)).kind=10/\¬(tk ts (st.i+1)).kind=11
 ·rw[if_pos b3]at hp;cases hp
 rw[if_neg b3]at hp;by_cases b4:¬(tk ts (st.i+2)).kind=3
 ·rw[if_pos b4]at hp;cases hp
 rw[if_neg b4]at hp;by_cases b5:31<Bg (txt s (tk ts (st.i+2)))
 ·rw[if_pos b5]at hp;cases hp
 rw[if_neg b5]at hp;have h2:st.i+2<ts.length:=h.next h1 (by omega) (by omega);have h3:st.i+3<ts.length:=h.next h2 (by omega) (by omega);cases hp;exact⟨by simp,h3,by simp;omega,Nat.le_refl _⟩
theorem ND(h:Co ts)(st:St)(t:Code)(st':St)(hi:st.i<ts.length)(hk:(tk ts st.i).kind=2)(ha:st.atoms<=16)(hp:Cz s ts st=.ok (t,st')):
  st.i<st'.i/\st'.i<ts.length/\st'.atoms<=16/\st'.bad<=st.bad:=by
 have h1:=h.next hi (by omega) (by omega);unfold Cz at hp;split at hp
 ·cases hp;exact⟨by simp,by simpa using h1,ha,Nat.le_refl _⟩
 ·split at hp
  ·cases hp;exact⟨by simp,by simpa using h1,ha,Nat.le_refl _⟩
  ·split at hp
   ·cases hp
   ·exact Tz h _ st t st' hi hk ha hp
theorem Pw(h:Co ts):∀(f:Nat) (t:Code) (i:Nat),i<ts.length->i<=(Bh ts f t i).2/\(Bh ts f t i).2<ts.length
 | 0,t,i,hi=>⟨Nat.le_refl _,hi⟩
 | f+1,t,i,hi=>by
  unfold Bh;split
  ·have h1:=h.next hi (by omega) (by omega);have:=Pw h f (.loop t) (i+1) h1;omega
  ·exact⟨Nat.le_refl _,hi⟩
theorem NA(h:Co ts){atom:St->Except (Int×Nat) (Code×St)}(ha:Cf ts atom):Cf ts (DD ts atom):=by
 intro st t st' hi hat hp;unfold DD at hp;split at hp
 ·cases hp
 ·rename_i t1 st1 h1;cases hp;have g1:=ha st t1 st1 hi hat h1;have g2:=Pw h ts.length t1 st1.i g1.2.1;exact⟨by simp;omega,by simp;omega,g1.2.2.1,g1.2.2.2⟩
theorem N9(h:Co ts){part:St->Except (Int×Nat) (Code×St)}(hp:Cf ts part)(sep:Int)(h0:¬sep=0)(h1:¬sep=1):
  ∀(f:Nat) (st:St) (l:List Code) (st':St),st.i<ts.length->st.atoms<=16->ts.length<=f+st.i->Ar ts sep part f st=.ok (l,st')->st.i<st'.i/\st'.i<ts.length/\st'.atoms<=16/\st'.bad<=st.bad:=by
 intro f;induction f with
 | zero=>intro st l st' hi _ hf _;omega
 | succ f ih=>
  intro st l st' hi hat hf hl;unfold Ar at hl;split at hl
  ·cases hl
  ·rename_i t1 st1 e1;have g1:=hp st t1 st1 hi hat e1;split at hl
   ·rename_i hk;have h2:=h.next g1.2.1 (by omega) (by omega);split at hl
    ·cases hl
    ·rename_i l2 st2 e2;cases hl;have g2:=ih ⟨st1.i+1,st1.atoms,st1.bad⟩ l2 _ (by simpa using h2) g1.2.2.1 (by simp;omega) e2;simp at g2;omega
   ·cases hl;exact g1
theorem IQ{k:Nat}{r:Except (Int×Nat) (List Code×St)}{t:Code}{st:St}(h:DN k r=.ok (t,st)):∃l,r=.ok (l,st)/\t=Bo k l:=by
 unfold DN at h;split at h
 ·cases h
 ·cases h;exact⟨_,rfl,rfl⟩
theorem NC(h:Co ts){atom:St->Except (Int×Nat) (Code×St)}(ha:Cf ts atom):Cf ts (GT ts atom):=by
 intro st t st' hi hat hp;obtain⟨l,hl,_⟩:=IQ hp;exact N9 h (NA h ha) 5 (by decide) (by decide) _ st l st' hi hat (by omega) hl
theorem IR(h:Co ts){atom:St->Except (Int×Nat) (Code×St)}(ha:Cf ts atom):Cf ts (ED ts atom):=by
 intro st t st' hi hat hp;obtain⟨l,hl,_⟩:=IQ hp;exact N9 h (NC h ha) 4 (by decide) (by decide) _ st l st' hi hat (by omega) hl
theorem Fp(h:Co ts):∀d,Cf ts (Bj s ts d):=by
 intro d;induction d with
 | zero=>
  intro st t st' hi hat hp;unfold Bj at hp;split at hp
  ·rename_i hk;exact ND h st t st' hi hk hat hp
  ·repeat' split at hp
   all_goals cases hp
 | succ d ih=>
  intro st t st' hi hat hp;unfold Bj at hp;split at hp
  ·rename_i hk;exact ND h st t st' hi hk hat hp
  ·split at hp
   ·rename_i hk;have h1:=h.next hi (by omega) (by omega);unfold Dr at hp;split at hp
    ·cases hp
    ·rename_i t1 st1 e1;cases hp;have g1:=ih ⟨st.i+1,st.atoms,st.bad⟩ t1 st1 h1 hat e1;simp at g1;refine⟨by simp;omega,by simp;omega,g1.2.2.1,?_⟩;simp only;split<;>omega
   ·split at hp
    ·rename_i hk;have h1:=h.next hi (by omega) (by omega);unfold DW at hp;split at hp
     ·cases hp
     ·rename_i t1 st1 e1;have g1:=IR h ih ⟨st.i+1,st.atoms,st.bad⟩ t1 st1 h1 hat e1;simp at g1;split at hp
      ·rename_i hk9;cases hp;have h2:=h.next g1.2.1 (by omega) (by omega);exact⟨by simp;omega,by simpa using h2,g1.2.2.1,g1.2.2.2⟩
      ·cases hp
    ·cases hp
end
end Go.Weft
namespace Go.Weft
set_option linter.unusedVariables false
set_option linter.unusedSimpArgs false
theorem Ur(s:ByteArray):∀f i,∃l t,lex s true f i=l++[t]/\(t.kind=0\/t.kind=1):=by
 intro f;induction f with
 | zero=>intro i;exact⟨[],⟨0,i,i⟩,rfl,.inl rfl⟩
 | succ f ih=>
  intro i
  have cons:∀(x:Tok) (j:Nat),∃l t,x::lex s true f j=l++[t]/\(t.kind=0\/t.kind=1):=by
   intro x j;obtain⟨l,t,h,hk⟩:=ih j;exact⟨x::l,t,by rw[h];rfl,hk⟩
  unfold lex;split
  ·exact⟨[],_,rfl,.inl rfl⟩
  ·split
   ·exact ih _
   ·split
    ·exact cons _ _
    ·split
     ·exact cons _ _
     ·split
      ·exact cons _ _
      ·split
       ·split
        ·exact cons _ _
        ·exact⟨[],_,rfl,.inr rfl⟩
       ·split
        ·exact⟨[],_,rfl,.inr rfl⟩
        ·exact cons _ _
theorem Yr(l:List Tok)(t:Tok):tk (l++[t]) ((l++[t]).length-1)=t:=by simp[tk]
theorem Hr(s:ByteArray)(i:Nat):Co (toks s true i):=by
 obtain⟨l,t,h,hk⟩:=Ur s s.size i;unfold toks;rw[h];exact⟨by simp,by rw[Yr];exact hk⟩
theorem Us(s:ByteArray)(stop:Bool):∀f i,i<=s.size->(lex s stop f i).length+i<=s.size+1:=by
 intro f;induction f with
 | zero=>intro i hi;simp[lex];omega
 | succ f ih=>
  intro i hi;have e1:=FM s true s.size (i+1);have e2:=FM s false s.size (i+1);unfold lex;split
  ·simp;omega
  ·have r1:=Hn s true s.size (i+1) (by omega);have r2:=Hn s false s.size (i+1) (by omega);have h1:=ih (i+1) (by omega);have h3:=ih _ r1;have h4:=ih _ r2;split
   ·omega
   ·split
    ·simp only[List.length_cons];omega
    ·split
     ·simp only[List.length_cons];omega
     ·split
      ·simp only[List.length_cons];omega
      ·split
       ·split
        ·have h2:=ih (i+2) (by omega);simp only[List.length_cons];omega
        ·cases stop
         ·simp only[List.length_cons,Bool.false_eq_true,if_false];omega
         ·simp only[List.length_cons,if_true,List.length_nil];omega
       ·split
        ·cases stop
         ·simp only[List.length_cons,Bool.false_eq_true,if_false];omega
         ·simp only[List.length_cons,if_true,List.length_nil];omega
        ·simp only[List.length_cons];omega
theorem QL(s:ByteArray)(stop:Bool):(toks s stop 0).length<=s.size+1:=by
 have:=Us s stop s.size 0 (Nat.zero_le _);unfold toks;omega
theorem Ut(s:ByteArray)(stop:Bool):∀f i,i<=s.size->∀t∈lex s stop f i,t.at_<=t.to/\t.to<=s.size:=by
 intro f;induction f with
 | zero=>intro i hi t ht;simp[lex]at ht;subst ht;exact⟨Nat.le_refl _,hi⟩
 | succ f ih=>
  intro i hi t ht;have e1:=FM s true s.size (i+1);have e2:=FM s false s.size (i+1)
  have one:∀(j:Nat) (k:Int),i<=j->j<=s.size->t∈(⟨k,i,j⟩:Tok)::lex s stop f j->t.at_<=t.to/\t.to<=s.size:=by
   intro j k h1 h2 h3;rcases List.mem_cons.1 h3 with h|h
   ·subst h;exact⟨h1,h2⟩
   ·exact ih j h2 t h
  have two:∀(k:Int),i<s.size->t∈(⟨k,i,i⟩:Tok)::(if stop then[] else lex s stop f (i+1))->t.at_<=t.to/\t.to<=s.size:=by
   intro k h2 h3;rcases List.mem_cons.1 h3 with h|h
   ·subst h;exact⟨Nat.le_refl _,by simp;omega⟩
   ·cases stop
    ·exact ih (i+1) (by omega) t (by simpa using h)
    ·simp at h
  unfold lex at ht;split at ht
  ·simp at ht;subst ht;exact⟨Nat.le_refl _,hi⟩
  ·have r1:=Hn s true s.size (i+1) (by omega);have r2:=Hn s false s.size (i+1) (by omega);split at ht
   ·exact ih _ (by omega) t ht
   ·split at ht
    ·exact one _ _ (by omega) r1 ht
    ·split at ht
     ·exact one _ _ (by omega) (by omega) ht
     ·split at ht
      ·exact one _ _ (by omega) r2 ht
      ·split at ht
       ·split at ht
        ·exact one _ _ (by omega) (by omega) ht
        ·exact two _ (by omega) ht
       ·split at ht
        ·exact two _ (by omega) ht
        ·exact one _ _ (by omega) (by omega) ht
theorem LE(s:ByteArray)(stop:Bool)(i:Nat):(tk (toks s stop 0) i).at_<=s.size:=by
 unfold tk;by_cases h:i<(toks s stop 0).length
 ·have:=Ut s stop s.size 0 (Nat.zero_le _) ((toks s stop 0)[i]) (List.getElem_mem h);have e:(toks s stop 0).getD i ⟨0,0,0⟩=(toks s stop 0)[i]:=by simp[List.getD,h]
  rw[e];omega
 ·have e:(toks s stop 0).getD i ⟨0,0,0⟩=⟨0,0,0⟩:=by simp[List.getD,List.getElem?_eq_none (Nat.le_of_not_lt h)]
  rw[e];exact Nat.zero_le _
end Go.Weft
namespace Go
def Exit.gotos(J:Nat->Act->World->Prop)(Q:Exit->Act->World->Prop):Exit->Act->World->Prop
 | .goto l,a,w=>J l a w
 | e,a,w=>Q e a w
section
variable{P:Program}{a:Act}{w:World}{Q:Exit->Act->World->Prop}
theorem ZD{c:Code}(J:Nat->Act->World->Prop)(μ:Nat->Act->World->Nat)
  (first:c.wp P (Exit.gotos J Q) a w)
  (pass:∀l a w,J l a w->∃rest,findLabel c l=some rest/\rest.wp P (Exit.gotos (fun l' a' w'=>J l' a' w'/\μ l' a' w'<μ l a w) Q) a w):
  (Code.scope c).wp P Q a w:=by
 intro b k cs
 have key:∀n l a w rest,μ l a w=n->J l a w->findLabel c l=some rest->
   ∃e a' w',Q e a' w'/\Arrives P (lone (b.at a (.code rest :: .inScope c::k)) cs w) b k cs e a' w':=by
  intro n;induction n using Nat.strongRecOn with
  | _ n ih=>
   intro l a w rest hn hJ hf;obtain⟨rest',hf',hw⟩:=pass l a w hJ;rw[hf]at hf';cases hf';obtain⟨e,a₁,w₁,hq,harr⟩:=hw b (.inScope c::k) cs;cases e with
   | normal=>exact⟨.normal,a₁,w₁,hq,Steps.trans harr (.one step_inScope)⟩
   | exit id=>exact⟨.exit id,a₁,w₁,hq,fun k' hk=>harr k' (by simp[exitTo,hk])⟩
   | goto l'=>
    obtain⟨hJ',hlt⟩:=hq;obtain⟨r2,hf2,_⟩:=pass l' a₁ w₁ hJ';have hg:gotoIn l' (.inScope c::k)=some (.code r2 :: .inScope c::k):=by simp[gotoIn,hf2]
    obtain⟨e₂,a₂,w₂,hq₂,harr₂⟩:=ih _ (by omega) l' a₁ w₁ r2 rfl hJ' hf2;exact⟨e₂,a₂,w₂,hq₂,.of_steps (harr _ hg) harr₂⟩
   | ret=>exact⟨_,a₁,w₁,hq,harr⟩
   | panic ch=>exact⟨_,a₁,w₁,hq,harr⟩
   | outgrown=>exact⟨_,a₁,w₁,hq,harr⟩
 obtain⟨e,a₁,w₁,hq,harr⟩:=first b (.inScope c::k) cs;cases e with
 | normal=>exact⟨.normal,a₁,w₁,hq,.head step_scope (Steps.trans harr (.one step_inScope))⟩
 | exit id=>exact⟨.exit id,a₁,w₁,hq,fun k' hk=>.head step_scope (harr k' (by simp[exitTo,hk]))⟩
 | goto l'=>
  obtain⟨r2,hf2,_⟩:=pass l' a₁ w₁ hq;have hg:gotoIn l' (.inScope c::k)=some (.code r2 :: .inScope c::k):=by simp[gotoIn,hf2]
  obtain⟨e₂,a₂,w₂,hq₂,harr₂⟩:=key _ l' a₁ w₁ r2 rfl hq hf2;exact⟨e₂,a₂,w₂,hq₂,.of_steps (.head step_scope (harr _ hg)) harr₂⟩
 | ret=>exact⟨_,a₁,w₁,hq,.of_steps (.one step_scope) harr⟩
 | panic ch=>exact⟨_,a₁,w₁,hq,.of_steps (.one step_scope) harr⟩
 | outgrown=>exact⟨_,a₁,w₁,hq,.of_steps (.one step_scope) harr⟩
theorem ZE{x y z:Code}{l0:Nat}(J:Nat->Act->World->Prop)(μ:Nat->Act->World->Nat)
  (first:∀K:Act->World->Prop,(∀a w,J l0 a w->K a w)->x.wp P (Exit.then (y.wp P (Exit.then K (Exit.gotos J Q))) (Exit.gotos J Q)) a w)
  (hf:findLabel (.seq x (.seq y (.seq (.label l0) z))) l0=some (.seq .skip z))
  (pass:∀l a w,J l a w->∃z',findLabel (.seq x (.seq y (.seq (.label l0) z))) l=some (.seq .skip z')/\z'.wp P (Exit.gotos (fun l' a' w'=>J l' a' w'/\μ l' a' w'<μ l a w) Q) a w):
  (Code.scope (.seq x (.seq y (.seq (.label l0) z)))).wp P Q a w:=by
 refine ZD J μ (wp_seq ?_) (fun l a w hJ=>?_)
 ·refine wp_mono (first (fun a w=>(Code.seq (.label l0) z).wp P (Exit.gotos J Q) a w) fun a w hJ=>?_) ?_
  ·obtain⟨z',hr,hw⟩:=pass l0 a w hJ;rw[hf]at hr;cases hr;refine wp_seq (wp_label (wp_mono hw ?_));intro e a w h;cases e<;>first|exact h|exact h.1
  ·intro e a w h;cases e<;>first|exact h|exact wp_seq h
 ·obtain⟨z',hr,hw⟩:=pass l a w hJ;exact⟨_,hr,wp_seq (wp_skip hw)⟩
end
end Go
namespace Go.Proofs.YtlhkfafdioakeaaGreatDoor
set_option maxRecDepth 100000
set_option maxHeartbeats 2000000
open Go.RowKit Go.Weft
theorem NG(c:Int)(w:World):
  Calls Tryz.prog 135 #[.int .u8 c] w fun e w'=>e=.returned (.bool (CD c))/\w'=w:=by
 by_cases h1:97<=c
 ·by_cases h2:c<=122
  ·go_enter Tryz.func135,Tryz.ntmps135;go_wp2;go_ret;exact⟨by simp[CD,h1,h2],rfl⟩
  ·go_enter Tryz.func135,Tryz.ntmps135;go_wp2;go_ret
   exact⟨by have h3:¬c<=122:=by omega
            simp[CD,h3],rfl⟩
 ·go_enter Tryz.func135,Tryz.ntmps135;go_wp2;go_ret
  exact⟨by have h3:¬97<=c:=by omega
           simp[CD,h3],rfl⟩
theorem NF(c:Int)(w:World):
  Calls Tryz.prog 136 #[.int .u8 c] w fun e w'=>e=.returned (.bool (C8 c))/\w'=w:=by
 by_cases h1:48<=c
 ·by_cases h2:c<=57
  ·go_enter Tryz.func136,Tryz.ntmps136;go_wp2;go_ret;exact⟨by simp[C8,h1,h2],rfl⟩
  ·go_enter Tryz.func136,Tryz.ntmps136;go_wp2;go_ret
   exact⟨by have h3:¬c<=57:=by omega
            simp[C8,h3],rfl⟩
 ·go_enter Tryz.func136,Tryz.ntmps136;go_wp2;go_ret
  exact⟨by have h3:¬48<=c:=by omega
           simp[C8,h3],rfl⟩
theorem Xo(c:Int)(w:World):
  Calls Tryz.prog 137 #[.int .u8 c] w fun e w'=>e=.returned (.int .i64 (Bt c))/\w'=w:=by
 go_enter Tryz.func137,Tryz.ntmps137;go_wp2
 all_goals
  go_ret;exact⟨by simp_all [Bt],rfl⟩
set_option linter.unusedVariables false
set_option linter.unusedSimpArgs false
def Bp(s:ByteArray)(ts:List Tok):List Value:=ts.flatMap fun t=>[.int .i64 t.kind,.int .i64 (t.at_:Int),.string (s.extract t.at_ t.to)]
theorem Ys(s:ByteArray)(ts:List Tok)(t:Tok):Bp s (ts++[t])=Bp s ts++[.int .i64 t.kind,.int .i64 (t.at_:Int),.string (s.extract t.at_ t.to)]:=by simp[Bp]
def AP(s:ByteArray)(l:Nat)(acc:List Tok)(fst pos:Nat)(kd:Int):Prop:=
 match l with
 | 0=>acc.length<=pos/\acc++toks s true pos=toks s true 0
 | 1=>acc.length<=fst/\fst<=s.size/\acc++[⟨kd,fst,fst⟩]=toks s true 0
 | 2=>acc.length<=fst/\fst<pos/\acc++⟨2,fst,BE s true s.size pos⟩::toks s true (BE s true s.size pos)=toks s true 0
 | 3=>acc.length<=fst/\fst<pos/\acc++⟨kd,fst,pos⟩::toks s true pos=toks s true 0
 | 4=>acc.length<=fst/\fst<pos/\acc++⟨3,fst,BE s false s.size pos⟩::toks s true (BE s false s.size pos)=toks s true 0
 | 5=>acc.length<=fst/\fst+1=pos/\byt s fst=58/\acc++toks s true fst=toks s true 0
 | _=>False
def LD(s:ByteArray)(B:Nat)(w0:World)(l:Nat)(a:Act)(w:World):Prop:=
 ∃(v:Value) (acc:List Tok) (fst pos:Nat) (kd:Int) (u:Nat->Value),
  a={ tmps:=#[.string s,u 1,.slice none 0 0,v,.int .i64 fst,.int .i64 pos,.int .i64 kd,u 7,u 8,u 9,u 10,u 11,u 12,u 13,u 14,u 15,u 16,u 17,u 18,u 19,u 20,u 21,u 22,u 23,u 24,u 25,u 26,u 27,u 28,u 29,u 30,u 31,u 32,u 33,u 34,u 35,u 36,u 37,u 38,u 39,u 40,u 41,u 42,u 43,u 44,u 45,u 46,u 47,u 48,u 49,u 50,u 51,u 52,u 53,u 54,u 55,u 56,u 57,u 58,u 59,u 60,u 61,u 62,u 63,u 64,u 65,u 66,u 67,u 68,u 69,u 70,u 71,u 72,u 73,u 74,u 75,u 76,u 77,u 78,u 79,u 80,u 81,u 82,u 83,u 84,u 85,u 86,u 87,u 88,u 89,u 90,u 91,u 92],defers:=[] }/\
  w.ownsRow B 162 3 v acc.length (Bp s acc)/\Below B w0 w/\B<=w.heap.size/\pos<=s.size/\AP s l acc fst pos kd
theorem FT{s:ByteArray}{B:Nat}{w0:World}{l:Nat}{G:Act->World->Prop}
  (k:∀(w:World) (v:Value) (acc:List Tok) (fst pos:Nat) (kd:Int) (u:Nat->Value),
   w.ownsRow B 162 3 v acc.length (Bp s acc)->Below B w0 w->B<=w.heap.size->pos<=s.size->AP s l acc fst pos kd->G { tmps:=#[.string s,u 1,.slice none 0 0,v,.int .i64 fst,.int .i64 pos,.int .i64 kd,u 7,u 8,u 9,u 10,u 11,u 12,u 13,u 14,u 15,u 16,u 17,u 18,u 19,u 20,u 21,u 22,u 23,u 24,u 25,u 26,u 27,u 28,u 29,u 30,u 31,u 32,u 33,u 34,u 35,u 36,u 37,u 38,u 39,u 40,u 41,u 42,u 43,u 44,u 45,u 46,u 47,u 48,u 49,u 50,u 51,u 52,u 53,u 54,u 55,u 56,u 57,u 58,u 59,u 60,u 61,u 62,u 63,u 64,u 65,u 66,u 67,u 68,u 69,u 70,u 71,u 72,u 73,u 74,u 75,u 76,u 77,u 78,u 79,u 80,u 81,u 82,u 83,u 84,u 85,u 86,u 87,u 88,u 89,u 90,u 91,u 92],defers:=[] } w):
  ∀a w,LD s B w0 l a w->G a w:=by
 intro a w h;obtain⟨v,acc,fst,pos,kd,u,rfl,h1,h2,h3,h4,h5⟩:=h;exact k w v acc fst pos kd u h1 h2 h3 h4 h5
theorem Bz{s:ByteArray}{B:Nat}{w0:World}{l:Nat}{w:World}{v:Value}(acc:List Tok)(fst pos:Nat)(kd:Int){u1 u7 u8 u9 u10 u11 u12 u13 u14 u15 u16 u17 u18 u19 u20 u21 u22 u23 u24 u25 u26 u27 u28 u29 u30 u31 u32 u33 u34 u35 u36 u37 u38 u39 u40 u41 u42 u43 u44 u45 u46 u47 u48 u49 u50 u51 u52 u53 u54 u55 u56 u57 u58 u59 u60 u61 u62 u63 u64 u65 u66 u67 u68 u69 u70 u71 u72 u73 u74 u75 u76 u77 u78 u79 u80 u81 u82 u83 u84 u85 u86 u87 u88 u89 u90 u91 u92:Value}
   (h1:w.ownsRow B 162 3 v acc.length (Bp s acc)) (h2:Below B w0 w) (h3:B<=w.heap.size) (h4:pos<=s.size) (h5:AP s l acc fst pos kd) {xf xp xk:Value}
   (ef:xf=.int .i64 fst) (ep:xp=.int .i64 pos) (ek:xk=.int .i64 kd):
   LD s B w0 l { tmps:=#[.string s,u1,.slice none 0 0,v,xf,xp,xk,u7,u8,u9,u10,u11,u12,u13,u14,u15,u16,u17,u18,u19,u20,u21,u22,u23,u24,u25,u26,u27,u28,u29,u30,u31,u32,u33,u34,u35,u36,u37,u38,u39,u40,u41,u42,u43,u44,u45,u46,u47,u48,u49,u50,u51,u52,u53,u54,u55,u56,u57,u58,u59,u60,u61,u62,u63,u64,u65,u66,u67,u68,u69,u70,u71,u72,u73,u74,u75,u76,u77,u78,u79,u80,u81,u82,u83,u84,u85,u86,u87,u88,u89,u90,u91,u92],defers:=[] } w:=by
 subst ef ep ek;exact⟨v,acc,fst,pos,kd,fun n=>(#[.string s,u1,.slice none 0 0,v,.int .i64 fst,.int .i64 pos,.int .i64 kd,u7,u8,u9,u10,u11,u12,u13,u14,u15,u16,u17,u18,u19,u20,u21,u22,u23,u24,u25,u26,u27,u28,u29,u30,u31,u32,u33,u34,u35,u36,u37,u38,u39,u40,u41,u42,u43,u44,u45,u46,u47,u48,u49,u50,u51,u52,u53,u54,u55,u56,u57,u58,u59,u60,u61,u62,u63,u64,u65,u66,u67,u68,u69,u70,u71,u72,u73,u74,u75,u76,u77,u78,u79,u80,u81,u82,u83,u84,u85,u86,u87,u88,u89,u90,u91,u92]).getD n undef,rfl,h1,h2,h3,h4,h5⟩
def C0(s:ByteArray)(l:Nat)(a:Act)(_:World):Nat:=
 4*(s.size-(intOf (a.tmps.getD 5 undef)).toNat)+(if l=0 then 1 else if l=1 then 0 else if l=3 then 2 else 3)
section
variable{s:ByteArray}{acc:List Tok}{fst pos:Nat}{kd c:Int}
theorem YL(h:AP s 0 acc fst pos kd)(hp:pos<=s.size)(hlt:¬pos<s.size):AP s 1 acc pos pos 0:=by
 obtain⟨h1,h2⟩:=h;refine⟨h1,by omega,?_⟩;rw[Dd,if_pos (by omega)]at h2;exact h2
theorem QD(h:AP s 0 acc fst pos kd)(hlt:pos<s.size)(hc:byt s pos=c)(hb:c=32\/c=10)(kd':Int):AP s 0 acc pos (pos+1) kd':=by
 obtain⟨h1,h2⟩:=h;refine⟨by omega,?_⟩;rw[Dd,if_neg (by omega),if_pos (by rw[hc];exact hb)]at h2;exact h2
theorem YO(h:AP s 0 acc fst pos kd)(hlt:pos<s.size)(hc:byt s pos=c)(hb:CD c=true)(kd':Int):AP s 2 acc pos (pos+1) kd':=by
 obtain⟨h1,h2⟩:=h;have h3:=hb;simp only[CD,decide_eq_true_eq]at h3;refine⟨h1,by omega,?_⟩;rw[Dd,if_neg (by omega),if_neg (by omega),if_pos (by rw[hc];exact hb)]at h2;exact h2
theorem Hc(h:¬(97<=c/\c<=122)):¬CD c=true:=by simp only[CD,decide_eq_true_eq];exact h
theorem KA(h:¬(48<=c/\c<=57)):¬C8 c=true:=by simp only[C8,decide_eq_true_eq];exact h
theorem YQ(h:AP s 0 acc fst pos kd)(hlt:pos<s.size)(hc:byt s pos=c)(hb:c=48):AP s 3 acc pos (pos+1) 3:=by
 obtain⟨h1,h2⟩:=h;refine⟨h1,by omega,?_⟩;rw[Dd,if_neg (by omega),if_neg (by omega),if_neg (by rw[hc];exact Hc (by omega)),if_pos (by omega)]at h2;exact h2
theorem YM(h:AP s 0 acc fst pos kd)(hlt:pos<s.size)(hc:byt s pos=c)(h0:¬c=48)(hb:C8 c=true)(kd':Int):AP s 4 acc pos (pos+1) kd':=by
 obtain⟨h1,h2⟩:=h;have h3:=hb;simp only[C8,decide_eq_true_eq]at h3;refine⟨h1,by omega,?_⟩;rw[Dd,if_neg (by omega),if_neg (by omega),if_neg (by rw[hc];exact Hc (by omega)),if_neg (by omega),if_pos (by rw[hc];exact hb)]at h2;exact h2
theorem YK(h:AP s 0 acc fst pos kd)(hlt:pos<s.size)(hc:byt s pos=c)(hb:c=58)(kd':Int):AP s 5 acc pos (pos+1) kd':=by
 obtain⟨h1,h2⟩:=h;exact⟨h1,rfl,hc.trans hb,h2⟩
theorem Xm(h:¬Bt c=1):¬(c=32\/c=10)/\¬CD c=true/\¬c=48/\¬C8 c=true/\¬c=58:=by
 have h2:c=43\/c=59\/c=42\/c=33\/c=40\/c=41\/c=61:=by
  simp only[Bt]at h;repeat' split at h
  all_goals omega
 refine⟨by omega,Hc (by omega),by omega,KA (by omega),by omega⟩
theorem YP(h:AP s 0 acc fst pos kd)(hlt:pos<s.size)(hc:byt s pos=c)(h1:¬(c=32\/c=10))(h2:¬CD c=true)(h3:¬c=48)(h4:¬C8 c=true)(h5:¬c=58)
  (h6:Bt c=1):AP s 1 acc pos (pos+1) (Bt c):=by
 subst hc;obtain⟨h7,h8⟩:=h;refine⟨h7,by omega,?_⟩;rw[Dd,if_neg (by omega),if_neg h1,if_neg h2,if_neg h3,if_neg h4,if_neg h5,if_pos h6]at h8;rw[h6];exact h8
theorem YN(h:AP s 0 acc fst pos kd)(hlt:pos<s.size)(hc:byt s pos=c)(h6:¬Bt c=1):AP s 3 acc pos (pos+1) (Bt c):=by
 obtain⟨h1,h2,h3,h4,h5⟩:=Xm h6;subst hc;obtain⟨h7,h8⟩:=h;refine⟨h7,by omega,?_⟩;rw[Dd,if_neg (by omega),if_neg h1,if_neg h2,if_neg h3,if_neg h4,if_neg h5,if_neg h6]at h8;exact h8
theorem YS(h:AP s 2 acc fst pos kd)(hlt:pos<s.size)(hc:byt s pos=c)(hb:CD c=true)(kd':Int):AP s 2 acc fst (pos+1) kd':=by
 obtain⟨h1,h2,h3⟩:=h;rw[Kf s true pos hlt (by rw[hc];exact hb)]at h3;exact⟨h1,by omega,h3⟩
theorem QE(h:AP s 2 acc fst pos kd)(hb:¬(pos<s.size/\CD (byt s pos)=true)):AP s 3 acc fst pos 2:=by
 obtain⟨h1,h2,h3⟩:=h;rw[Ir s true pos hb]at h3;exact⟨h1,h2,h3⟩
theorem YU(h:AP s 4 acc fst pos kd)(hlt:pos<s.size)(hc:byt s pos=c)(hb:C8 c=true)(kd':Int):AP s 4 acc fst (pos+1) kd':=by
 obtain⟨h1,h2,h3⟩:=h;rw[Kf s false pos hlt (by rw[hc];exact hb)]at h3;exact⟨h1,by omega,h3⟩
theorem QF(h:AP s 4 acc fst pos kd)(hb:¬(pos<s.size/\C8 (byt s pos)=true)):AP s 3 acc fst pos 3:=by
 obtain⟨h1,h2,h3⟩:=h;rw[Ir s false pos hb]at h3;exact⟨h1,h2,h3⟩
theorem YT(h:AP s 3 acc fst pos kd)(fst':Nat)(kd':Int):AP s 0 (acc++[⟨kd,fst,pos⟩]) fst' pos kd':=by
 obtain⟨h1,h2,h3⟩:=h;exact⟨by simp;omega,by simpa using h3⟩
theorem YV{fst pos:Nat}(h:AP s 5 acc fst pos kd)(hlt:pos<s.size)(hb:byt s pos=61)(fst':Nat)(kd':Int):AP s 0 (acc++[⟨11,fst,pos+1⟩]) fst' (pos+1) kd':=by
 obtain⟨h1,rfl,h3,h4⟩:=h;have h2:=h4;rw[Dd,if_neg (by omega),if_neg (by omega),if_neg (Hc (by omega)),if_neg (by omega),if_neg (KA (by omega)),if_pos h3,if_pos ⟨hlt,hb⟩]at h2;exact⟨by simp;omega,by simpa using h2⟩
theorem QG{fst pos:Nat}(h:AP s 5 acc fst pos kd)(hp:pos<=s.size)(hb:¬(pos<s.size/\byt s pos=61)):AP s 1 acc fst pos 1:=by
 obtain⟨h1,rfl,h3,h4⟩:=h;have h2:=h4;rw[Dd,if_neg (by omega),if_neg (by omega),if_neg (Hc (by omega)),if_neg (by omega),if_neg (KA (by omega)),if_pos h3,if_neg hb]at h2;exact⟨h1,by omega,h2⟩
end
theorem Oc{w:World}{base e size:Nat}{v:Value}{n:Nat}{xs:List Value}(h:w.ownsRow base e size v n xs):∀k,v.ownBlock=some k->base<=k:=fun k hk=>(h.lt k hk).1
theorem L9{s:ByteArray}{B:Nat}{w0 w1 w2:World}{v v':Value}{acc:List Tok}{kd:Int}{fst pos:Nat}{o:Obj}
  (hown:w1.ownsRow B 162 3 v acc.length (Bp s acc)) (hbel:Below B w0 w1) (hB:B<=w1.heap.size)
  (hown':w2.ownsRow B 162 3 v' (acc.length+1) (Bp s acc++[.int .i64 kd,.int .i64 fst,.string (s.extract fst pos)])) (hgrow:(w1.alloc o).grownBy w2 v.ownBlock):
  w2.ownsRow B 162 3 v' (acc++[(⟨kd,fst,pos⟩:Tok)]).length (Bp s (acc++[⟨kd,fst,pos⟩]))/\Below B w0 w2/\B<=w2.heap.size:=by
 have hb2:Below B w0 w2:=(hbel.alloc hB _).grown hgrow (by simp;omega) (Oc hown);refine⟨?_,hb2,?_⟩
 ·rw[Ys,List.length_append];exact hown'
 ·have:=hgrow.size;simp at this;omega
theorem YR{s:ByteArray}{B:Nat}{w0 w1 w2:World}{v v':Value}{acc:List Tok}{kd:Int}{fst pos:Nat}{o:Obj}(hl:AP s 1 acc fst pos kd)
  (hown:w1.ownsRow B 162 3 v acc.length (Bp s acc)) (hbel:Below B w0 w1) (hB:B<=w1.heap.size)
  (hown':w2.ownsRow B 162 3 v' (acc.length+1) (Bp s acc++[.int .i64 kd,.int .i64 fst,.string ByteArray.empty])) (hgrow:(w1.alloc o).grownBy w2 v.ownBlock):
  w2.ownsRow B 162 3 v' (toks s true 0).length (Bp s (toks s true 0))/\Below B w0 w2:=by
 have he:s.extract fst fst=ByteArray.empty:=by
  apply ByteArray.ext;simp
 rw[<-he]at hown';have:=L9 hown hbel hB hown' hgrow;rw[hl.2.2]at this;exact⟨this.1,this.2.1⟩
theorem Tryz.infoTok:(Tryz.prog.info? 162).map (fun i=>(i.zero,i.size,i.bytes))=some (some (.agg #[.int .i64 0,.int .i64 0,.string ByteArray.empty]),3,32):=by kernel_rfl
theorem K7(w:World)(arr:Array Value)(T:TypeId):∀(j:Nat) (u:Value),arr.toList[j]?=some u->(w.alloc (.cells arr T)).cell? ((⟨w.heap.size,0,none⟩:Addr).add j)=some u:=by
 intro j u h;have hadd:(⟨w.heap.size,0,none⟩:Addr).add j=⟨w.heap.size,j,none⟩:=by unfold Addr.add;split<;>simp_all
 rw[hadd,cell_of_row _ _ j arr T (0,0) (heap_alloc_new w _)];simpa using h
theorem Yt(s:ByteArray)(w:World)(hs:s.size<=400):
  Calls Tryz.prog 84 #[.string s] w fun e w'=>∃v,e=.returned v/\w'.ownsRow w.heap.size 162 3 v (toks s true 0).length (Bp s (toks s true 0))/\Below w.heap.size w w':=by
 obtain⟨i0,hi,hz0,hz1,hz2⟩:=info_parts Tryz.infoTok;go_enter Tryz.func84,Tryz.ntmps84;go_wp2;refine ZE (LD s w.heap.size w) (C0 s) ?_ rfl ?_
 ·intro K0 hK0;have HK0:=A0 hK0;clear hK0;go_wp2;refine HK0.o _ _ ?_;exact Bz [] 0 0 0 (World.ownsRow_nil _ _ _ _) (Below.refl _ _) (Nat.le_refl _) (Nat.zero_le _) (show AP s 0 [] 0 0 0 from ⟨Nat.zero_le _,rfl⟩) rfl rfl rfl
 ·intro l;match l with
  | 0=>
   refine FT ?_;intro w1 v acc fst pos kd u hown hbel hB hpos hl;refine⟨_,rfl,?_⟩;have HL:Hid (AP s 0 acc fst pos kd):=hl;clear hl;by_cases hlt:pos<s.size
   ·have HB:Hid (byt s pos=((s[pos]'hlt).toNat:Int)):=Gr s pos hlt;go_wp2_with (first|(go_at_call 135;refine(NG _ _).mono ?_;rintro e w' ⟨rfl,rfl⟩)|(go_at_call 136;refine(NF _ _).mono ?_;rintro e w' ⟨rfl,rfl⟩)|(go_at_call 137;refine(Xo _ _).mono ?_;rintro e w' ⟨rfl,rfl⟩));all_goals go_step3
    all_goals go_wp2
    ·refine⟨Bz acc pos (pos+1) kd hown hbel hB (by omega) (QD (show AP s 0 acc fst pos kd from HL) hlt HB.o (by simp_all) kd) rfl (by go_num) rfl,by simp[C0,intOf];omega⟩
    ·refine⟨Bz acc pos (pos+1) kd hown hbel hB (by omega) (QD (show AP s 0 acc fst pos kd from HL) hlt HB.o (by simp_all) kd) rfl (by go_num) rfl,by simp[C0,intOf];omega⟩
    ·refine⟨Bz acc pos (pos+1) kd hown hbel hB (by omega) (YO (show AP s 0 acc fst pos kd from HL) hlt HB.o (by assumption) kd) rfl (by go_num) rfl,by simp[C0,intOf];omega⟩
    ·refine⟨Bz acc pos (pos+1) 3 hown hbel hB (by omega) (YQ (show AP s 0 acc fst pos kd from HL) hlt HB.o (by simp_all)) rfl (by go_num) rfl,by simp[C0,intOf];omega⟩
    ·refine⟨Bz acc pos (pos+1) kd hown hbel hB (by omega) (YM (show AP s 0 acc fst pos kd from HL) hlt HB.o (by simp_all) (by assumption) kd) rfl (by go_num) rfl,by simp[C0,intOf];omega⟩
    ·refine⟨Bz acc pos (pos+1) kd hown hbel hB (by omega) (YK (show AP s 0 acc fst pos kd from HL) hlt HB.o (by simp_all) kd) rfl (by go_num) rfl,by simp[C0,intOf];omega⟩
    ·refine⟨Bz acc pos (pos+1) _ hown hbel hB (by omega) (YP (show AP s 0 acc fst pos kd from HL) hlt HB.o (by simp_all) (by simp_all) (by simp_all) (by simp_all) (by simp_all) (by simp_all)) rfl (by go_num) rfl,by simp[C0,intOf];omega⟩
    ·refine⟨Bz acc pos (pos+1) _ hown hbel hB (by omega) (YN (show AP s 0 acc fst pos kd from HL) hlt HB.o (by simp_all)) rfl (by go_num) rfl,by simp[C0,intOf];omega⟩
   ·go_wp2
    go_step3
    go_wp2;refine⟨Bz acc pos pos 0 hown hbel hB (by omega) (YL (show AP s 0 acc fst pos kd from HL) hpos hlt) rfl rfl rfl,by simp[C0,intOf]⟩
  | 1=>
   refine FT ?_;intro w1 v acc fst pos kd u hown hbel hB hpos hl;refine⟨_,rfl,?_⟩;have HL:Hid (AP s 1 acc fst pos kd):=hl;clear hl;go_wp2_with (at_builtin;refine wpList_append_own _ rfl _ _ 154 rfl w.heap.size 162 i0 _ 3 32 Tryz.underlying154 hi hz0 hz1 hz2 rfl (by decide) _ _ _ rfl (hown.alloc _) ⟨w1.heap.size,0,none⟩ 1 1 [.int .i64 kd,.int .i64 fst,.string ByteArray.empty] rfl rfl ?c1 ?c2 ?c3 ?c4 ?c5 ?_)
   case c1=>exact K7 _ _ _
   case c2=>intro u hu;simp only[List.mem_cons,List.not_mem_nil,or_false]at hu;rcases hu with rfl|rfl|rfl<;>rfl
   case c3=>have:=(show AP s 1 acc fst pos kd from HL).1;have:=(show AP s 1 acc fst pos kd from HL).2.1;unfold maxLen;omega
   case c4=>have:=(show AP s 1 acc fst pos kd from HL).1;have:=(show AP s 1 acc fst pos kd from HL).2.1;omega
   case c5=>simp;omega
   intro v' w2 hown' hgrow _;have R:w2.ownsRow w.heap.size 162 3 v' (toks s true 0).length (Bp s (toks s true 0))/\Below w.heap.size w w2:=YR (show AP s 1 acc fst pos kd from HL) hown hbel hB hown' hgrow;clear hown' hgrow hown;go_wp2;simp only[Exit.gotos];go_ret;exact⟨v',rfl,R.1,R.2⟩
  | 2=>
   refine FT ?_;intro w1 v acc fst pos kd u hown hbel hB hpos hl;refine⟨_,rfl,?_⟩;have HL:Hid (AP s 2 acc fst pos kd):=hl;clear hl;by_cases hlt:pos<s.size
   ·have HB:Hid (byt s pos=((s[pos]'hlt).toNat:Int)):=Gr s pos hlt;go_wp2_with (first|(go_at_call 135;refine(NG _ _).mono ?_;rintro e w' ⟨rfl,rfl⟩));all_goals go_step3
    all_goals go_wp2
    ·refine⟨Bz acc fst (pos+1) kd hown hbel hB (by omega) (YS (show AP s 2 acc fst pos kd from HL) hlt HB.o (by assumption) kd) rfl (by go_num) rfl,by simp[C0,intOf];omega⟩
    ·refine⟨Bz acc fst pos 2 hown hbel hB (by omega) (QE (show AP s 2 acc fst pos kd from HL) (by rw[HB.o];simp_all)) rfl rfl rfl,by simp[C0,intOf]⟩
   ·go_wp2
    go_step3
    go_wp2;refine⟨Bz acc fst pos 2 hown hbel hB (by omega) (QE (show AP s 2 acc fst pos kd from HL) (fun h=>hlt h.1)) rfl rfl rfl,by simp[C0,intOf]⟩
  | 3=>
   refine FT ?_;intro w1 v acc fst pos kd u hown hbel hB hpos hl;refine⟨_,rfl,?_⟩;have HL:Hid (AP s 3 acc fst pos kd):=hl;have hfp:fst<pos:=hl.2.1;clear hl;go_wp2_with (at_builtin;refine wpList_append_own _ rfl _ _ 154 rfl w.heap.size 162 i0 _ 3 32 Tryz.underlying154 hi hz0 hz1 hz2 rfl (by decide) _ _ _ rfl (hown.alloc _) ⟨w1.heap.size,0,none⟩ 1 1 [.int .i64 kd,.int .i64 fst,.string (s.extract fst pos)] rfl rfl ?d1 ?d2 ?d3 ?d4 ?d5 ?_)
   case d1=>exact K7 _ _ _
   case d2=>intro u hu;simp only[List.mem_cons,List.not_mem_nil,or_false]at hu;rcases hu with rfl|rfl|rfl<;>rfl
   case d3=>have:=(show AP s 3 acc fst pos kd from HL).1;unfold maxLen;omega
   case d4=>have:=(show AP s 3 acc fst pos kd from HL).1;omega
   case d5=>simp;omega
   intro v' w2 hown' hgrow _;have R:=L9 hown hbel hB hown' hgrow;clear hown' hgrow hown hbel hB;go_wp2
   go_step3
   go_wp2;refine⟨Bz (acc++[⟨kd,fst,pos⟩]) fst pos kd R.1 R.2.1 R.2.2 (by omega) (YT (show AP s 3 acc fst pos kd from HL) fst kd) rfl rfl rfl,by simp[C0,intOf]⟩
  | 4=>
   refine FT ?_;intro w1 v acc fst pos kd u hown hbel hB hpos hl;refine⟨_,rfl,?_⟩;have HL:Hid (AP s 4 acc fst pos kd):=hl;clear hl;by_cases hlt:pos<s.size
   ·have HB:Hid (byt s pos=((s[pos]'hlt).toNat:Int)):=Gr s pos hlt;go_wp2_with (first|(go_at_call 136;refine(NF _ _).mono ?_;rintro e w' ⟨rfl,rfl⟩));all_goals go_step3
    all_goals go_wp2
    ·refine⟨Bz acc fst (pos+1) kd hown hbel hB (by omega) (YU (show AP s 4 acc fst pos kd from HL) hlt HB.o (by assumption) kd) rfl (by go_num) rfl,by simp[C0,intOf];omega⟩
    ·refine⟨Bz acc fst pos 3 hown hbel hB (by omega) (QF (show AP s 4 acc fst pos kd from HL) (by rw[HB.o];simp_all)) rfl rfl rfl,by simp[C0,intOf]⟩
   ·go_wp2
    go_step3
    go_wp2;refine⟨Bz acc fst pos 3 hown hbel hB (by omega) (QF (show AP s 4 acc fst pos kd from HL) (fun h=>hlt h.1)) rfl rfl rfl,by simp[C0,intOf]⟩
  | 5=>
   refine FT ?_;intro w1 v acc fst pos kd u hown hbel hB hpos hl;refine⟨_,rfl,?_⟩;have HL:Hid (AP s 5 acc fst pos kd):=hl;have hfp:fst<pos:=by have:=hl.2.1;omega
   clear hl;by_cases hlt:pos<s.size
   ·have HB:Hid (byt s pos=((s[pos]'hlt).toNat:Int)):=Gr s pos hlt;by_cases h61:byt s pos=61
    ·have hb61:((s[pos]'hlt).toNat:Int)=61:=HB.o.symm.trans h61;have H61:Hid (byt s pos=61):=h61;clear h61;have hne:(((s[pos]'hlt).toNat:Int) != 61)=false:=by rw[hb61];rfl
     clear hb61;go_wp2
     go_step3
     go_wp2_with (at_builtin;refine wpList_append_own _ rfl _ _ 154 rfl w.heap.size 162 i0 _ 3 32 Tryz.underlying154 hi hz0 hz1 hz2 rfl (by decide) _ _ _ rfl (hown.alloc _) ⟨w1.heap.size,0,none⟩ 1 1 [.int .i64 11,.int .i64 fst,.string (s.extract fst (pos+1))] rfl rfl ?e1 ?e2 ?e3 ?e4 ?e5 ?_)
     case e1=>exact K7 _ _ _
     case e2=>intro u hu;simp only[List.mem_cons,List.not_mem_nil,or_false]at hu;rcases hu with rfl|rfl|rfl<;>rfl
     case e3=>have:=(show AP s 5 acc fst pos kd from HL).1;unfold maxLen;omega
     case e4=>have:=(show AP s 5 acc fst pos kd from HL).1;omega
     case e5=>simp;omega
     intro v' w2 hown' hgrow _;have R:=L9 hown hbel hB hown' hgrow;clear hown' hgrow hown hbel hB;go_wp2
     go_step3
     go_wp2;refine⟨Bz (acc++[⟨11,fst,pos+1⟩]) fst (pos+1) 11 R.1 R.2.1 R.2.2 (by omega) (YV (show AP s 5 acc fst pos kd from HL) hlt H61.o fst 11) rfl (by go_num) rfl,by simp[C0,intOf];omega⟩
    ·have hne:(((s[pos]'hlt).toNat:Int) != 61)=true:=by rw[bne_iff_ne,<-HB.o];exact h61
     have H61:Hid (¬byt s pos=61):=h61;clear h61;go_wp2
     go_step3
     go_wp2;refine⟨Bz acc fst pos 1 hown hbel hB (by omega) (QG (show AP s 5 acc fst pos kd from HL) hpos (fun h=>H61.o h.2)) rfl rfl rfl,by simp[C0,intOf]⟩
   ·go_wp2
    go_step3
    go_wp2;have hps:pos=s.size:=by omega
    refine⟨Bz acc fst pos 1 hown hbel hB (by omega) (QG (show AP s 5 acc fst pos kd from HL) hpos (fun h=>hlt h.1)) rfl (by rw[hps]) rfl,by simp[C0,intOf,hps]⟩
  | l+6=>
   refine FT ?_;intro w1 v acc fst pos kd u hown hbel hB hpos hl;exact hl.elim
@[go_sem] theorem Tryz.fieldTok0(x y z:Value)(w:World):Sem.run Tryz.prog (Instr.field 162 (.agg #[x,y,z]) 0) w=.ok x w:=by kernel_rfl
@[go_sem] theorem Tryz.fieldTok1(x y z:Value)(w:World):Sem.run Tryz.prog (Instr.field 162 (.agg #[x,y,z]) 1) w=.ok y w:=by kernel_rfl
@[go_sem] theorem Tryz.fieldTok2(x y z:Value)(w:World):Sem.run Tryz.prog (Instr.field 162 (.agg #[x,y,z]) 2) w=.ok z w:=by kernel_rfl
structure Ctx where
 s:ByteArray
 ts:List Tok
 g:Nat
 cap:Nat
 rb:Nat
 cur:Array Value
structure Ctx.Good(c:Ctx):Prop where
 lt:c.g<c.rb
 len:c.cur.size=c.cap*3
 le:c.ts.length<=c.cap
 cap:c.cap<=maxLen
 cells:c.cur.toList.take (c.ts.length*3)=Bp c.s c.ts
 size:c.s.size<=400
 toks:c.ts=toks c.s true 0
structure Rd(c:Ctx)(w:World)(i a d b e p:Int):Prop where
 row:w.heap[c.g]?=some (.cells c.cur 162 (0,0))
 rd:w.heap[c.rb]?=some (.cells #[.slice (some ⟨c.g,0,none⟩) c.ts.length c.cap,.int .i64 i,.int .i64 a,.int .i64 d,.int .i64 b,.int .i64 e,.int .i64 p] 157 (0,0))
section
variable{c:Ctx}{w w':World}{i a d b e p:Int}
theorem Rd.cell(h:Rd c w i a d b e p)(j:Nat):w.cell? ⟨c.rb,j,none⟩=(#[Value.slice (some ⟨c.g,0,none⟩) c.ts.length c.cap,.int .i64 i,.int .i64 a,.int .i64 d,.int .i64 b,.int .i64 e,.int .i64 p]:Array Value)[j]?:=by
 simp[World.cell?,h.rd]
theorem Rd.frozen(h:Rd c w i a d b e p)(j:Nat):w.frozen? ⟨c.rb,j,none⟩=false:=by simp[World.frozen?,h.rd]
theorem QK(s:ByteArray):∀(ts:List Tok) (k:Nat),k<ts.length->(Bp s ts)[k*3]?=some (.int .i64 (tk ts k).kind)/\(Bp s ts)[k*3+1]?=some (.int .i64 ((tk ts k).at_:Int))/\
  (Bp s ts)[k*3+2]?=some (.string (s.extract (tk ts k).at_ (tk ts k).to))
 | [],k,h=>by simp at h
 | t::ts,0,h=>by simp[Bp,tk]
 | t::ts,k+1,h=>by
  have ih:=QK s ts k (by simpa using h);have e:Bp s (t::ts)=[.int .i64 t.kind,.int .i64 (t.at_:Int),.string (s.extract t.at_ t.to)]++Bp s ts:=by simp[Bp]
  have e2:tk (t::ts) (k+1)=tk ts k:=by simp[tk]
  have e3:(k+1)*3=3+k*3:=by omega
  rw[e,e2,e3];refine⟨?_,?_,?_⟩
  ·rw[List.getElem?_append_right (by simp)];simpa using ih.1
  ·rw[List.getElem?_append_right (by simp;omega)];simpa[Nat.add_assoc] using ih.2.1
  ·rw[List.getElem?_append_right (by simp;omega)];simpa[Nat.add_assoc] using ih.2.2
theorem Ctx.Good.cell(hc:c.Good)(h:Rd c w i a d b e p){k:Nat}(hk:k<c.ts.length):
  w.cell? ⟨c.g,k*3,none⟩=some (.int .i64 (tk c.ts k).kind)/\w.cell? ⟨c.g,k*3+1,none⟩=some (.int .i64 ((tk c.ts k).at_:Int))/\
  w.cell? ⟨c.g,k*3+2,none⟩=some (.string (c.s.extract (tk c.ts k).at_ (tk c.ts k).to)):=by
 have hg:=QK c.s c.ts k hk;rw[<-hc.cells]at hg
 have look:∀j v,j<c.ts.length*3->(c.cur.toList.take (c.ts.length*3))[j]?=some v->w.cell? ⟨c.g,j,none⟩=some v:=by
  intro j v hj hv;rw[List.getElem?_take_of_lt hj]at hv;simp[World.cell?,h.row];simpa using hv
 exact⟨look _ _ (by omega) hg.1,look _ _ (by omega) hg.2.1,look _ _ (by omega) hg.2.2⟩
theorem Rd.set1(h:Rd c w i a d b e p)(hc:c.Good)(x:Int):Rd c (w.setCell ⟨c.rb,1,none⟩ (.int .i64 x)) x a d b e p:=
 ⟨by rw[E4 (by have:=hc.lt;omega)];exact h.row,AI h.rd 1 _⟩
theorem Rd.set2(h:Rd c w i a d b e p)(hc:c.Good)(x:Int):Rd c (w.setCell ⟨c.rb,2,none⟩ (.int .i64 x)) i x d b e p:=
 ⟨by rw[E4 (by have:=hc.lt;omega)];exact h.row,AI h.rd 2 _⟩
theorem Rd.set3(h:Rd c w i a d b e p)(hc:c.Good)(x:Int):Rd c (w.setCell ⟨c.rb,3,none⟩ (.int .i64 x)) i a x b e p:=
 ⟨by rw[E4 (by have:=hc.lt;omega)];exact h.row,AI h.rd 3 _⟩
theorem Rd.set4(h:Rd c w i a d b e p)(hc:c.Good)(x:Int):Rd c (w.setCell ⟨c.rb,4,none⟩ (.int .i64 x)) i a d x e p:=
 ⟨by rw[E4 (by have:=hc.lt;omega)];exact h.row,AI h.rd 4 _⟩
theorem Rd.set5(h:Rd c w i a d b e p)(hc:c.Good)(x:Int):Rd c (w.setCell ⟨c.rb,5,none⟩ (.int .i64 x)) i a d b x p:=
 ⟨by rw[E4 (by have:=hc.lt;omega)];exact h.row,AI h.rd 5 _⟩
theorem Rd.set6(h:Rd c w i a d b e p)(hc:c.Good)(x:Int):Rd c (w.setCell ⟨c.rb,6,none⟩ (.int .i64 x)) i a d b e x:=
 ⟨by rw[E4 (by have:=hc.lt;omega)];exact h.row,AI h.rd 6 _⟩
theorem Rd.lt(h:Rd c w i a d b e p):c.rb<w.heap.size/\c.g<w.heap.size:=⟨(Array.getElem?_eq_some_iff.1 h.rd).1,(Array.getElem?_eq_some_iff.1 h.row).1⟩
theorem Rd.kept(h:Rd c w i a d b e p)(hg:w.grownBy w' none):Rd c w' i a d b e p:=
 ⟨by rw[hg.block _ h.lt.2 (by simp)];exact h.row,by rw[hg.block _ h.lt.1 (by simp)];exact h.rd⟩
end
theorem Aw(c:Ctx)(hc:c.Good)(w:World)(k:Nat)(a d b e p:Int)(h:Rd c w k a d b e p)(hk:k<c.ts.length):
  Calls Tryz.prog 86 #[.pointer (some ⟨c.rb,0,none⟩)] w fun x w'=>x=.returned (.agg #[.int .i64 (tk c.ts k).kind,.int .i64 ((tk c.ts k).at_:Int),.string (c.s.extract (tk c.ts k).at_ (tk c.ts k).to)])/\w.grownBy w' none:=by
 have h0:w.cell? ⟨c.rb,0,none⟩=some (.slice (some ⟨c.g,0,none⟩) c.ts.length c.cap):=h.cell 0;have h1:w.cell? ⟨c.rb,1,none⟩=some (.int .i64 k):=h.cell 1;obtain⟨g0,g1,g2⟩:=hc.cell h hk;obtain⟨l1,l2⟩:=h.lt;have hl:=hc.le;have hm:=hc.cap;unfold maxLen at hm;go_enter Tryz.func86,Tryz.ntmps86;go_wp2
 go_region
 all_goals (try go_wp2)
 exact bodyPost_ret (v:=.agg #[.int .i64 (tk c.ts k).kind,.int .i64 ((tk c.ts k).at_:Int),.string (c.s.extract (tk c.ts k).at_ (tk c.ts k).to)]) (by simp[results,Tryz.results86,go_sem]) rfl ⟨rfl,Ai (World.grownBy_alloc _ _ _)⟩
theorem C9(c:Ctx)(hc:c.Good)(w:World)(k:Nat)(a d b e p en:Int)(h:Rd c w k a d b e p)(hk:k<c.ts.length):
  Calls Tryz.prog 87 #[.pointer (some ⟨c.rb,0,none⟩),.int .i64 en] w fun x w'=>x=.returned (.tuple #[.nilIface,.bool false])/\Rd c w' k a d b en (tk c.ts k).at_/\w.grownBy w' (some c.rb):=by
 have H:=A0 h;have HN:=A0 (Aw c hc w k a d b e p h hk);clear h;go_enter Tryz.func87,Tryz.ntmps87;go_wp2_with (go_at_call 86;refine HN.o.mono ?_;rintro x1 w1 ⟨rfl,hg⟩;have h1:=A0 (H.o.kept hg);have f5:w1.frozen? ⟨c.rb,5,none⟩=false:=h1.o.frozen 5;have f6:w1.frozen? ⟨c.rb,6,none⟩=false:=h1.o.frozen 6;have c5:w1.cell? ⟨c.rb,5,none⟩=some (.int .i64 e):=h1.o.cell 5;have c6:w1.cell? ⟨c.rb,6,none⟩=some (.int .i64 p):=h1.o.cell 6);go_ret2;exact⟨rfl,((h1.o.set5 hc en).set6 hc _),A1 (AZ hg) (A1 (A7 _ _ _ _) (A7 _ _ _ _))⟩
theorem Iz(c:Ctx)(hc:c.Good)(w:World)(k:Nat)(a d b e p kd:Int)(h:Rd c w k a d b e p)(hk:k+1<c.ts.length)(he:(tk c.ts k).kind=kd):
  Calls Tryz.prog 186 #[.pointer (some ⟨c.rb,0,none⟩),.int .i64 kd] w fun x w'=>x=.returned (.bool true)/\Rd c w' (k+1:Nat) a d b e p/\w.grownBy w' (some c.rb):=by
 have hne:((tk c.ts k).kind != kd)=false:=by simp[he]
 have hcap:=hc.cap;have hle:=hc.le;unfold maxLen at hcap;clear he;have H:=A0 h;have HN:=A0 (Aw c hc w k a d b e p h (by omega));clear h;go_enter Tryz.func186,Tryz.ntmps186;go_wp2_with (go_at_call 86;refine HN.o.mono ?_;rintro x1 w1 ⟨rfl,hg⟩;have h1:=A0 (H.o.kept hg);have f1:w1.frozen? ⟨c.rb,1,none⟩=false:=h1.o.frozen 1;have c1:w1.cell? ⟨c.rb,1,none⟩=some (.int .i64 k):=h1.o.cell 1);go_ret;exact⟨rfl,(h1.o.set1 hc _),A1 (AZ hg) (A7 _ _ _ _)⟩
theorem Iy(c:Ctx)(hc:c.Good)(w:World)(k:Nat)(a d b e p kd:Int)(h:Rd c w k a d b e p)(hk:k<c.ts.length)(he:¬(tk c.ts k).kind=kd):
  Calls Tryz.prog 186 #[.pointer (some ⟨c.rb,0,none⟩),.int .i64 kd] w fun x w'=>x=.returned (.bool false)/\Rd c w' k a d b e p/\w.grownBy w' (some c.rb):=by
 have hne:((tk c.ts k).kind != kd)=true:=by simp[he]
 clear he;have H:=A0 h;have HN:=A0 (Aw c hc w k a d b e p h (by omega));clear h;go_enter Tryz.func186,Tryz.ntmps186;go_wp2_with (go_at_call 86;refine HN.o.mono ?_;rintro x1 w1 ⟨rfl,hg⟩);go_ret;exact⟨rfl,H.o.kept hg,AZ hg⟩
def BA(n:Nat):Value:=
 if n=0 then .iface 317 (.agg #[.int .i64 4])
 else if n=1 then .iface 317 (.agg #[.int .i64 5])
 else if n%2=0 then .iface 177 (.agg #[.int .i64 (((n-2)/2/32:Nat):Int),.int .i64 (((n-2)/2%32:Nat):Int)])
 else .iface 178 (.agg #[.int .i64 (((n-2)/2/32:Nat):Int),.int .i64 (((n-2)/2%32:Nat):Int)])
def BN(k:Int)(g n cap:Nat):Value:=.iface 234 (.agg #[.int .i64 k,.slice (some ⟨g,0,none⟩) n cap])
def TV(ok:Nat->Prop)(w:World):Code->(Value->Prop)×(Nat->Nat->Nat->Prop)
 | .exit n=>(fun v=>v=BA n/\n<2+2*192,fun _ _ _=>False)
 | .loop t=>(fun v=>∃g cap x,v=BN 2 g 1 cap/\ok g/\w.cell? ⟨g,0,none⟩=some x/\(TV ok w t).1 x,fun _ _ _=>False)
 | .scope t=>(fun v=>∃g cap x,v=BN 3 g 1 cap/\ok g/\w.cell? ⟨g,0,none⟩=some x/\(TV ok w t).1 x,fun _ _ _=>False)
 | .block k l=>(fun v=>∃g n cap,v=BN k g n cap/\k<=1/\ok g/\n<=1000/\2<=n/\(TV ok w l).2 g 0 n,fun _ _ _=>False)
 | .seq t l=>(fun _=>False,fun g i n=>∃n' x,n=n'+1/\w.cell? ⟨g,i,none⟩=some x/\(TV ok w t).1 x/\(TV ok w l).2 g (i+1) n')
 | .skip=>(fun _=>False,fun _ _ n=>n=0)
 | _=>(fun _=>False,fun _ _ _=>False)
theorem FZ{ok ok':Nat->Prop}{w w':World}(hok:∀b i x,ok b->w.cell? ⟨b,i,none⟩=some x->ok' b)(hc:∀b i x,ok b->w.cell? ⟨b,i,none⟩=some x->w'.cell? ⟨b,i,none⟩=some x):
  ∀t,(∀v,(TV ok w t).1 v->(TV ok' w' t).1 v)/\(∀g i n,ok g->(TV ok w t).2 g i n->(TV ok' w' t).2 g i n):=by
 intro t;induction t with
 | exit n=>exact⟨fun v h=>h,fun _ _ _ _ h=>h⟩
 | skip=>exact⟨fun v h=>h,fun _ _ _ _ h=>h⟩
 | loop t ih=>
  refine⟨fun v h=>?_,fun _ _ _ _ h=>h⟩;obtain⟨g,cap,x,h1,h2,h3,h4⟩:=h;exact⟨g,cap,x,h1,hok g 0 x h2 h3,hc g 0 x h2 h3,ih.1 x h4⟩
 | scope t ih=>
  refine⟨fun v h=>?_,fun _ _ _ _ h=>h⟩;obtain⟨g,cap,x,h1,h2,h3,h4⟩:=h;exact⟨g,cap,x,h1,hok g 0 x h2 h3,hc g 0 x h2 h3,ih.1 x h4⟩
 | block k l ih=>
  refine⟨fun v h=>?_,fun _ _ _ _ h=>h⟩;obtain⟨g,n,cap,h1,h2,h3,h4,h5,h6⟩:=h;refine⟨g,n,cap,h1,h2,?_,h4,h5,ih.2 g 0 n h3 h6⟩;cases l with
  | seq a b=>obtain⟨n',x,_,hx,_⟩:=h6;exact hok g 0 x h3 hx
  | skip=>simp[TV]at h6;omega
  | _=>exact h6.elim
 | seq t l ih1 ih2=>
  refine⟨fun v h=>h,fun g i n hr h=>?_⟩;obtain⟨n',x,h1,h2,h3,h4⟩:=h;exact⟨n',x,h1,hc g i x hr h2,ih1.1 x h3,ih2.2 g (i+1) n' hr h4⟩
 | _=>exact⟨fun v h=>h,fun _ _ _ _ h=>h⟩
theorem Dh{ok:Nat->Prop}{w w':World}{row:Option Nat}{t:Code}{v:Value}(h:(TV ok w t).1 v)(hg:w.grownBy w' row)(hr:∀b,ok b->some b≠row):(TV ok w' t).1 v:=
 (FZ (fun b _ _ hb _=>hb) (fun b i x hb hx=>hg.cell hx (hr b hb)) t).1 v h
theorem D4{ok ok':Nat->Prop}{w:World}{t:Code}{v:Value}(h:(TV ok w t).1 v)(hr:∀b,b<w.heap.size->ok b->ok' b):(TV ok' w t).1 v:=
 (FZ (fun b i x hb hx=>hr b (World.block_lt_of_cell? w _ hx) hb) (fun b i x hb hx=>hx) t).1 v h
theorem C6{ok:Nat->Prop}{w w':World}{t:Code}{v:Value}(h:(TV ok w t).1 v)(hg:w.grownBy w' none):(TV ok w' t).1 v:=Dh h hg (by simp)
theorem CI{ok:Nat->Prop}{w:World}{t:Code}{v:Value}(h:(TV ok w t).1 v):∃T u,v=.iface T u:=by
 cases t with
 | exit n=>
  obtain⟨rfl,_⟩:=h;unfold BA;split
  ·exact⟨_,_,rfl⟩
  ·split
   ·exact⟨_,_,rfl⟩
   ·split<;>exact⟨_,_,rfl⟩
 | loop t=>obtain⟨g,cap,x,h1,_⟩:=h;exact⟨_,_,h1⟩
 | scope t=>obtain⟨g,cap,x,h1,_⟩:=h;exact⟨_,_,h1⟩
 | block k l=>obtain⟨g,n,cap,h1,_⟩:=h;exact⟨_,_,h1⟩
 | _=>exact h.elim
theorem U9(rb:Nat)(w:World):Calls Tryz.prog 272 #[] w fun x w'=>x=.returned (BA 0)/\w'=w:=by
 go_enter Tryz.func272,Tryz.ntmps272;go_wp2;go_ret;exact⟨rfl,rfl⟩
theorem TA(rb:Nat)(w:World):Calls Tryz.prog 273 #[] w fun x w'=>x=.returned (BA 1)/\w'=w:=by
 go_enter Tryz.func273,Tryz.ntmps273;go_wp2;go_ret;exact⟨rfl,rfl⟩
theorem Y1(ok:Nat->Prop)(w:World)(t:Code)(v:Value)(hr:ok w.heap.size)(h:(TV ok w t).1 v):
  Calls Tryz.prog 234 #[v] w fun x w'=>∃v',x=.returned v'/\(TV ok w' (.loop t)).1 v'/\w.grownBy w' none:=by
 obtain⟨T,u,rfl⟩:=CI h;have H:=A0 h;clear h;go_enter Tryz.func234,Tryz.ntmps234;go_wp2;go_ret;refine⟨_,rfl,⟨w.heap.size,1,_,rfl,hr,by simp,C6 H.o (World.grownBy_alloc _ _ _)⟩,World.grownBy_alloc _ _ _⟩
theorem K9(ok:Nat->Prop)(w:World)(t:Code)(v:Value)(hr:ok w.heap.size)(h:(TV ok w t).1 v):
  Calls Tryz.prog 277 #[v] w fun x w'=>∃v',x=.returned v'/\(TV ok w' (.scope t)).1 v'/\w.grownBy w' none:=by
 obtain⟨T,u,rfl⟩:=CI h;have H:=A0 h;clear h;go_enter Tryz.func277,Tryz.ntmps277;go_wp2;go_ret;refine⟨_,rfl,⟨w.heap.size,1,_,rfl,hr,by simp,C6 H.o (World.grownBy_alloc _ _ _)⟩,World.grownBy_alloc _ _ _⟩
theorem NN(ok:Nat->Prop)(w:World)(l:List Code)(k g cap:Nat)(hk:k<=1)(hr:ok g)(h0:0<l.length)(hl:l.length<=1000)(h:(TV ok w (Ac l)).2 g 0 l.length):
  Calls Tryz.prog 189 #[.int .i64 k,.slice (some ⟨g,0,none⟩) l.length cap] w fun x w'=>∃v',x=.returned v'/\(TV ok w' (Bo k l)).1 v'/\w'=w:=by
 match l,h0,hl,h with
 | [t],h0,hl,h=>
  obtain⟨n',x,_,hx,ht,_⟩:=h;have H:=A0 ht;clear ht;simp only[List.length_cons,List.length_nil,Nat.zero_add];go_enter Tryz.func189,Tryz.ntmps189;go_wp2;go_ret;exact⟨x,rfl,H.o,rfl⟩
 | t::u::r,h0,hl,h=>
  have H:=A0 h;clear h;have hne:(((t::u::r).length:Int) == 1)=false:=by simp;omega
  have h2:2<=(t::u::r).length:=by simp
  have HJ:Hid (Bo k (t::u::r)=.block k (Ac (t::u::r))):=rfl;generalize hn:(t::u::r).length=n at *;have HN:=A0 hn;clear hn;go_enter Tryz.func189,Tryz.ntmps189;go_wp2;go_ret;rw[HJ.o];exact⟨_,rfl,⟨g,n,cap,rfl,hk,hr,hl,h2,H.o⟩,rfl⟩
def FD(b:ByteArray)(k:Nat):Nat:=Bg (b.data.toList.take k)
theorem W7(b:ByteArray)(k:Nat)(h:k<b.size):FD b (k+1)=min (10*FD b k+Fh (b[k]'h)) 32:=by
 unfold FD Bg
 have e:b.data.toList.take (k+1)=b.data.toList.take k++[b[k]'h]:=by
  rw[List.take_succ_eq_append_getElem (by simpa using h)];rfl
 rw[e,List.foldl_append];rfl
theorem W9(m:Nat)(c:UInt8):(if 32<10*(m:Int)+((c.toNat:Int)-48)%256 then(32:Int) else 10*(m:Int)+((c.toNat:Int)-48)%256)=((min (10*m+Fh c) 32:Nat):Int):=by
 unfold Fh;have h0:0<=((c.toNat:Int)-48)%256:=Int.emod_nonneg _ (by decide);split<;>omega
theorem Ga(b:ByteArray)(w:World)(hb:b.size<=400):
  Calls Tryz.prog 282 #[.string b] w fun x w'=>x=.returned (.int .i64 (Bg b.data.toList))/\w'=w:=by
 go_enter Tryz.func282,Tryz.ntmps282;go_wp2
 go_loop [3,7] (fun n i=>∃(k m:Nat),k<=b.size/\m<=32/\i=.int .i64 k/\n=.int .i64 m/\m=FD b k) (fun _ i=>b.size-(intOf i).toNat)
 case atStart=>exact⟨0,0,Nat.zero_le _,Nat.zero_le _,rfl,rfl,rfl⟩
 case round=>
  obtain⟨k,m,hk,hm,rfl,rfl,he⟩:=hrel;have HE:=A0 he;clear he;by_cases hlt:k<b.size
  ·have HS:Hid (FD b (k+1)=min (10*FD b k+Fh (b[k]'hlt)) 32):=W7 b k hlt;go_wp2;refine⟨⟨k+1,min (10*m+Fh (b[k]'hlt)) 32,by omega,by omega,by go_num,?_,?_⟩,by simp[intOf];omega⟩
   ·exact congrArg (Value.int .i64) (W9 m _)
   ·rw[HS.o,HE.o]
  ·go_wp2;go_ret;exact⟨by rw[HE.o];simp[FD,List.take_of_length_le (show b.data.toList.length<=k by simp;omega)],rfl⟩
@[go_sem] theorem Tryz.idxNames0(x0 x1 x2 x3 x4 x5:Value)(w:World):Sem.run Tryz.prog (Instr.index 340 (.agg #[x0,x1,x2,x3,x4,x5]) (.int .i64 0)) w=.ok x0 w:=by kernel_rfl
@[go_sem] theorem Tryz.idxNames1(x0 x1 x2 x3 x4 x5:Value)(w:World):Sem.run Tryz.prog (Instr.index 340 (.agg #[x0,x1,x2,x3,x4,x5]) (.int .i64 1)) w=.ok x1 w:=by kernel_rfl
@[go_sem] theorem Tryz.idxNames2(x0 x1 x2 x3 x4 x5:Value)(w:World):Sem.run Tryz.prog (Instr.index 340 (.agg #[x0,x1,x2,x3,x4,x5]) (.int .i64 2)) w=.ok x2 w:=by kernel_rfl
@[go_sem] theorem Tryz.idxNames3(x0 x1 x2 x3 x4 x5:Value)(w:World):Sem.run Tryz.prog (Instr.index 340 (.agg #[x0,x1,x2,x3,x4,x5]) (.int .i64 3)) w=.ok x3 w:=by kernel_rfl
@[go_sem] theorem Tryz.idxNames4(x0 x1 x2 x3 x4 x5:Value)(w:World):Sem.run Tryz.prog (Instr.index 340 (.agg #[x0,x1,x2,x3,x4,x5]) (.int .i64 4)) w=.ok x4 w:=by kernel_rfl
@[go_sem] theorem Tryz.idxNames5(x0 x1 x2 x3 x4 x5:Value)(w:World):Sem.run Tryz.prog (Instr.index 340 (.agg #[x0,x1,x2,x3,x4,x5]) (.int .i64 5)) w=.ok x5 w:=by kernel_rfl
theorem Ek{a b:ByteArray}:((a.toList == b.toList)=true)↔a.data.toList=b.data.toList:=by
 rw[beq_iff_eq,ByteArray.toList_eq,ByteArray.toList_eq]
theorem Fc{a b:ByteArray}(h:(a.toList == b.toList)=false):a.data.toList≠b.data.toList:=fun e=>by rw[Ek.2 e]at h;cases h
def Bf(k:Nat):ByteArray:=⟨match k with|0=>#[115,119]|1=>#[112,116]|2=>#[116,121,112]|3=>#[115,114,99]|4=>#[100,115,116]|_=>#[116,97,103]⟩
def Ae(w:World):Prop:=∀k,k<6->w.cell? ⟨1,k,none⟩=some (.string (Bf k))
theorem Ae.grown{w w':World}{rb:Nat}(h:Ae w)(hg:w.grownBy w' (some rb))(hr:1<rb):Ae w':=fun k hk=>hg.cell (h k hk) (by simp;omega)
def E3(b:ByteArray):Value:=match D6 b.data.toList with|some f=>.tuple #[.int .i64 (f:Int),.bool true]|none=>.tuple #[.int .i64 0,.bool false]
theorem GE{b:ByteArray}{k:Nat}(h:∀j,j<k->(Bf j).data.toList≠b.data.toList)(h1:(Bf k).data.toList≠b.data.toList):∀j,j<k+1->(Bf j).data.toList≠b.data.toList:=by
 intro j hj;by_cases e:j=k
 ·rw[e];exact h1
 ·exact h j (by omega)
theorem Fl{b:ByteArray}(k:Nat)(hk:k<6)(h:(Bf k).data.toList=b.data.toList):E3 b=.tuple #[.int .i64 (k:Int),.bool true]:=by
 unfold E3;rw[<-h];rcases(show k=0\/k=1\/k=2\/k=3\/k=4\/k=5 by omega) with rfl|rfl|rfl|rfl|rfl|rfl<;>rfl
theorem TS{b:ByteArray}(h:∀j,j<6->(Bf j).data.toList≠b.data.toList):E3 b=.tuple #[.int .i64 0,.bool false]:=by
 have e:D6 b.data.toList=none:=by
  unfold D6
  rw[if_neg (fun e=>h 0 (by decide) e.symm),if_neg (fun e=>h 1 (by decide) e.symm),if_neg (fun e=>h 2 (by decide) e.symm),if_neg (fun e=>h 3 (by decide) e.symm),
   if_neg (fun e=>h 4 (by decide) e.symm),if_neg (fun e=>h 5 (by decide) e.symm)]
 unfold E3;rw[e]
theorem Mn(b:ByteArray)(w:World)(hn:Ae w):
  Calls Tryz.prog 274 #[.string b] w fun x w'=>x=.returned (E3 b)/\w'=w:=by
 have n0:w.cell? ⟨1,0,none⟩=some (.string (Bf 0)):=hn 0 (by decide);have n1:w.cell? ⟨1,1,none⟩=some (.string (Bf 1)):=hn 1 (by decide);have n2:w.cell? ⟨1,2,none⟩=some (.string (Bf 2)):=hn 2 (by decide);have n3:w.cell? ⟨1,3,none⟩=some (.string (Bf 3)):=hn 3 (by decide);have n4:w.cell? ⟨1,4,none⟩=some (.string (Bf 4)):=hn 4 (by decide);have n5:w.cell? ⟨1,5,none⟩=some (.string (Bf 5)):=hn 5 (by decide);clear hn;go_enter Tryz.func274,Tryz.ntmps274;go_wp2
 go_loop [7] (fun i=>∃(k:Nat),k<=6/\i=.int .i64 k/\∀j,j<k->(Bf j).data.toList≠b.data.toList) (fun i=>6-(intOf i).toNat)
 case atStart=>exact⟨0,Nat.zero_le _,rfl,fun j hj=>by omega⟩
 case round=>
  obtain⟨k,hk,rfl,he⟩:=hrel;have HE:=A0 he;clear he;clear n0 n1 n2 n3 n4 n5;rcases(show k=0\/k=1\/k=2\/k=3\/k=4\/k=5\/k=6 by omega) with rfl|rfl|rfl|rfl|rfl|rfl|rfl
  ·go_wp2
   ·go_ret2;have h1:=Ek.1 (by assumption:((Bf 0).toList == b.toList)=true);exact⟨by rw[Fl 0 (by decide) h1];rfl,rfl⟩
   ·have h1:=Fc (by assumption:((Bf 0).toList == b.toList)=false);exact⟨⟨1,by decide,rfl,GE HE.o h1⟩,by simp[intOf]⟩
  ·go_wp2
   ·go_ret2;have h1:=Ek.1 (by assumption:((Bf 1).toList == b.toList)=true);exact⟨by rw[Fl 1 (by decide) h1];rfl,rfl⟩
   ·have h1:=Fc (by assumption:((Bf 1).toList == b.toList)=false);exact⟨⟨2,by decide,rfl,GE HE.o h1⟩,by simp[intOf]⟩
  ·go_wp2
   ·go_ret2;have h1:=Ek.1 (by assumption:((Bf 2).toList == b.toList)=true);exact⟨by rw[Fl 2 (by decide) h1];rfl,rfl⟩
   ·have h1:=Fc (by assumption:((Bf 2).toList == b.toList)=false);exact⟨⟨3,by decide,rfl,GE HE.o h1⟩,by simp[intOf]⟩
  ·go_wp2
   ·go_ret2;have h1:=Ek.1 (by assumption:((Bf 3).toList == b.toList)=true);exact⟨by rw[Fl 3 (by decide) h1];rfl,rfl⟩
   ·have h1:=Fc (by assumption:((Bf 3).toList == b.toList)=false);exact⟨⟨4,by decide,rfl,GE HE.o h1⟩,by simp[intOf]⟩
  ·go_wp2
   ·go_ret2;have h1:=Ek.1 (by assumption:((Bf 4).toList == b.toList)=true);exact⟨by rw[Fl 4 (by decide) h1];rfl,rfl⟩
   ·have h1:=Fc (by assumption:((Bf 4).toList == b.toList)=false);exact⟨⟨5,by decide,rfl,GE HE.o h1⟩,by simp[intOf]⟩
  ·go_wp2
   ·go_ret2;have h1:=Ek.1 (by assumption:((Bf 5).toList == b.toList)=true);exact⟨by rw[Fl 5 (by decide) h1];rfl,rfl⟩
   ·have h1:=Fc (by assumption:((Bf 5).toList == b.toList)=false);exact⟨⟨6,by decide,rfl,GE HE.o h1⟩,by simp[intOf]⟩
  ·go_wp2;go_ret2;exact⟨by rw[TS HE.o];rfl,rfl⟩
def AQ(c:Ctx)(d:Int)(r:Except (Int×Nat) (Code×St))(w:World)(x:Ending)(w':World):Prop:=
 w.grownBy w' (some c.rb)/\match r with
 | .ok (t,st)=>∃v,x=.returned (.tuple #[v,.bool true])/\(TV (fun b=>w.heap.size<=b) w' t).1 v/\Rd c w' st.i st.atoms d st.bad 0 0
 | .error (en,pl)=>x=.returned (.tuple #[.nilIface,.bool false])/\∃i a d b,Rd c w' i a d b en pl
theorem Rd.drewN{c:Ctx}{w:World}{i a d b e p:Int}(h:Rd c w i a d b e p)(n:Nat):Rd c (w.drewN n) i a d b e p:=⟨h.row,h.rd⟩
theorem AQ.err{c:Ctx}{d:Int}{w w':World}{i a d' b:Int}{en:Int}{pl:Nat}(h:Rd c w' i a d' b en pl)(hg:w.grownBy w' (some c.rb)):AQ c d (.error (en,pl)) w (.returned (.tuple #[.nilIface,.bool false])) w':=
 ⟨hg,rfl,i,a,d',b,h⟩
theorem Uf(f n:Nat)(hn:n<32):BA (3+2*(32*f+n))=.iface 178 (.agg #[.int .i64 (f:Int),.int .i64 (n:Int)]):=by
 unfold BA;rw[if_neg (by omega),if_neg (by omega),if_neg (by omega)];have e1:(3+2*(32*f+n)-2)/2/32=f:=by omega
 have e2:(3+2*(32*f+n)-2)/2%32=n:=by omega
 rw[e1,e2]
theorem Ug(f n:Nat)(hn:n<32):BA (2+2*(32*f+n))=.iface 177 (.agg #[.int .i64 (f:Int),.int .i64 (n:Int)]):=by
 unfold BA;rw[if_neg (by omega),if_neg (by omega),if_pos (by omega)];have e1:(2+2*(32*f+n)-2)/2/32=f:=by omega
 have e2:(2+2*(32*f+n)-2)/2%32=n:=by omega
 rw[e1,e2]
theorem Og{c:Ctx}{w w4:World}{d:Int}{nv f n:Nat}{v:Value}{o:Obj}{st:St}{t:Code}(hc:c.Good)(hR:Rd c w4 (st.i+2:Nat) ((st.atoms:Int)+1) d st.bad 0 0)(hG:w.grownBy w4 (some c.rb))
  (hv:v=BA n) (hn:n<2+2*192) (ht:t=.exit n):
  AQ c d (.ok (t,⟨st.i+3,st.atoms+1,st.bad⟩)) w (.returned (.tuple #[v,.bool true])) ((w4.setCell ⟨c.rb,1,none⟩ (.int .i64 ((st.i:Int)+2+1))).alloc o):=by
 subst ht;have hS:=hR.set1 hc ((st.i:Int)+2+1);exact⟨A1 hG (A1 (A7 _ _ _ _) (World.grownBy_alloc _ _ _)),v,rfl,⟨hv,hn⟩,hS.kept (World.grownBy_alloc _ _ _)⟩
theorem WX{c:Ctx}{w w4:World}{d:Int}{nv f m:Nat}{o:Obj}{st:St}(hc:c.Good)(hR:Rd c w4 (st.i+2:Nat) ((st.atoms:Int)+1) d st.bad 0 0)(hG:w.grownBy w4 (some c.rb))(hf:f<=5)(hv:¬31<nv)(hm:m=nv):
  AQ c d (.ok (DP 11 f m,⟨st.i+3,st.atoms+1,st.bad⟩)) w (.returned (.tuple #[.iface 178 (.agg #[.int .i64 (f:Int),.int .i64 (nv:Int)]),.bool true])) ((w4.setCell ⟨c.rb,1,none⟩ (.int .i64 ((st.i:Int)+2+1))).alloc o):=by
 subst hm;exact Og (nv:=m) (f:=f) hc hR hG (Uf f m (by omega)).symm (by omega) rfl
theorem Oh{c:Ctx}{w w4:World}{d:Int}{nv f m:Nat}{o:Obj}{st:St}(hc:c.Good)(hR:Rd c w4 (st.i+2:Nat) ((st.atoms:Int)+1) d st.bad 0 0)(hG:w.grownBy w4 (some c.rb))(hf:f<=5)(hv:¬31<nv)(hm:m=nv):
  AQ c d (.ok (DP 10 f m,⟨st.i+3,st.atoms+1,st.bad⟩)) w (.returned (.tuple #[.iface 177 (.agg #[.int .i64 (f:Int),.int .i64 (nv:Int)]),.bool true])) ((w4.setCell ⟨c.rb,1,none⟩ (.int .i64 ((st.i:Int)+2+1))).alloc o):=by
 subst hm;exact Og (nv:=m) (f:=f) hc hR hG (Ug f m (by omega)).symm (by omega) rfl
section
variable(c:Ctx)(w:World)(st:St)(d:Int)(f:Nat)
theorem WW(hc:c.Good)(h:Rd c w st.i st.atoms d st.bad 0 0)(hi:st.i+1<c.ts.length)(hk:(tk c.ts (st.i+1)).kind=11):
  Calls Tryz.prog 275 #[.pointer (some ⟨c.rb,0,none⟩),.int .i64 0] w (AQ c d (.error (5,(tk c.ts st.i).at_)) w):=by
 have h0:w.cell? ⟨c.rb,0,none⟩=some (.slice (some ⟨c.g,0,none⟩) c.ts.length c.cap):=h.cell 0;have h1:w.cell? ⟨c.rb,1,none⟩=some (.int .i64 st.i):=h.cell 1;obtain⟨g0,_,_⟩:=hc.cell h hi;rw[hk]at g0;have HK:=A0 hk;clear hk;obtain⟨l1,l2⟩:=h.lt;have hl:=hc.le;have hm:=hc.cap;unfold maxLen at hm;have H:=A0 h;clear h;go_enter Tryz.func275,Tryz.ntmps275;go_wp2;go_quiet (fail)
 go_wp2_with fail;refine(C9 c hc _ st.i _ _ _ _ _ 5 (H.o.drewN nq) (by omega)).mono ?_;rintro x w1 ⟨rfl,hR,hG⟩;go_wp2;go_ret2;exact AQ.err hR (A1 (AT (AA _ _) nq) hG)
theorem WY(hc:c.Good)(h:Rd c w st.i st.atoms d st.bad 0 0)(hi:st.i+1<c.ts.length)(hf:f<=5)(ha:st.atoms<=16)(hs:(f=0/\¬(tk c.ts (st.i+1)).kind=11)\/¬f=0)(hA:st.atoms=16):
  Calls Tryz.prog 275 #[.pointer (some ⟨c.rb,0,none⟩),.int .i64 f] w (AQ c d (Except.error (7,(tk c.ts st.i).at_)) w):=by
 have h0:w.cell? ⟨c.rb,0,none⟩=some (.slice (some ⟨c.g,0,none⟩) c.ts.length c.cap):=h.cell 0;have h1:w.cell? ⟨c.rb,1,none⟩=some (.int .i64 st.i):=h.cell 1;have h2:w.cell? ⟨c.rb,2,none⟩=some (.int .i64 st.atoms):=h.cell 2;have f1:w.frozen? ⟨c.rb,1,none⟩=false:=h.frozen 1;have f2:w.frozen? ⟨c.rb,2,none⟩=false:=h.frozen 2;obtain⟨g0,gx,gy⟩:=hc.cell h hi;clear gx gy;obtain⟨l1,l2⟩:=h.lt;have hl:=hc.le;have hm:=hc.cap;unfold maxLen at hm;have H:=A0 h;clear h;have hA':((st.atoms:Int) == 16)=true:=by simp;omega
 clear hA;rcases hs with⟨rfl,hk⟩|hf0
 ·have hk':((tk c.ts (st.i+1)).kind == 11)=false:=by simp[hk]
  have HK:=A0 hk;clear hk;go_enter Tryz.func275,Tryz.ntmps275;go_wp2;go_quiet (fail)
  go_wp2_with fail;refine(C9 c hc _ st.i _ _ _ _ _ 7 (H.o.drewN nq) (by omega)).mono ?_;rintro x w1 ⟨rfl,hR,hG⟩;go_wp2;go_ret2;exact AQ.err hR (A1 (AT (AA _ _) nq) hG)
 ·have hk':((f:Int) == 0)=false:=by simp;omega
  go_enter Tryz.func275,Tryz.ntmps275;go_wp2;go_quiet (fail)
  go_wp2_with fail;refine(C9 c hc _ st.i _ _ _ _ _ 7 (H.o.drewN nq) (by omega)).mono ?_;rintro x w1 ⟨rfl,hR,hG⟩;go_wp2;go_ret2;exact AQ.err hR (A1 (AT (AA _ _) nq) hG)
theorem Wb(hc:c.Good)(h:Rd c w st.i st.atoms d st.bad 0 0)(hi:st.i+1<c.ts.length)(hf:f<=5)(ha:st.atoms<=16)(hs:(f=0/\¬(tk c.ts (st.i+1)).kind=11)\/¬f=0)(hA:¬st.atoms=16)(hk1:¬(tk c.ts (st.i+1)).kind=10/\¬(tk c.ts (st.i+1)).kind=11):
  Calls Tryz.prog 275 #[.pointer (some ⟨c.rb,0,none⟩),.int .i64 f] w (AQ c d (Except.error (3,(tk c.ts (st.i+1)).at_)) w):=by
 have h0:w.cell? ⟨c.rb,0,none⟩=some (.slice (some ⟨c.g,0,none⟩) c.ts.length c.cap):=h.cell 0;have h1:w.cell? ⟨c.rb,1,none⟩=some (.int .i64 st.i):=h.cell 1;have h2:w.cell? ⟨c.rb,2,none⟩=some (.int .i64 st.atoms):=h.cell 2;have f1:w.frozen? ⟨c.rb,1,none⟩=false:=h.frozen 1;have f2:w.frozen? ⟨c.rb,2,none⟩=false:=h.frozen 2;obtain⟨g0,gx,gy⟩:=hc.cell h hi;clear gx gy;obtain⟨l1,l2⟩:=h.lt;have hl:=hc.le;have hm:=hc.cap;unfold maxLen at hm;have H:=A0 h;clear h;have hA':((st.atoms:Int) == 16)=false:=by simp;omega
 have k10:((tk c.ts (st.i+1)).kind != 10)=true:=by simp[hk1.1]
 have k11:((tk c.ts (st.i+1)).kind != 11)=true:=by simp[hk1.2]
 clear hk1;rcases hs with⟨rfl,hk⟩|hf0
 ·have hk':((tk c.ts (st.i+1)).kind == 11)=false:=by simp[hk]
  have HK:=A0 hk;clear hk;go_enter Tryz.func275,Tryz.ntmps275;go_wp2;go_quiet (fail)
  go_wp2_with fail;refine(Aw c hc _ (st.i+1) (st.atoms+1) d st.bad 0 0 (((H.o.drewN nq).set2 hc _).set1 hc _) hi).mono ?_;rintro x w1 ⟨rfl,hg1⟩;have R1:Hid (Rd c w1 (st.i+1:Nat) ((st.atoms:Int)+1) d st.bad 0 0):=(((H.o.drewN nq).set2 hc ((st.atoms:Int)+1)).set1 hc ((st.i+1:Nat):Int)).kept hg1;have G1:Hid (w.grownBy w1 (some c.rb)):=A1 (A1 (AT (AA _ _) nq) (A1 (A7 _ _ _ _) (A7 _ _ _ _))) (AZ hg1);clear hg1 h0 h1 h2 f1 f2 g0;go_wp2_with fail;refine(C9 c hc _ (st.i+1) _ _ _ _ _ 3 R1.o hi).mono ?_;rintro x w2 ⟨rfl,hR,hG⟩;go_wp2;go_ret2;exact AQ.err hR (A1 G1.o hG)
 ·have hk':((f:Int) == 0)=false:=by simp;omega
  go_enter Tryz.func275,Tryz.ntmps275;go_wp2;go_quiet (fail)
  go_wp2_with fail;refine(Aw c hc _ (st.i+1) (st.atoms+1) d st.bad 0 0 (((H.o.drewN nq).set2 hc _).set1 hc _) hi).mono ?_;rintro x w1 ⟨rfl,hg1⟩;have R1:Hid (Rd c w1 (st.i+1:Nat) ((st.atoms:Int)+1) d st.bad 0 0):=(((H.o.drewN nq).set2 hc ((st.atoms:Int)+1)).set1 hc ((st.i+1:Nat):Int)).kept hg1;have G1:Hid (w.grownBy w1 (some c.rb)):=A1 (A1 (AT (AA _ _) nq) (A1 (A7 _ _ _ _) (A7 _ _ _ _))) (AZ hg1);clear hg1 h0 h1 h2 f1 f2 g0;go_wp2_with fail;refine(C9 c hc _ (st.i+1) _ _ _ _ _ 3 R1.o hi).mono ?_;rintro x w2 ⟨rfl,hR,hG⟩;go_wp2;go_ret2;exact AQ.err hR (A1 G1.o hG)
theorem WZ(hc:c.Good)(h:Rd c w st.i st.atoms d st.bad 0 0)(hi:st.i+1<c.ts.length)(hf:f<=5)(ha:st.atoms<=16)(hs:(f=0/\¬(tk c.ts (st.i+1)).kind=11)\/¬f=0)(hA:¬st.atoms=16)(hi2:st.i+2<c.ts.length)(kk:Int)(hkk:kk=10\/kk=11)(hk1:(tk c.ts (st.i+1)).kind=kk)(hk2:¬(tk c.ts (st.i+2)).kind=3):
  Calls Tryz.prog 275 #[.pointer (some ⟨c.rb,0,none⟩),.int .i64 f] w (AQ c d (Except.error (3,(tk c.ts (st.i+2)).at_)) w):=by
 have h0:w.cell? ⟨c.rb,0,none⟩=some (.slice (some ⟨c.g,0,none⟩) c.ts.length c.cap):=h.cell 0;have h1:w.cell? ⟨c.rb,1,none⟩=some (.int .i64 st.i):=h.cell 1;have h2:w.cell? ⟨c.rb,2,none⟩=some (.int .i64 st.atoms):=h.cell 2;have f1:w.frozen? ⟨c.rb,1,none⟩=false:=h.frozen 1;have f2:w.frozen? ⟨c.rb,2,none⟩=false:=h.frozen 2;obtain⟨g0,gx,gy⟩:=hc.cell h hi;clear gx gy;obtain⟨l1,l2⟩:=h.lt;have hl:=hc.le;have hm:=hc.cap;unfold maxLen at hm;have H:=A0 h;clear h;have hA':((st.atoms:Int) == 16)=false:=by simp;omega
 have k3:((tk c.ts (st.i+2)).kind != 3)=true:=by simp[hk2]
 clear hk2;have HK1:=A0 hk1;clear hk1;rcases hs with⟨rfl,hk⟩|hf0
 ·have hk':((tk c.ts (st.i+1)).kind == 11)=false:=by simp[hk]
  have HK:=A0 hk;clear hk;go_enter Tryz.func275,Tryz.ntmps275;go_wp2;go_quiet (fail)
  go_wp2_with fail;refine(Aw c hc _ (st.i+1) (st.atoms+1) d st.bad 0 0 (((H.o.drewN nq).set2 hc _).set1 hc _) hi).mono ?_;rintro x w1 ⟨rfl,hg1⟩;have R1:Hid (Rd c w1 (st.i+1:Nat) ((st.atoms:Int)+1) d st.bad 0 0):=(((H.o.drewN nq).set2 hc ((st.atoms:Int)+1)).set1 hc ((st.i+1:Nat):Int)).kept hg1;have G1:Hid (w.grownBy w1 (some c.rb)):=A1 (A1 (AT (AA _ _) nq) (A1 (A7 _ _ _ _) (A7 _ _ _ _))) (AZ hg1);clear hg1 h0 h1 h2 f1 f2 g0;rw[HK1.o];rcases hkk with rfl|rfl
  ·have c1:w1.cell? ⟨c.rb,1,none⟩=some (.int .i64 (st.i+1:Nat)):=R1.o.cell 1;have f1:w1.frozen? ⟨c.rb,1,none⟩=false:=R1.o.frozen 1;go_wp2_with fail;refine(Aw c hc _ (st.i+2) (st.atoms+1) d st.bad 0 0 (R1.o.set1 hc _) hi2).mono ?_;rintro x w2 ⟨rfl,hg2⟩;have R2:Hid (Rd c w2 (st.i+2:Nat) ((st.atoms:Int)+1) d st.bad 0 0):=(R1.o.set1 hc ((st.i+2:Nat):Int)).kept hg2;have G2:Hid (w.grownBy w2 (some c.rb)):=A1 (A1 G1.o (A7 _ _ _ _)) (AZ hg2);clear hg2 c1 f1;go_wp2_with fail;refine(C9 c hc _ (st.i+2) _ _ _ _ _ 3 R2.o hi2).mono ?_;rintro x w3 ⟨rfl,hR,hG⟩;go_wp2;go_ret2;exact AQ.err hR (A1 G2.o hG)
  ·exact absurd HK1.o HK.o
 ·have hk':((f:Int) == 0)=false:=by simp;omega
  go_enter Tryz.func275,Tryz.ntmps275;go_wp2;go_quiet (fail)
  go_wp2_with fail;refine(Aw c hc _ (st.i+1) (st.atoms+1) d st.bad 0 0 (((H.o.drewN nq).set2 hc _).set1 hc _) hi).mono ?_;rintro x w1 ⟨rfl,hg1⟩;have R1:Hid (Rd c w1 (st.i+1:Nat) ((st.atoms:Int)+1) d st.bad 0 0):=(((H.o.drewN nq).set2 hc ((st.atoms:Int)+1)).set1 hc ((st.i+1:Nat):Int)).kept hg1;have G1:Hid (w.grownBy w1 (some c.rb)):=A1 (A1 (AT (AA _ _) nq) (A1 (A7 _ _ _ _) (A7 _ _ _ _))) (AZ hg1);clear hg1 h0 h1 h2 f1 f2 g0;rw[HK1.o];rcases hkk with rfl|rfl
  ·have c1:w1.cell? ⟨c.rb,1,none⟩=some (.int .i64 (st.i+1:Nat)):=R1.o.cell 1;have f1:w1.frozen? ⟨c.rb,1,none⟩=false:=R1.o.frozen 1;go_wp2_with fail;refine(Aw c hc _ (st.i+2) (st.atoms+1) d st.bad 0 0 (R1.o.set1 hc _) hi2).mono ?_;rintro x w2 ⟨rfl,hg2⟩;have R2:Hid (Rd c w2 (st.i+2:Nat) ((st.atoms:Int)+1) d st.bad 0 0):=(R1.o.set1 hc ((st.i+2:Nat):Int)).kept hg2;have G2:Hid (w.grownBy w2 (some c.rb)):=A1 (A1 G1.o (A7 _ _ _ _)) (AZ hg2);clear hg2 c1 f1;go_wp2_with fail;refine(C9 c hc _ (st.i+2) _ _ _ _ _ 3 R2.o hi2).mono ?_;rintro x w3 ⟨rfl,hR,hG⟩;go_wp2;go_ret2;exact AQ.err hR (A1 G2.o hG)
  ·have c1:w1.cell? ⟨c.rb,1,none⟩=some (.int .i64 (st.i+1:Nat)):=R1.o.cell 1;have f1:w1.frozen? ⟨c.rb,1,none⟩=false:=R1.o.frozen 1;go_wp2_with fail;refine(Aw c hc _ (st.i+2) (st.atoms+1) d st.bad 0 0 (R1.o.set1 hc _) hi2).mono ?_;rintro x w2 ⟨rfl,hg2⟩;have R2:Hid (Rd c w2 (st.i+2:Nat) ((st.atoms:Int)+1) d st.bad 0 0):=(R1.o.set1 hc ((st.i+2:Nat):Int)).kept hg2;have G2:Hid (w.grownBy w2 (some c.rb)):=A1 (A1 G1.o (A7 _ _ _ _)) (AZ hg2);clear hg2 c1 f1;go_wp2_with fail;refine(C9 c hc _ (st.i+2) _ _ _ _ _ 3 R2.o hi2).mono ?_;rintro x w3 ⟨rfl,hR,hG⟩;go_wp2;go_ret2;exact AQ.err hR (A1 G2.o hG)
theorem WV(hc:c.Good)(h:Rd c w st.i st.atoms d st.bad 0 0)(hi:st.i+1<c.ts.length)(hf:f<=5)(ha:st.atoms<=16)(hs:(f=0/\¬(tk c.ts (st.i+1)).kind=11)\/¬f=0)(hA:¬st.atoms=16)(hi2:st.i+2<c.ts.length)(kk:Int)(hkk:kk=10\/kk=11)(hk1:(tk c.ts (st.i+1)).kind=kk)(hk2:(tk c.ts (st.i+2)).kind=3)(hv:31<Bg (txt c.s (tk c.ts (st.i+2)))):
  Calls Tryz.prog 275 #[.pointer (some ⟨c.rb,0,none⟩),.int .i64 f] w (AQ c d (Except.error (4,(tk c.ts (st.i+2)).at_)) w):=by
 have h0:w.cell? ⟨c.rb,0,none⟩=some (.slice (some ⟨c.g,0,none⟩) c.ts.length c.cap):=h.cell 0;have h1:w.cell? ⟨c.rb,1,none⟩=some (.int .i64 st.i):=h.cell 1;have h2:w.cell? ⟨c.rb,2,none⟩=some (.int .i64 st.atoms):=h.cell 2;have f1:w.frozen? ⟨c.rb,1,none⟩=false:=h.frozen 1;have f2:w.frozen? ⟨c.rb,2,none⟩=false:=h.frozen 2;obtain⟨g0,gx,gy⟩:=hc.cell h hi;clear gx gy;obtain⟨l1,l2⟩:=h.lt;have hl:=hc.le;have hm:=hc.cap;unfold maxLen at hm;have H:=A0 h;clear h;have hA':((st.atoms:Int) == 16)=false:=by simp;omega
 obtain⟨nv,hnv⟩:∃nv,nv=Bg (txt c.s (tk c.ts (st.i+2))):=⟨_,rfl⟩;have HV:Hid (Bg (c.s.extract (tk c.ts (st.i+2)).at_ (tk c.ts (st.i+2)).to).data.toList=nv):=hnv.symm;have hsz:Hid ((c.s.extract (tk c.ts (st.i+2)).at_ (tk c.ts (st.i+2)).to).size<=400):=by have:=hc.size;show _<=_;rw[ByteArray.size_extract];omega
 rw[<-hnv]at hv;clear hnv;have k3:((tk c.ts (st.i+2)).kind != 3)=false:=by simp[hk2]
 clear hk2;have HK1:=A0 hk1;clear hk1;rcases hs with⟨rfl,hk⟩|hf0
 ·have hk':((tk c.ts (st.i+1)).kind == 11)=false:=by simp[hk]
  have HK:=A0 hk;clear hk;go_enter Tryz.func275,Tryz.ntmps275;go_wp2;go_quiet (fail)
  go_wp2_with fail;refine(Aw c hc _ (st.i+1) (st.atoms+1) d st.bad 0 0 (((H.o.drewN nq).set2 hc _).set1 hc _) hi).mono ?_;rintro x w1 ⟨rfl,hg1⟩;have R1:Hid (Rd c w1 (st.i+1:Nat) ((st.atoms:Int)+1) d st.bad 0 0):=(((H.o.drewN nq).set2 hc ((st.atoms:Int)+1)).set1 hc ((st.i+1:Nat):Int)).kept hg1;have G1:Hid (w.grownBy w1 (some c.rb)):=A1 (A1 (AT (AA _ _) nq) (A1 (A7 _ _ _ _) (A7 _ _ _ _))) (AZ hg1);clear hg1 h0 h1 h2 f1 f2 g0;rw[HK1.o];rcases hkk with rfl|rfl
  ·have c1:w1.cell? ⟨c.rb,1,none⟩=some (.int .i64 (st.i+1:Nat)):=R1.o.cell 1;have f1:w1.frozen? ⟨c.rb,1,none⟩=false:=R1.o.frozen 1;go_wp2_with fail;refine(Aw c hc _ (st.i+2) (st.atoms+1) d st.bad 0 0 (R1.o.set1 hc _) hi2).mono ?_;rintro x w2 ⟨rfl,hg2⟩;have R2:Hid (Rd c w2 (st.i+2:Nat) ((st.atoms:Int)+1) d st.bad 0 0):=(R1.o.set1 hc ((st.i+2:Nat):Int)).kept hg2;have G2:Hid (w.grownBy w2 (some c.rb)):=A1 (A1 G1.o (A7 _ _ _ _)) (AZ hg2);clear hg2 c1 f1;go_wp2_with fail;refine(Aw c hc _ (st.i+2) (st.atoms+1) d st.bad 0 0 R2.o hi2).mono ?_;rintro x w3 ⟨rfl,hg3⟩;have R3:Hid (Rd c w3 (st.i+2:Nat) ((st.atoms:Int)+1) d st.bad 0 0):=R2.o.kept hg3;have G3:Hid (w.grownBy w3 (some c.rb)):=A1 G2.o (AZ hg3);clear hg3;go_wp2_with fail;refine(Ga _ _ hsz.o).mono ?_;rintro x w4 ⟨rfl,rfl⟩;rw[HV.o];go_wp2_with fail;refine(C9 c hc _ (st.i+2) _ _ _ _ _ 4 R3.o hi2).mono ?_;rintro x w5 ⟨rfl,hR,hG⟩;go_wp2;go_ret2;exact AQ.err hR (A1 G3.o hG)
  ·exact absurd HK1.o HK.o
 ·have hk':((f:Int) == 0)=false:=by simp;omega
  go_enter Tryz.func275,Tryz.ntmps275;go_wp2;go_quiet (fail)
  go_wp2_with fail;refine(Aw c hc _ (st.i+1) (st.atoms+1) d st.bad 0 0 (((H.o.drewN nq).set2 hc _).set1 hc _) hi).mono ?_;rintro x w1 ⟨rfl,hg1⟩;have R1:Hid (Rd c w1 (st.i+1:Nat) ((st.atoms:Int)+1) d st.bad 0 0):=(((H.o.drewN nq).set2 hc ((st.atoms:Int)+1)).set1 hc ((st.i+1:Nat):Int)).kept hg1;have G1:Hid (w.grownBy w1 (some c.rb)):=A1 (A1 (AT (AA _ _) nq) (A1 (A7 _ _ _ _) (A7 _ _ _ _))) (AZ hg1);clear hg1 h0 h1 h2 f1 f2 g0;rw[HK1.o];rcases hkk with rfl|rfl
  ·have c1:w1.cell? ⟨c.rb,1,none⟩=some (.int .i64 (st.i+1:Nat)):=R1.o.cell 1;have f1:w1.frozen? ⟨c.rb,1,none⟩=false:=R1.o.frozen 1;go_wp2_with fail;refine(Aw c hc _ (st.i+2) (st.atoms+1) d st.bad 0 0 (R1.o.set1 hc _) hi2).mono ?_;rintro x w2 ⟨rfl,hg2⟩;have R2:Hid (Rd c w2 (st.i+2:Nat) ((st.atoms:Int)+1) d st.bad 0 0):=(R1.o.set1 hc ((st.i+2:Nat):Int)).kept hg2;have G2:Hid (w.grownBy w2 (some c.rb)):=A1 (A1 G1.o (A7 _ _ _ _)) (AZ hg2);clear hg2 c1 f1;go_wp2_with fail;refine(Aw c hc _ (st.i+2) (st.atoms+1) d st.bad 0 0 R2.o hi2).mono ?_;rintro x w3 ⟨rfl,hg3⟩;have R3:Hid (Rd c w3 (st.i+2:Nat) ((st.atoms:Int)+1) d st.bad 0 0):=R2.o.kept hg3;have G3:Hid (w.grownBy w3 (some c.rb)):=A1 G2.o (AZ hg3);clear hg3;go_wp2_with fail;refine(Ga _ _ hsz.o).mono ?_;rintro x w4 ⟨rfl,rfl⟩;rw[HV.o];go_wp2_with fail;refine(C9 c hc _ (st.i+2) _ _ _ _ _ 4 R3.o hi2).mono ?_;rintro x w5 ⟨rfl,hR,hG⟩;go_wp2;go_ret2;exact AQ.err hR (A1 G3.o hG)
  ·have c1:w1.cell? ⟨c.rb,1,none⟩=some (.int .i64 (st.i+1:Nat)):=R1.o.cell 1;have f1:w1.frozen? ⟨c.rb,1,none⟩=false:=R1.o.frozen 1;go_wp2_with fail;refine(Aw c hc _ (st.i+2) (st.atoms+1) d st.bad 0 0 (R1.o.set1 hc _) hi2).mono ?_;rintro x w2 ⟨rfl,hg2⟩;have R2:Hid (Rd c w2 (st.i+2:Nat) ((st.atoms:Int)+1) d st.bad 0 0):=(R1.o.set1 hc ((st.i+2:Nat):Int)).kept hg2;have G2:Hid (w.grownBy w2 (some c.rb)):=A1 (A1 G1.o (A7 _ _ _ _)) (AZ hg2);clear hg2 c1 f1;go_wp2_with fail;refine(Aw c hc _ (st.i+2) (st.atoms+1) d st.bad 0 0 R2.o hi2).mono ?_;rintro x w3 ⟨rfl,hg3⟩;have R3:Hid (Rd c w3 (st.i+2:Nat) ((st.atoms:Int)+1) d st.bad 0 0):=R2.o.kept hg3;have G3:Hid (w.grownBy w3 (some c.rb)):=A1 G2.o (AZ hg3);clear hg3;go_wp2_with fail;refine(Ga _ _ hsz.o).mono ?_;rintro x w4 ⟨rfl,rfl⟩;rw[HV.o];go_wp2_with fail;refine(C9 c hc _ (st.i+2) _ _ _ _ _ 4 R3.o hi2).mono ?_;rintro x w5 ⟨rfl,hR,hG⟩;go_wp2;go_ret2;exact AQ.err hR (A1 G3.o hG)
theorem Wa(hc:c.Good)(h:Rd c w st.i st.atoms d st.bad 0 0)(hi:st.i+1<c.ts.length)(hf:f<=5)(ha:st.atoms<=16)(hs:(f=0/\¬(tk c.ts (st.i+1)).kind=11)\/¬f=0)(hA:¬st.atoms=16)(hi2:st.i+2<c.ts.length)(hk1:(tk c.ts (st.i+1)).kind=11)(hk2:(tk c.ts (st.i+2)).kind=3)(hv:¬31<Bg (txt c.s (tk c.ts (st.i+2)))):
  Calls Tryz.prog 275 #[.pointer (some ⟨c.rb,0,none⟩),.int .i64 f] w (AQ c d (Except.ok (DP 11 f (Bg (txt c.s (tk c.ts (st.i+2)))),⟨st.i+3,st.atoms+1,st.bad⟩)) w):=by
 have h0:w.cell? ⟨c.rb,0,none⟩=some (.slice (some ⟨c.g,0,none⟩) c.ts.length c.cap):=h.cell 0;have h1:w.cell? ⟨c.rb,1,none⟩=some (.int .i64 st.i):=h.cell 1;have h2:w.cell? ⟨c.rb,2,none⟩=some (.int .i64 st.atoms):=h.cell 2;have f1:w.frozen? ⟨c.rb,1,none⟩=false:=h.frozen 1;have f2:w.frozen? ⟨c.rb,2,none⟩=false:=h.frozen 2;obtain⟨g0,gx,gy⟩:=hc.cell h hi;clear gx gy;obtain⟨l1,l2⟩:=h.lt;have hl:=hc.le;have hm:=hc.cap;unfold maxLen at hm;have H:=A0 h;clear h;have hA':((st.atoms:Int) == 16)=false:=by simp;omega
 obtain⟨nv,hnv⟩:∃nv,nv=Bg (txt c.s (tk c.ts (st.i+2))):=⟨_,rfl⟩;have HV:Hid (Bg (c.s.extract (tk c.ts (st.i+2)).at_ (tk c.ts (st.i+2)).to).data.toList=nv):=hnv.symm;have hsz:Hid ((c.s.extract (tk c.ts (st.i+2)).at_ (tk c.ts (st.i+2)).to).size<=400):=by have:=hc.size;show _<=_;rw[ByteArray.size_extract];omega
 rw[<-hnv]at hv;clear hnv;have k3:((tk c.ts (st.i+2)).kind != 3)=false:=by simp[hk2]
 clear hk2;have HK1:=A0 hk1;clear hk1;rcases hs with⟨rfl,hk⟩|hf0
 ·have hk':((tk c.ts (st.i+1)).kind == 11)=false:=by simp[hk]
  have HK:=A0 hk;clear hk;go_enter Tryz.func275,Tryz.ntmps275;go_wp2;go_quiet (fail)
  go_wp2_with fail;refine(Aw c hc _ (st.i+1) (st.atoms+1) d st.bad 0 0 (((H.o.drewN nq).set2 hc _).set1 hc _) hi).mono ?_;rintro x w1 ⟨rfl,hg1⟩;have R1:Hid (Rd c w1 (st.i+1:Nat) ((st.atoms:Int)+1) d st.bad 0 0):=(((H.o.drewN nq).set2 hc ((st.atoms:Int)+1)).set1 hc ((st.i+1:Nat):Int)).kept hg1;have G1:Hid (w.grownBy w1 (some c.rb)):=A1 (A1 (AT (AA _ _) nq) (A1 (A7 _ _ _ _) (A7 _ _ _ _))) (AZ hg1);clear hg1 h0 h1 h2 f1 f2 g0;exact absurd HK1.o HK.o
 ·have hk':((f:Int) == 0)=false:=by simp;omega
  go_enter Tryz.func275,Tryz.ntmps275;go_wp2;go_quiet (fail)
  go_wp2_with fail;refine(Aw c hc _ (st.i+1) (st.atoms+1) d st.bad 0 0 (((H.o.drewN nq).set2 hc _).set1 hc _) hi).mono ?_;rintro x w1 ⟨rfl,hg1⟩;have R1:Hid (Rd c w1 (st.i+1:Nat) ((st.atoms:Int)+1) d st.bad 0 0):=(((H.o.drewN nq).set2 hc ((st.atoms:Int)+1)).set1 hc ((st.i+1:Nat):Int)).kept hg1;have G1:Hid (w.grownBy w1 (some c.rb)):=A1 (A1 (AT (AA _ _) nq) (A1 (A7 _ _ _ _) (A7 _ _ _ _))) (AZ hg1);clear hg1 h0 h1 h2 f1 f2 g0;rw[HK1.o];have c1:w1.cell? ⟨c.rb,1,none⟩=some (.int .i64 (st.i+1:Nat)):=R1.o.cell 1;have f1:w1.frozen? ⟨c.rb,1,none⟩=false:=R1.o.frozen 1;go_wp2_with fail;refine(Aw c hc _ (st.i+2) (st.atoms+1) d st.bad 0 0 (R1.o.set1 hc _) hi2).mono ?_;rintro x w2 ⟨rfl,hg2⟩;have R2:Hid (Rd c w2 (st.i+2:Nat) ((st.atoms:Int)+1) d st.bad 0 0):=(R1.o.set1 hc ((st.i+2:Nat):Int)).kept hg2;have G2:Hid (w.grownBy w2 (some c.rb)):=A1 (A1 G1.o (A7 _ _ _ _)) (AZ hg2);clear hg2 c1 f1;go_wp2_with fail;refine(Aw c hc _ (st.i+2) (st.atoms+1) d st.bad 0 0 R2.o hi2).mono ?_;rintro x w3 ⟨rfl,hg3⟩;have R3:Hid (Rd c w3 (st.i+2:Nat) ((st.atoms:Int)+1) d st.bad 0 0):=R2.o.kept hg3;have G3:Hid (w.grownBy w3 (some c.rb)):=A1 G2.o (AZ hg3);clear hg3;go_wp2_with fail;refine(Ga _ _ hsz.o).mono ?_;rintro x w4 ⟨rfl,rfl⟩;rw[HV.o];have c1:w4.cell? ⟨c.rb,1,none⟩=some (.int .i64 (st.i+2:Nat)):=R3.o.cell 1;have f1:w4.frozen? ⟨c.rb,1,none⟩=false:=R3.o.frozen 1;go_wp2;go_ret2;exact WX hc R3.o G3.o (by omega) hv HV.o
theorem Wc(hc:c.Good)(h:Rd c w st.i st.atoms d st.bad 0 0)(hi:st.i+1<c.ts.length)(hf:f<=5)(ha:st.atoms<=16)(hs:(f=0/\¬(tk c.ts (st.i+1)).kind=11)\/¬f=0)(hA:¬st.atoms=16)(hi2:st.i+2<c.ts.length)(hk1:(tk c.ts (st.i+1)).kind=10)(hk2:(tk c.ts (st.i+2)).kind=3)(hv:¬31<Bg (txt c.s (tk c.ts (st.i+2)))):
  Calls Tryz.prog 275 #[.pointer (some ⟨c.rb,0,none⟩),.int .i64 f] w (AQ c d (Except.ok (DP 10 f (Bg (txt c.s (tk c.ts (st.i+2)))),⟨st.i+3,st.atoms+1,st.bad⟩)) w):=by
 have h0:w.cell? ⟨c.rb,0,none⟩=some (.slice (some ⟨c.g,0,none⟩) c.ts.length c.cap):=h.cell 0;have h1:w.cell? ⟨c.rb,1,none⟩=some (.int .i64 st.i):=h.cell 1;have h2:w.cell? ⟨c.rb,2,none⟩=some (.int .i64 st.atoms):=h.cell 2;have f1:w.frozen? ⟨c.rb,1,none⟩=false:=h.frozen 1;have f2:w.frozen? ⟨c.rb,2,none⟩=false:=h.frozen 2;obtain⟨g0,gx,gy⟩:=hc.cell h hi;clear gx gy;obtain⟨l1,l2⟩:=h.lt;have hl:=hc.le;have hm:=hc.cap;unfold maxLen at hm;have H:=A0 h;clear h;have hA':((st.atoms:Int) == 16)=false:=by simp;omega
 obtain⟨nv,hnv⟩:∃nv,nv=Bg (txt c.s (tk c.ts (st.i+2))):=⟨_,rfl⟩;have HV:Hid (Bg (c.s.extract (tk c.ts (st.i+2)).at_ (tk c.ts (st.i+2)).to).data.toList=nv):=hnv.symm;have hsz:Hid ((c.s.extract (tk c.ts (st.i+2)).at_ (tk c.ts (st.i+2)).to).size<=400):=by have:=hc.size;show _<=_;rw[ByteArray.size_extract];omega
 rw[<-hnv]at hv;clear hnv;have k3:((tk c.ts (st.i+2)).kind != 3)=false:=by simp[hk2]
 clear hk2;have HK1:=A0 hk1;clear hk1;rcases hs with⟨rfl,hk⟩|hf0
 ·have hk':((tk c.ts (st.i+1)).kind == 11)=false:=by simp[hk]
  have HK:=A0 hk;clear hk;go_enter Tryz.func275,Tryz.ntmps275;go_wp2;go_quiet (fail)
  go_wp2_with fail;refine(Aw c hc _ (st.i+1) (st.atoms+1) d st.bad 0 0 (((H.o.drewN nq).set2 hc _).set1 hc _) hi).mono ?_;rintro x w1 ⟨rfl,hg1⟩;have R1:Hid (Rd c w1 (st.i+1:Nat) ((st.atoms:Int)+1) d st.bad 0 0):=(((H.o.drewN nq).set2 hc ((st.atoms:Int)+1)).set1 hc ((st.i+1:Nat):Int)).kept hg1;have G1:Hid (w.grownBy w1 (some c.rb)):=A1 (A1 (AT (AA _ _) nq) (A1 (A7 _ _ _ _) (A7 _ _ _ _))) (AZ hg1);clear hg1 h0 h1 h2 f1 f2 g0;rw[HK1.o];have c1:w1.cell? ⟨c.rb,1,none⟩=some (.int .i64 (st.i+1:Nat)):=R1.o.cell 1;have f1:w1.frozen? ⟨c.rb,1,none⟩=false:=R1.o.frozen 1;go_wp2_with fail;refine(Aw c hc _ (st.i+2) (st.atoms+1) d st.bad 0 0 (R1.o.set1 hc _) hi2).mono ?_;rintro x w2 ⟨rfl,hg2⟩;have R2:Hid (Rd c w2 (st.i+2:Nat) ((st.atoms:Int)+1) d st.bad 0 0):=(R1.o.set1 hc ((st.i+2:Nat):Int)).kept hg2;have G2:Hid (w.grownBy w2 (some c.rb)):=A1 (A1 G1.o (A7 _ _ _ _)) (AZ hg2);clear hg2 c1 f1;go_wp2_with fail;refine(Aw c hc _ (st.i+2) (st.atoms+1) d st.bad 0 0 R2.o hi2).mono ?_;rintro x w3 ⟨rfl,hg3⟩;have R3:Hid (Rd c w3 (st.i+2:Nat) ((st.atoms:Int)+1) d st.bad 0 0):=R2.o.kept hg3;have G3:Hid (w.grownBy w3 (some c.rb)):=A1 G2.o (AZ hg3);clear hg3;go_wp2_with fail;refine(Ga _ _ hsz.o).mono ?_;rintro x w4 ⟨rfl,rfl⟩;rw[HV.o];have c1:w4.cell? ⟨c.rb,1,none⟩=some (.int .i64 (st.i+2:Nat)):=R3.o.cell 1;have f1:w4.frozen? ⟨c.rb,1,none⟩=false:=R3.o.frozen 1;go_wp2;go_ret2;exact Oh hc R3.o G3.o (by omega) hv HV.o
 ·have hk':((f:Int) == 0)=false:=by simp;omega
  go_enter Tryz.func275,Tryz.ntmps275;go_wp2;go_quiet (fail)
  go_wp2_with fail;refine(Aw c hc _ (st.i+1) (st.atoms+1) d st.bad 0 0 (((H.o.drewN nq).set2 hc _).set1 hc _) hi).mono ?_;rintro x w1 ⟨rfl,hg1⟩;have R1:Hid (Rd c w1 (st.i+1:Nat) ((st.atoms:Int)+1) d st.bad 0 0):=(((H.o.drewN nq).set2 hc ((st.atoms:Int)+1)).set1 hc ((st.i+1:Nat):Int)).kept hg1;have G1:Hid (w.grownBy w1 (some c.rb)):=A1 (A1 (AT (AA _ _) nq) (A1 (A7 _ _ _ _) (A7 _ _ _ _))) (AZ hg1);clear hg1 h0 h1 h2 f1 f2 g0;rw[HK1.o];have c1:w1.cell? ⟨c.rb,1,none⟩=some (.int .i64 (st.i+1:Nat)):=R1.o.cell 1;have f1:w1.frozen? ⟨c.rb,1,none⟩=false:=R1.o.frozen 1;go_wp2_with fail;refine(Aw c hc _ (st.i+2) (st.atoms+1) d st.bad 0 0 (R1.o.set1 hc _) hi2).mono ?_;rintro x w2 ⟨rfl,hg2⟩;have R2:Hid (Rd c w2 (st.i+2:Nat) ((st.atoms:Int)+1) d st.bad 0 0):=(R1.o.set1 hc ((st.i+2:Nat):Int)).kept hg2;have G2:Hid (w.grownBy w2 (some c.rb)):=A1 (A1 G1.o (A7 _ _ _ _)) (AZ hg2);clear hg2 c1 f1;go_wp2_with fail;refine(Aw c hc _ (st.i+2) (st.atoms+1) d st.bad 0 0 R2.o hi2).mono ?_;rintro x w3 ⟨rfl,hg3⟩;have R3:Hid (Rd c w3 (st.i+2:Nat) ((st.atoms:Int)+1) d st.bad 0 0):=R2.o.kept hg3;have G3:Hid (w.grownBy w3 (some c.rb)):=A1 G2.o (AZ hg3);clear hg3;go_wp2_with fail;refine(Ga _ _ hsz.o).mono ?_;rintro x w4 ⟨rfl,rfl⟩;rw[HV.o];have c1:w4.cell? ⟨c.rb,1,none⟩=some (.int .i64 (st.i+2:Nat)):=R3.o.cell 1;have f1:w4.frozen? ⟨c.rb,1,none⟩=false:=R3.o.frozen 1;go_wp2;go_ret2;exact Oh hc R3.o G3.o (by omega) hv HV.o
theorem WU(hc:c.Good)(h:Rd c w st.i st.atoms d st.bad 0 0)(hi:st.i<c.ts.length)(hk:(tk c.ts st.i).kind=2)(hf:f<=5)(ha:st.atoms<=16):
  Calls Tryz.prog 275 #[.pointer (some ⟨c.rb,0,none⟩),.int .i64 f] w (AQ c d (D9 c.s c.ts f st) w):=by
 have hcl:Co c.ts:=by rw[hc.toks];exact Hr _ _
 have hi1:st.i+1<c.ts.length:=hcl.next hi (by omega) (by omega);unfold D9;by_cases b1:f=0/\(tk c.ts (st.i+1)).kind=11
 ·rw[if_pos b1];obtain⟨rfl,b1⟩:=b1;exact WW c w st d hc h hi1 b1
 have hs:(f=0/\¬(tk c.ts (st.i+1)).kind=11)\/¬f=0:=by
  by_cases e:f=0
  ·exact .inl ⟨e,fun e2=>b1 ⟨e,e2⟩⟩
  ·exact .inr e
 rw[if_neg b1];by_cases b2:st.atoms=16
 ·rw[if_pos b2];exact WY c w st d f hc h hi1 hf ha hs b2
 rw[if_neg b2];by_cases b3:¬(tk c.ts (st.i+1)).kind=10/\¬(tk c.ts (st.i+1)).kind=11
 ·rw[if_pos b3];exact Wb c w st d f hc h hi1 hf ha hs b2 b3
 rw[if_neg b3];have hi2:st.i+2<c.ts.length:=hcl.next hi1 (by omega) (by omega);have hkk:(tk c.ts (st.i+1)).kind=10\/(tk c.ts (st.i+1)).kind=11:=by omega
 by_cases b4:¬(tk c.ts (st.i+2)).kind=3
 ·rw[if_pos b4];exact WZ c w st d f hc h hi1 hf ha hs b2 hi2 _ hkk rfl b4
 rw[if_neg b4];by_cases b5:31<Bg (txt c.s (tk c.ts (st.i+2)))
 ·rw[if_pos b5];exact WV c w st d f hc h hi1 hf ha hs b2 hi2 _ hkk rfl (by omega) b5
 rw[if_neg b5];rcases hkk with e|e
 ·rw[e];exact Wc c w st d f hc h hi1 hf ha hs b2 hi2 e (by omega) b5
 ·rw[e];exact Wa c w st d f hc h hi1 hf ha hs b2 hi2 e (by omega) b5
end
theorem AQ.leaf{c:Ctx}{d:Int}{w w':World}{n:Nat}{i a b:Nat}(h:Rd c w' i a d b 0 0)(hg:w.grownBy w' (some c.rb))(hn:n<2+2*192):AQ c d (.ok (.exit n,⟨i,a,b⟩)) w (.returned (.tuple #[BA n,.bool true])) w':=
 ⟨hg,_,rfl,⟨rfl,hn⟩,h⟩
theorem AQ.shape{c:Ctx}{d:Int}{r:Except (Int×Nat) (Code×St)}{w w':World}{x:Ending}(h:AQ c d r w x w'):∃v b,x=.returned (.tuple #[v,.bool b]):=by
 obtain⟨_,h⟩:=h;cases r with
 | error e=>exact⟨_,_,h.1⟩
 | ok p=>obtain⟨v,h,_⟩:=h;exact⟨_,_,h⟩
section
variable(c:Ctx)(w:World)(st:St)(d:Int)
theorem ZB(hc:c.Good)(h:Rd c w st.i st.atoms d st.bad 0 0)(hi:st.i<c.ts.length)(ht:txt c.s (tk c.ts st.i)=[105,100]):
  Calls Tryz.prog 259 #[.pointer (some ⟨c.rb,0,none⟩)] w (AQ c d (.ok (.exit 0,⟨st.i+1,st.atoms,st.bad⟩)) w):=by
 have hl:=hc.le;have hm:=hc.cap;unfold maxLen at hm;have HE:((c.s.extract (tk c.ts st.i).at_ (tk c.ts st.i).to).toList == [105,100])=true:=by rw[beq_iff_eq,ByteArray.toList_eq];exact ht
 clear ht;have H:=A0 h;clear h;go_enter Tryz.func259,Tryz.ntmps259;go_wp2_with fail;refine(Aw c hc _ st.i st.atoms d st.bad 0 0 H.o hi).mono ?_;rintro x w1 ⟨rfl,hg1⟩;have R1:Hid (Rd c w1 st.i st.atoms d st.bad 0 0):=H.o.kept hg1;have G1:=A0 hg1;clear hg1;have c1:w1.cell? ⟨c.rb,1,none⟩=some (.int .i64 st.i):=R1.o.cell 1;have f1:w1.frozen? ⟨c.rb,1,none⟩=false:=R1.o.frozen 1;go_wp2_with (go_at_call 272;refine(U9 0 _).mono ?_;rintro x w2 ⟨rfl,rfl⟩);go_ret2;exact AQ.leaf (R1.o.set1 hc _) (A1 (AZ G1.o) (A7 _ _ _ _)) (by decide)
theorem Z9(hc:c.Good)(h:Rd c w st.i st.atoms d st.bad 0 0)(hi:st.i<c.ts.length)(ht:txt c.s (tk c.ts st.i)=[100,114,111,112]):
  Calls Tryz.prog 259 #[.pointer (some ⟨c.rb,0,none⟩)] w (AQ c d (.ok (.exit 1,⟨st.i+1,st.atoms,st.bad⟩)) w):=by
 have hl:=hc.le;have hm:=hc.cap;unfold maxLen at hm;have HE:((c.s.extract (tk c.ts st.i).at_ (tk c.ts st.i).to).toList == [105,100])=false:=by rw[ByteArray.toList_eq,show(c.s.extract (tk c.ts st.i).at_ (tk c.ts st.i).to).data.toList=_ from ht];rfl
 have HE2:((c.s.extract (tk c.ts st.i).at_ (tk c.ts st.i).to).toList == [100,114,111,112])=true:=by rw[beq_iff_eq,ByteArray.toList_eq];exact ht
 clear ht;have H:=A0 h;clear h;go_enter Tryz.func259,Tryz.ntmps259;go_wp2_with fail;refine(Aw c hc _ st.i st.atoms d st.bad 0 0 H.o hi).mono ?_;rintro x w1 ⟨rfl,hg1⟩;have R1:Hid (Rd c w1 st.i st.atoms d st.bad 0 0):=H.o.kept hg1;have G1:=A0 hg1;clear hg1;have c1:w1.cell? ⟨c.rb,1,none⟩=some (.int .i64 st.i):=R1.o.cell 1;have f1:w1.frozen? ⟨c.rb,1,none⟩=false:=R1.o.frozen 1;go_wp2_with (go_at_call 273;refine(TA 0 _).mono ?_;rintro x w2 ⟨rfl,rfl⟩);go_ret2;exact AQ.leaf (R1.o.set1 hc _) (A1 (AZ G1.o) (A7 _ _ _ _)) (by decide)
theorem AQ.later{c:Ctx}{d:Int}{r:Except (Int×Nat) (Code×St)}{w w1 w':World}{x:Ending}(h:AQ c d r w1 x w')(hg:w.grownBy w1 (some c.rb)):AQ c d r w x w':=by
 refine⟨A1 hg h.1,?_⟩;obtain⟨_,h⟩:=h;cases r with
 | error e=>exact h
 | ok p=>
  obtain⟨v,h1,h2,h3⟩:=h;exact⟨v,h1,D4 h2 (fun b _ hb=>Nat.le_trans hg.size hb),h3⟩
theorem ZA(hc:c.Good)(hn:Ae w)(hr:1<c.rb)(h:Rd c w st.i st.atoms d st.bad 0 0)(hi:st.i<c.ts.length)(hk:(tk c.ts st.i).kind=2)(ha:st.atoms<=16)
  (h1:¬txt c.s (tk c.ts st.i)=[105,100]) (h2:¬txt c.s (tk c.ts st.i)=[100,114,111,112]) (f:Nat) (hf:D6 (txt c.s (tk c.ts st.i))=some f):
  Calls Tryz.prog 259 #[.pointer (some ⟨c.rb,0,none⟩)] w (AQ c d (D9 c.s c.ts f st) w):=by
 have hl:=hc.le;have hm:=hc.cap;unfold maxLen at hm;have HE:((c.s.extract (tk c.ts st.i).at_ (tk c.ts st.i).to).toList == [105,100])=false:=by rw[beq_eq_false_iff_ne,ByteArray.toList_eq];exact h1
 have HE2:((c.s.extract (tk c.ts st.i).at_ (tk c.ts st.i).to).toList == [100,114,111,112])=false:=by rw[beq_eq_false_iff_ne,ByteArray.toList_eq];exact h2
 have HF:Hid (E3 (c.s.extract (tk c.ts st.i).at_ (tk c.ts st.i).to)=.tuple #[.int .i64 (f:Int),.bool true]):=by
  show _=_;unfold E3;rw[show D6 (c.s.extract (tk c.ts st.i).at_ (tk c.ts st.i).to).data.toList=some f from hf]
 have hf5:f<=5:=by
  unfold D6 at hf;repeat' split at hf
  all_goals first|(cases hf;omega)|cases hf
 clear h1 h2 hf;have H:=A0 h;have HN:=A0 hn;have HKK:=A0 hk;clear h hn hk;go_enter Tryz.func259,Tryz.ntmps259;go_wp2_with fail;refine(Aw c hc _ st.i st.atoms d st.bad 0 0 H.o hi).mono ?_;rintro x w1 ⟨rfl,hg1⟩;have R1:Hid (Rd c w1 st.i st.atoms d st.bad 0 0):=H.o.kept hg1;have N1:Hid (Ae w1):=HN.o.grown (AZ hg1) hr;have G1:=A0 hg1;clear hg1;go_wp2_with fail;refine(Mn _ _ N1.o).mono ?_;rintro x w2 ⟨rfl,rfl⟩;rw[HF.o];go_wp2_with fail;refine(WU c _ st d f hc R1.o hi HKK.o hf5 ha).mono ?_;rintro x w3 ho;obtain⟨v,b,rfl⟩:=ho.shape;have HO:=A0 (ho.later (AZ G1.o));clear ho;go_wp2;go_ret2;exact HO.o
theorem ZC(hc:c.Good)(hn:Ae w)(hr:1<c.rb)(h:Rd c w st.i st.atoms d st.bad 0 0)(hi:st.i<c.ts.length)
  (h1:¬txt c.s (tk c.ts st.i)=[105,100]) (h2:¬txt c.s (tk c.ts st.i)=[100,114,111,112]) (hf:D6 (txt c.s (tk c.ts st.i))=none):
  Calls Tryz.prog 259 #[.pointer (some ⟨c.rb,0,none⟩)] w (AQ c d (.error (3,(tk c.ts st.i).at_)) w):=by
 have hl:=hc.le;have hm:=hc.cap;unfold maxLen at hm;have HE:((c.s.extract (tk c.ts st.i).at_ (tk c.ts st.i).to).toList == [105,100])=false:=by rw[beq_eq_false_iff_ne,ByteArray.toList_eq];exact h1
 have HE2:((c.s.extract (tk c.ts st.i).at_ (tk c.ts st.i).to).toList == [100,114,111,112])=false:=by rw[beq_eq_false_iff_ne,ByteArray.toList_eq];exact h2
 have HF:Hid (E3 (c.s.extract (tk c.ts st.i).at_ (tk c.ts st.i).to)=.tuple #[.int .i64 0,.bool false]):=by
  show _=_;unfold E3;rw[show D6 (c.s.extract (tk c.ts st.i).at_ (tk c.ts st.i).to).data.toList=none from hf]
 clear h1 h2 hf;have H:=A0 h;have HN:=A0 hn;clear h hn;go_enter Tryz.func259,Tryz.ntmps259;go_wp2_with fail;refine(Aw c hc _ st.i st.atoms d st.bad 0 0 H.o hi).mono ?_;rintro x w1 ⟨rfl,hg1⟩;have R1:Hid (Rd c w1 st.i st.atoms d st.bad 0 0):=H.o.kept hg1;have N1:Hid (Ae w1):=HN.o.grown (AZ hg1) hr;have G1:=A0 hg1;clear hg1;go_wp2_with fail;refine(Mn _ _ N1.o).mono ?_;rintro x w2 ⟨rfl,rfl⟩;rw[HF.o];go_wp2_with fail;refine(C9 c hc _ st.i _ _ _ _ _ 3 R1.o hi).mono ?_;rintro x w3 ⟨rfl,hR,hG⟩;have HR:=A0 hR;have HG:=A0 hG;clear hR hG;go_wp2;go_ret2;exact AQ.err HR.o (A1 (AZ G1.o) HG.o)
theorem Qe(hc:c.Good)(hn:Ae w)(hr:1<c.rb)(h:Rd c w st.i st.atoms d st.bad 0 0)(hi:st.i<c.ts.length)(hk:(tk c.ts st.i).kind=2)(ha:st.atoms<=16):
  Calls Tryz.prog 259 #[.pointer (some ⟨c.rb,0,none⟩)] w (AQ c d (Cz c.s c.ts st) w):=by
 unfold Cz;by_cases b1:txt c.s (tk c.ts st.i)=[105,100]
 ·rw[if_pos b1];exact ZB c w st d hc h hi b1
 rw[if_neg b1];by_cases b2:txt c.s (tk c.ts st.i)=[100,114,111,112]
 ·rw[if_pos b2];exact Z9 c w st d hc h hi b2
 rw[if_neg b2];cases hf:D6 (txt c.s (tk c.ts st.i)) with
 | none=>exact ZC c w st d hc hn hr h hi b1 b2 hf
 | some f=>exact ZA c w st d hc hn hr h hi hk ha b1 b2 f hf
end
def AE:Code->List Code
 | .seq t l=>t::AE l
 | _=>[]
def szC:Code->Nat
 | .loop t=>szC t+1
 | .scope t=>szC t+1
 | .block _ l=>szC l+1
 | .seq a b=>szC a+szC b+1
 | _=>0
theorem J3{t l:Code}(h:t∈AE l):szC t<szC l:=by
 induction l with
 | seq a b _ ih=>
  simp only[AE,List.mem_cons]at h;rcases h with rfl|h
  ·simp only[szC];omega
  ·have:=ih h;simp only[szC];omega
 | _=>simp[AE]at h
theorem UG{ok:Nat->Prop}{w:World}{l:Code}{g i n:Nat}(h:(TV ok w l).2 g i n):isT l=(AE l).all isT:=by
 induction l generalizing i n with
 | seq a b _ ih=>
  obtain⟨n',x,_,_,_,h4⟩:=h;simp only[isT,AE,List.all_cons,ih h4]
 | skip=>rfl
 | _=>exact h.elim
theorem Gj{ok:Nat->Prop}{w:World}{l:Code}{g i n:Nat}(h:(TV ok w l).2 g i n):(AE l).length=n/\∀j (hj:j<(AE l).length),∃x,w.cell? ⟨g,i+j,none⟩=some x/\(TV ok w ((AE l)[j])).1 x:=by
 induction l generalizing i n with
 | seq a b _ ih=>
  obtain⟨n',x,rfl,h2,h3,h4⟩:=h;obtain⟨e1,e2⟩:=ih h4;refine⟨by simp[AE,e1],fun j hj=>?_⟩;cases j with
  | zero=>exact⟨x,h2,h3⟩
  | succ j=>
   obtain⟨y,y1,y2⟩:=e2 j (by simpa[AE] using hj);exact⟨y,by rw[show i+(j+1)=i+1+j by omega];exact y1,y2⟩
 | skip=>
  simp[TV]at h;exact⟨by simp[AE,h],fun j hj=>by simp[AE]at hj⟩
 | _=>exact h.elim
theorem Fv(k:Int)(w:World):Calls Tryz.prog 329 #[.agg #[.int .i64 k]] w fun x w'=>x=.returned (.int .i64 k)/\w.grownBy w' none:=by
 go_enter Tryz.func329,Tryz.ntmps329;go_wp2;go_ret;exact⟨rfl,World.grownBy_alloc _ _ _⟩
theorem Jo(a b:Int)(w:World):Calls Tryz.prog 301 #[.agg #[.int .i64 a,.int .i64 b]] w fun x w'=>x=.returned (.int .i64 6)/\w.grownBy w' none:=by
 go_enter Tryz.func301,Tryz.ntmps301;go_wp2;go_ret;exact⟨rfl,World.grownBy_alloc _ _ _⟩
theorem Jn(a b:Int)(w:World):Calls Tryz.prog 316 #[.agg #[.int .i64 a,.int .i64 b]] w fun x w'=>x=.returned (.int .i64 7)/\w.grownBy w' none:=by
 go_enter Tryz.func316,Tryz.ntmps316;go_wp2;go_ret;exact⟨rfl,World.grownBy_alloc _ _ _⟩
theorem Dp(k:Int)(v:Value)(g n cap:Nat)(w:World):Calls Tryz.prog 318 #[.agg #[.int .i64 k,.slice (some ⟨g,0,none⟩) n cap]] w fun x w'=>x=.returned (.int .i64 k)/\w.grownBy w' none:=by
 go_enter Tryz.func318,Tryz.ntmps318;go_wp2;go_ret;exact⟨rfl,World.grownBy_alloc _ _ _⟩
@[go_sem] theorem Tryz.methKindLeaf (a : Array Value) (w : World) : Sem.run Tryz.prog (method 479 317 (.agg a) "Kind") w = .ok (329, .agg a) w := by kernel_rfl
@[go_sem] theorem Tryz.methKindTest (a : Array Value) (w : World) : Sem.run Tryz.prog (method 479 177 (.agg a) "Kind") w = .ok (301, .agg a) w := by kernel_rfl
@[go_sem] theorem Tryz.methKindSetting (a : Array Value) (w : World) : Sem.run Tryz.prog (method 479 178 (.agg a) "Kind") w = .ok (316, .agg a) w := by kernel_rfl
@[go_sem] theorem Tryz.methKindGroup (a : Array Value) (w : World) : Sem.run Tryz.prog (method 479 234 (.agg a) "Kind") w = .ok (318, .agg a) w := by kernel_rfl
@[go_sem] theorem Tryz.methTextLeaf (a : Array Value) (w : World) : Sem.run Tryz.prog (method 479 317 (.agg a) "Text") w = .ok (330, .agg a) w := by kernel_rfl
@[go_sem] theorem Tryz.methTextTest (a : Array Value) (w : World) : Sem.run Tryz.prog (method 479 177 (.agg a) "Text") w = .ok (302, .agg a) w := by kernel_rfl
@[go_sem] theorem Tryz.methTextSetting (a : Array Value) (w : World) : Sem.run Tryz.prog (method 479 178 (.agg a) "Text") w = .ok (317, .agg a) w := by kernel_rfl
@[go_sem] theorem Tryz.methTextGroup (a : Array Value) (w : World) : Sem.run Tryz.prog (method 479 234 (.agg a) "Text") w = .ok (319, .agg a) w := by kernel_rfl
@[go_sem] theorem Tryz.fieldGroup0(x y:Value)(w:World):Sem.run Tryz.prog (Instr.field 234 (.agg #[x,y]) 0) w=.ok x w:=by kernel_rfl
@[go_sem] theorem Tryz.fieldGroup1(x y:Value)(w:World):Sem.run Tryz.prog (Instr.field 234 (.agg #[x,y]) 1) w=.ok y w:=by kernel_rfl
@[go_sem] theorem Tryz.assertGroup(a:Array Value)(w:World):Sem.run Tryz.prog (Instr.typeAssert (.iface 234 (.agg a)) 101 234 false) w=.ok (.agg a) w:=by kernel_rfl
theorem NL(n:Nat)(w:World)(hn:n<2+2*192):Calls Tryz.prog 276 #[BA n] w fun x w'=>x=.returned (.bool (isT (.exit n)))/\w.grownBy w' none:=by
 unfold BA;by_cases h0:n=0
 ·subst h0;rw[if_pos rfl];go_enter Tryz.func276,Tryz.ntmps276;go_wp2_with (go_at_call 329;refine(Fv _ _).mono ?_;rintro x w1 ⟨rfl,hg⟩);go_ret;exact⟨rfl,hg⟩
 rw[if_neg h0];by_cases h1:n=1
 ·subst h1;rw[if_pos rfl];go_enter Tryz.func276,Tryz.ntmps276;go_wp2_with (go_at_call 329;refine(Fv _ _).mono ?_;rintro x w1 ⟨rfl,hg⟩);go_ret;exact⟨rfl,hg⟩
 rw[if_neg h1];by_cases h2:n%2=0
 ·have HI:Hid (isT (.exit n)=true):=by show _=_;simp[isT,h2]
  rw[if_pos h2];generalize (n-2)/2/32=a;generalize (n-2)/2%32=b;clear h0 h1 h2 hn;go_enter Tryz.func276,Tryz.ntmps276;go_wp2_with (go_at_call 301;refine(Jo _ _ _).mono ?_;rintro x w1 ⟨rfl,hg⟩);go_ret;rw[HI.o];exact⟨rfl,hg⟩
 ·have HI:Hid (isT (.exit n)=false):=by show _=_;simp[isT];omega
  rw[if_neg h2];generalize (n-2)/2/32=a;generalize (n-2)/2%32=b;clear h0 h1 h2 hn;go_enter Tryz.func276,Tryz.ntmps276;go_wp2_with (go_at_call 316;refine(Jn _ _ _).mono ?_;rintro x w1 ⟨rfl,hg⟩);go_ret;rw[HI.o];exact⟨rfl,hg⟩
theorem UM(g n cap:Nat)(w:World):Calls Tryz.prog 276 #[BN 2 g n cap] w fun x w'=>x=.returned (.bool false)/\w.grownBy w' none:=by
 unfold BN;go_enter Tryz.func276,Tryz.ntmps276;go_wp2_with (go_at_call 318;refine(Dp _ undef _ _ _ _).mono ?_;rintro x w1 ⟨rfl,hg⟩);go_ret;exact⟨rfl,hg⟩
theorem UL(g n cap:Nat)(w:World):Calls Tryz.prog 276 #[BN 3 g n cap] w fun x w'=>x=.returned (.bool true)/\w.grownBy w' none:=by
 unfold BN;go_enter Tryz.func276,Tryz.ntmps276;go_wp2_with (go_at_call 318;refine(Dp _ undef _ _ _ _).mono ?_;rintro x w1 ⟨rfl,hg⟩);go_ret;exact⟨rfl,hg⟩
theorem RY{l:Code}(hi:isT l=(AE l).all isT)(h:∀j (hj:j<(AE l).length),isT ((AE l)[j])=true):isT l=true:=by
 rw[hi,List.all_eq_true];intro t ht;obtain⟨j,hj,rfl⟩:=List.mem_iff_getElem.1 ht;exact h j hj
theorem RU{l:Code}{n k:Nat}(hi:isT l=(AE l).all isT)(hl:(AE l).length=n)(hk:k<n)(h:false=isT ((AE l)[k]'(by rw[hl];exact hk))):isT l=false:=by
 rw[hi,List.all_eq_false];exact⟨_,List.getElem_mem _,by rw[<-h];simp⟩
theorem UK(ok:Nat->Prop)(k:Nat)(l:Code)(g n cap:Nat)(w:World)(hk:k<=1)(hn:n<=1000)(h:(TV ok w l).2 g 0 n)
  (ih:∀t,t∈AE l->∀v w,(TV ok w t).1 v->Calls Tryz.prog 276 #[v] w fun x w'=>x=.returned (.bool (isT t))/\w.grownBy w' none):
  Calls Tryz.prog 276 #[BN k g n cap] w fun x w'=>x=.returned (.bool (isT l))/\w.grownBy w' none:=by
 obtain⟨hlen,hel⟩:=Gj h;have HI:Hid (isT l=(AE l).all isT):=UG h;have HL:=A0 hlen;have HE:=A0 hel;have IH:=A0 ih;clear h hlen hel ih;unfold BN;have hk':k=0\/k=1:=by omega
 rcases hk' with rfl|rfl
 all_goals
  go_enter Tryz.func276,Tryz.ntmps276;go_wp2_with (go_at_call 318;refine(Dp _ undef _ _ _ _).mono ?_;rintro x w1 ⟨rfl,hg⟩);have G1:=A0 hg;clear hg;go_loopw [17] (fun i wr=>∃k:Nat,k<=n/\i=.int .i64 k/\w.grownBy wr none/\∀j (hj:j<(AE l).length),j<k->isT ((AE l)[j])=true) (fun i _=>n-(intOf i).toNat)
  case atStart=>exact⟨0,Nat.zero_le _,rfl,G1.o,fun j _ hj=>by omega⟩
  case round=>
   obtain⟨k,hk,rfl,hg,hall⟩:=hrel;have HA:=A0 hall;have HG:=A0 hg;clear hall hg;by_cases hlt:k<n
   ·obtain⟨x,hx,hv⟩:=HE.o k (by rw[HL.o];exact hlt);rw[Nat.zero_add]at hx;have hx':wr.cell? ⟨g,k,none⟩=some x:=HG.o.cell hx (by simp);have hc:=A0 (IH.o _ (List.getElem_mem _) x wr (C6 hv HG.o));clear hx hv;obtain⟨bt,hbt⟩:∃bt,bt=isT ((AE l)[k]'(by rw[HL.o];exact hlt)):=⟨_,rfl⟩;have HBT:=A0 hbt;rw[<-hbt]at hc;clear hbt;cases bt
    ·go_wp2_with (go_at_call 276;refine hc.o.mono ?_;rintro y w2 ⟨rfl,hg2⟩);go_ret;exact⟨by rw[RU HI.o HL.o hlt HBT.o];rfl,A1 HG.o hg2⟩
    ·go_wp2_with (go_at_call 276;refine hc.o.mono ?_;rintro y w2 ⟨rfl,hg2⟩);go_roundw
     case rel=>exact⟨k+1,by omega,by go_num,A1 HG.o hg2,fun j hj hj2=>by
      by_cases e:j=k
      ·subst e;exact HBT.o.symm
      ·exact HA.o j hj (by omega)⟩
     case measure=>simp[intOf];omega
   ·go_wp2;go_ret;exact⟨by rw[RY HI.o (fun j hj=>HA.o j hj (by have:=HL.o;omega))];rfl,HG.o⟩
theorem UJ(ok:Nat->Prop):∀(n:Nat) (t:Code) (v:Value) (w:World),szC t<=n->(TV ok w t).1 v->Calls Tryz.prog 276 #[v] w fun x w'=>x=.returned (.bool (isT t))/\w.grownBy w' none:=by
 intro n;induction n with
 | zero=>
  intro t v w hn h;cases t with
  | exit m=>obtain⟨rfl,hm⟩:=h;exact NL m w hm
  | loop t=>simp[szC]at hn
  | scope t=>simp[szC]at hn
  | block k l=>simp[szC]at hn
  | _=>exact h.elim
 | succ n ih=>
  intro t v w hn h;cases t with
  | exit m=>obtain⟨rfl,hm⟩:=h;exact NL m w hm
  | loop t=>obtain⟨g,cap,x,rfl,_⟩:=h;exact UM g 1 cap w
  | scope t=>obtain⟨g,cap,x,rfl,_⟩:=h;exact UL g 1 cap w
  | block k l=>
   obtain⟨g,m,cap,rfl,hk,hr,hm,_,hl⟩:=h;exact UK ok k l g m cap w hk hm hl (fun t ht v w hv=>ih t v w (by have:=J3 ht;simp only[szC]at hn;omega) hv)
  | _=>exact h.elim
def DJ(c:Ctx)(fn:Nat)(d:Int)(p:St->Except (Int×Nat) (Code×St)):Prop:=
 ∀(w:World) (st:St),Ae w->Rd c w st.i st.atoms d st.bad 0 0->st.i<c.ts.length->st.atoms<=16->Calls Tryz.prog fn #[.pointer (some ⟨c.rb,0,none⟩)] w (AQ c d (p st) w)
theorem Ei{B rb:Nat}{w w':World}{t:Code}{v:Value}(h:(TV (fun b=>B<=b) w t).1 v)(hg:w.grownBy w' (some rb))(hr:rb<B):(TV (fun b=>B<=b) w' t).1 v:=
 Dh h hg (fun b hb e=>by cases e;omega)
def EU(c:Ctx)(w:World):Nat:=(intOf ((w.cell? ⟨c.rb,1,none⟩).getD undef)).toNat
theorem Rd.pos{c:Ctx}{w:World}{i:Nat}{a d b e p:Int}(h:Rd c w i a d b e p):EU c w=i:=by
 unfold EU;rw[show w.cell? ⟨c.rb,1,none⟩=some (.int .i64 (i:Int)) from h.cell 1];simp[intOf]
theorem Ctx.Good.closed{c:Ctx}(hc:c.Good):Co c.ts:=by rw[hc.toks];exact Hr _ _
theorem Ctx.Good.few{c:Ctx}(hc:c.Good):c.ts.length<=401:=by
 have:=QL c.s true;have:=hc.size;rw[hc.toks];omega
theorem We(c:Ctx)(d:Int)(p:St->Except (Int×Nat) (Code×St))(w:World)(st:St)(en:Int)(pl:Nat)
  (h:Calls Tryz.prog 233 #[.pointer (some ⟨c.rb,0,none⟩)] w (AQ c d (.error (en,pl)) w)):
  Calls Tryz.prog 187 #[.pointer (some ⟨c.rb,0,none⟩)] w (AQ c d (.error (en,pl)) w):=by
 have H:=A0 h;clear h;go_enter Tryz.func187,Tryz.ntmps187;go_wp2_with fail;refine H.o.mono ?_;rintro x w1 ⟨hg1,rfl,hr1⟩;have G1:=A0 hg1;have R1:=A0 hr1;clear hg1 hr1;go_wp2;refine wp_loop_rounds 1 ?_;rw[rounds_succ];go_wp2;go_ret2;exact⟨G1.o,rfl,R1.o⟩
theorem Wf(c:Ctx)(hc:c.Good)(d:Int)(w:World)(st:St)(t1:Code)(st1:St)(hi1:st1.i<c.ts.length)(hrb:c.rb<w.heap.size)
  (h:Calls Tryz.prog 233 #[.pointer (some ⟨c.rb,0,none⟩)] w (AQ c d (.ok (t1,st1)) w)):
  Calls Tryz.prog 187 #[.pointer (some ⟨c.rb,0,none⟩)] w (AQ c d (.ok ((Bh c.ts c.ts.length t1 st1.i).1,⟨(Bh c.ts c.ts.length t1 st1.i).2,st1.atoms,st1.bad⟩)) w):=by
 have H:=A0 h;clear h;have hfew:=hc.few;go_enter Tryz.func187,Tryz.ntmps187;go_wp2_with fail;refine H.o.mono ?_;rintro x w1 ⟨hg1,v1,rfl,ht1,hr1⟩;have G1:=A0 hg1;have R1:=A0 hr1;have T1:=A0 ht1;clear hg1 hr1 ht1;go_wp2;go_loopw [4] (fun v wr=>∃(f:Nat) (t:Code) (i:Nat),Bh c.ts c.ts.length t1 st1.i=Bh c.ts f t i/\c.ts.length<=f+i/\i<c.ts.length/\(TV (fun b=>w.heap.size<=b) wr t).1 v/\Rd c wr i st1.atoms d st1.bad 0 0/\w.grownBy wr (some c.rb)) (fun _ wr=>c.ts.length-EU c wr)
 case atStart=>exact⟨c.ts.length,t1,st1.i,rfl,by omega,hi1,T1.o,R1.o,G1.o⟩
 case round=>
  obtain⟨f,t,i,he,hf,hi,ht,hr,hg⟩:=hrel;have HE:=A0 he;have HT:=A0 ht;have HR:=A0 hr;have HG:=A0 hg;have HP:Hid (EU c wr=i):=hr.pos;clear he ht hr hg;obtain⟨f,rfl⟩:∃f',f=f'+1:=⟨f-1,by omega⟩;by_cases hk:(tk c.ts i).kind=6
  ·have HS:Hid (Bh c.ts (f+1) t i=Bh c.ts f (.loop t) (i+1)):=by show _=_;rw[Bh,if_pos hk]
   have hi2:i+1<c.ts.length:=hc.closed.next hi (by omega) (by omega);have HK:=A0 hk;clear hk;go_wp2_with fail;refine(Iz c hc _ i _ _ _ _ _ 6 HR.o hi2 HK.o).mono ?_;rintro x w2 ⟨rfl,hR2,hG2⟩;have R2:=A0 hR2;have G2:=A0 hG2;have T2:=A0 (Ei HT.o hG2 hrb);clear hR2 hG2;go_wp2_with fail;refine(Y1 (fun b=>w.heap.size<=b) _ t _ (Nat.le_trans HG.o.size G2.o.size) T2.o).mono ?_;rintro x w3 ⟨v',rfl,ht3,hg3⟩;have T3:=A0 ht3;have G3:Hid (w.grownBy w3 (some c.rb)):=A1 HG.o (A1 G2.o (AZ hg3));have R3:=A0 (R2.o.kept hg3);clear ht3 hg3;go_wp2;go_roundw
   case rel=>exact⟨f,.loop t,i+1,HE.o.trans HS.o,by omega,hi2,T3.o,R3.o,G3.o⟩
   case measure=>rw[R3.o.pos,HP.o];omega
  ·have HS:Hid (Bh c.ts (f+1) t i=(t,i)):=by show _=_;rw[Bh,if_neg hk]
   have HK:=A0 hk;clear hk;go_wp2_with fail;refine(Iy c hc _ i _ _ _ _ _ 6 HR.o hi HK.o).mono ?_;rintro x w2 ⟨rfl,hR2,hG2⟩;have R2:=A0 hR2;have G2:=A0 hG2;clear hR2 hG2;go_wp2;go_ret2;refine⟨A1 HG.o G2.o,_,rfl,?_,?_⟩
   ·rw[HE.o,HS.o];exact Ei HT.o G2.o hrb
   ·rw[HE.o,HS.o];exact R2.o
theorem Wd(c:Ctx)(hc:c.Good)(d:Int){p:St->Except (Int×Nat) (Code×St)}(hp:DJ c 233 d p)(hg:Cf c.ts p):DJ c 187 d (DD c.ts p):=by
 intro w st hn h hi ha;have H:=hp w st hn h hi ha;unfold DD;cases hres:p st with
 | error e=>
  rw[hres]at H;exact We c d p w st e.1 e.2 H
 | ok r=>
  rw[hres]at H;exact Wf c hc d w st r.1 r.2 (hg st r.1 r.2 hi ha hres).2.1 h.lt.1 H
def TVs(ok:Nat->Prop)(w:World):List Code->List Value->Prop
 | [],[]=>True
 | t::ts,v::vs=>(TV ok w t).1 v/\TVs ok w ts vs
 | _,_=>False
def okv(B:Nat)(v:Value)(b:Nat):Prop:=B<=b/\some b≠v.ownBlock
def EW(acc:List Code)(r:Except (Int×Nat) (List Code×St)):Except (Int×Nat) (List Code×St):=
 match r with
 | .error e=>.error e
 | .ok (l,st)=>.ok (acc++l,st)
theorem P8(a b:List Code)(r:Except (Int×Nat) (List Code×St)):EW a (EW b r)=EW (a++b) r:=by
 cases r with
 | error e=>rfl
 | ok p=>simp[EW]
section
variable{ok ok':Nat->Prop}{w w':World}
theorem Qq:∀{ts:List Code} {vs:List Value},TVs ok w ts vs->ts.length=vs.length
 | [],[],_=>rfl
 | t::ts,v::vs,h=>by simp[Qq h.2]
 | [],_::_,h=>h.elim
 | _::_,[],h=>h.elim
theorem EH(hm:∀t v,(TV ok w t).1 v->(TV ok' w' t).1 v):∀{ts:List Code} {vs:List Value},TVs ok w ts vs->TVs ok' w' ts vs
 | [],[],_=>trivial
 | t::ts,v::vs,h=>⟨hm t v h.1,EH hm h.2⟩
 | [],_::_,h=>h.elim
 | _::_,[],h=>h.elim
theorem Lc{t:Code}{v:Value}(hv:(TV ok w t).1 v):∀{ts:List Code} {vs:List Value},TVs ok w ts vs->TVs ok w (ts++[t]) (vs++[v])
 | [],[],_=>⟨hv,trivial⟩
 | _::ts,_::vs,h=>⟨h.1,Lc hv h.2⟩
 | [],_::_,h=>h.elim
 | _::_,[],h=>h.elim
theorem JM{g:Nat}:∀{ts:List Code} {vs:List Value} (i:Nat),TVs ok w ts vs->(∀j x,vs[j]?=some x->w.cell? ⟨g,i+j,none⟩=some x)->(TV ok w (Ac ts)).2 g i ts.length
 | [],[],i,_,_=>rfl
 | t::ts,v::vs,i,h,hc=>⟨ts.length,v,rfl,hc 0 v rfl,h.1,JM (i+1) h.2 fun j x hj=>by rw[show i+1+j=i+(j+1) by omega];exact hc (j+1) x (by simpa using hj)⟩
 | [],_::_,_,h,_=>h.elim
 | _::_,[],_,h,_=>h.elim
end
theorem GF{w w1:World}{B e size rb:Nat}{v:Value}{n:Nat}{xs:List Value}(h:w.ownsRow B e size v n xs)(hg:w.grownBy w1 (some rb))(hr:rb<B):w1.ownsRow B e size v n xs:=by
 refine h.kept hg ?_;cases hv:v.ownBlock with
 | none=>exact .inl rfl
 | some k=>exact .inr (by have:=(h.lt k hv).1;intro e;cases e;omega)
theorem Rd.other{c:Ctx}{w w':World}{i a d b e p:Int}{row:Option Nat}{B:Nat}(h:Rd c w i a d b e p)(hg:w.grownBy w' row)(hr:∀k,row=some k->B<=k)(hB:c.rb<B)(hc:c.Good):Rd c w' i a d b e p:=
 ⟨by rw[hg.block _ h.lt.2 (fun e=>by have:=hr _ e.symm;have:=hc.lt;omega)];exact h.row,by rw[hg.block _ h.lt.1 (fun e=>by have:=hr _ e.symm;omega)];exact h.rd⟩
theorem Ae.other{w w':World}{row:Option Nat}{B:Nat}(h:Ae w)(hg:w.grownBy w' row)(hr:∀k,row=some k->B<=k)(hB:1<B):Ae w':=
 fun k hk=>hg.cell (h k hk) (fun e=>by have:=hr _ e.symm;simp at this;omega)
theorem Nf{c:Ctx}(hc:c.Good){w wr w1 w2:World}{v v' x:Value}{acc:List Code}{xs:List Value}{t:Code}{o:Obj}{i a d b:Int}{E:Nat}
  (hrb:c.rb<w.heap.size) (hnm:1<c.rb) (hgw:w.grownBy wr (some c.rb)) (hown:wr.ownsRow w.heap.size E 1 v acc.length xs) (htv:TVs (okv w.heap.size v) wr acc xs)
  (hg1:wr.grownBy w1 (some c.rb)) (hr1:Rd c w1 i a d b 0 0) (ht1:(TV (fun b=>wr.heap.size<=b) w1 t).1 x) (hn:Ae wr)
  (hown':w2.ownsRow w.heap.size E 1 v' (acc.length+1) (xs++[x])) (hgrow:(w1.alloc o).grownBy w2 v.ownBlock) (hat:v'.ownBlock=v.ownBlock\/v'.ownBlock=some (w1.alloc o).heap.size):
  Rd c w2 i a d b 0 0/\TVs (okv w.heap.size v') w2 (acc++[t]) (xs++[x])/\w2.ownsRow w.heap.size E 1 v' (acc++[t]).length (xs++[x])/\w.grownBy w2 (some c.rb)/\Ae w2:=by
 have hge:∀k,v.ownBlock=some k->w.heap.size<=k:=Oc hown;have hlt:∀k,v.ownBlock=some k->k<wr.heap.size:=fun k hk=>(hown.lt k hk).2
 have hga:=World.grownBy_alloc w1 o none;have hs1:=hg1.size;have hsa:w1.heap.size<(w1.alloc o).heap.size:=by simp
 -- the AK of old
 have hT:TVs (okv w.heap.size v') w2 acc xs:=by
  refine EH ?_ htv;intro t' v'' h;have a1:(TV (okv w.heap.size v) w1 t').1 v'':=Dh h hg1 (fun b hb e=>by cases e;have:=hb.1;omega);have a2:(TV (fun b=>okv w.heap.size v b/\b<w1.heap.size) w1 t').1 v'':=D4 a1 (fun b hl hb=>⟨hb,hl⟩);have a3:=Dh (C6 a2 hga) hgrow (fun b hb e=>hb.1.2 e);refine D4 a3 (fun b _ hb=>⟨hb.1.1,fun e=>?_⟩);rcases hat with h|h
  ·rw[h]at e;exact hb.1.2 e
  ·rw[h]at e;cases e;have:=hb.2;omega
 have hN:(TV (okv w.heap.size v') w2 t).1 x:=by
  have a2:(TV (fun b=>wr.heap.size<=b/\b<w1.heap.size) w1 t).1 x:=D4 ht1 (fun b hl hb=>⟨hb,hl⟩);have a3:=Dh (C6 a2 hga) hgrow (fun b hb e=>by have:=hlt b e.symm;have:=hb.1;omega);refine D4 a3 (fun b _ hb=>⟨by have:=hgw.size;have:=hb.1;omega,fun e=>?_⟩);rcases hat with h|h
  ·rw[h]at e;have:=hlt b e.symm;have:=hb.1;omega
  ·rw[h]at e;cases e;have:=hb.2;omega
 refine⟨(hr1.kept hga).other hgrow hge hrb hc,Lc hN hT,by simpa using hown',Bk (A1 (A1 hgw hg1) (AZ hga)) hgrow hge,?_⟩;exact((hn.grown hg1 hnm).other hga (B:=w.heap.size) (by simp) (by omega)).other hgrow hge (by omega)
theorem Tryz.infoNode:(Tryz.prog.info? 101).map (fun i=>(i.zero,i.size,i.bytes))=some (some .nilIface,1,16):=by kernel_rfl
theorem YG(ok:Nat->Prop)(w:World)(l:List Code)(g cap:Nat)(hr:ok g)(h0:0<l.length)(hl:l.length<=1000)(h:(TV ok w (Ac l)).2 g 0 l.length):
  Calls Tryz.prog 140 #[.slice (some ⟨g,0,none⟩) l.length cap] w fun x w'=>∃v',x=.returned v'/\(TV ok w' (Bo 0 l)).1 v'/\w'=w:=by
 have H:=A0 (NN ok w l 0 g cap (by decide) hr h0 hl h);clear h hr;generalize hn:l.length=n at *;clear hn;go_enter Tryz.func140,Tryz.ntmps140;go_wp2_with fail;refine H.o.mono ?_;rintro x w1 ⟨v',rfl,ht,rfl⟩;have T:=A0 ht;clear ht;go_wp2;go_ret;exact⟨_,rfl,T.o,rfl⟩
theorem Xf(ok:Nat->Prop)(w:World)(l:List Code)(g cap:Nat)(hr:ok g)(h0:0<l.length)(hl:l.length<=1000)(h:(TV ok w (Ac l)).2 g 0 l.length):
  Calls Tryz.prog 188 #[.slice (some ⟨g,0,none⟩) l.length cap] w fun x w'=>∃v',x=.returned v'/\(TV ok w' (Bo 1 l)).1 v'/\w'=w:=by
 have H:=A0 (NN ok w l 1 g cap (by decide) hr h0 hl h);clear h hr;generalize hn:l.length=n at *;clear hn;go_enter Tryz.func188,Tryz.ntmps188;go_wp2_with fail;refine H.o.mono ?_;rintro x w1 ⟨v',rfl,ht,rfl⟩;have T:=A0 ht;clear ht;go_wp2;go_ret;exact⟨_,rfl,T.o,rfl⟩
theorem Od{w:World}{B e:Nat}{v:Value}{n:Nat}{xs:List Value}(h:w.ownsRow B e 1 v n xs)(hn:0<n):
  ∃g cap,v=.slice (some ⟨g,0,none⟩) n cap/\(∀j x,xs[j]?=some x->w.cell? ⟨g,j,none⟩=some x)/\B<=g:=by
 rcases h.2 with⟨_,h0⟩|⟨g,cap,cur,rfl,hb,_⟩
 ·omega
 ·refine⟨g,cap,rfl,fun j x hj=>?_,hb⟩;have:=h.cells (g:=g) rfl j x hj;have hadd:(⟨g,0,none⟩:Addr).add j=⟨g,j,none⟩:=by unfold Addr.add;split<;>simp_all
  rwa [hadd]at this
theorem Uw(c:Ctx)(hc:c.Good)(hnm:1<c.rb)(d:Int){p:St->Except (Int×Nat) (Code×St)}(hp:DJ c 187 d p)(hgo:Cf c.ts p)(w:World)(st:St)(hn:Ae w)
  (h:Rd c w st.i st.atoms d st.bad 0 0) (hi:st.i<c.ts.length) (ha:st.atoms<=16):
  Calls Tryz.prog 138 #[.pointer (some ⟨c.rb,0,none⟩),.func (.func 187) #[.pointer (some ⟨c.rb,0,none⟩)] #[],.int .i64 5,.func (.func 188) #[] #[]] w
   (AQ c d (DN 1 (Ar c.ts 5 p c.ts.length st)) w):=by
 obtain⟨i0,hi0,hz0,hz1,hz2⟩:=info_parts Tryz.infoNode;have hfew:=hc.few;have hrb:=h.lt.1;have HP:=A0 hp;have HGO:=A0 hgo;have HN:=A0 hn;have H:=A0 h;clear hp hgo hn h;obtain⟨r0,hr0⟩:∃r0,r0=Ar c.ts 5 p c.ts.length st:=⟨_,rfl⟩;rw[<-hr0];have HR0:=A0 hr0;clear hr0;go_enter Tryz.func138,Tryz.ntmps138;go_wp2
 go_loopw [10] (fun v wr=>∃(f:Nat) (acc:List Code) (xs:List Value) (st1:St),r0=EW acc (Ar c.ts 5 p f st1)/\c.ts.length<=f+st1.i/\st1.i<c.ts.length/\st1.atoms<=16/\acc.length<=st1.i/\
   wr.ownsRow w.heap.size 101 1 v acc.length xs/\TVs (okv w.heap.size v) wr acc xs/\Rd c wr st1.i st1.atoms d st1.bad 0 0/\w.grownBy wr (some c.rb)/\Ae wr) (fun _ wr=>c.ts.length-EU c wr)
 case atStart=>exact⟨c.ts.length,[],[],st,by rw[HR0.o];cases Ar c.ts 5 p c.ts.length st<;>rfl,by omega,hi,ha,Nat.zero_le _,World.ownsRow_nil _ _ _ _,trivial,H.o,AA _ _,HN.o⟩
 case round=>
  obtain⟨f,acc,xs,st1,he,hf,hi1,ha1,hacc,hown,htv,hr,hg,hn⟩:=hrel;have HE:=A0 he;have HO:=A0 hown;have HT:=A0 htv;have HR:=A0 hr;have HG:=A0 hg;have HNM:=A0 hn;have HPS:Hid (EU c wr=st1.i):=hr.pos;have C1:=A0 (HP.o wr st1 hn hr hi1 ha1);clear he hown htv hr hg hn;obtain⟨f,rfl⟩:∃f',f=f'+1:=⟨f-1,by omega⟩;cases hres:p st1 with
  | error e=>
   obtain⟨en,pl⟩:=e;have HF:Hid (r0=.error (en,pl)):=by show _=_;rw[HE.o,Ar,hres];rfl
   rw[hres]at C1;clear hres;go_wp2_with fail;refine C1.o.mono ?_;rintro x w1 ⟨hg1,rfl,hr1⟩;have G1:=A0 hg1;have R1:=A0 hr1;clear hg1 hr1;go_wp2;go_ret2;rw[HF.o];exact⟨A1 HG.o G1.o,rfl,R1.o⟩
  | ok r=>
   obtain⟨t,st2⟩:=r;have hst2:=HGO.o st1 t st2 hi1 ha1 hres
   have HF:Hid (Ar c.ts 5 p (f+1) st1=if (tk c.ts st2.i).kind=5 then EW [t] (Ar c.ts 5 p f ⟨st2.i+1,st2.atoms,st2.bad⟩) else .ok ([t],st2)):=by
    show _=_;rw[Ar,hres];simp only;split
    ·cases Ar c.ts 5 p f ⟨st2.i+1,st2.atoms,st2.bad⟩<;>rfl
    ·rfl
   rw[hres]at C1;clear hres;obtain⟨g1,g2,g3,g4⟩:=hst2;go_wp2_with fail;refine C1.o.mono ?_;rintro x w1 ⟨hg1,v1,rfl,ht1,hr1⟩;obtain⟨T1,u1,rfl⟩:=CI ht1;have HO1:=A0 (GF HO.o hg1 hrb);have G1:=A0 hg1;have R1:=A0 hr1;have TT1:=A0 ht1;clear hg1 hr1 ht1;go_wp2_with (at_builtin;refine wpList_append_own_at _ rfl _ _ 172 rfl w.heap.size 101 i0 _ 1 16 Tryz.underlying172 hi0 hz0 hz1 hz2 rfl (by decide) _ _ _ rfl (HO1.o.alloc _) ⟨w1.heap.size,0,none⟩ 1 1 [.iface T1 u1] rfl rfl (cell_one_new _ _ _) ?d2 ?d3 ?d4 ?d5 ?_)
   case d2=>intro u hu;simp only[List.mem_cons,List.not_mem_nil,or_false]at hu;subst hu;rfl
   case d3=>unfold maxLen;omega
   case d4=>omega
   case d5=>have:=HG.o.size;have:=G1.o.size;simp;omega
   intro v' w2 hown' hgrow _ hat;obtain⟨s1,s2,s3,s4,s5⟩:=Nf hc hrb hnm HG.o HO.o HT.o G1.o R1.o TT1.o HNM.o hown' hgrow (by simpa using hat);have S1:=A0 s1;have S2:=A0 s2;have S3:=A0 s3;have S4:=A0 s4;have S5:=A0 s5;clear hown' hgrow hat s1 s2 s3 s4 s5;by_cases hk:(tk c.ts st2.i).kind=5
   ·have HF2:=A0 (HF.o.trans (if_pos hk));have hi2:st2.i+1<c.ts.length:=hc.closed.next g2 (by omega) (by omega);have HK:=A0 hk;clear hk;go_wp2_with fail;refine(Iz c hc _ st2.i _ _ _ _ _ 5 S1.o hi2 HK.o).mono ?_;rintro x w3 ⟨rfl,hR3,hG3⟩;have R3:=A0 hR3;have G3:=A0 hG3;clear hR3 hG3;go_wp2;go_roundw
    case rel=>
     refine⟨f,acc++[t],xs++[.iface T1 u1],⟨st2.i+1,st2.atoms,st2.bad⟩,?_,by simp;omega,hi2,g3,by simp;omega,GF S3.o G3.o hrb,?_,R3.o,A1 S4.o G3.o,S5.o.grown G3.o hnm⟩
     ·rw[HE.o,HF2.o,P8]
     ·exact EH (fun t v h=>Dh h G3.o (fun b hb e=>by cases e;have:=hb.1;omega)) S2.o
    case measure=>rw[R3.o.pos,HPS.o];omega
   ·have HF2:=A0 (HF.o.trans (if_neg hk));have HK:=A0 hk;clear hk;go_wp2_with fail;refine(Iy c hc _ st2.i _ _ _ _ _ 5 S1.o g2 HK.o).mono ?_;rintro x w3 ⟨rfl,hR3,hG3⟩;have R3:=A0 hR3;have G3:=A0 hG3;have O3:=A0 (GF S3.o hG3 hrb);have T3:=A0 (EH (fun t v h=>Dh h hG3 (fun b hb e=>by cases e;have:=hb.1;omega)) S2.o);clear hR3 hG3;obtain⟨g,cap,hv,hcells,hge⟩:=Od O3.o (by simp);have hch:=A0 (JM (g:=g) (ok:=fun b=>w.heap.size<=b) 0 (EH (fun t v h=>D4 h (fun b _ hb=>hb.1)) T3.o) (fun j x hj=>by rw[Nat.zero_add];exact hcells j x hj));have hj0:=Xf (fun b=>w.heap.size<=b) w3 (acc++[t]) g cap hge (by simp) (by simp;omega) hch.o;rw[show(acc++[t]).length=acc.length+1 by simp]at hj0;have HJ:=A0 hj0;clear hj0;clear hcells;subst hv;go_wp2_with fail;refine HJ.o.mono ?_;rintro x w4 ⟨v4,rfl,ht4,rfl⟩;have T4:=A0 ht4;clear ht4;go_wp2;go_ret2;rw[show r0=.ok (acc++[t],st2) by rw[HE.o,HF2.o];rfl];exact⟨A1 S4.o G3.o,_,rfl,T4.o,R3.o⟩
theorem Ux(c:Ctx)(hc:c.Good)(hnm:1<c.rb)(d:Int){p:St->Except (Int×Nat) (Code×St)}(hp:DJ c 139 d p)(hgo:Cf c.ts p)(w:World)(st:St)(hn:Ae w)
  (h:Rd c w st.i st.atoms d st.bad 0 0) (hi:st.i<c.ts.length) (ha:st.atoms<=16):
  Calls Tryz.prog 138 #[.pointer (some ⟨c.rb,0,none⟩),.func (.func 139) #[.pointer (some ⟨c.rb,0,none⟩)] #[],.int .i64 4,.func (.func 140) #[] #[]] w
   (AQ c d (DN 0 (Ar c.ts 4 p c.ts.length st)) w):=by
 obtain⟨i0,hi0,hz0,hz1,hz2⟩:=info_parts Tryz.infoNode;have hfew:=hc.few;have hrb:=h.lt.1;have HP:=A0 hp;have HGO:=A0 hgo;have HN:=A0 hn;have H:=A0 h;clear hp hgo hn h;obtain⟨r0,hr0⟩:∃r0,r0=Ar c.ts 4 p c.ts.length st:=⟨_,rfl⟩;rw[<-hr0];have HR0:=A0 hr0;clear hr0;go_enter Tryz.func138,Tryz.ntmps138;go_wp2
 go_loopw [10] (fun v wr=>∃(f:Nat) (acc:List Code) (xs:List Value) (st1:St),r0=EW acc (Ar c.ts 4 p f st1)/\c.ts.length<=f+st1.i/\st1.i<c.ts.length/\st1.atoms<=16/\acc.length<=st1.i/\
   wr.ownsRow w.heap.size 101 1 v acc.length xs/\TVs (okv w.heap.size v) wr acc xs/\Rd c wr st1.i st1.atoms d st1.bad 0 0/\w.grownBy wr (some c.rb)/\Ae wr) (fun _ wr=>c.ts.length-EU c wr)
 case atStart=>exact⟨c.ts.length,[],[],st,by rw[HR0.o];cases Ar c.ts 4 p c.ts.length st<;>rfl,by omega,hi,ha,Nat.zero_le _,World.ownsRow_nil _ _ _ _,trivial,H.o,AA _ _,HN.o⟩
 case round=>
  obtain⟨f,acc,xs,st1,he,hf,hi1,ha1,hacc,hown,htv,hr,hg,hn⟩:=hrel;have HE:=A0 he;have HO:=A0 hown;have HT:=A0 htv;have HR:=A0 hr;have HG:=A0 hg;have HNM:=A0 hn;have HPS:Hid (EU c wr=st1.i):=hr.pos;have C1:=A0 (HP.o wr st1 hn hr hi1 ha1);clear he hown htv hr hg hn;obtain⟨f,rfl⟩:∃f',f=f'+1:=⟨f-1,by omega⟩;cases hres:p st1 with
  | error e=>
   obtain⟨en,pl⟩:=e;have HF:Hid (r0=.error (en,pl)):=by show _=_;rw[HE.o,Ar,hres];rfl
   rw[hres]at C1;clear hres;go_wp2_with fail;refine C1.o.mono ?_;rintro x w1 ⟨hg1,rfl,hr1⟩;have G1:=A0 hg1;have R1:=A0 hr1;clear hg1 hr1;go_wp2;go_ret2;rw[HF.o];exact⟨A1 HG.o G1.o,rfl,R1.o⟩
  | ok r=>
   obtain⟨t,st2⟩:=r;have hst2:=HGO.o st1 t st2 hi1 ha1 hres
   have HF:Hid (Ar c.ts 4 p (f+1) st1=if (tk c.ts st2.i).kind=4 then EW [t] (Ar c.ts 4 p f ⟨st2.i+1,st2.atoms,st2.bad⟩) else .ok ([t],st2)):=by
    show _=_;rw[Ar,hres];simp only;split
    ·cases Ar c.ts 4 p f ⟨st2.i+1,st2.atoms,st2.bad⟩<;>rfl
    ·rfl
   rw[hres]at C1;clear hres;obtain⟨g1,g2,g3,g4⟩:=hst2;go_wp2_with fail;refine C1.o.mono ?_;rintro x w1 ⟨hg1,v1,rfl,ht1,hr1⟩;obtain⟨T1,u1,rfl⟩:=CI ht1;have HO1:=A0 (GF HO.o hg1 hrb);have G1:=A0 hg1;have R1:=A0 hr1;have TT1:=A0 ht1;clear hg1 hr1 ht1;go_wp2_with (at_builtin;refine wpList_append_own_at _ rfl _ _ 172 rfl w.heap.size 101 i0 _ 1 16 Tryz.underlying172 hi0 hz0 hz1 hz2 rfl (by decide) _ _ _ rfl (HO1.o.alloc _) ⟨w1.heap.size,0,none⟩ 1 1 [.iface T1 u1] rfl rfl (cell_one_new _ _ _) ?d2 ?d3 ?d4 ?d5 ?_)
   case d2=>intro u hu;simp only[List.mem_cons,List.not_mem_nil,or_false]at hu;subst hu;rfl
   case d3=>unfold maxLen;omega
   case d4=>omega
   case d5=>have:=HG.o.size;have:=G1.o.size;simp;omega
   intro v' w2 hown' hgrow _ hat;obtain⟨s1,s2,s3,s4,s5⟩:=Nf hc hrb hnm HG.o HO.o HT.o G1.o R1.o TT1.o HNM.o hown' hgrow (by simpa using hat);have S1:=A0 s1;have S2:=A0 s2;have S3:=A0 s3;have S4:=A0 s4;have S5:=A0 s5;clear hown' hgrow hat s1 s2 s3 s4 s5;by_cases hk:(tk c.ts st2.i).kind=4
   ·have HF2:=A0 (HF.o.trans (if_pos hk));have hi2:st2.i+1<c.ts.length:=hc.closed.next g2 (by omega) (by omega);have HK:=A0 hk;clear hk;go_wp2_with fail;refine(Iz c hc _ st2.i _ _ _ _ _ 4 S1.o hi2 HK.o).mono ?_;rintro x w3 ⟨rfl,hR3,hG3⟩;have R3:=A0 hR3;have G3:=A0 hG3;clear hR3 hG3;go_wp2;go_roundw
    case rel=>
     refine⟨f,acc++[t],xs++[.iface T1 u1],⟨st2.i+1,st2.atoms,st2.bad⟩,?_,by simp;omega,hi2,g3,by simp;omega,GF S3.o G3.o hrb,?_,R3.o,A1 S4.o G3.o,S5.o.grown G3.o hnm⟩
     ·rw[HE.o,HF2.o,P8]
     ·exact EH (fun t v h=>Dh h G3.o (fun b hb e=>by cases e;have:=hb.1;omega)) S2.o
    case measure=>rw[R3.o.pos,HPS.o];omega
   ·have HF2:=A0 (HF.o.trans (if_neg hk));have HK:=A0 hk;clear hk;go_wp2_with fail;refine(Iy c hc _ st2.i _ _ _ _ _ 4 S1.o g2 HK.o).mono ?_;rintro x w3 ⟨rfl,hR3,hG3⟩;have R3:=A0 hR3;have G3:=A0 hG3;have O3:=A0 (GF S3.o hG3 hrb);have T3:=A0 (EH (fun t v h=>Dh h hG3 (fun b hb e=>by cases e;have:=hb.1;omega)) S2.o);clear hR3 hG3;obtain⟨g,cap,hv,hcells,hge⟩:=Od O3.o (by simp);have hch:=A0 (JM (g:=g) (ok:=fun b=>w.heap.size<=b) 0 (EH (fun t v h=>D4 h (fun b _ hb=>hb.1)) T3.o) (fun j x hj=>by rw[Nat.zero_add];exact hcells j x hj));have hj0:=YG (fun b=>w.heap.size<=b) w3 (acc++[t]) g cap hge (by simp) (by simp;omega) hch.o;rw[show(acc++[t]).length=acc.length+1 by simp]at hj0;have HJ:=A0 hj0;clear hj0;clear hcells;subst hv;go_wp2_with fail;refine HJ.o.mono ?_;rintro x w4 ⟨v4,rfl,ht4,rfl⟩;have T4:=A0 ht4;clear ht4;go_wp2;go_ret2;rw[show r0=.ok (acc++[t],st2) by rw[HE.o,HF2.o];rfl];exact⟨A1 S4.o G3.o,_,rfl,T4.o,R3.o⟩
theorem Xg(c:Ctx)(hc:c.Good)(hnm:1<c.rb)(d:Int){p:St->Except (Int×Nat) (Code×St)}(hp:DJ c 233 d p)(hg:Cf c.ts p):DJ c 139 d (GT c.ts p):=by
 intro w st hn h hi ha;have H:=A0 (Uw c hc hnm d (Wd c hc d hp hg) (NA hc.closed hg) w st hn h hi ha);clear hp hg hn h;unfold GT;go_enter Tryz.func139,Tryz.ntmps139;go_wp2_with fail;refine H.o.mono ?_;rintro x w1 ho;obtain⟨v,b,rfl⟩:=ho.shape;have HO:=A0 ho;clear ho;go_wp2;go_ret2;exact HO.o
theorem Q8(c:Ctx)(hc:c.Good)(hnm:1<c.rb)(d:Int){p:St->Except (Int×Nat) (Code×St)}(hp:DJ c 233 d p)(hg:Cf c.ts p):DJ c 85 d (ED c.ts p):=by
 intro w st hn h hi ha;have H:=A0 (Ux c hc hnm d (Xg c hc hnm d hp hg) (NC hc.closed hg) w st hn h hi ha);clear hp hg hn h;unfold ED;go_enter Tryz.func85,Tryz.ntmps85;go_wp2_with fail;refine H.o.mono ?_;rintro x w1 ho;obtain⟨v,b,rfl⟩:=ho.shape;have HO:=A0 ho;clear ho;go_wp2;go_ret2;exact HO.o
theorem Sn(c:Ctx)(hc:c.Good)(w:World)(st:St)(h:Rd c w st.i st.atoms 12 st.bad 0 0)(hi:st.i<c.ts.length):
  Calls Tryz.prog 260 #[.pointer (some ⟨c.rb,0,none⟩),.func (.func 261) #[.pointer (some ⟨c.rb,0,none⟩)] #[]] w (AQ c 12 (.error (7,(tk c.ts st.i).at_)) w):=by
 have c3:w.cell? ⟨c.rb,3,none⟩=some (.int .i64 12):=h.cell 3;have H:=A0 h;clear h;go_enter Tryz.func260,Tryz.ntmps260;go_wp2_with fail;refine(C9 c hc _ st.i _ _ _ _ _ 7 H.o hi).mono ?_;rintro x w1 ⟨rfl,hR,hG⟩;have R:=A0 hR;have G:=A0 hG;clear hR hG;go_wp2;go_ret2;exact AQ.err R.o G.o
theorem Sm(c:Ctx)(hc:c.Good)(hnm:1<c.rb)(w:World)(st:St)(d:Int)(hd0:0<=d)(hd:d<=11)(r:Except (Int×Nat) (Code×St))(hn:Ae w)(h:Rd c w st.i st.atoms d st.bad 0 0)
  (hf:∀w',Ae w'->Rd c w' st.i st.atoms (d+1) st.bad 0 0->Calls Tryz.prog 261 #[.pointer (some ⟨c.rb,0,none⟩)] w' (AQ c (d+1) r w')):
  Calls Tryz.prog 260 #[.pointer (some ⟨c.rb,0,none⟩),.func (.func 261) #[.pointer (some ⟨c.rb,0,none⟩)] #[]] w (AQ c d r w):=by
 have c3:w.cell? ⟨c.rb,3,none⟩=some (.int .i64 d):=h.cell 3;have f3:w.frozen? ⟨c.rb,3,none⟩=false:=h.frozen 3;have hrb:=h.lt.1;have H:=A0 h;have HN:=A0 hn;have HF:=A0 hf;clear h hn hf;go_enter Tryz.func260,Tryz.ntmps260;go_wp2_with fail;refine(HF.o _ (HN.o.grown (A7 _ _ _ _) hnm) (H.o.set3 hc _)).mono ?_;rintro x w1 ho;cases r with
 | error e=>
  obtain⟨hg,rfl,i1,a1,d1,b1,hr⟩:=ho;have R:=A0 hr;have G:=A0 hg;have k3:w1.cell? ⟨c.rb,3,none⟩=some (.int .i64 d1):=hr.cell 3;have q3:w1.frozen? ⟨c.rb,3,none⟩=false:=hr.frozen 3;clear hr hg c3 f3;go_wp2;go_ret2;exact⟨A1 (A1 (A7 _ _ _ _) G.o) (A7 _ _ _ _),rfl,i1,a1,_,b1,R.o.set3 hc _⟩
 | ok q=>
  obtain⟨t,st2⟩:=q;obtain⟨hg,v,rfl,ht,hr⟩:=ho;have R:=A0 hr;have G:=A0 hg;have T:=A0 ht;have k3:w1.cell? ⟨c.rb,3,none⟩=some (.int .i64 (d+1)):=hr.cell 3;have q3:w1.frozen? ⟨c.rb,3,none⟩=false:=hr.frozen 3;clear hr hg ht c3 f3;go_wp2;go_ret2;refine⟨A1 (A1 (A7 _ _ _ _) G.o) (A7 _ _ _ _),_,rfl,?_,?_⟩
  ·exact Ei (D4 T.o (fun b _ hb=>by simpa[World.setCell] using hb)) (A7 _ _ _ _) hrb
  ·exact R.o.set3 hc d
theorem Sq(c:Ctx)(hc:c.Good)(w:World)(st:St)(h:Rd c w st.i st.atoms 12 st.bad 0 0)(hi:st.i<c.ts.length):
  Calls Tryz.prog 260 #[.pointer (some ⟨c.rb,0,none⟩),.func (.func 262) #[.pointer (some ⟨c.rb,0,none⟩)] #[]] w (AQ c 12 (.error (7,(tk c.ts st.i).at_)) w):=by
 have c3:w.cell? ⟨c.rb,3,none⟩=some (.int .i64 12):=h.cell 3;have H:=A0 h;clear h;go_enter Tryz.func260,Tryz.ntmps260;go_wp2_with fail;refine(C9 c hc _ st.i _ _ _ _ _ 7 H.o hi).mono ?_;rintro x w1 ⟨rfl,hR,hG⟩;have R:=A0 hR;have G:=A0 hG;clear hR hG;go_wp2;go_ret2;exact AQ.err R.o G.o
theorem Sp(c:Ctx)(hc:c.Good)(hnm:1<c.rb)(w:World)(st:St)(d:Int)(hd0:0<=d)(hd:d<=11)(r:Except (Int×Nat) (Code×St))(hn:Ae w)(h:Rd c w st.i st.atoms d st.bad 0 0)
  (hf:∀w',Ae w'->Rd c w' st.i st.atoms (d+1) st.bad 0 0->Calls Tryz.prog 262 #[.pointer (some ⟨c.rb,0,none⟩)] w' (AQ c (d+1) r w')):
  Calls Tryz.prog 260 #[.pointer (some ⟨c.rb,0,none⟩),.func (.func 262) #[.pointer (some ⟨c.rb,0,none⟩)] #[]] w (AQ c d r w):=by
 have c3:w.cell? ⟨c.rb,3,none⟩=some (.int .i64 d):=h.cell 3;have f3:w.frozen? ⟨c.rb,3,none⟩=false:=h.frozen 3;have hrb:=h.lt.1;have H:=A0 h;have HN:=A0 hn;have HF:=A0 hf;clear h hn hf;go_enter Tryz.func260,Tryz.ntmps260;go_wp2_with fail;refine(HF.o _ (HN.o.grown (A7 _ _ _ _) hnm) (H.o.set3 hc _)).mono ?_;rintro x w1 ho;cases r with
 | error e=>
  obtain⟨hg,rfl,i1,a1,d1,b1,hr⟩:=ho;have R:=A0 hr;have G:=A0 hg;have k3:w1.cell? ⟨c.rb,3,none⟩=some (.int .i64 d1):=hr.cell 3;have q3:w1.frozen? ⟨c.rb,3,none⟩=false:=hr.frozen 3;clear hr hg c3 f3;go_wp2;go_ret2;exact⟨A1 (A1 (A7 _ _ _ _) G.o) (A7 _ _ _ _),rfl,i1,a1,_,b1,R.o.set3 hc _⟩
 | ok q=>
  obtain⟨t,st2⟩:=q;obtain⟨hg,v,rfl,ht,hr⟩:=ho;have R:=A0 hr;have G:=A0 hg;have T:=A0 ht;have k3:w1.cell? ⟨c.rb,3,none⟩=some (.int .i64 (d+1)):=hr.cell 3;have q3:w1.frozen? ⟨c.rb,3,none⟩=false:=hr.frozen 3;clear hr hg ht c3 f3;go_wp2;go_ret2;refine⟨A1 (A1 (A7 _ _ _ _) G.o) (A7 _ _ _ _),_,rfl,?_,?_⟩
  ·exact Ei (D4 T.o (fun b _ hb=>by simpa[World.setCell] using hb)) (A7 _ _ _ _) hrb
  ·exact R.o.set3 hc d
theorem Vi(c:Ctx)(hc:c.Good)(hnm:1<c.rb)(d:Int){p:St->Except (Int×Nat) (Code×St)}(hp:DJ c 233 d p)(hgo:Cf c.ts p)(w:World)(st:St)(hn:Ae w)
  (h:Rd c w st.i st.atoms d st.bad 0 0) (hi:st.i<c.ts.length) (hk:(tk c.ts st.i).kind=7) (ha:st.atoms<=16):
  Calls Tryz.prog 261 #[.pointer (some ⟨c.rb,0,none⟩)] w (AQ c d (Dr (tk c.ts st.i).at_ (p ⟨st.i+1,st.atoms,st.bad⟩)) w):=by
 have hi1:st.i+1<c.ts.length:=hc.closed.next hi (by omega) (by omega);have hfew:=hc.few
 have hat:(tk c.ts st.i).at_<=400:=by
  have h1:=LE c.s true st.i;have h2:=hc.size;rw[<-hc.toks]at h1;omega
 clear hk;have hrb:=h.lt.1;have H:=A0 h;have HN:=A0 hn;have hca:∀w',Ae w'->Rd c w' (st.i+1:Nat) st.atoms d st.bad 0 0->Calls Tryz.prog 233 #[.pointer (some ⟨c.rb,0,none⟩)] w' (AQ c d (p ⟨st.i+1,st.atoms,st.bad⟩) w'):=fun w' h1 h2=>hp w' ⟨st.i+1,st.atoms,st.bad⟩ h1 h2 hi1 ha
 generalize p ⟨st.i+1,st.atoms,st.bad⟩=r at hca ⊢;have HCA:=A0 hca;clear h hn hp hgo hca;cases r with
 | error e=>
  obtain⟨en,pl⟩:=e;go_enter Tryz.func261,Tryz.ntmps261;go_wp2_with fail;refine(Aw c hc _ st.i st.atoms d st.bad 0 0 H.o hi).mono ?_;rintro x w1 ⟨rfl,hg1⟩;have R1:Hid (Rd c w1 st.i st.atoms d st.bad 0 0):=H.o.kept hg1;have N1:Hid (Ae w1):=HN.o.grown (AZ hg1) hnm;have G1:=A0 hg1;clear hg1;have c1:w1.cell? ⟨c.rb,1,none⟩=some (.int .i64 st.i):=R1.o.cell 1;have f1:w1.frozen? ⟨c.rb,1,none⟩=false:=R1.o.frozen 1;go_wp2_with fail;have G2:Hid (w.grownBy (w1.setCell ⟨c.rb,1,none⟩ (.int .i64 ((st.i:Int)+1))) (some c.rb)):=A1 (AZ G1.o) (A7 _ _ _ _);have hsz:w.heap.size<=(w1.setCell ⟨c.rb,1,none⟩ (.int .i64 ((st.i:Int)+1))).heap.size:=G2.o.size;refine(HCA.o _ (N1.o.grown (A7 w1 c.rb 1 (.int .i64 ((st.i:Int)+1))) hnm) (R1.o.set1 hc _)).mono ?_;rintro x w2 ⟨hg2,rfl,hr2⟩;have R2:=A0 hr2;have G3:=A0 hg2;clear hr2 hg2 c1 f1;go_wp2;go_ret2;exact⟨A1 G2.o G3.o,rfl,R2.o⟩
 | ok q=>
  obtain⟨t,st2⟩:=q;go_enter Tryz.func261,Tryz.ntmps261;go_wp2_with fail;refine(Aw c hc _ st.i st.atoms d st.bad 0 0 H.o hi).mono ?_;rintro x w1 ⟨rfl,hg1⟩;have R1:Hid (Rd c w1 st.i st.atoms d st.bad 0 0):=H.o.kept hg1;have N1:Hid (Ae w1):=HN.o.grown (AZ hg1) hnm;have G1:=A0 hg1;clear hg1;have c1:w1.cell? ⟨c.rb,1,none⟩=some (.int .i64 st.i):=R1.o.cell 1;have f1:w1.frozen? ⟨c.rb,1,none⟩=false:=R1.o.frozen 1;go_wp2_with fail;have G2:Hid (w.grownBy (w1.setCell ⟨c.rb,1,none⟩ (.int .i64 ((st.i:Int)+1))) (some c.rb)):=A1 (AZ G1.o) (A7 _ _ _ _);have hsz:w.heap.size<=(w1.setCell ⟨c.rb,1,none⟩ (.int .i64 ((st.i:Int)+1))).heap.size:=G2.o.size;refine(HCA.o _ (N1.o.grown (A7 w1 c.rb 1 (.int .i64 ((st.i:Int)+1))) hnm) (R1.o.set1 hc _)).mono ?_;rintro x w2 ⟨hg2,v,rfl,ht,hr2⟩;have R2:=A0 hr2;have G3:=A0 (A1 G2.o hg2);have T2:Hid ((TV (fun b=>w.heap.size<=b) w2 t).1 v):=D4 ht (fun b _ hb=>Nat.le_trans hsz hb);clear hr2 hg2 ht c1 f1;have hct:=A0 (UJ (fun b=>w.heap.size<=b) (szC t) t v w2 (Nat.le_refl _) T2.o);obtain⟨bt,hbt⟩:∃bt,bt=isT t:=⟨_,rfl⟩;rw[<-hbt]at hct;have HBT:=A0 hbt;clear hbt;cases bt
  ·go_wp2_with fail;refine hct.o.mono ?_;rintro x w3 ⟨rfl,hg3⟩;have R3:=A0 (R2.o.kept hg3);have T3:=A0 (C6 T2.o hg3);have G4:=A0 (A1 G3.o (AZ hg3));have c4:w3.cell? ⟨c.rb,4,none⟩=some (.int .i64 st2.bad):=R3.o.cell 4;have f4:w3.frozen? ⟨c.rb,4,none⟩=false:=R3.o.frozen 4;clear hg3;by_cases hlt:(tk c.ts st.i).at_<st2.bad
   ·have hlt':((tk c.ts st.i).at_:Int)<(st2.bad:Int):=by omega
    go_wp2_with fail;refine(K9 (fun b=>w.heap.size<=b) _ t v (Nat.le_trans G4.o.size (A7 _ _ _ _).size) (Ei T3.o (A7 _ _ _ _) hrb)).mono ?_;rintro x w4 ⟨v4,rfl,ht4,hg4⟩;have T4:=A0 ht4;have G5:=A0 hg4;clear ht4 hg4;go_wp2;go_ret2;have e9:isT t=false:=HBT.o.symm;have e8:min st2.bad (tk c.ts st.i).at_=(tk c.ts st.i).at_:=by omega
    simp only[Dr,e9,e8];exact⟨A1 G4.o (A1 (A7 _ _ _ _) (AZ G5.o)),_,rfl,T4.o,(R3.o.set4 hc _).kept G5.o⟩
   ·have hlt':(st2.bad:Int)<=((tk c.ts st.i).at_:Int):=by omega
    go_wp2_with fail;refine(K9 (fun b=>w.heap.size<=b) _ t v (Nat.le_trans G4.o.size (A7 _ _ _ _).size) (Ei T3.o (A7 _ _ _ _) hrb)).mono ?_;rintro x w4 ⟨v4,rfl,ht4,hg4⟩;have T4:=A0 ht4;have G5:=A0 hg4;clear ht4 hg4;go_wp2;go_ret2;have e9:isT t=false:=HBT.o.symm;have e8:min st2.bad (tk c.ts st.i).at_=st2.bad:=by omega
    simp only[Dr,e9,e8];exact⟨A1 G4.o (A1 (A7 _ _ _ _) (AZ G5.o)),_,rfl,T4.o,(R3.o.set4 hc _).kept G5.o⟩
  ·go_wp2_with fail;refine hct.o.mono ?_;rintro x w3 ⟨rfl,hg3⟩;have R3:=A0 (R2.o.kept hg3);have T3:=A0 (C6 T2.o hg3);have G4:=A0 (A1 G3.o (AZ hg3));clear hg3;go_wp2_with fail;refine(K9 (fun b=>w.heap.size<=b) _ t v G4.o.size T3.o).mono ?_;rintro x w4 ⟨v4,rfl,ht4,hg4⟩;have T4:=A0 ht4;have G5:=A0 hg4;clear ht4 hg4;go_wp2;go_ret2;have e9:isT t=true:=HBT.o.symm;simp only[Dr,e9];exact⟨A1 G4.o (AZ G5.o),_,rfl,T4.o,R3.o.kept G5.o⟩
theorem Rz(c:Ctx)(hc:c.Good)(hnm:1<c.rb)(d:Int){p:St->Except (Int×Nat) (Code×St)}(hp:DJ c 85 d p)(hgo:Cf c.ts p)(w:World)(st:St)(hn:Ae w)
  (h:Rd c w st.i st.atoms d st.bad 0 0) (hi:st.i<c.ts.length) (hk:(tk c.ts st.i).kind=8) (ha:st.atoms<=16):
  Calls Tryz.prog 262 #[.pointer (some ⟨c.rb,0,none⟩)] w (AQ c d (DW c.ts (p ⟨st.i+1,st.atoms,st.bad⟩)) w):=by
 have hi1:st.i+1<c.ts.length:=hc.closed.next hi (by omega) (by omega);have hfew:=hc.few;clear hk;have hrb:=h.lt.1;have c1:w.cell? ⟨c.rb,1,none⟩=some (.int .i64 st.i):=h.cell 1;have f1:w.frozen? ⟨c.rb,1,none⟩=false:=h.frozen 1;have G2:Hid (w.grownBy (w.setCell ⟨c.rb,1,none⟩ (.int .i64 ((st.i:Int)+1))) (some c.rb)):=A7 _ _ _ _;have hgoes:∀t st2,p ⟨st.i+1,st.atoms,st.bad⟩=.ok (t,st2)->st2.i<c.ts.length:=fun t st2 e=>(hgo ⟨st.i+1,st.atoms,st.bad⟩ t st2 hi1 ha e).2.1
 have hca:=hp _ ⟨st.i+1,st.atoms,st.bad⟩ (hn.grown (A7 w c.rb 1 (.int .i64 ((st.i:Int)+1))) hnm) (h.set1 hc _) hi1 ha;generalize p ⟨st.i+1,st.atoms,st.bad⟩=r at hgoes hca ⊢;have HCA:=A0 hca;clear h hn hp hgo hca;cases r with
 | error e=>
  obtain⟨en,pl⟩:=e;clear hgoes;go_enter Tryz.func262,Tryz.ntmps262;go_wp2_with fail;refine HCA.o.mono ?_;rintro x w2 ⟨hg2,rfl,hr2⟩;have R2:=A0 hr2;have G3:=A0 hg2;clear hr2 hg2 c1 f1;go_wp2;go_ret2;exact⟨A1 G2.o G3.o,rfl,R2.o⟩
 | ok q=>
  obtain⟨t,st2⟩:=q;have hst2:=hgoes t st2 rfl;clear hgoes;go_enter Tryz.func262,Tryz.ntmps262;go_wp2_with fail;refine HCA.o.mono ?_;rintro x w2 ⟨hg2,v,rfl,ht,hr2⟩;have R2:=A0 hr2;have G3:=A0 (A1 G2.o hg2);have T2:Hid ((TV (fun b=>w.heap.size<=b) w2 t).1 v):=D4 ht (fun b _ hb=>Nat.le_trans G2.o.size hb);clear hr2 hg2 ht c1 f1;by_cases hk9:(tk c.ts st2.i).kind=9
  ·have HF:Hid (DW c.ts (.ok (t,st2))=.ok (t,⟨st2.i+1,st2.atoms,st2.bad⟩)):=by show _=_;simp only[DW,if_pos hk9]
   have hi2:st2.i+1<c.ts.length:=hc.closed.next hst2 (by omega) (by omega);have HK:=A0 hk9;clear hk9;go_wp2_with fail;refine(Iz c hc _ st2.i _ _ _ _ _ 9 R2.o hi2 HK.o).mono ?_;rintro x w3 ⟨rfl,hR3,hG3⟩;have R3:=A0 hR3;have G4:=A0 hG3;clear hR3 hG3;go_wp2;go_ret2;rw[HF.o];exact⟨A1 G3.o G4.o,_,rfl,Ei T2.o G4.o hrb,R3.o⟩
  ·have HF:Hid (DW c.ts (.ok (t,st2))=.error (3,(tk c.ts st2.i).at_)):=by show _=_;simp only[DW,if_neg hk9]
   have HK:=A0 hk9;clear hk9;go_wp2_with fail;refine(Iy c hc _ st2.i _ _ _ _ _ 9 R2.o hst2 HK.o).mono ?_;rintro x w3 ⟨rfl,hR3,hG3⟩;have R3:=A0 hR3;have G4:=A0 hG3;clear hR3 hG3;go_wp2_with fail;refine(C9 c hc _ st2.i _ _ _ _ _ 3 R3.o hst2).mono ?_;rintro x w4 ⟨rfl,hR4,hG4⟩;have R4:=A0 hR4;have G5:=A0 hG4;clear hR4 hG4;go_wp2;go_ret2;rw[HF.o];exact AQ.err R4.o (A1 (A1 G3.o G4.o) G5.o)
theorem Lt(c:Ctx)(hc:c.Good)(hnm:1<c.rb)(d:Int)(w:World)(st:St)(r:Except (Int×Nat) (Code×St))(hn:Ae w)(h:Rd c w st.i st.atoms d st.bad 0 0)(hi:st.i<c.ts.length)(hk:(tk c.ts st.i).kind=2)
  (hf:∀w',Ae w'->Rd c w' st.i st.atoms d st.bad 0 0->Calls Tryz.prog 259 #[.pointer (some ⟨c.rb,0,none⟩)] w' (AQ c d r w')):
  Calls Tryz.prog 233 #[.pointer (some ⟨c.rb,0,none⟩)] w (AQ c d r w):=by
 have H:=A0 h;have HN:=A0 hn;have HF:=A0 hf;have HK:=A0 hk;clear hk;clear h hn hf;go_enter Tryz.func233,Tryz.ntmps233;go_wp2_with fail;refine(Aw c hc _ st.i st.atoms d st.bad 0 0 H.o hi).mono ?_;rintro x w1 ⟨rfl,hg1⟩;have R1:Hid (Rd c w1 st.i st.atoms d st.bad 0 0):=H.o.kept hg1;have N1:Hid (Ae w1):=HN.o.grown (AZ hg1) hnm;have G1:=A0 hg1;clear hg1;rw[HK.o];go_wp2_with fail;refine(HF.o _ N1.o R1.o).mono ?_;rintro x w2 ho;obtain⟨v,b,rfl⟩:=ho.shape;have HO:=A0 (ho.later (AZ G1.o));clear ho;go_wp2;go_ret2;exact HO.o
theorem Lr(c:Ctx)(hc:c.Good)(hnm:1<c.rb)(d:Int)(w:World)(st:St)(r:Except (Int×Nat) (Code×St))(hn:Ae w)(h:Rd c w st.i st.atoms d st.bad 0 0)(hi:st.i<c.ts.length)(hk:(tk c.ts st.i).kind=7)
  (hf:∀w',Ae w'->Rd c w' st.i st.atoms d st.bad 0 0->Calls Tryz.prog 260 #[.pointer (some ⟨c.rb,0,none⟩),.func (.func 261) #[.pointer (some ⟨c.rb,0,none⟩)] #[]] w' (AQ c d r w')):
  Calls Tryz.prog 233 #[.pointer (some ⟨c.rb,0,none⟩)] w (AQ c d r w):=by
 have H:=A0 h;have HN:=A0 hn;have HF:=A0 hf;have HK:=A0 hk;clear hk;clear h hn hf;go_enter Tryz.func233,Tryz.ntmps233;go_wp2_with fail;refine(Aw c hc _ st.i st.atoms d st.bad 0 0 H.o hi).mono ?_;rintro x w1 ⟨rfl,hg1⟩;have R1:Hid (Rd c w1 st.i st.atoms d st.bad 0 0):=H.o.kept hg1;have N1:Hid (Ae w1):=HN.o.grown (AZ hg1) hnm;have G1:=A0 hg1;clear hg1;rw[HK.o];go_wp2_with fail;refine(HF.o _ N1.o R1.o).mono ?_;rintro x w2 ho;obtain⟨v,b,rfl⟩:=ho.shape;have HO:=A0 (ho.later (AZ G1.o));clear ho;go_wp2;go_ret2;exact HO.o
theorem Ls(c:Ctx)(hc:c.Good)(hnm:1<c.rb)(d:Int)(w:World)(st:St)(r:Except (Int×Nat) (Code×St))(hn:Ae w)(h:Rd c w st.i st.atoms d st.bad 0 0)(hi:st.i<c.ts.length)(hk:(tk c.ts st.i).kind=8)
  (hf:∀w',Ae w'->Rd c w' st.i st.atoms d st.bad 0 0->Calls Tryz.prog 260 #[.pointer (some ⟨c.rb,0,none⟩),.func (.func 262) #[.pointer (some ⟨c.rb,0,none⟩)] #[]] w' (AQ c d r w')):
  Calls Tryz.prog 233 #[.pointer (some ⟨c.rb,0,none⟩)] w (AQ c d r w):=by
 have H:=A0 h;have HN:=A0 hn;have HF:=A0 hf;have HK:=A0 hk;clear hk;clear h hn hf;go_enter Tryz.func233,Tryz.ntmps233;go_wp2_with fail;refine(Aw c hc _ st.i st.atoms d st.bad 0 0 H.o hi).mono ?_;rintro x w1 ⟨rfl,hg1⟩;have R1:Hid (Rd c w1 st.i st.atoms d st.bad 0 0):=H.o.kept hg1;have N1:Hid (Ae w1):=HN.o.grown (AZ hg1) hnm;have G1:=A0 hg1;clear hg1;rw[HK.o];go_wp2_with fail;refine(HF.o _ N1.o R1.o).mono ?_;rintro x w2 ho;obtain⟨v,b,rfl⟩:=ho.shape;have HO:=A0 (ho.later (AZ G1.o));clear ho;go_wp2;go_ret2;exact HO.o
theorem Lq(c:Ctx)(hc:c.Good)(hnm:1<c.rb)(d:Int)(w:World)(st:St)(r:Except (Int×Nat) (Code×St))(hn:Ae w)(h:Rd c w st.i st.atoms d st.bad 0 0)(hi:st.i<c.ts.length)(hk2:¬(tk c.ts st.i).kind=2)(hk7:¬(tk c.ts st.i).kind=7)(hk8:¬(tk c.ts st.i).kind=8)
  (hf:∀w',Ae w'->Rd c w' st.i st.atoms d st.bad 0 0->Calls Tryz.prog 87 #[.pointer (some ⟨c.rb,0,none⟩),.int .i64 3] w' (AQ c d r w')):
  Calls Tryz.prog 233 #[.pointer (some ⟨c.rb,0,none⟩)] w (AQ c d r w):=by
 have H:=A0 h;have HN:=A0 hn;have HF:=A0 hf;have k2:((tk c.ts st.i).kind == 2)=false:=by simp[hk2]
 have k7:((tk c.ts st.i).kind == 7)=false:=by simp[hk7]
 have k8:((tk c.ts st.i).kind == 8)=false:=by simp[hk8]
 clear hk2 hk7 hk8;clear h hn hf;go_enter Tryz.func233,Tryz.ntmps233;go_wp2_with fail;refine(Aw c hc _ st.i st.atoms d st.bad 0 0 H.o hi).mono ?_;rintro x w1 ⟨rfl,hg1⟩;have R1:Hid (Rd c w1 st.i st.atoms d st.bad 0 0):=H.o.kept hg1;have N1:Hid (Ae w1):=HN.o.grown (AZ hg1) hnm;have G1:=A0 hg1;clear hg1;go_wp2_with fail;refine(HF.o _ N1.o R1.o).mono ?_;rintro x w2 ho;obtain⟨v,b,rfl⟩:=ho.shape;have HO:=A0 (ho.later (AZ G1.o));clear ho;go_wp2;go_ret2;exact HO.o
theorem Rb(c:Ctx)(hc:c.Good)(hnm:1<c.rb):∀(n:Nat),n<=12->∀d:Int,d=12-(n:Int)->DJ c 233 d (Bj c.s c.ts n):=by
 intro n;induction n with
 | zero=>
  intro _ d hd w st hn h hi ha;have hd12:d=12:=by simpa using hd
  subst hd12;unfold Bj;by_cases h2:(tk c.ts st.i).kind=2
  ·rw[if_pos h2];exact Lt c hc hnm _ w st _ hn h hi h2 (fun w' hn' h'=>Qe c w' st _ hc hn' hnm h' hi h2 ha)
  rw[if_neg h2];by_cases h7:(tk c.ts st.i).kind=7
  ·rw[if_pos h7];exact Lr c hc hnm _ w st _ hn h hi h7 (fun w' hn' h'=>Sn c hc w' st h' hi)
  rw[if_neg h7];by_cases h8:(tk c.ts st.i).kind=8
  ·rw[if_pos h8];exact Ls c hc hnm _ w st _ hn h hi h8 (fun w' hn' h'=>Sq c hc w' st h' hi)
  rw[if_neg h8];exact Lq c hc hnm _ w st _ hn h hi h2 h7 h8 (fun w' hn' h'=>(C9 c hc w' st.i _ _ _ _ _ 3 h' hi).mono (fun x w'' ⟨e,hR,hG⟩=>by subst e;exact AQ.err hR hG))
 | succ n ih=>
  intro hn12 d hd w st hn h hi ha;have IH:=ih (by omega) (d+1) (by omega);unfold Bj;by_cases h2:(tk c.ts st.i).kind=2
  ·rw[if_pos h2];exact Lt c hc hnm _ w st _ hn h hi h2 (fun w' hn' h'=>Qe c w' st _ hc hn' hnm h' hi h2 ha)
  rw[if_neg h2];by_cases h7:(tk c.ts st.i).kind=7
  ·rw[if_pos h7]
   exact Lr c hc hnm _ w st _ hn h hi h7 (fun w' hn' h'=>Sm c hc hnm w' st d (by omega) (by omega) _ hn' h'
    (fun w'' hn'' h''=>Vi c hc hnm (d+1) IH (Fp hc.closed n) w'' st hn'' h'' hi h7 ha))
  rw[if_neg h7];by_cases h8:(tk c.ts st.i).kind=8
  ·rw[if_pos h8]
   exact Ls c hc hnm _ w st _ hn h hi h8 (fun w' hn' h'=>Sp c hc hnm w' st d (by omega) (by omega) _ hn' h'
    (fun w'' hn'' h''=>Rz c hc hnm (d+1) (Q8 c hc hnm (d+1) IH (Fp hc.closed n)) (IR hc.closed (Fp hc.closed n)) w'' st hn'' h'' hi h8 ha))
  rw[if_neg h8];exact Lq c hc hnm _ w st _ hn h hi h2 h7 h8 (fun w' hn' h'=>(C9 c hc w' st.i _ _ _ _ _ 3 h' hi).mono (fun x w'' ⟨e,hR,hG⟩=>by subst e;exact AQ.err hR hG))
def Ax(s:ByteArray):Except (Int×Nat) Code:=if 400<s.size then .error (2,0) else EY s (toks s true 0)
def JG(r:Except (Int×Nat) Code)(w:World)(x:Ending)(w':World):Prop:=
 w.grownBy w' none/\match r with
 | .ok t=>∃v,x=.returned (.tuple #[v,.int .i64 0,.int .i64 0])/\(TV (fun b=>w.heap.size<=b) w' t).1 v
 | .error (en,pl)=>x=.returned (.tuple #[.nilIface,.int .i64 en,.int .i64 pl])
theorem Wq(s:ByteArray)(w:World)(hs:400<s.size)(hs2:s.size<=9223372036854775807):
  Calls Tryz.prog 48 #[.string s] w (JG (.error (2,0)) w):=by
 go_enter Tryz.func48,Tryz.ntmps48;go_wp2
 go_ret3
 exact⟨AA _ _,rfl⟩
theorem Wr(s:ByteArray)(w:World)(hn:Ae w)(hs:s.size<=400):
  Calls Tryz.prog 48 #[.string s] w (JG (EY s (toks s true 0)) w):=by
 have HN:=A0 hn;have hg0:1<w.heap.size:=World.block_lt_of_cell? w _ (hn 0 (by decide));clear hn;obtain⟨r0,hr0⟩:∃r0,r0=EY s (toks s true 0):=⟨_,rfl⟩;rw[<-hr0];have HR0:=A0 hr0;clear hr0;go_enter Tryz.func48,Tryz.ntmps48;go_wp2_with fail;refine(Yt s w hs).mono ?_;rintro x w1 ⟨v,rfl,hown,hbel⟩;have hlen:0<(toks s true 0).length:=(Hr s 0).1;rcases hown.2 with⟨_,h0⟩|⟨g,cap,cur,rfl,hbg,hgg,hnc,hcm,hcs,htake⟩
 ·omega
 have hG1:=IT hbel;have hgl:g<w1.heap.size:=(Array.getElem?_eq_some_iff.1 hgg).1;have hsz1:=hbel.size;let c:Ctx:=⟨s,toks s true 0,g,cap,w1.heap.size,cur⟩
 have hc:c.Good:=⟨hgl,hcs,hnc,hcm,htake,hs,rfl⟩;have hnm:1<c.rb:=by show _<w1.heap.size;omega
 have hRd:∀o,o=Obj.cells #[.slice (some ⟨g,0,none⟩) (toks s true 0).length cap,.int .i64 0,.int .i64 0,.int .i64 0,.int .i64 401,.int .i64 0,.int .i64 0] 157 (0,0)->Rd c (w1.alloc o) 0 0 0 401 0 0:=by
  rintro o rfl;exact⟨by show(w1.alloc _).heap[g]?=_;rw[Below.heap_alloc w1 _ g hgl];exact hgg,heap_alloc_new w1 _⟩
 have hN1:∀o,Ae (w1.alloc o):=fun o=>((HN.o.other hG1 (B:=w.heap.size) (by simp) hg0).other (World.grownBy_alloc w1 o none) (B:=w.heap.size) (by simp) hg0)
 have hdo:=Q8 c hc hnm 0 (Rb c hc hnm 12 (by decide) 0 (by decide)) (Fp hc.closed 12);have hcall:=A0 (hdo _ ⟨0,0,401⟩ (hN1 _) (hRd _ rfl) hlen (by decide));have hgo:=IR hc.closed (Fp (s:=c.s) hc.closed 12) ⟨0,0,401⟩
 have hrp:EY s (toks s true 0)=match ED c.ts (Bj c.s c.ts 12) ⟨0,0,401⟩ with
  | .error e=>.error e
  | .ok (t,st)=>if (tk c.ts st.i).kind=0 then(if st.bad=401 then .ok t else .error (6,st.bad)) else .error (3,(tk c.ts st.i).at_):=rfl
 generalize ED c.ts (Bj c.s c.ts 12) ⟨0,0,401⟩=r at hcall hgo hrp;have HC:=A0 hc;have HG1:=A0 hG1;have HNM:=A0 hnm;have HRP:=A0 hrp;have HGO:=A0 hgo;have hrbv:c.rb=w1.heap.size:=rfl;have hsv:c.s=s:=rfl;have htv:c.ts=toks s true 0:=rfl;have hgv:c.g=g:=rfl;have hcv:c.cap=cap:=rfl;have HALL:=A0 (And.intro hrbv (And.intro hsv (And.intro htv (And.intro hgv hcv))));clear hrbv hsv htv hgv hcv;clear hRd hN1 hdo hG1 hc hown hbel hnm htake hgg hrp hgo hnc hcs
 clear_value c
 obtain⟨o1,ho1⟩:∃o1,o1=Obj.cells #[.slice (some ⟨g,0,none⟩) (toks s true 0).length cap,.int .i64 0,.int .i64 0,.int .i64 0,.int .i64 401,.int .i64 0,.int .i64 0] 157 (0,0):=⟨_,rfl⟩;have HG2:Hid (w.grownBy (w1.alloc o1) none):=A1 HG1.o (World.grownBy_alloc _ _ _);have hrbw:w.heap.size<=c.rb:=by rw[HALL.o.1];exact hsz1
 rw[<-ho1]at hcall;have HO1:=A0 ho1;clear ho1;cases r with
 | error e=>
  obtain⟨en,pl⟩:=e;have HF:Hid (r0=.error (en,pl)):=HR0.o.trans HRP.o;go_wp2_with fail;rw[<-HALL.o.1,<-HO1.o];refine hcall.o.mono ?_;clear hcall;rintro x w2 ⟨hg2,rfl,i2,a2,d2,b2,hr2⟩;have c5:w2.cell? ⟨c.rb,5,none⟩=some (.int .i64 en):=hr2.cell 5;have c6:w2.cell? ⟨c.rb,6,none⟩=some (.int .i64 pl):=hr2.cell 6;have G3:=A0 (AR HG2.o hg2 hrbw);clear hg2 hr2;go_wp2;go_quiet (fail)
  go_wp2
  go_ret3
  rw[HF.o];exact⟨AT G3.o _,rfl⟩
 | ok q=>
  obtain⟨t,st2⟩:=q;obtain⟨_,hi2,_,hb2⟩:=HGO.o t st2 (by rw[HALL.o.2.2.1];exact hlen) (by decide) rfl;by_cases hk:(tk c.ts st2.i).kind=0
  ·by_cases hb:st2.bad=401
   ·have HF:Hid (r0=.ok t):=(HR0.o.trans HRP.o).trans (by simp only[if_pos hk,if_pos hb]);have HK:=A0 hk;have HB:=A0 hb;clear hk hb;go_wp2_with fail;rw[<-HALL.o.1,<-HO1.o];refine hcall.o.mono ?_;clear hcall;rintro x w2 ⟨hg2,v2,rfl,ht2,hr2⟩;have R2:=A0 hr2;have T2:=A0 ht2;have G3:=A0 (AR HG2.o hg2 hrbw);clear hg2 hr2 ht2;go_wp2_with fail;refine(Aw c HC.o _ st2.i st2.atoms 0 st2.bad 0 0 R2.o hi2).mono ?_;rintro x w3 ⟨rfl,hg3⟩;rw[HK.o];have R3:=R2.o.kept hg3;have c4:w3.cell? ⟨c.rb,4,none⟩=some (.int .i64 st2.bad):=R3.cell 4;rw[HB.o]at c4;have T3:=A0 (D4 (C6 T2.o hg3) (ok':=fun b=>w.heap.size<=b) (fun b _ hb=>Nat.le_trans HG2.o.size hb));have G4:=A0 (A1 G3.o hg3);clear hg3 R3;go_wp2
    go_ret3
    rw[HF.o];exact⟨G4.o,_,rfl,T3.o⟩
   ·have HF:Hid (r0=.error (6,st2.bad)):=(HR0.o.trans HRP.o).trans (by simp only[if_pos hk,if_neg hb]);have HK:=A0 hk;have hne:((st2.bad:Int) != 401)=true:=by rw[bne_iff_ne];omega
    clear hk hb;go_wp2_with fail;rw[<-HALL.o.1,<-HO1.o];refine hcall.o.mono ?_;clear hcall;rintro x w2 ⟨hg2,v2,rfl,ht2,hr2⟩;have R2:=A0 hr2;have G3:=A0 (AR HG2.o hg2 hrbw);clear hg2 hr2 ht2;go_wp2_with fail;refine(Aw c HC.o _ st2.i st2.atoms 0 st2.bad 0 0 R2.o hi2).mono ?_;rintro x w3 ⟨rfl,hg3⟩;rw[HK.o];have R3:=R2.o.kept hg3;have c4:w3.cell? ⟨c.rb,4,none⟩=some (.int .i64 st2.bad):=R3.cell 4;have G4:=A0 (A1 G3.o hg3);clear hg3 R3;go_wp2;go_quiet (fail)
    go_wp2
    go_ret3
    rw[HF.o];exact⟨AT G4.o _,rfl⟩
  ·have HF:Hid (r0=.error (3,(tk c.ts st2.i).at_)):=(HR0.o.trans HRP.o).trans (by simp only[if_neg hk]);have hne:((tk c.ts st2.i).kind != 0)=true:=by rw[bne_iff_ne];exact hk
   clear hk;go_wp2_with fail;rw[<-HALL.o.1,<-HO1.o];refine hcall.o.mono ?_;clear hcall;rintro x w2 ⟨hg2,v2,rfl,ht2,hr2⟩;have R2:=A0 hr2;have G3:=A0 (AR HG2.o hg2 hrbw);clear hg2 hr2 ht2;go_wp2_with fail;refine(Aw c HC.o _ st2.i st2.atoms 0 st2.bad 0 0 R2.o hi2).mono ?_;rintro x w3 ⟨rfl,hg3⟩;have R3:=A0 (R2.o.kept hg3);have G4:=A0 (A1 G3.o hg3);clear hg3;go_wp2_with fail;refine(C9 c HC.o _ st2.i _ _ _ _ _ 3 R3.o hi2).mono ?_;rintro x w4 ⟨rfl,hR4,hG4⟩;have c5:w4.cell? ⟨c.rb,5,none⟩=some (.int .i64 3):=hR4.cell 5;have c6:w4.cell? ⟨c.rb,6,none⟩=some (.int .i64 ((tk c.ts st2.i).at_:Int)):=hR4.cell 6;have G5:=A0 (AR G4.o hG4 hrbw);clear hR4 hG4;go_wp2;go_quiet (fail)
   go_wp2
   go_ret3
   rw[HF.o];exact⟨AT G5.o _,rfl⟩
theorem Oz(s:ByteArray)(w:World)(hn:Ae w)(hs:s.size<=9223372036854775807):Calls Tryz.prog 48 #[.string s] w (JG (Ax s) w):=by
 unfold Ax;by_cases h:400<s.size
 ·rw[if_pos h];exact Wq s w h hs
 ·rw[if_neg h];exact Wr s w hn (by omega)
end Go.Proofs.YtlhkfafdioakeaaGreatDoor
