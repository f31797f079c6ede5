/- Parts of the proof. -/
import Derived.Test.YtlhkfafdioakeaaGreatDoorSf01
import Derived.Test.YtlhkfafdioakeaaGreatDoorProg
import Derived.WalkKit
import Derived.Scope
import Derived.WalkSpells
import Derived.WalkLawsBesides
import Derived.Deep.QuietTactic
import Derived.BigQuiet
import Derived.Maps.AppendAt
namespace Go.Weft
def letB(c:Int):Bool:=decide (97<=c/\c<=122)
def digB(c:Int):Bool:=decide (48<=c/\c<=57)
def signK(c:Int):Int:=
 if c=43 then 4 else if c=59 then 5 else if c=42 then 6 else if c=33 then 7 else if c=40 then 8 else if c=41 then 9 else if c=61 then 10 else 1
def byt(s:ByteArray)(i:Nat):Int:=if h:i<s.size then ((s[i]'h).toNat:Int) else 0
theorem xd1(s:ByteArray)(i:Nat)(h:i<s.size):byt s i=((s[i]'h).toNat:Int):=by simp [byt,h]
def clsB(l:Bool)(c:Int):Bool:=match l with|true=>letB c|false=>digB c
def xux(s:ByteArray)(l:Bool):Nat->Nat->Nat
 | 0,i=>i
 | f+1,i=>if i<s.size/\clsB l (byt s i)=true then xux s l f (i+1) else i
structure Tok where
 kind:Int
 at_:Nat
 to:Nat
def lex(s:ByteArray)(stop:Bool):Nat->Nat->List Tok
 | 0,i=>[⟨0,i,i⟩]
 | f+1,i=>
  if s.size<=i then [⟨0,i,i⟩]
  else if byt s i=32\/byt s i=10 then lex s stop f (i+1)
  else if letB (byt s i)=true then ⟨2,i,xux s true s.size (i+1)⟩::lex s stop f (xux s true s.size (i+1))
  else if byt s i=48 then ⟨3,i,i+1⟩::lex s stop f (i+1)
  else if digB (byt s i)=true then ⟨3,i,xux s false s.size (i+1)⟩::lex s stop f (xux s false s.size (i+1))
  else if byt s i=58 then
   (if i+1<s.size/\byt s (i+1)=61 then ⟨11,i,i+2⟩::lex s stop f (i+2)
    else ⟨1,i,i⟩::(if stop then [] else lex s stop f (i+1)))
  else if signK (byt s i)=1 then ⟨1,i,i⟩::(if stop then [] else lex s stop f (i+1))
  else ⟨signK (byt s i),i,i+1⟩::lex s stop f (i+1)
theorem xuz(s:ByteArray)(l:Bool):∀f i,i<=xux s l f i
 | 0,i=>Nat.le_refl _
 | f+1,i=>by
  unfold xux;split
  ·have:=xuz s l f (i+1);omega
  ·exact Nat.le_refl _
theorem xu0(s:ByteArray)(l:Bool):∀f i,i<=s.size->xux s l f i<=s.size
 | 0,i,h=>h
 | f+1,i,h=>by
  unfold xux;split
  ·rename_i hc;exact xu0 s l f (i+1) hc.1
  ·exact h
theorem xuy(s:ByteArray)(l:Bool):∀f g i,s.size<=f+i->s.size<=g+i->xux s l f i=xux s l g i
 | 0,0,i,_,_=>rfl
 | 0,g+1,i,h,_=>by
  rw [xux,xux,if_neg (by omega)]
 | f+1,0,i,_,h=>by
  rw [xux,xux,if_neg (by omega)]
 | f+1,g+1,i,h,k=>by
  rw [xux,xux];split
  ·exact xuy s l f g (i+1) (by omega) (by omega)
  ·rfl
theorem xu2(s:ByteArray)(l:Bool)(i:Nat)(h:i<s.size)(hc:clsB l (byt s i)=true):
  xux s l s.size i=xux s l s.size (i+1):=by
 rw [xuy s l s.size (s.size+1) i (by omega) (by omega),xux,if_pos ⟨h,hc⟩]
theorem xu3(s:ByteArray)(l:Bool)(i:Nat)(h:¬(i<s.size/\clsB l (byt s i)=true)):
  xux s l s.size i=i:=by
 cases hs:s.size with
 | zero=>rfl
 | succ n=>rw [xux,if_neg h]
theorem xlr(s:ByteArray)(stop:Bool):∀f g i,s.size<=f+i->s.size<=g+i->lex s stop f i=lex s stop g i:=by
 intro f;induction f with
 | zero=>
  intro g i h k;cases g with
  | zero=>rfl
  | succ g=>rw [lex,lex,if_pos (by omega)]
 | succ f ih=>
  intro g i h k;cases g with
  | zero=>rw [lex,lex,if_pos (by omega)]
  | succ g=>
   have h1:=ih g (i+1) (by omega) (by omega);have h2:=ih g (i+2) (by omega) (by omega);have e1:=xuz s true s.size (i+1);have e2:=xuz s false s.size (i+1);have h3:=ih g (xux s true s.size (i+1)) (by omega) (by omega);have h4:=ih g (xux s false s.size (i+1)) (by omega) (by omega);rw [lex,lex,h1,h2,h3,h4]
def toks(s:ByteArray)(stop:Bool)(i:Nat):List Tok:=lex s stop s.size i
theorem xzu(s:ByteArray)(stop:Bool)(i:Nat):toks s stop i =
  if s.size<=i then [⟨0,i,i⟩]
  else if byt s i=32\/byt s i=10 then toks s stop (i+1)
  else if letB (byt s i)=true then ⟨2,i,xux s true s.size (i+1)⟩::toks s stop (xux s true s.size (i+1))
  else if byt s i=48 then ⟨3,i,i+1⟩::toks s stop (i+1)
  else if digB (byt s i)=true then ⟨3,i,xux s false s.size (i+1)⟩::toks s stop (xux s false s.size (i+1))
  else if byt s i=58 then
   (if i+1<s.size/\byt s (i+1)=61 then ⟨11,i,i+2⟩::toks s stop (i+2)
    else ⟨1,i,i⟩::(if stop then [] else toks s stop (i+1)))
  else if signK (byt s i)=1 then ⟨1,i,i⟩::(if stop then [] else toks s stop (i+1))
  else ⟨signK (byt s i),i,i+1⟩::toks s stop (i+1):=by
 unfold toks;rw [xlr s stop s.size (s.size+1) i (by omega) (by omega),lex]
end Go.Weft
namespace Go.Weft
set_option linter.unusedVariables false
set_option linter.unusedSimpArgs false
structure St where
 i:Nat
 atoms:Nat
 bad:Nat
def tk(ts:List Tok)(i:Nat):Tok:=ts.getD i ⟨0,0,0⟩
def txt(s:ByteArray)(t:Tok):List UInt8:=(s.extract t.at_ t.to).data.toList
def xg6(b:List UInt8):Option Nat:=
 if b=[115,119] then some 0 else if b=[112,116] then some 1 else if b=[116,121,112] then some 2 else if b=[115,114,99] then some 3
 else if b=[100,115,116] then some 4 else if b=[116,97,103] then some 5 else none
def digOf(c:UInt8):Nat:=(((c.toNat:Int)-48)%256).toNat
def xpf(b:List UInt8):Nat:=b.foldl (fun n c=>min (10*n+digOf c) 32) 0
def leafC(k:Int)(f n:Nat):Code:=if k=11 then .exit (3+2*(32*f+n)) else .exit (2+2*(32*f+n))
def isT:Code->Bool
 | .exit n=>decide (n<=1)||n%2 == 0
 | .scope _=>true
 | .block _ l=>isT l
 | .seq a b=>isT a&&isT b
 | .skip=>true
 | _=>false
def chain:List Code->Code
 | []=>.skip
 | t::l=>.seq t (chain l)
def joinC(k:Nat):List Code->Code
 | [t]=>t
 | l=>.block k (chain l)
section
variable(s:ByteArray)(ts:List Tok)
def pairP(f:Nat)(st:St):Except (Int×Nat) (Code×St):=
 if f=0/\(tk ts (st.i+1)).kind=11 then .error (5,(tk ts st.i).at_)
 else if st.atoms=16 then .error (7,(tk ts st.i).at_)
 else if ¬(tk ts (st.i+1)).kind=10/\¬(tk ts (st.i+1)).kind=11 then .error (3,(tk ts (st.i+1)).at_)
 else if ¬(tk ts (st.i+2)).kind=3 then .error (3,(tk ts (st.i+2)).at_)
 else if 31<xpf (txt s (tk ts (st.i+2))) then .error (4,(tk ts (st.i+2)).at_)
 else .ok (leafC (tk ts (st.i+1)).kind f (xpf (txt s (tk ts (st.i+2)))),⟨st.i+3,st.atoms+1,st.bad⟩)
def wordP(st:St):Except (Int×Nat) (Code×St):=
 if txt s (tk ts st.i)=[105,100] then .ok (.exit 0,⟨st.i+1,st.atoms,st.bad⟩)
 else if txt s (tk ts st.i)=[100,114,111,112] then .ok (.exit 1,⟨st.i+1,st.atoms,st.bad⟩)
 else match xg6 (txt s (tk ts st.i)) with
  | none=>.error (3,(tk ts st.i).at_)
  | some f=>pairP s ts f st
def xw4:Nat->Code->Nat->Code×Nat
 | 0,t,i=>(t,i)
 | f+1,t,i=>if (tk ts i).kind=6 then xw4 f (.loop t) (i+1) else (t,i)
def partP(atom:St->Except (Int×Nat) (Code×St))(st:St):Except (Int×Nat) (Code×St):=
 match atom st with
 | .error e=>.error e
 | .ok (t,st')=>.ok ((xw4 ts ts.length t st'.i).1,⟨(xw4 ts ts.length t st'.i).2,st'.atoms,st'.bad⟩)
def listP(sep:Int)(part:St->Except (Int×Nat) (Code×St)):Nat->St->Except (Int×Nat) (List Code×St)
 | 0,st=>.ok ([],st)
 | f+1,st=>
  match part st with
  | .error e=>.error e
  | .ok (t,st')=>
   if (tk ts st'.i).kind=sep then
    match listP sep part f ⟨st'.i+1,st'.atoms,st'.bad⟩ with
    | .error e=>.error e
    | .ok (l,st'')=>.ok (t::l,st'')
   else .ok ([t],st')
def joinP(k:Nat)(r:Except (Int×Nat) (List Code×St)):Except (Int×Nat) (Code×St):=
 match r with
 | .error e=>.error e
 | .ok (l,st)=>.ok (joinC k l,st)
def seqP(atom:St->Except (Int×Nat) (Code×St))(st:St):Except (Int×Nat) (Code×St):=
 joinP 1 (listP ts 5 (partP ts atom) ts.length st)
def sumP(atom:St->Except (Int×Nat) (Code×St))(st:St):Except (Int×Nat) (Code×St):=
 joinP 0 (listP ts 4 (seqP ts atom) ts.length st)
def notP(p:Nat)(r:Except (Int×Nat) (Code×St)):Except (Int×Nat) (Code×St):=
 match r with
 | .error e=>.error e
 | .ok (t,st)=>.ok (.scope t,⟨st.i,st.atoms,if isT t then st.bad else min st.bad p⟩)
def xds(r:Except (Int×Nat) (Code×St)):Except (Int×Nat) (Code×St):=
 match r with
 | .error e=>.error e
 | .ok (t,st)=>if (tk ts st.i).kind=9 then .ok (t,⟨st.i+1,st.atoms,st.bad⟩) else .error (3,(tk ts st.i).at_)
def atomP:Nat->St->Except (Int×Nat) (Code×St)
 | 0,st=>
  if (tk ts st.i).kind=2 then wordP s ts st
  else if (tk ts st.i).kind=7 then .error (7,(tk ts st.i).at_)
  else if (tk ts st.i).kind=8 then .error (7,(tk ts st.i).at_)
  else .error (3,(tk ts st.i).at_)
 | d+1,st=>
  if (tk ts st.i).kind=2 then wordP s ts st
  else if (tk ts st.i).kind=7 then notP (tk ts st.i).at_ (atomP d ⟨st.i+1,st.atoms,st.bad⟩)
  else if (tk ts st.i).kind=8 then xds ts (sumP ts (atomP d) ⟨st.i+1,st.atoms,st.bad⟩)
  else .error (3,(tk ts st.i).at_)
def readP:Except (Int×Nat) Code:=
 match sumP ts (atomP s ts 12) ⟨0,0,401⟩ with
 | .error e=>.error e
 | .ok (t,st)=>if (tk ts st.i).kind=0 then (if st.bad=401 then .ok t else .error (6,st.bad)) else .error (3,(tk ts st.i).at_)
def xaa:Prop:=0<ts.length/\((tk ts (ts.length-1)).kind=0\/(tk ts (ts.length-1)).kind=1)
def Goes(p:St->Except (Int×Nat) (Code×St)):Prop:=∀st t st',st.i<ts.length->st.atoms<=16->p st=.ok (t,st')->st.i<st'.i/\st'.i<ts.length/\st'.atoms<=16/\st'.bad<=st.bad
end
section
variable{s:ByteArray}{ts:List Tok}
theorem xaa.next(h:xaa ts){i:Nat}(hi:i<ts.length)(h0:¬(tk ts i).kind=0)(h1:¬(tk ts i).kind=1):i+1<ts.length:=by
 rcases Nat.lt_or_ge (i+1) ts.length with h2|h2
 ·exact h2
 ·have:i=ts.length-1:=by omega
  subst this;rcases h.2 with h3|h3<;>contradiction
theorem xir(h:xaa ts)(f:Nat)(st:St)(t:Code)(st':St)(hi:st.i<ts.length)(hk:(tk ts st.i).kind=2)(ha:st.atoms<=16)(hp:pairP s ts f st=.ok (t,st')):
  st.i<st'.i/\st'.i<ts.length/\st'.atoms<=16/\st'.bad<=st.bad:=by
 have h1:=h.next hi (by omega) (by omega);unfold pairP at hp;by_cases b1:f=0/\(tk ts (st.i+1)).kind=11
 ·rw [if_pos b1] at hp;cases hp
 rw [if_neg b1] at hp;by_cases b2:st.atoms=16
 ·rw [if_pos b2] at hp;cases hp
 rw [if_neg b2] at hp;by_cases b3:¬(tk ts (st.i+1)).kind=10/\¬(tk ts (st.i+1)).kind=11
 ·rw [if_pos b3] at hp;cases hp
 rw [if_neg b3] at hp;by_cases b4:¬(tk ts (st.i+2)).kind=3
 ·rw [if_pos b4] at hp;cases hp
 rw [if_neg b4] at hp;by_cases b5:31<xpf (txt s (tk ts (st.i+2)))
 ·rw [if_pos b5] at hp;cases hp
 rw [if_neg b5] at hp;have h2:st.i+2<ts.length:=h.next h1 (by omega) (by omega);have h3:st.i+3<ts.length:=h.next h2 (by omega) (by omega);cases hp;exact ⟨by simp,h3,by simp;omega,Nat.le_refl _⟩
theorem xiv(h:xaa ts)(st:St)(t:Code)(st':St)(hi:st.i<ts.length)(hk:(tk ts st.i).kind=2)(ha:st.atoms<=16)(hp:wordP s ts st=.ok (t,st')):
  st.i<st'.i/\st'.i<ts.length/\st'.atoms<=16/\st'.bad<=st.bad:=by
 have h1:=h.next hi (by omega) (by omega);unfold wordP at hp;split at hp
 ·cases hp;exact ⟨by simp,by simpa using h1,ha,Nat.le_refl _⟩
 ·split at hp
  ·cases hp;exact ⟨by simp,by simpa using h1,ha,Nat.le_refl _⟩
  ·split at hp
   ·cases hp
   ·exact xir h _ st t st' hi hk ha hp
theorem xw5(h:xaa ts):∀(f:Nat) (t:Code) (i:Nat),i<ts.length->i<=(xw4 ts f t i).2/\(xw4 ts f t i).2<ts.length
 | 0,t,i,hi=>⟨Nat.le_refl _,hi⟩
 | f+1,t,i,hi=>by
  unfold xw4;split
  ·have h1:=h.next hi (by omega) (by omega);have:=xw5 h f (.loop t) (i+1) h1;omega
  ·exact ⟨Nat.le_refl _,hi⟩
theorem xis(h:xaa ts){atom:St->Except (Int×Nat) (Code×St)}(ha:Goes ts atom):Goes ts (partP ts atom):=by
 intro st t st' hi hat hp;unfold partP at hp;split at hp
 ·cases hp
 ·rename_i t1 st1 h1;cases hp;have g1:=ha st t1 st1 hi hat h1;have g2:=xw5 h ts.length t1 st1.i g1.2.1;exact ⟨by simp;omega,by simp;omega,g1.2.2.1,g1.2.2.2⟩
theorem xiq(h:xaa ts){part:St->Except (Int×Nat) (Code×St)}(hp:Goes ts part)(sep:Int)(h0:¬sep=0)(h1:¬sep=1):
  ∀(f:Nat) (st:St) (l:List Code) (st':St),st.i<ts.length->st.atoms<=16->ts.length<=f+st.i->listP ts sep part f st=.ok (l,st')->st.i<st'.i/\st'.i<ts.length/\st'.atoms<=16/\st'.bad<=st.bad:=by
 intro f;induction f with
 | zero=>intro st l st' hi _ hf _;omega
 | succ f ih=>
  intro st l st' hi hat hf hl;unfold listP at hl;split at hl
  ·cases hl
  ·rename_i t1 st1 e1;have g1:=hp st t1 st1 hi hat e1;split at hl
   ·rename_i hk;have h2:=h.next g1.2.1 (by omega) (by omega);split at hl
    ·cases hl
    ·rename_i l2 st2 e2;cases hl;have g2:=ih ⟨st1.i+1,st1.atoms,st1.bad⟩ l2 _ (by simpa using h2) g1.2.2.1 (by simp;omega) e2;simp at g2;omega
   ·cases hl;exact g1
theorem xip{k:Nat}{r:Except (Int×Nat) (List Code×St)}{t:Code}{st:St}(h:joinP k r=.ok (t,st)):∃l,r=.ok (l,st)/\t=joinC k l:=by
 unfold joinP at h;split at h
 ·cases h
 ·cases h;exact ⟨_,rfl,rfl⟩
theorem xit(h:xaa ts){atom:St->Except (Int×Nat) (Code×St)}(ha:Goes ts atom):Goes ts (seqP ts atom):=by
 intro st t st' hi hat hp;obtain ⟨l,hl,_⟩:=xip hp;exact xiq h (xis h ha) 5 (by decide) (by decide) _ st l st' hi hat (by omega) hl
theorem xiu(h:xaa ts){atom:St->Except (Int×Nat) (Code×St)}(ha:Goes ts atom):Goes ts (sumP ts atom):=by
 intro st t st' hi hat hp;obtain ⟨l,hl,_⟩:=xip hp;exact xiq h (xit h ha) 4 (by decide) (by decide) _ st l st' hi hat (by omega) hl
theorem xio(h:xaa ts):∀d,Goes ts (atomP s ts d):=by
 intro d;induction d with
 | zero=>
  intro st t st' hi hat hp;unfold atomP at hp;split at hp
  ·rename_i hk;exact xiv h st t st' hi hk hat hp
  ·repeat' split at hp
   all_goals cases hp
 | succ d ih=>
  intro st t st' hi hat hp;unfold atomP at hp;split at hp
  ·rename_i hk;exact xiv h st t st' hi hk hat hp
  ·split at hp
   ·rename_i hk;have h1:=h.next hi (by omega) (by omega);unfold notP at hp;split at hp
    ·cases hp
    ·rename_i t1 st1 e1;cases hp;have g1:=ih ⟨st.i+1,st.atoms,st.bad⟩ t1 st1 h1 hat e1;simp at g1;refine ⟨by simp;omega,by simp;omega,g1.2.2.1,?_⟩;simp only;split<;>omega
   ·split at hp
    ·rename_i hk;have h1:=h.next hi (by omega) (by omega);unfold xds at hp;split at hp
     ·cases hp
     ·rename_i t1 st1 e1;have g1:=xiu h ih ⟨st.i+1,st.atoms,st.bad⟩ t1 st1 h1 hat e1;simp at g1;split at hp
      ·rename_i hk9;cases hp;have h2:=h.next g1.2.1 (by omega) (by omega);exact ⟨by simp;omega,by simpa using h2,g1.2.2.1,g1.2.2.2⟩
      ·cases hp
    ·cases hp
end
end Go.Weft
namespace Go.Weft
set_option linter.unusedVariables false
set_option linter.unusedSimpArgs false
theorem xls(s:ByteArray):∀f i,∃l t,lex s true f i=l++[t]/\(t.kind=0\/t.kind=1):=by
 intro f;induction f with
 | zero=>intro i;exact ⟨[],⟨0,i,i⟩,rfl,.inl rfl⟩
 | succ f ih=>
  intro i
  have cons:∀(x:Tok) (j:Nat),∃l t,x::lex s true f j=l++[t]/\(t.kind=0\/t.kind=1):=by
   intro x j;obtain ⟨l,t,h,hk⟩:=ih j;exact ⟨x::l,t,by rw [h];rfl,hk⟩
  unfold lex;split
  ·exact ⟨[],_,rfl,.inl rfl⟩
  ·split
   ·exact ih _
   ·split
    ·exact cons _ _
    ·split
     ·exact cons _ _
     ·split
      ·exact cons _ _
      ·split
       ·split
        ·exact cons _ _
        ·exact ⟨[],_,rfl,.inr rfl⟩
       ·split
        ·exact ⟨[],_,rfl,.inr rfl⟩
        ·exact cons _ _
theorem xzk(l:List Tok)(t:Tok):tk (l++[t]) ((l++[t]).length-1)=t:=by simp [tk]
theorem xzt(s:ByteArray)(i:Nat):xaa (toks s true i):=by
 obtain ⟨l,t,h,hk⟩:=xls s s.size i;unfold toks;rw [h];exact ⟨by simp,by rw [xzk];exact hk⟩
theorem xlt(s:ByteArray)(stop:Bool):∀f i,i<=s.size->(lex s stop f i).length+i<=s.size+1:=by
 intro f;induction f with
 | zero=>intro i hi;simp [lex];omega
 | succ f ih=>
  intro i hi;have e1:=xuz s true s.size (i+1);have e2:=xuz s false s.size (i+1);unfold lex;split
  ·simp;omega
  ·have r1:=xu0 s true s.size (i+1) (by omega);have r2:=xu0 s false s.size (i+1) (by omega);have h1:=ih (i+1) (by omega);have h3:=ih _ r1;have h4:=ih _ r2;split
   ·omega
   ·split
    ·simp only [List.length_cons];omega
    ·split
     ·simp only [List.length_cons];omega
     ·split
      ·simp only [List.length_cons];omega
      ·split
       ·split
        ·have h2:=ih (i+2) (by omega);simp only [List.length_cons];omega
        ·cases stop
         ·simp only [List.length_cons,Bool.false_eq_true,if_false];omega
         ·simp only [List.length_cons,if_true,List.length_nil];omega
       ·split
        ·cases stop
         ·simp only [List.length_cons,Bool.false_eq_true,if_false];omega
         ·simp only [List.length_cons,if_true,List.length_nil];omega
        ·simp only [List.length_cons];omega
theorem xzv(s:ByteArray)(stop:Bool):(toks s stop 0).length<=s.size+1:=by
 have:=xlt s stop s.size 0 (Nat.zero_le _);unfold toks;omega
theorem xlu(s:ByteArray)(stop:Bool):∀f i,i<=s.size->∀t∈lex s stop f i,t.at_<=t.to/\t.to<=s.size:=by
 intro f;induction f with
 | zero=>intro i hi t ht;simp [lex] at ht;subst ht;exact ⟨Nat.le_refl _,hi⟩
 | succ f ih=>
  intro i hi t ht;have e1:=xuz s true s.size (i+1);have e2:=xuz s false s.size (i+1)
  have one:∀(j:Nat) (k:Int),i<=j->j<=s.size->t∈(⟨k,i,j⟩:Tok)::lex s stop f j->t.at_<=t.to/\t.to<=s.size:=by
   intro j k h1 h2 h3;rcases List.mem_cons.1 h3 with h|h
   ·subst h;exact ⟨h1,h2⟩
   ·exact ih j h2 t h
  have two:∀(k:Int),i<s.size->t∈(⟨k,i,i⟩:Tok)::(if stop then [] else lex s stop f (i+1))->t.at_<=t.to/\t.to<=s.size:=by
   intro k h2 h3;rcases List.mem_cons.1 h3 with h|h
   ·subst h;exact ⟨Nat.le_refl _,by simp;omega⟩
   ·cases stop
    ·exact ih (i+1) (by omega) t (by simpa using h)
    ·simp at h
  unfold lex at ht;split at ht
  ·simp at ht;subst ht;exact ⟨Nat.le_refl _,hi⟩
  ·have r1:=xu0 s true s.size (i+1) (by omega);have r2:=xu0 s false s.size (i+1) (by omega);split at ht
   ·exact ih _ (by omega) t ht
   ·split at ht
    ·exact one _ _ (by omega) r1 ht
    ·split at ht
     ·exact one _ _ (by omega) (by omega) ht
     ·split at ht
      ·exact one _ _ (by omega) r2 ht
      ·split at ht
       ·split at ht
        ·exact one _ _ (by omega) (by omega) ht
        ·exact two _ (by omega) ht
       ·split at ht
        ·exact two _ (by omega) ht
        ·exact one _ _ (by omega) (by omega) ht
theorem xzs(s:ByteArray)(stop:Bool)(i:Nat):(tk (toks s stop 0) i).at_<=s.size:=by
 unfold tk;by_cases h:i<(toks s stop 0).length
 ·have:=xlu s stop s.size 0 (Nat.zero_le _) ((toks s stop 0)[i]) (List.getElem_mem h);have e:(toks s stop 0).getD i ⟨0,0,0⟩=(toks s stop 0)[i]:=by simp [List.getD,h]
  rw [e];omega
 ·have e:(toks s stop 0).getD i ⟨0,0,0⟩=⟨0,0,0⟩:=by simp [List.getD,List.getElem?_eq_none (Nat.le_of_not_lt h)]
  rw [e];exact Nat.zero_le _
end Go.Weft
namespace Go
def Exit.gotos(J:Nat->Act->World->Prop)(Q:Exit->Act->World->Prop):Exit->Act->World->Prop
 | .goto l,a,w=>J l a w
 | e,a,w=>Q e a w
section
variable{P:Program}{a:Act}{w:World}{Q:Exit->Act->World->Prop}
theorem x1g{c:Code}(J:Nat->Act->World->Prop)(μ:Nat->Act->World->Nat)
  (first:c.wp P (Exit.gotos J Q) a w)
  (pass:∀l a w,J l a w->∃rest,findLabel c l=some rest/\rest.wp P (Exit.gotos (fun l' a' w'=>J l' a' w'/\μ l' a' w'<μ l a w) Q) a w):
  (Code.scope c).wp P Q a w:=by
 intro b k cs
 have key:∀n l a w rest,μ l a w=n->J l a w->findLabel c l=some rest->
   ∃e a' w',Q e a' w'/\Arrives P (lone (b.at a (.code rest :: .inScope c::k)) cs w) b k cs e a' w':=by
  intro n;induction n using Nat.strongRecOn with
  | _ n ih=>
   intro l a w rest hn hJ hf;obtain ⟨rest',hf',hw⟩:=pass l a w hJ;rw [hf] at hf';cases hf';obtain ⟨e,a₁,w₁,hq,harr⟩:=hw b (.inScope c::k) cs;cases e with
   | normal=>exact ⟨.normal,a₁,w₁,hq,Steps.trans harr (.one step_inScope)⟩
   | exit id=>exact ⟨.exit id,a₁,w₁,hq,fun k' hk=>harr k' (by simp [exitTo,hk])⟩
   | goto l'=>
    obtain ⟨hJ',hlt⟩:=hq;obtain ⟨r2,hf2,_⟩:=pass l' a₁ w₁ hJ';have hg:gotoIn l' (.inScope c::k)=some (.code r2 :: .inScope c::k):=by simp [gotoIn,hf2]
    obtain ⟨e₂,a₂,w₂,hq₂,harr₂⟩:=ih _ (by omega) l' a₁ w₁ r2 rfl hJ' hf2;exact ⟨e₂,a₂,w₂,hq₂,.of_steps (harr _ hg) harr₂⟩
   | ret=>exact ⟨_,a₁,w₁,hq,harr⟩
   | panic ch=>exact ⟨_,a₁,w₁,hq,harr⟩
   | outgrown=>exact ⟨_,a₁,w₁,hq,harr⟩
 obtain ⟨e,a₁,w₁,hq,harr⟩:=first b (.inScope c::k) cs;cases e with
 | normal=>exact ⟨.normal,a₁,w₁,hq,.head step_scope (Steps.trans harr (.one step_inScope))⟩
 | exit id=>exact ⟨.exit id,a₁,w₁,hq,fun k' hk=>.head step_scope (harr k' (by simp [exitTo,hk]))⟩
 | goto l'=>
  obtain ⟨r2,hf2,_⟩:=pass l' a₁ w₁ hq;have hg:gotoIn l' (.inScope c::k)=some (.code r2 :: .inScope c::k):=by simp [gotoIn,hf2]
  obtain ⟨e₂,a₂,w₂,hq₂,harr₂⟩:=key _ l' a₁ w₁ r2 rfl hq hf2;exact ⟨e₂,a₂,w₂,hq₂,.of_steps (.head step_scope (harr _ hg)) harr₂⟩
 | ret=>exact ⟨_,a₁,w₁,hq,.of_steps (.one step_scope) harr⟩
 | panic ch=>exact ⟨_,a₁,w₁,hq,.of_steps (.one step_scope) harr⟩
 | outgrown=>exact ⟨_,a₁,w₁,hq,.of_steps (.one step_scope) harr⟩
theorem x1h{x y z:Code}{l0:Nat}(J:Nat->Act->World->Prop)(μ:Nat->Act->World->Nat)
  (first:∀K:Act->World->Prop,(∀a w,J l0 a w->K a w)->x.wp P (Exit.then (y.wp P (Exit.then K (Exit.gotos J Q))) (Exit.gotos J Q)) a w)
  (hf:findLabel (.seq x (.seq y (.seq (.label l0) z))) l0=some (.seq .skip z))
  (pass:∀l a w,J l a w->∃z',findLabel (.seq x (.seq y (.seq (.label l0) z))) l=some (.seq .skip z')/\z'.wp P (Exit.gotos (fun l' a' w'=>J l' a' w'/\μ l' a' w'<μ l a w) Q) a w):
  (Code.scope (.seq x (.seq y (.seq (.label l0) z)))).wp P Q a w:=by
 refine x1g J μ (wp_seq ?_) (fun l a w hJ=>?_)
 ·refine wp_mono (first (fun a w=>(Code.seq (.label l0) z).wp P (Exit.gotos J Q) a w) fun a w hJ=>?_) ?_
  ·obtain ⟨z',hr,hw⟩:=pass l0 a w hJ;rw [hf] at hr;cases hr;refine wp_seq (wp_label (wp_mono hw ?_));intro e a w h;cases e<;>first|exact h|exact h.1
  ·intro e a w h;cases e<;>first|exact h|exact wp_seq h
 ·obtain ⟨z',hr,hw⟩:=pass l a w hJ;exact ⟨_,hr,wp_seq (wp_skip hw)⟩
end
end Go
namespace Go.Proofs.YtlhkfafdioakeaaGreatDoor
set_option maxRecDepth 100000
set_option maxHeartbeats 2000000
open Go.RowKit Go.Weft
theorem xj2(c:Int)(w:World):
  Calls Tryz.prog 135 #[.int .u8 c] w fun e w'=>e=.returned (.bool (letB c))/\w'=w:=by
 by_cases h1:97<=c
 ·by_cases h2:c<=122
  ·go_enter Tryz.func135,Tryz.ntmps135;go_wp2;go_ret;exact ⟨by simp [letB,h1,h2],rfl⟩
  ·go_enter Tryz.func135,Tryz.ntmps135;go_wp2;go_ret
   exact ⟨by have h3:¬c<=122:=by omega
             simp [letB,h3],rfl⟩
 ·go_enter Tryz.func135,Tryz.ntmps135;go_wp2;go_ret
  exact ⟨by have h3:¬97<=c:=by omega
            simp [letB,h3],rfl⟩
theorem xj1(c:Int)(w:World):
  Calls Tryz.prog 136 #[.int .u8 c] w fun e w'=>e=.returned (.bool (digB c))/\w'=w:=by
 by_cases h1:48<=c
 ·by_cases h2:c<=57
  ·go_enter Tryz.func136,Tryz.ntmps136;go_wp2;go_ret;exact ⟨by simp [digB,h1,h2],rfl⟩
  ·go_enter Tryz.func136,Tryz.ntmps136;go_wp2;go_ret
   exact ⟨by have h3:¬c<=57:=by omega
             simp [digB,h3],rfl⟩
 ·go_enter Tryz.func136,Tryz.ntmps136;go_wp2;go_ret
  exact ⟨by have h3:¬48<=c:=by omega
            simp [digB,h3],rfl⟩
theorem xwb(c:Int)(w:World):
  Calls Tryz.prog 137 #[.int .u8 c] w fun e w'=>e=.returned (.int .i64 (signK c))/\w'=w:=by
 go_enter Tryz.func137,Tryz.ntmps137;go_wp2
 all_goals
  go_ret;exact ⟨by simp_all [signK],rfl⟩
set_option linter.unusedVariables false
set_option linter.unusedSimpArgs false
def xzm(s:ByteArray)(ts:List Tok):List Value:=ts.flatMap fun t=>[.int .i64 t.kind,.int .i64 (t.at_:Int),.string (s.extract t.at_ t.to)]
theorem xzo(s:ByteArray)(ts:List Tok)(t:Tok):xzm s (ts++[t])=xzm s ts++[.int .i64 t.kind,.int .i64 (t.at_:Int),.string (s.extract t.at_ t.to)]:=by simp [xzm]
def tokAt(s:ByteArray)(l:Nat)(acc:List Tok)(fst pos:Nat)(kd:Int):Prop:=
 match l with
 | 0=>acc.length<=pos/\acc++toks s true pos=toks s true 0
 | 1=>acc.length<=fst/\fst<=s.size/\acc++[⟨kd,fst,fst⟩]=toks s true 0
 | 2=>acc.length<=fst/\fst<pos/\acc++⟨2,fst,xux s true s.size pos⟩::toks s true (xux s true s.size pos)=toks s true 0
 | 3=>acc.length<=fst/\fst<pos/\acc++⟨kd,fst,pos⟩::toks s true pos=toks s true 0
 | 4=>acc.length<=fst/\fst<pos/\acc++⟨3,fst,xux s false s.size pos⟩::toks s true (xux s false s.size pos)=toks s true 0
 | 5=>acc.length<=fst/\fst+1=pos/\byt s fst=58/\acc++toks s true fst=toks s true 0
 | _=>False
def tokJ(s:ByteArray)(B:Nat)(w0:World)(l:Nat)(a:Act)(w:World):Prop:=
 ∃(v:Value) (acc:List Tok) (fst pos:Nat) (kd:Int) (u:Nat->Value),
  a={ tmps:=#[.string s,u 1,.slice none 0 0,v,.int .i64 fst,.int .i64 pos,.int .i64 kd,u 7,u 8,u 9,u 10,u 11,u 12,u 13,u 14,u 15,u 16,u 17,u 18,u 19,u 20,u 21,u 22,u 23,u 24,u 25,u 26,u 27,u 28,u 29,u 30,u 31,u 32,u 33,u 34,u 35,u 36,u 37,u 38,u 39,u 40,u 41,u 42,u 43,u 44,u 45,u 46,u 47,u 48,u 49,u 50,u 51,u 52,u 53,u 54,u 55,u 56,u 57,u 58,u 59,u 60,u 61,u 62,u 63,u 64,u 65,u 66,u 67,u 68,u 69,u 70,u 71,u 72,u 73,u 74,u 75,u 76,u 77,u 78,u 79,u 80,u 81,u 82,u 83,u 84,u 85,u 86,u 87,u 88,u 89,u 90,u 91,u 92],defers:=[] }/\
  w.ownsRow B 162 3 v acc.length (xzm s acc)/\Below B w0 w/\B<=w.heap.size/\pos<=s.size/\tokAt s l acc fst pos kd
theorem xzp{s:ByteArray}{B:Nat}{w0:World}{l:Nat}{G:Act->World->Prop}
  (k:∀(w:World) (v:Value) (acc:List Tok) (fst pos:Nat) (kd:Int) (u:Nat->Value),
   w.ownsRow B 162 3 v acc.length (xzm s acc)->Below B w0 w->B<=w.heap.size->pos<=s.size->tokAt s l acc fst pos kd->G { tmps:=#[.string s,u 1,.slice none 0 0,v,.int .i64 fst,.int .i64 pos,.int .i64 kd,u 7,u 8,u 9,u 10,u 11,u 12,u 13,u 14,u 15,u 16,u 17,u 18,u 19,u 20,u 21,u 22,u 23,u 24,u 25,u 26,u 27,u 28,u 29,u 30,u 31,u 32,u 33,u 34,u 35,u 36,u 37,u 38,u 39,u 40,u 41,u 42,u 43,u 44,u 45,u 46,u 47,u 48,u 49,u 50,u 51,u 52,u 53,u 54,u 55,u 56,u 57,u 58,u 59,u 60,u 61,u 62,u 63,u 64,u 65,u 66,u 67,u 68,u 69,u 70,u 71,u 72,u 73,u 74,u 75,u 76,u 77,u 78,u 79,u 80,u 81,u 82,u 83,u 84,u 85,u 86,u 87,u 88,u 89,u 90,u 91,u 92],defers:=[] } w):
  ∀a w,tokJ s B w0 l a w->G a w:=by
 intro a w h;obtain ⟨v,acc,fst,pos,kd,u,rfl,h1,h2,h3,h4,h5⟩:=h;exact k w v acc fst pos kd u h1 h2 h3 h4 h5
theorem xzq{s:ByteArray}{B:Nat}{w0:World}{l:Nat}{w:World}{v:Value}(acc:List Tok)(fst pos:Nat)(kd:Int){u1 u7 u8 u9 u10 u11 u12 u13 u14 u15 u16 u17 u18 u19 u20 u21 u22 u23 u24 u25 u26 u27 u28 u29 u30 u31 u32 u33 u34 u35 u36 u37 u38 u39 u40 u41 u42 u43 u44 u45 u46 u47 u48 u49 u50 u51 u52 u53 u54 u55 u56 u57 u58 u59 u60 u61 u62 u63 u64 u65 u66 u67 u68 u69 u70 u71 u72 u73 u74 u75 u76 u77 u78 u79 u80 u81 u82 u83 u84 u85 u86 u87 u88 u89 u90 u91 u92:Value}
   (h1:w.ownsRow B 162 3 v acc.length (xzm s acc)) (h2:Below B w0 w) (h3:B<=w.heap.size) (h4:pos<=s.size) (h5:tokAt s l acc fst pos kd) {xf xp xk:Value}
   (ef:xf=.int .i64 fst) (ep:xp=.int .i64 pos) (ek:xk=.int .i64 kd):
   tokJ s B w0 l { tmps:=#[.string s,u1,.slice none 0 0,v,xf,xp,xk,u7,u8,u9,u10,u11,u12,u13,u14,u15,u16,u17,u18,u19,u20,u21,u22,u23,u24,u25,u26,u27,u28,u29,u30,u31,u32,u33,u34,u35,u36,u37,u38,u39,u40,u41,u42,u43,u44,u45,u46,u47,u48,u49,u50,u51,u52,u53,u54,u55,u56,u57,u58,u59,u60,u61,u62,u63,u64,u65,u66,u67,u68,u69,u70,u71,u72,u73,u74,u75,u76,u77,u78,u79,u80,u81,u82,u83,u84,u85,u86,u87,u88,u89,u90,u91,u92],defers:=[] } w:=by
 subst ef ep ek;exact ⟨v,acc,fst,pos,kd,fun n=>(#[.string s,u1,.slice none 0 0,v,.int .i64 fst,.int .i64 pos,.int .i64 kd,u7,u8,u9,u10,u11,u12,u13,u14,u15,u16,u17,u18,u19,u20,u21,u22,u23,u24,u25,u26,u27,u28,u29,u30,u31,u32,u33,u34,u35,u36,u37,u38,u39,u40,u41,u42,u43,u44,u45,u46,u47,u48,u49,u50,u51,u52,u53,u54,u55,u56,u57,u58,u59,u60,u61,u62,u63,u64,u65,u66,u67,u68,u69,u70,u71,u72,u73,u74,u75,u76,u77,u78,u79,u80,u81,u82,u83,u84,u85,u86,u87,u88,u89,u90,u91,u92]).getD n undef,rfl,h1,h2,h3,h4,h5⟩
def tokMu(s:ByteArray)(l:Nat)(a:Act)(_:World):Nat:=
 4*(s.size-(intOf (a.tmps.getD 5 undef)).toNat)+(if l=0 then 1 else if l=1 then 0 else if l=3 then 2 else 3)
section
variable{s:ByteArray}{acc:List Tok}{fst pos:Nat}{kd c:Int}
theorem xyk(h:tokAt s 0 acc fst pos kd)(hp:pos<=s.size)(hlt:¬pos<s.size):tokAt s 1 acc pos pos 0:=by
 obtain ⟨h1,h2⟩:=h;refine ⟨h1,by omega,?_⟩;rw [xzu,if_pos (by omega)] at h2;exact h2
theorem xyi(h:tokAt s 0 acc fst pos kd)(hlt:pos<s.size)(hc:byt s pos=c)(hb:c=32\/c=10)(kd':Int):tokAt s 0 acc pos (pos+1) kd':=by
 obtain ⟨h1,h2⟩:=h;refine ⟨by omega,?_⟩;rw [xzu,if_neg (by omega),if_pos (by rw [hc];exact hb)] at h2;exact h2
theorem xyn(h:tokAt s 0 acc fst pos kd)(hlt:pos<s.size)(hc:byt s pos=c)(hb:letB c=true)(kd':Int):tokAt s 2 acc pos (pos+1) kd':=by
 obtain ⟨h1,h2⟩:=h;have h3:=hb;simp only [letB,decide_eq_true_eq] at h3;refine ⟨h1,by omega,?_⟩;rw [xzu,if_neg (by omega),if_neg (by omega),if_pos (by rw [hc];exact hb)] at h2;exact h2
theorem xo2(h:¬(97<=c/\c<=122)):¬letB c=true:=by simp only [letB,decide_eq_true_eq];exact h
theorem xo1(h:¬(48<=c/\c<=57)):¬digB c=true:=by simp only [digB,decide_eq_true_eq];exact h
theorem xyp(h:tokAt s 0 acc fst pos kd)(hlt:pos<s.size)(hc:byt s pos=c)(hb:c=48):tokAt s 3 acc pos (pos+1) 3:=by
 obtain ⟨h1,h2⟩:=h;refine ⟨h1,by omega,?_⟩;rw [xzu,if_neg (by omega),if_neg (by omega),if_neg (by rw [hc];exact xo2 (by omega)),if_pos (by omega)] at h2;exact h2
theorem xyl(h:tokAt s 0 acc fst pos kd)(hlt:pos<s.size)(hc:byt s pos=c)(h0:¬c=48)(hb:digB c=true)(kd':Int):tokAt s 4 acc pos (pos+1) kd':=by
 obtain ⟨h1,h2⟩:=h;have h3:=hb;simp only [digB,decide_eq_true_eq] at h3;refine ⟨h1,by omega,?_⟩;rw [xzu,if_neg (by omega),if_neg (by omega),if_neg (by rw [hc];exact xo2 (by omega)),if_neg (by omega),if_pos (by rw [hc];exact hb)] at h2;exact h2
theorem xyj(h:tokAt s 0 acc fst pos kd)(hlt:pos<s.size)(hc:byt s pos=c)(hb:c=58)(kd':Int):tokAt s 5 acc pos (pos+1) kd':=by
 obtain ⟨h1,h2⟩:=h;exact ⟨h1,rfl,hc.trans hb,h2⟩
theorem xv9(h:¬signK c=1):¬(c=32\/c=10)/\¬letB c=true/\¬c=48/\¬digB c=true/\¬c=58:=by
 have h2:c=43\/c=59\/c=42\/c=33\/c=40\/c=41\/c=61:=by
  simp only [signK] at h;repeat' split at h
  all_goals omega
 refine ⟨by omega,xo2 (by omega),by omega,xo1 (by omega),by omega⟩
theorem xyo(h:tokAt s 0 acc fst pos kd)(hlt:pos<s.size)(hc:byt s pos=c)(h1:¬(c=32\/c=10))(h2:¬letB c=true)(h3:¬c=48)(h4:¬digB c=true)(h5:¬c=58)
  (h6:signK c=1):tokAt s 1 acc pos (pos+1) (signK c):=by
 subst hc;obtain ⟨h7,h8⟩:=h;refine ⟨h7,by omega,?_⟩;rw [xzu,if_neg (by omega),if_neg h1,if_neg h2,if_neg h3,if_neg h4,if_neg h5,if_pos h6] at h8;rw [h6];exact h8
theorem xym(h:tokAt s 0 acc fst pos kd)(hlt:pos<s.size)(hc:byt s pos=c)(h6:¬signK c=1):tokAt s 3 acc pos (pos+1) (signK c):=by
 obtain ⟨h1,h2,h3,h4,h5⟩:=xv9 h6;subst hc;obtain ⟨h7,h8⟩:=h;refine ⟨h7,by omega,?_⟩;rw [xzu,if_neg (by omega),if_neg h1,if_neg h2,if_neg h3,if_neg h4,if_neg h5,if_neg h6] at h8;exact h8
theorem xyr(h:tokAt s 2 acc fst pos kd)(hlt:pos<s.size)(hc:byt s pos=c)(hb:letB c=true)(kd':Int):tokAt s 2 acc fst (pos+1) kd':=by
 obtain ⟨h1,h2,h3⟩:=h;rw [xu2 s true pos hlt (by rw [hc];exact hb)] at h3;exact ⟨h1,by omega,h3⟩
theorem xys(h:tokAt s 2 acc fst pos kd)(hb:¬(pos<s.size/\letB (byt s pos)=true)):tokAt s 3 acc fst pos 2:=by
 obtain ⟨h1,h2,h3⟩:=h;rw [xu3 s true pos hb] at h3;exact ⟨h1,h2,h3⟩
theorem xyv(h:tokAt s 4 acc fst pos kd)(hlt:pos<s.size)(hc:byt s pos=c)(hb:digB c=true)(kd':Int):tokAt s 4 acc fst (pos+1) kd':=by
 obtain ⟨h1,h2,h3⟩:=h;rw [xu2 s false pos hlt (by rw [hc];exact hb)] at h3;exact ⟨h1,by omega,h3⟩
theorem xyw(h:tokAt s 4 acc fst pos kd)(hb:¬(pos<s.size/\digB (byt s pos)=true)):tokAt s 3 acc fst pos 3:=by
 obtain ⟨h1,h2,h3⟩:=h;rw [xu3 s false pos hb] at h3;exact ⟨h1,h2,h3⟩
theorem xyu(h:tokAt s 3 acc fst pos kd)(fst':Nat)(kd':Int):tokAt s 0 (acc++[⟨kd,fst,pos⟩]) fst' pos kd':=by
 obtain ⟨h1,h2,h3⟩:=h;exact ⟨by simp;omega,by simpa using h3⟩
theorem t5_eq{fst pos:Nat}(h:tokAt s 5 acc fst pos kd)(hlt:pos<s.size)(hb:byt s pos=61)(fst':Nat)(kd':Int):tokAt s 0 (acc++[⟨11,fst,pos+1⟩]) fst' (pos+1) kd':=by
 obtain ⟨h1,rfl,h3,h4⟩:=h;have h2:=h4;rw [xzu,if_neg (by omega),if_neg (by omega),if_neg (xo2 (by omega)),if_neg (by omega),if_neg (xo1 (by omega)),if_pos h3,if_pos ⟨hlt,hb⟩] at h2;exact ⟨by simp;omega,by simpa using h2⟩
theorem xyx{fst pos:Nat}(h:tokAt s 5 acc fst pos kd)(hp:pos<=s.size)(hb:¬(pos<s.size/\byt s pos=61)):tokAt s 1 acc fst pos 1:=by
 obtain ⟨h1,rfl,h3,h4⟩:=h;have h2:=h4;rw [xzu,if_neg (by omega),if_neg (by omega),if_neg (xo2 (by omega)),if_neg (by omega),if_neg (xo1 (by omega)),if_pos h3,if_neg hb] at h2;exact ⟨h1,by omega,h2⟩
end
theorem xqd{w:World}{base e size:Nat}{v:Value}{n:Nat}{xs:List Value}(h:w.ownsRow base e size v n xs):∀k,v.ownBlock=some k->base<=k:=fun k hk=>(h.lt k hk).1
theorem xyt{s:ByteArray}{B:Nat}{w0 w1 w2:World}{v v':Value}{acc:List Tok}{kd:Int}{fst pos:Nat}{o:Obj}
  (hown:w1.ownsRow B 162 3 v acc.length (xzm s acc)) (hbel:Below B w0 w1) (hB:B<=w1.heap.size)
  (hown':w2.ownsRow B 162 3 v' (acc.length+1) (xzm s acc++[.int .i64 kd,.int .i64 fst,.string (s.extract fst pos)])) (hgrow:(w1.alloc o).grownBy w2 v.ownBlock):
  w2.ownsRow B 162 3 v' (acc++[(⟨kd,fst,pos⟩:Tok)]).length (xzm s (acc++[⟨kd,fst,pos⟩]))/\Below B w0 w2/\B<=w2.heap.size:=by
 have hb2:Below B w0 w2:=(hbel.alloc hB _).grown hgrow (by simp;omega) (xqd hown);refine ⟨?_,hb2,?_⟩
 ·rw [xzo,List.length_append];exact hown'
 ·have:=hgrow.size;simp at this;omega
theorem xyq{s:ByteArray}{B:Nat}{w0 w1 w2:World}{v v':Value}{acc:List Tok}{kd:Int}{fst pos:Nat}{o:Obj}(hl:tokAt s 1 acc fst pos kd)
  (hown:w1.ownsRow B 162 3 v acc.length (xzm s acc)) (hbel:Below B w0 w1) (hB:B<=w1.heap.size)
  (hown':w2.ownsRow B 162 3 v' (acc.length+1) (xzm s acc++[.int .i64 kd,.int .i64 fst,.string ByteArray.empty])) (hgrow:(w1.alloc o).grownBy w2 v.ownBlock):
  w2.ownsRow B 162 3 v' (toks s true 0).length (xzm s (toks s true 0))/\Below B w0 w2:=by
 have he:s.extract fst fst=ByteArray.empty:=by
  apply ByteArray.ext;simp
 rw [<-he] at hown';have:=xyt hown hbel hB hown' hgrow;rw [hl.2.2] at this;exact ⟨this.1,this.2.1⟩
theorem Tryz.infoTok:(Tryz.prog.info? 162).map (fun i=>(i.zero,i.size,i.bytes))=some (some (.agg #[.int .i64 0,.int .i64 0,.string ByteArray.empty]),3,32):=by kernel_rfl
theorem xn5(w:World)(arr:Array Value)(T:TypeId):∀(j:Nat) (u:Value),arr.toList[j]?=some u->(w.alloc (.cells arr T)).cell? ((⟨w.heap.size,0,none⟩:Addr).add j)=some u:=by
 intro j u h;have hadd:(⟨w.heap.size,0,none⟩:Addr).add j=⟨w.heap.size,j,none⟩:=by unfold Addr.add;split<;>simp_all
 rw [hadd,cell_of_row _ _ j arr T (0,0) (heap_alloc_new w _)];simpa using h
theorem xzr(s:ByteArray)(w:World)(hs:s.size<=400):
  Calls Tryz.prog 84 #[.string s] w fun e w'=>∃v,e=.returned v/\w'.ownsRow w.heap.size 162 3 v (toks s true 0).length (xzm s (toks s true 0))/\Below w.heap.size w w':=by
 obtain ⟨i0,hi,hz0,hz1,hz2⟩:=info_parts Tryz.infoTok;go_enter Tryz.func84,Tryz.ntmps84;go_wp2;refine x1h (tokJ s w.heap.size w) (tokMu s) ?_ rfl ?_
 ·intro K0 hK0;have HK0:=hide hK0;clear hK0;go_wp2;refine HK0.out _ _ ?_;exact xzq [] 0 0 0 (World.ownsRow_nil _ _ _ _) (Below.refl _ _) (Nat.le_refl _) (Nat.zero_le _) (show tokAt s 0 [] 0 0 0 from ⟨Nat.zero_le _,rfl⟩) rfl rfl rfl
 ·intro l;match l with
  | 0=>
   refine xzp ?_;intro w1 v acc fst pos kd u hown hbel hB hpos hl;refine ⟨_,rfl,?_⟩;have HL:Hid (tokAt s 0 acc fst pos kd):=hl;clear hl;by_cases hlt:pos<s.size
   ·have HB:Hid (byt s pos=((s[pos]'hlt).toNat:Int)):=xd1 s pos hlt;go_wp2_with (first|(go_at_call 135;refine (xj2 _ _).mono ?_;rintro e w' ⟨rfl,rfl⟩)|(go_at_call 136;refine (xj1 _ _).mono ?_;rintro e w' ⟨rfl,rfl⟩)|(go_at_call 137;refine (xwb _ _).mono ?_;rintro e w' ⟨rfl,rfl⟩));all_goals go_step3
    all_goals go_wp2
    ·refine ⟨xzq acc pos (pos+1) kd hown hbel hB (by omega) (xyi (show tokAt s 0 acc fst pos kd from HL) hlt HB.out (by simp_all) kd) rfl (by go_num) rfl,by simp [tokMu,intOf];omega⟩
    ·refine ⟨xzq acc pos (pos+1) kd hown hbel hB (by omega) (xyi (show tokAt s 0 acc fst pos kd from HL) hlt HB.out (by simp_all) kd) rfl (by go_num) rfl,by simp [tokMu,intOf];omega⟩
    ·refine ⟨xzq acc pos (pos+1) kd hown hbel hB (by omega) (xyn (show tokAt s 0 acc fst pos kd from HL) hlt HB.out (by assumption) kd) rfl (by go_num) rfl,by simp [tokMu,intOf];omega⟩
    ·refine ⟨xzq acc pos (pos+1) 3 hown hbel hB (by omega) (xyp (show tokAt s 0 acc fst pos kd from HL) hlt HB.out (by simp_all)) rfl (by go_num) rfl,by simp [tokMu,intOf];omega⟩
    ·refine ⟨xzq acc pos (pos+1) kd hown hbel hB (by omega) (xyl (show tokAt s 0 acc fst pos kd from HL) hlt HB.out (by simp_all) (by assumption) kd) rfl (by go_num) rfl,by simp [tokMu,intOf];omega⟩
    ·refine ⟨xzq acc pos (pos+1) kd hown hbel hB (by omega) (xyj (show tokAt s 0 acc fst pos kd from HL) hlt HB.out (by simp_all) kd) rfl (by go_num) rfl,by simp [tokMu,intOf];omega⟩
    ·refine ⟨xzq acc pos (pos+1) _ hown hbel hB (by omega) (xyo (show tokAt s 0 acc fst pos kd from HL) hlt HB.out (by simp_all) (by simp_all) (by simp_all) (by simp_all) (by simp_all) (by simp_all)) rfl (by go_num) rfl,by simp [tokMu,intOf];omega⟩
    ·refine ⟨xzq acc pos (pos+1) _ hown hbel hB (by omega) (xym (show tokAt s 0 acc fst pos kd from HL) hlt HB.out (by simp_all)) rfl (by go_num) rfl,by simp [tokMu,intOf];omega⟩
   ·go_wp2
    go_step3
    go_wp2;refine ⟨xzq acc pos pos 0 hown hbel hB (by omega) (xyk (show tokAt s 0 acc fst pos kd from HL) hpos hlt) rfl rfl rfl,by simp [tokMu,intOf]⟩
  | 1=>
   refine xzp ?_;intro w1 v acc fst pos kd u hown hbel hB hpos hl;refine ⟨_,rfl,?_⟩;have HL:Hid (tokAt s 1 acc fst pos kd):=hl;clear hl;go_wp2_with (at_builtin;refine wpList_append_own _ rfl _ _ 154 rfl w.heap.size 162 i0 _ 3 32 Tryz.underlying154 hi hz0 hz1 hz2 rfl (by decide) _ _ _ rfl (hown.alloc _) ⟨w1.heap.size,0,none⟩ 1 1 [.int .i64 kd,.int .i64 fst,.string ByteArray.empty] rfl rfl ?c1 ?c2 ?c3 ?c4 ?c5 ?_)
   case c1=>exact xn5 _ _ _
   case c2=>intro u hu;simp only [List.mem_cons,List.not_mem_nil,or_false] at hu;rcases hu with rfl|rfl|rfl<;>rfl
   case c3=>have:=(show tokAt s 1 acc fst pos kd from HL).1;have:=(show tokAt s 1 acc fst pos kd from HL).2.1;unfold maxLen;omega
   case c4=>have:=(show tokAt s 1 acc fst pos kd from HL).1;have:=(show tokAt s 1 acc fst pos kd from HL).2.1;omega
   case c5=>simp;omega
   intro v' w2 hown' hgrow _;have R:w2.ownsRow w.heap.size 162 3 v' (toks s true 0).length (xzm s (toks s true 0))/\Below w.heap.size w w2:=xyq (show tokAt s 1 acc fst pos kd from HL) hown hbel hB hown' hgrow;clear hown' hgrow hown;go_wp2;simp only [Exit.gotos];go_ret;exact ⟨v',rfl,R.1,R.2⟩
  | 2=>
   refine xzp ?_;intro w1 v acc fst pos kd u hown hbel hB hpos hl;refine ⟨_,rfl,?_⟩;have HL:Hid (tokAt s 2 acc fst pos kd):=hl;clear hl;by_cases hlt:pos<s.size
   ·have HB:Hid (byt s pos=((s[pos]'hlt).toNat:Int)):=xd1 s pos hlt;go_wp2_with (first|(go_at_call 135;refine (xj2 _ _).mono ?_;rintro e w' ⟨rfl,rfl⟩));all_goals go_step3
    all_goals go_wp2
    ·refine ⟨xzq acc fst (pos+1) kd hown hbel hB (by omega) (xyr (show tokAt s 2 acc fst pos kd from HL) hlt HB.out (by assumption) kd) rfl (by go_num) rfl,by simp [tokMu,intOf];omega⟩
    ·refine ⟨xzq acc fst pos 2 hown hbel hB (by omega) (xys (show tokAt s 2 acc fst pos kd from HL) (by rw [HB.out];simp_all)) rfl rfl rfl,by simp [tokMu,intOf]⟩
   ·go_wp2
    go_step3
    go_wp2;refine ⟨xzq acc fst pos 2 hown hbel hB (by omega) (xys (show tokAt s 2 acc fst pos kd from HL) (fun h=>hlt h.1)) rfl rfl rfl,by simp [tokMu,intOf]⟩
  | 3=>
   refine xzp ?_;intro w1 v acc fst pos kd u hown hbel hB hpos hl;refine ⟨_,rfl,?_⟩;have HL:Hid (tokAt s 3 acc fst pos kd):=hl;have hfp:fst<pos:=hl.2.1;clear hl;go_wp2_with (at_builtin;refine wpList_append_own _ rfl _ _ 154 rfl w.heap.size 162 i0 _ 3 32 Tryz.underlying154 hi hz0 hz1 hz2 rfl (by decide) _ _ _ rfl (hown.alloc _) ⟨w1.heap.size,0,none⟩ 1 1 [.int .i64 kd,.int .i64 fst,.string (s.extract fst pos)] rfl rfl ?d1 ?d2 ?d3 ?d4 ?d5 ?_)
   case d1=>exact xn5 _ _ _
   case d2=>intro u hu;simp only [List.mem_cons,List.not_mem_nil,or_false] at hu;rcases hu with rfl|rfl|rfl<;>rfl
   case d3=>have:=(show tokAt s 3 acc fst pos kd from HL).1;unfold maxLen;omega
   case d4=>have:=(show tokAt s 3 acc fst pos kd from HL).1;omega
   case d5=>simp;omega
   intro v' w2 hown' hgrow _;have R:=xyt hown hbel hB hown' hgrow;clear hown' hgrow hown hbel hB;go_wp2
   go_step3
   go_wp2;refine ⟨xzq (acc++[⟨kd,fst,pos⟩]) fst pos kd R.1 R.2.1 R.2.2 (by omega) (xyu (show tokAt s 3 acc fst pos kd from HL) fst kd) rfl rfl rfl,by simp [tokMu,intOf]⟩
  | 4=>
   refine xzp ?_;intro w1 v acc fst pos kd u hown hbel hB hpos hl;refine ⟨_,rfl,?_⟩;have HL:Hid (tokAt s 4 acc fst pos kd):=hl;clear hl;by_cases hlt:pos<s.size
   ·have HB:Hid (byt s pos=((s[pos]'hlt).toNat:Int)):=xd1 s pos hlt;go_wp2_with (first|(go_at_call 136;refine (xj1 _ _).mono ?_;rintro e w' ⟨rfl,rfl⟩));all_goals go_step3
    all_goals go_wp2
    ·refine ⟨xzq acc fst (pos+1) kd hown hbel hB (by omega) (xyv (show tokAt s 4 acc fst pos kd from HL) hlt HB.out (by assumption) kd) rfl (by go_num) rfl,by simp [tokMu,intOf];omega⟩
    ·refine ⟨xzq acc fst pos 3 hown hbel hB (by omega) (xyw (show tokAt s 4 acc fst pos kd from HL) (by rw [HB.out];simp_all)) rfl rfl rfl,by simp [tokMu,intOf]⟩
   ·go_wp2
    go_step3
    go_wp2;refine ⟨xzq acc fst pos 3 hown hbel hB (by omega) (xyw (show tokAt s 4 acc fst pos kd from HL) (fun h=>hlt h.1)) rfl rfl rfl,by simp [tokMu,intOf]⟩
  | 5=>
   refine xzp ?_;intro w1 v acc fst pos kd u hown hbel hB hpos hl;refine ⟨_,rfl,?_⟩;have HL:Hid (tokAt s 5 acc fst pos kd):=hl;have hfp:fst<pos:=by have:=hl.2.1;omega
   clear hl;by_cases hlt:pos<s.size
   ·have HB:Hid (byt s pos=((s[pos]'hlt).toNat:Int)):=xd1 s pos hlt;by_cases h61:byt s pos=61
    ·have hb61:((s[pos]'hlt).toNat:Int)=61:=HB.out.symm.trans h61;have H61:Hid (byt s pos=61):=h61;clear h61;have hne:(((s[pos]'hlt).toNat:Int) != 61)=false:=by rw [hb61];rfl
     clear hb61;go_wp2
     go_step3
     go_wp2_with (at_builtin;refine wpList_append_own _ rfl _ _ 154 rfl w.heap.size 162 i0 _ 3 32 Tryz.underlying154 hi hz0 hz1 hz2 rfl (by decide) _ _ _ rfl (hown.alloc _) ⟨w1.heap.size,0,none⟩ 1 1 [.int .i64 11,.int .i64 fst,.string (s.extract fst (pos+1))] rfl rfl ?e1 ?e2 ?e3 ?e4 ?e5 ?_)
     case e1=>exact xn5 _ _ _
     case e2=>intro u hu;simp only [List.mem_cons,List.not_mem_nil,or_false] at hu;rcases hu with rfl|rfl|rfl<;>rfl
     case e3=>have:=(show tokAt s 5 acc fst pos kd from HL).1;unfold maxLen;omega
     case e4=>have:=(show tokAt s 5 acc fst pos kd from HL).1;omega
     case e5=>simp;omega
     intro v' w2 hown' hgrow _;have R:=xyt hown hbel hB hown' hgrow;clear hown' hgrow hown hbel hB;go_wp2
     go_step3
     go_wp2;refine ⟨xzq (acc++[⟨11,fst,pos+1⟩]) fst (pos+1) 11 R.1 R.2.1 R.2.2 (by omega) (t5_eq (show tokAt s 5 acc fst pos kd from HL) hlt H61.out fst 11) rfl (by go_num) rfl,by simp [tokMu,intOf];omega⟩
    ·have hne:(((s[pos]'hlt).toNat:Int) != 61)=true:=by rw [bne_iff_ne,<-HB.out];exact h61
     have H61:Hid (¬byt s pos=61):=h61;clear h61;go_wp2
     go_step3
     go_wp2;refine ⟨xzq acc fst pos 1 hown hbel hB (by omega) (xyx (show tokAt s 5 acc fst pos kd from HL) hpos (fun h=>H61.out h.2)) rfl rfl rfl,by simp [tokMu,intOf]⟩
   ·go_wp2
    go_step3
    go_wp2;have hps:pos=s.size:=by omega
    refine ⟨xzq acc fst pos 1 hown hbel hB (by omega) (xyx (show tokAt s 5 acc fst pos kd from HL) hpos (fun h=>hlt h.1)) rfl (by rw [hps]) rfl,by simp [tokMu,intOf,hps]⟩
  | l+6=>
   refine xzp ?_;intro w1 v acc fst pos kd u hown hbel hB hpos hl;exact hl.elim
@[go_sem] theorem Tryz.fieldTok0(x y z:Value)(w:World):Sem.run Tryz.prog (Instr.field 162 (.agg #[x,y,z]) 0) w=.ok x w:=by kernel_rfl
@[go_sem] theorem Tryz.fieldTok1(x y z:Value)(w:World):Sem.run Tryz.prog (Instr.field 162 (.agg #[x,y,z]) 1) w=.ok y w:=by kernel_rfl
@[go_sem] theorem Tryz.fieldTok2(x y z:Value)(w:World):Sem.run Tryz.prog (Instr.field 162 (.agg #[x,y,z]) 2) w=.ok z w:=by kernel_rfl
structure Ctx where
 s:ByteArray
 ts:List Tok
 g:Nat
 cap:Nat
 rb:Nat
 cur:Array Value
structure Ctx.Good(c:Ctx):Prop where
 lt:c.g<c.rb
 len:c.cur.size=c.cap*3
 le:c.ts.length<=c.cap
 cap:c.cap<=maxLen
 cells:c.cur.toList.take (c.ts.length*3)=xzm c.s c.ts
 size:c.s.size<=400
 toks:c.ts=toks c.s true 0
structure Rd(c:Ctx)(w:World)(i a d b e p:Int):Prop where
 row:w.heap[c.g]?=some (.cells c.cur 162 (0,0))
 rd:w.heap[c.rb]?=some (.cells #[.slice (some ⟨c.g,0,none⟩) c.ts.length c.cap,.int .i64 i,.int .i64 a,.int .i64 d,.int .i64 b,.int .i64 e,.int .i64 p] 157 (0,0))
section
variable{c:Ctx}{w w':World}{i a d b e p:Int}
theorem Rd.cell(h:Rd c w i a d b e p)(j:Nat):w.cell? ⟨c.rb,j,none⟩=(#[Value.slice (some ⟨c.g,0,none⟩) c.ts.length c.cap,.int .i64 i,.int .i64 a,.int .i64 d,.int .i64 b,.int .i64 e,.int .i64 p]:Array Value)[j]?:=by
 simp [World.cell?,h.rd]
theorem Rd.frozen(h:Rd c w i a d b e p)(j:Nat):w.frozen? ⟨c.rb,j,none⟩=false:=by simp [World.frozen?,h.rd]
theorem xzn(s:ByteArray):∀(ts:List Tok) (k:Nat),k<ts.length->(xzm s ts)[k*3]?=some (.int .i64 (tk ts k).kind)/\(xzm s ts)[k*3+1]?=some (.int .i64 ((tk ts k).at_:Int))/\
  (xzm s ts)[k*3+2]?=some (.string (s.extract (tk ts k).at_ (tk ts k).to))
 | [],k,h=>by simp at h
 | t::ts,0,h=>by simp [xzm,tk]
 | t::ts,k+1,h=>by
  have ih:=xzn s ts k (by simpa using h);have e:xzm s (t::ts)=[.int .i64 t.kind,.int .i64 (t.at_:Int),.string (s.extract t.at_ t.to)]++xzm s ts:=by simp [xzm]
  have e2:tk (t::ts) (k+1)=tk ts k:=by simp [tk]
  have e3:(k+1)*3=3+k*3:=by omega
  rw [e,e2,e3];refine ⟨?_,?_,?_⟩
  ·rw [List.getElem?_append_right (by simp)];simpa using ih.1
  ·rw [List.getElem?_append_right (by simp;omega)];simpa [Nat.add_assoc] using ih.2.1
  ·rw [List.getElem?_append_right (by simp;omega)];simpa [Nat.add_assoc] using ih.2.2
theorem Ctx.Good.cell(hc:c.Good)(h:Rd c w i a d b e p){k:Nat}(hk:k<c.ts.length):
  w.cell? ⟨c.g,k*3,none⟩=some (.int .i64 (tk c.ts k).kind)/\w.cell? ⟨c.g,k*3+1,none⟩=some (.int .i64 ((tk c.ts k).at_:Int))/\
  w.cell? ⟨c.g,k*3+2,none⟩=some (.string (c.s.extract (tk c.ts k).at_ (tk c.ts k).to)):=by
 have hg:=xzn c.s c.ts k hk;rw [<-hc.cells] at hg
 have look:∀j v,j<c.ts.length*3->(c.cur.toList.take (c.ts.length*3))[j]?=some v->w.cell? ⟨c.g,j,none⟩=some v:=by
  intro j v hj hv;rw [List.getElem?_take_of_lt hj] at hv;simp [World.cell?,h.row];simpa using hv
 exact ⟨look _ _ (by omega) hg.1,look _ _ (by omega) hg.2.1,look _ _ (by omega) hg.2.2⟩
theorem Rd.set1(h:Rd c w i a d b e p)(hc:c.Good)(x:Int):Rd c (w.setCell ⟨c.rb,1,none⟩ (.int .i64 x)) x a d b e p:=
 ⟨by rw [xjj (by have:=hc.lt;omega)];exact h.row,xjh h.rd 1 _⟩
theorem Rd.set2(h:Rd c w i a d b e p)(hc:c.Good)(x:Int):Rd c (w.setCell ⟨c.rb,2,none⟩ (.int .i64 x)) i x d b e p:=
 ⟨by rw [xjj (by have:=hc.lt;omega)];exact h.row,xjh h.rd 2 _⟩
theorem Rd.set3(h:Rd c w i a d b e p)(hc:c.Good)(x:Int):Rd c (w.setCell ⟨c.rb,3,none⟩ (.int .i64 x)) i a x b e p:=
 ⟨by rw [xjj (by have:=hc.lt;omega)];exact h.row,xjh h.rd 3 _⟩
theorem Rd.set4(h:Rd c w i a d b e p)(hc:c.Good)(x:Int):Rd c (w.setCell ⟨c.rb,4,none⟩ (.int .i64 x)) i a d x e p:=
 ⟨by rw [xjj (by have:=hc.lt;omega)];exact h.row,xjh h.rd 4 _⟩
theorem Rd.set5(h:Rd c w i a d b e p)(hc:c.Good)(x:Int):Rd c (w.setCell ⟨c.rb,5,none⟩ (.int .i64 x)) i a d b x p:=
 ⟨by rw [xjj (by have:=hc.lt;omega)];exact h.row,xjh h.rd 5 _⟩
theorem Rd.set6(h:Rd c w i a d b e p)(hc:c.Good)(x:Int):Rd c (w.setCell ⟨c.rb,6,none⟩ (.int .i64 x)) i a d b e x:=
 ⟨by rw [xjj (by have:=hc.lt;omega)];exact h.row,xjh h.rd 6 _⟩
theorem Rd.lt(h:Rd c w i a d b e p):c.rb<w.heap.size/\c.g<w.heap.size:=⟨(Array.getElem?_eq_some_iff.1 h.rd).1,(Array.getElem?_eq_some_iff.1 h.row).1⟩
theorem Rd.kept(h:Rd c w i a d b e p)(hg:w.grownBy w' none):Rd c w' i a d b e p:=
 ⟨by rw [hg.block _ h.lt.2 (by simp)];exact h.row,by rw [hg.block _ h.lt.1 (by simp)];exact h.rd⟩
end
theorem xo9(c:Ctx)(hc:c.Good)(w:World)(k:Nat)(a d b e p:Int)(h:Rd c w k a d b e p)(hk:k<c.ts.length):
  Calls Tryz.prog 86 #[.pointer (some ⟨c.rb,0,none⟩)] w fun x w'=>x=.returned (.agg #[.int .i64 (tk c.ts k).kind,.int .i64 ((tk c.ts k).at_:Int),.string (c.s.extract (tk c.ts k).at_ (tk c.ts k).to)])/\w.grownBy w' none:=by
 have h0:w.cell? ⟨c.rb,0,none⟩=some (.slice (some ⟨c.g,0,none⟩) c.ts.length c.cap):=h.cell 0;have h1:w.cell? ⟨c.rb,1,none⟩=some (.int .i64 k):=h.cell 1;obtain ⟨g0,g1,g2⟩:=hc.cell h hk;obtain ⟨l1,l2⟩:=h.lt;have hl:=hc.le;have hm:=hc.cap;unfold maxLen at hm;go_enter Tryz.func86,Tryz.ntmps86;go_wp2
 go_region
 all_goals (try go_wp2)
 exact bodyPost_ret (v:=.agg #[.int .i64 (tk c.ts k).kind,.int .i64 ((tk c.ts k).at_:Int),.string (c.s.extract (tk c.ts k).at_ (tk c.ts k).to)]) (by simp [results,Tryz.results86,go_sem]) rfl ⟨rfl,xi7 (World.grownBy_alloc _ _ _)⟩
theorem xg4(c:Ctx)(hc:c.Good)(w:World)(k:Nat)(a d b e p en:Int)(h:Rd c w k a d b e p)(hk:k<c.ts.length):
  Calls Tryz.prog 87 #[.pointer (some ⟨c.rb,0,none⟩),.int .i64 en] w fun x w'=>x=.returned (.tuple #[.nilIface,.bool false])/\Rd c w' k a d b en (tk c.ts k).at_/\w.grownBy w' (some c.rb):=by
 have H:=hide h;have HN:=hide (xo9 c hc w k a d b e p h hk);clear h;go_enter Tryz.func87,Tryz.ntmps87;go_wp2_with (go_at_call 86;refine HN.out.mono ?_;rintro x1 w1 ⟨rfl,hg⟩;have h1:=hide (H.out.kept hg);have f5:w1.frozen? ⟨c.rb,5,none⟩=false:=h1.out.frozen 5;have f6:w1.frozen? ⟨c.rb,6,none⟩=false:=h1.out.frozen 6;have c5:w1.cell? ⟨c.rb,5,none⟩=some (.int .i64 e):=h1.out.cell 5;have c6:w1.cell? ⟨c.rb,6,none⟩=some (.int .i64 p):=h1.out.cell 6);go_ret2;exact ⟨rfl,((h1.out.set5 hc en).set6 hc _),xje (xjd hg) (xje (xjc _ _ _ _) (xjc _ _ _ _))⟩
theorem xwf(c:Ctx)(hc:c.Good)(w:World)(k:Nat)(a d b e p kd:Int)(h:Rd c w k a d b e p)(hk:k+1<c.ts.length)(he:(tk c.ts k).kind=kd):
  Calls Tryz.prog 186 #[.pointer (some ⟨c.rb,0,none⟩),.int .i64 kd] w fun x w'=>x=.returned (.bool true)/\Rd c w' (k+1:Nat) a d b e p/\w.grownBy w' (some c.rb):=by
 have hne:((tk c.ts k).kind != kd)=false:=by simp [he]
 have hcap:=hc.cap;have hle:=hc.le;unfold maxLen at hcap;clear he;have H:=hide h;have HN:=hide (xo9 c hc w k a d b e p h (by omega));clear h;go_enter Tryz.func186,Tryz.ntmps186;go_wp2_with (go_at_call 86;refine HN.out.mono ?_;rintro x1 w1 ⟨rfl,hg⟩;have h1:=hide (H.out.kept hg);have f1:w1.frozen? ⟨c.rb,1,none⟩=false:=h1.out.frozen 1;have c1:w1.cell? ⟨c.rb,1,none⟩=some (.int .i64 k):=h1.out.cell 1);go_ret;exact ⟨rfl,(h1.out.set1 hc _),xje (xjd hg) (xjc _ _ _ _)⟩
theorem xwe(c:Ctx)(hc:c.Good)(w:World)(k:Nat)(a d b e p kd:Int)(h:Rd c w k a d b e p)(hk:k<c.ts.length)(he:¬(tk c.ts k).kind=kd):
  Calls Tryz.prog 186 #[.pointer (some ⟨c.rb,0,none⟩),.int .i64 kd] w fun x w'=>x=.returned (.bool false)/\Rd c w' k a d b e p/\w.grownBy w' (some c.rb):=by
 have hne:((tk c.ts k).kind != kd)=true:=by simp [he]
 clear he;have H:=hide h;have HN:=hide (xo9 c hc w k a d b e p h (by omega));clear h;go_enter Tryz.func186,Tryz.ntmps186;go_wp2_with (go_at_call 86;refine HN.out.mono ?_;rintro x1 w1 ⟨rfl,hg⟩);go_ret;exact ⟨rfl,H.out.kept hg,xjd hg⟩
def leafV(n:Nat):Value:=
 if n=0 then .iface 317 (.agg #[.int .i64 4])
 else if n=1 then .iface 317 (.agg #[.int .i64 5])
 else if n%2=0 then .iface 177 (.agg #[.int .i64 (((n-2)/2/32:Nat):Int),.int .i64 (((n-2)/2%32:Nat):Int)])
 else .iface 178 (.agg #[.int .i64 (((n-2)/2/32:Nat):Int),.int .i64 (((n-2)/2%32:Nat):Int)])
def xi2(k:Int)(g n cap:Nat):Value:=.iface 234 (.agg #[.int .i64 k,.slice (some ⟨g,0,none⟩) n cap])
def TV(ok:Nat->Prop)(w:World):Code->(Value->Prop)×(Nat->Nat->Nat->Prop)
 | .exit n=>(fun v=>v=leafV n/\n<2+2*192,fun _ _ _=>False)
 | .loop t=>(fun v=>∃g cap x,v=xi2 2 g 1 cap/\ok g/\w.cell? ⟨g,0,none⟩=some x/\(TV ok w t).1 x,fun _ _ _=>False)
 | .scope t=>(fun v=>∃g cap x,v=xi2 3 g 1 cap/\ok g/\w.cell? ⟨g,0,none⟩=some x/\(TV ok w t).1 x,fun _ _ _=>False)
 | .block k l=>(fun v=>∃g n cap,v=xi2 k g n cap/\k<=1/\ok g/\n<=1000/\2<=n/\(TV ok w l).2 g 0 n,fun _ _ _=>False)
 | .seq t l=>(fun _=>False,fun g i n=>∃n' x,n=n'+1/\w.cell? ⟨g,i,none⟩=some x/\(TV ok w t).1 x/\(TV ok w l).2 g (i+1) n')
 | .skip=>(fun _=>False,fun _ _ n=>n=0)
 | _=>(fun _=>False,fun _ _ _=>False)
theorem xao{ok ok':Nat->Prop}{w w':World}(hok:∀b i x,ok b->w.cell? ⟨b,i,none⟩=some x->ok' b)(hc:∀b i x,ok b->w.cell? ⟨b,i,none⟩=some x->w'.cell? ⟨b,i,none⟩=some x):
  ∀t,(∀v,(TV ok w t).1 v->(TV ok' w' t).1 v)/\(∀g i n,ok g->(TV ok w t).2 g i n->(TV ok' w' t).2 g i n):=by
 intro t;induction t with
 | exit n=>exact ⟨fun v h=>h,fun _ _ _ _ h=>h⟩
 | skip=>exact ⟨fun v h=>h,fun _ _ _ _ h=>h⟩
 | loop t ih=>
  refine ⟨fun v h=>?_,fun _ _ _ _ h=>h⟩;obtain ⟨g,cap,x,h1,h2,h3,h4⟩:=h;exact ⟨g,cap,x,h1,hok g 0 x h2 h3,hc g 0 x h2 h3,ih.1 x h4⟩
 | scope t ih=>
  refine ⟨fun v h=>?_,fun _ _ _ _ h=>h⟩;obtain ⟨g,cap,x,h1,h2,h3,h4⟩:=h;exact ⟨g,cap,x,h1,hok g 0 x h2 h3,hc g 0 x h2 h3,ih.1 x h4⟩
 | block k l ih=>
  refine ⟨fun v h=>?_,fun _ _ _ _ h=>h⟩;obtain ⟨g,n,cap,h1,h2,h3,h4,h5,h6⟩:=h;refine ⟨g,n,cap,h1,h2,?_,h4,h5,ih.2 g 0 n h3 h6⟩;cases l with
  | seq a b=>obtain ⟨n',x,_,hx,_⟩:=h6;exact hok g 0 x h3 hx
  | skip=>simp [TV] at h6;omega
  | _=>exact h6.elim
 | seq t l ih1 ih2=>
  refine ⟨fun v h=>h,fun g i n hr h=>?_⟩;obtain ⟨n',x,h1,h2,h3,h4⟩:=h;exact ⟨n',x,h1,hc g i x hr h2,ih1.1 x h3,ih2.2 g (i+1) n' hr h4⟩
 | _=>exact ⟨fun v h=>h,fun _ _ _ _ h=>h⟩
theorem xal{ok:Nat->Prop}{w w':World}{row:Option Nat}{t:Code}{v:Value}(h:(TV ok w t).1 v)(hg:w.grownBy w' row)(hr:∀b,ok b->some b≠row):(TV ok w' t).1 v:=
 (xao (fun b _ _ hb _=>hb) (fun b i x hb hx=>hg.cell hx (hr b hb)) t).1 v h
theorem xaq{ok ok':Nat->Prop}{w:World}{t:Code}{v:Value}(h:(TV ok w t).1 v)(hr:∀b,b<w.heap.size->ok b->ok' b):(TV ok' w t).1 v:=
 (xao (fun b i x hb hx=>hr b (World.block_lt_of_cell? w _ hx) hb) (fun b i x hb hx=>hx) t).1 v h
theorem xan{ok:Nat->Prop}{w w':World}{t:Code}{v:Value}(h:(TV ok w t).1 v)(hg:w.grownBy w' none):(TV ok w' t).1 v:=xal h hg (by simp)
theorem xam{ok:Nat->Prop}{w:World}{t:Code}{v:Value}(h:(TV ok w t).1 v):∃T u,v=.iface T u:=by
 cases t with
 | exit n=>
  obtain ⟨rfl,_⟩:=h;unfold leafV;split
  ·exact ⟨_,_,rfl⟩
  ·split
   ·exact ⟨_,_,rfl⟩
   ·split<;>exact ⟨_,_,rfl⟩
 | loop t=>obtain ⟨g,cap,x,h1,_⟩:=h;exact ⟨_,_,h1⟩
 | scope t=>obtain ⟨g,cap,x,h1,_⟩:=h;exact ⟨_,_,h1⟩
 | block k l=>obtain ⟨g,n,cap,h1,_⟩:=h;exact ⟨_,_,h1⟩
 | _=>exact h.elim
theorem xjn(rb:Nat)(w:World):Calls Tryz.prog 272 #[] w fun x w'=>x=.returned (leafV 0)/\w'=w:=by
 go_enter Tryz.func272,Tryz.ntmps272;go_wp2;go_ret;exact ⟨rfl,rfl⟩
theorem xgc(rb:Nat)(w:World):Calls Tryz.prog 273 #[] w fun x w'=>x=.returned (leafV 1)/\w'=w:=by
 go_enter Tryz.func273,Tryz.ntmps273;go_wp2;go_ret;exact ⟨rfl,rfl⟩
theorem xw6(ok:Nat->Prop)(w:World)(t:Code)(v:Value)(hr:ok w.heap.size)(h:(TV ok w t).1 v):
  Calls Tryz.prog 234 #[v] w fun x w'=>∃v',x=.returned v'/\(TV ok w' (.loop t)).1 v'/\w.grownBy w' none:=by
 obtain ⟨T,u,rfl⟩:=xam h;have H:=hide h;clear h;go_enter Tryz.func234,Tryz.ntmps234;go_wp2;go_ret;refine ⟨_,rfl,⟨w.heap.size,1,_,rfl,hr,by simp,xan H.out (World.grownBy_alloc _ _ _)⟩,World.grownBy_alloc _ _ _⟩
theorem xo0(ok:Nat->Prop)(w:World)(t:Code)(v:Value)(hr:ok w.heap.size)(h:(TV ok w t).1 v):
  Calls Tryz.prog 277 #[v] w fun x w'=>∃v',x=.returned v'/\(TV ok w' (.scope t)).1 v'/\w.grownBy w' none:=by
 obtain ⟨T,u,rfl⟩:=xam h;have H:=hide h;clear h;go_enter Tryz.func277,Tryz.ntmps277;go_wp2;go_ret;refine ⟨_,rfl,⟨w.heap.size,1,_,rfl,hr,by simp,xan H.out (World.grownBy_alloc _ _ _)⟩,World.grownBy_alloc _ _ _⟩
theorem xki(ok:Nat->Prop)(w:World)(l:List Code)(k g cap:Nat)(hk:k<=1)(hr:ok g)(h0:0<l.length)(hl:l.length<=1000)(h:(TV ok w (chain l)).2 g 0 l.length):
  Calls Tryz.prog 189 #[.int .i64 k,.slice (some ⟨g,0,none⟩) l.length cap] w fun x w'=>∃v',x=.returned v'/\(TV ok w' (joinC k l)).1 v'/\w'=w:=by
 match l,h0,hl,h with
 | [t],h0,hl,h=>
  obtain ⟨n',x,_,hx,ht,_⟩:=h;have H:=hide ht;clear ht;simp only [List.length_cons,List.length_nil,Nat.zero_add];go_enter Tryz.func189,Tryz.ntmps189;go_wp2;go_ret;exact ⟨x,rfl,H.out,rfl⟩
 | t::u::r,h0,hl,h=>
  have H:=hide h;clear h;have hne:(((t::u::r).length:Int) == 1)=false:=by simp;omega
  have h2:2<=(t::u::r).length:=by simp
  have HJ:Hid (joinC k (t::u::r)=.block k (chain (t::u::r))):=rfl;generalize hn:(t::u::r).length=n at *;have HN:=hide hn;clear hn;go_enter Tryz.func189,Tryz.ntmps189;go_wp2;go_ret;rw [HJ.out];exact ⟨_,rfl,⟨g,n,cap,rfl,hk,hr,hl,h2,H.out⟩,rfl⟩
def numTo(b:ByteArray)(k:Nat):Nat:=xpf (b.data.toList.take k)
theorem xpe(b:ByteArray)(k:Nat)(h:k<b.size):numTo b (k+1)=min (10*numTo b k+digOf (b[k]'h)) 32:=by
 unfold numTo xpf
 have e:b.data.toList.take (k+1)=b.data.toList.take k++[b[k]'h]:=by
  rw [List.take_succ_eq_append_getElem (by simpa using h)];rfl
 rw [e,List.foldl_append];rfl
theorem xpg(m:Nat)(c:UInt8):(if 32<10*(m:Int)+((c.toNat:Int)-48)%256 then (32:Int) else 10*(m:Int)+((c.toNat:Int)-48)%256)=((min (10*m+digOf c) 32:Nat):Int):=by
 unfold digOf;have h0:0<=((c.toNat:Int)-48)%256:=Int.emod_nonneg _ (by decide);split<;>omega
theorem x0q(b:ByteArray)(w:World)(hb:b.size<=400):
  Calls Tryz.prog 282 #[.string b] w fun x w'=>x=.returned (.int .i64 (xpf b.data.toList))/\w'=w:=by
 go_enter Tryz.func282,Tryz.ntmps282;go_wp2
 go_loop [3,7] (fun n i=>∃(k m:Nat),k<=b.size/\m<=32/\i=.int .i64 k/\n=.int .i64 m/\m=numTo b k) (fun _ i=>b.size-(intOf i).toNat)
 case atStart=>exact ⟨0,0,Nat.zero_le _,Nat.zero_le _,rfl,rfl,rfl⟩
 case round=>
  obtain ⟨k,m,hk,hm,rfl,rfl,he⟩:=hrel;have HE:=hide he;clear he;by_cases hlt:k<b.size
  ·have HS:Hid (numTo b (k+1)=min (10*numTo b k+digOf (b[k]'hlt)) 32):=xpe b k hlt;go_wp2;refine ⟨⟨k+1,min (10*m+digOf (b[k]'hlt)) 32,by omega,by omega,by go_num,?_,?_⟩,by simp [intOf];omega⟩
   ·exact congrArg (Value.int .i64) (xpg m _)
   ·rw [HS.out,HE.out]
  ·go_wp2;go_ret;exact ⟨by rw [HE.out];simp [numTo,List.take_of_length_le (show b.data.toList.length<=k by simp;omega)],rfl⟩
@[go_sem] theorem Tryz.idxNames0(x0 x1 x2 x3 x4 x5:Value)(w:World):Sem.run Tryz.prog (Instr.index 340 (.agg #[x0,x1,x2,x3,x4,x5]) (.int .i64 0)) w=.ok x0 w:=by kernel_rfl
@[go_sem] theorem Tryz.idxNames1(x0 x1 x2 x3 x4 x5:Value)(w:World):Sem.run Tryz.prog (Instr.index 340 (.agg #[x0,x1,x2,x3,x4,x5]) (.int .i64 1)) w=.ok x1 w:=by kernel_rfl
@[go_sem] theorem Tryz.idxNames2(x0 x1 x2 x3 x4 x5:Value)(w:World):Sem.run Tryz.prog (Instr.index 340 (.agg #[x0,x1,x2,x3,x4,x5]) (.int .i64 2)) w=.ok x2 w:=by kernel_rfl
@[go_sem] theorem Tryz.idxNames3(x0 x1 x2 x3 x4 x5:Value)(w:World):Sem.run Tryz.prog (Instr.index 340 (.agg #[x0,x1,x2,x3,x4,x5]) (.int .i64 3)) w=.ok x3 w:=by kernel_rfl
@[go_sem] theorem Tryz.idxNames4(x0 x1 x2 x3 x4 x5:Value)(w:World):Sem.run Tryz.prog (Instr.index 340 (.agg #[x0,x1,x2,x3,x4,x5]) (.int .i64 4)) w=.ok x4 w:=by kernel_rfl
@[go_sem] theorem Tryz.idxNames5(x0 x1 x2 x3 x4 x5:Value)(w:World):Sem.run Tryz.prog (Instr.index 340 (.agg #[x0,x1,x2,x3,x4,x5]) (.int .i64 5)) w=.ok x5 w:=by kernel_rfl
theorem xc1{a b:ByteArray}:((a.toList == b.toList)=true)↔a.data.toList=b.data.toList:=by
 rw [beq_iff_eq,ByteArray.toList_eq,ByteArray.toList_eq]
theorem xc2{a b:ByteArray}(h:(a.toList == b.toList)=false):a.data.toList≠b.data.toList:=fun e=>by rw [xc1.2 e] at h;cases h
def nameB(k:Nat):ByteArray:=⟨match k with|0=>#[115,119]|1=>#[112,116]|2=>#[116,121,112]|3=>#[115,114,99]|4=>#[100,115,116]|_=>#[116,97,103]⟩
def Names(w:World):Prop:=∀k,k<6->w.cell? ⟨1,k,none⟩=some (.string (nameB k))
theorem Names.grown{w w':World}{rb:Nat}(h:Names w)(hg:w.grownBy w' (some rb))(hr:1<rb):Names w':=fun k hk=>hg.cell (h k hk) (by simp;omega)
def xg8(b:ByteArray):Value:=match xg6 b.data.toList with|some f=>.tuple #[.int .i64 (f:Int),.bool true]|none=>.tuple #[.int .i64 0,.bool false]
theorem xo3{b:ByteArray}{k:Nat}(h:∀j,j<k->(nameB j).data.toList≠b.data.toList)(h1:(nameB k).data.toList≠b.data.toList):∀j,j<k+1->(nameB j).data.toList≠b.data.toList:=by
 intro j hj;by_cases e:j=k
 ·rw [e];exact h1
 ·exact h j (by omega)
theorem xha{b:ByteArray}(k:Nat)(hk:k<6)(h:(nameB k).data.toList=b.data.toList):xg8 b=.tuple #[.int .i64 (k:Int),.bool true]:=by
 unfold xg8;rw [<-h];rcases (show k=0\/k=1\/k=2\/k=3\/k=4\/k=5 by omega) with rfl|rfl|rfl|rfl|rfl|rfl<;>rfl
theorem xg9{b:ByteArray}(h:∀j,j<6->(nameB j).data.toList≠b.data.toList):xg8 b=.tuple #[.int .i64 0,.bool false]:=by
 have e:xg6 b.data.toList=none:=by
  unfold xg6
  rw [if_neg (fun e=>h 0 (by decide) e.symm),if_neg (fun e=>h 1 (by decide) e.symm),if_neg (fun e=>h 2 (by decide) e.symm),if_neg (fun e=>h 3 (by decide) e.symm),
   if_neg (fun e=>h 4 (by decide) e.symm),if_neg (fun e=>h 5 (by decide) e.symm)]
 unfold xg8;rw [e]
theorem xhb(b:ByteArray)(w:World)(hn:Names w):
  Calls Tryz.prog 274 #[.string b] w fun x w'=>x=.returned (xg8 b)/\w'=w:=by
 have n0:w.cell? ⟨1,0,none⟩=some (.string (nameB 0)):=hn 0 (by decide);have n1:w.cell? ⟨1,1,none⟩=some (.string (nameB 1)):=hn 1 (by decide);have n2:w.cell? ⟨1,2,none⟩=some (.string (nameB 2)):=hn 2 (by decide);have n3:w.cell? ⟨1,3,none⟩=some (.string (nameB 3)):=hn 3 (by decide);have n4:w.cell? ⟨1,4,none⟩=some (.string (nameB 4)):=hn 4 (by decide);have n5:w.cell? ⟨1,5,none⟩=some (.string (nameB 5)):=hn 5 (by decide);clear hn;go_enter Tryz.func274,Tryz.ntmps274;go_wp2
 go_loop [7] (fun i=>∃(k:Nat),k<=6/\i=.int .i64 k/\∀j,j<k->(nameB j).data.toList≠b.data.toList) (fun i=>6-(intOf i).toNat)
 case atStart=>exact ⟨0,Nat.zero_le _,rfl,fun j hj=>by omega⟩
 case round=>
  obtain ⟨k,hk,rfl,he⟩:=hrel;have HE:=hide he;clear he;clear n0 n1 n2 n3 n4 n5;rcases (show k=0\/k=1\/k=2\/k=3\/k=4\/k=5\/k=6 by omega) with rfl|rfl|rfl|rfl|rfl|rfl|rfl
  ·go_wp2
   ·go_ret2;have h1:=xc1.1 (by assumption:((nameB 0).toList == b.toList)=true);exact ⟨by rw [xha 0 (by decide) h1];rfl,rfl⟩
   ·have h1:=xc2 (by assumption:((nameB 0).toList == b.toList)=false);exact ⟨⟨1,by decide,rfl,xo3 HE.out h1⟩,by simp [intOf]⟩
  ·go_wp2
   ·go_ret2;have h1:=xc1.1 (by assumption:((nameB 1).toList == b.toList)=true);exact ⟨by rw [xha 1 (by decide) h1];rfl,rfl⟩
   ·have h1:=xc2 (by assumption:((nameB 1).toList == b.toList)=false);exact ⟨⟨2,by decide,rfl,xo3 HE.out h1⟩,by simp [intOf]⟩
  ·go_wp2
   ·go_ret2;have h1:=xc1.1 (by assumption:((nameB 2).toList == b.toList)=true);exact ⟨by rw [xha 2 (by decide) h1];rfl,rfl⟩
   ·have h1:=xc2 (by assumption:((nameB 2).toList == b.toList)=false);exact ⟨⟨3,by decide,rfl,xo3 HE.out h1⟩,by simp [intOf]⟩
  ·go_wp2
   ·go_ret2;have h1:=xc1.1 (by assumption:((nameB 3).toList == b.toList)=true);exact ⟨by rw [xha 3 (by decide) h1];rfl,rfl⟩
   ·have h1:=xc2 (by assumption:((nameB 3).toList == b.toList)=false);exact ⟨⟨4,by decide,rfl,xo3 HE.out h1⟩,by simp [intOf]⟩
  ·go_wp2
   ·go_ret2;have h1:=xc1.1 (by assumption:((nameB 4).toList == b.toList)=true);exact ⟨by rw [xha 4 (by decide) h1];rfl,rfl⟩
   ·have h1:=xc2 (by assumption:((nameB 4).toList == b.toList)=false);exact ⟨⟨5,by decide,rfl,xo3 HE.out h1⟩,by simp [intOf]⟩
  ·go_wp2
   ·go_ret2;have h1:=xc1.1 (by assumption:((nameB 5).toList == b.toList)=true);exact ⟨by rw [xha 5 (by decide) h1];rfl,rfl⟩
   ·have h1:=xc2 (by assumption:((nameB 5).toList == b.toList)=false);exact ⟨⟨6,by decide,rfl,xo3 HE.out h1⟩,by simp [intOf]⟩
  ·go_wp2;go_ret2;exact ⟨by rw [xg9 HE.out];rfl,rfl⟩
def OutP(c:Ctx)(d:Int)(r:Except (Int×Nat) (Code×St))(w:World)(x:Ending)(w':World):Prop:=
 w.grownBy w' (some c.rb)/\match r with
 | .ok (t,st)=>∃v,x=.returned (.tuple #[v,.bool true])/\(TV (fun b=>w.heap.size<=b) w' t).1 v/\Rd c w' st.i st.atoms d st.bad 0 0
 | .error (en,pl)=>x=.returned (.tuple #[.nilIface,.bool false])/\∃i a d b,Rd c w' i a d b en pl
theorem Rd.drewN{c:Ctx}{w:World}{i a d b e p:Int}(h:Rd c w i a d b e p)(n:Nat):Rd c (w.drewN n) i a d b e p:=⟨h.row,h.rd⟩
theorem OutP.err{c:Ctx}{d:Int}{w w':World}{i a d' b:Int}{en:Int}{pl:Nat}(h:Rd c w' i a d' b en pl)(hg:w.grownBy w' (some c.rb)):OutP c d (.error (en,pl)) w (.returned (.tuple #[.nilIface,.bool false])) w':=
 ⟨hg,rfl,i,a,d',b,h⟩
theorem xle(f n:Nat)(hn:n<32):leafV (3+2*(32*f+n))=.iface 178 (.agg #[.int .i64 (f:Int),.int .i64 (n:Int)]):=by
 unfold leafV;rw [if_neg (by omega),if_neg (by omega),if_neg (by omega)];have e1:(3+2*(32*f+n)-2)/2/32=f:=by omega
 have e2:(3+2*(32*f+n)-2)/2%32=n:=by omega
 rw [e1,e2]
theorem xlf(f n:Nat)(hn:n<32):leafV (2+2*(32*f+n))=.iface 177 (.agg #[.int .i64 (f:Int),.int .i64 (n:Int)]):=by
 unfold leafV;rw [if_neg (by omega),if_neg (by omega),if_pos (by omega)];have e1:(2+2*(32*f+n)-2)/2/32=f:=by omega
 have e2:(2+2*(32*f+n)-2)/2%32=n:=by omega
 rw [e1,e2]
theorem xqs{c:Ctx}{w w4:World}{d:Int}{nv f n:Nat}{v:Value}{o:Obj}{st:St}{t:Code}(hc:c.Good)(hR:Rd c w4 (st.i+2:Nat) ((st.atoms:Int)+1) d st.bad 0 0)(hG:w.grownBy w4 (some c.rb))
  (hv:v=leafV n) (hn:n<2+2*192) (ht:t=.exit n):
  OutP c d (.ok (t,⟨st.i+3,st.atoms+1,st.bad⟩)) w (.returned (.tuple #[v,.bool true])) ((w4.setCell ⟨c.rb,1,none⟩ (.int .i64 ((st.i:Int)+2+1))).alloc o):=by
 subst ht;have hS:=hR.set1 hc ((st.i:Int)+2+1);exact ⟨xje hG (xje (xjc _ _ _ _) (World.grownBy_alloc _ _ _)),v,rfl,⟨hv,hn⟩,hS.kept (World.grownBy_alloc _ _ _)⟩
theorem xqu{c:Ctx}{w w4:World}{d:Int}{nv f m:Nat}{o:Obj}{st:St}(hc:c.Good)(hR:Rd c w4 (st.i+2:Nat) ((st.atoms:Int)+1) d st.bad 0 0)(hG:w.grownBy w4 (some c.rb))(hf:f<=5)(hv:¬31<nv)(hm:m=nv):
  OutP c d (.ok (leafC 11 f m,⟨st.i+3,st.atoms+1,st.bad⟩)) w (.returned (.tuple #[.iface 178 (.agg #[.int .i64 (f:Int),.int .i64 (nv:Int)]),.bool true])) ((w4.setCell ⟨c.rb,1,none⟩ (.int .i64 ((st.i:Int)+2+1))).alloc o):=by
 subst hm;exact xqs (nv:=m) (f:=f) hc hR hG (xle f m (by omega)).symm (by omega) rfl
theorem xqv{c:Ctx}{w w4:World}{d:Int}{nv f m:Nat}{o:Obj}{st:St}(hc:c.Good)(hR:Rd c w4 (st.i+2:Nat) ((st.atoms:Int)+1) d st.bad 0 0)(hG:w.grownBy w4 (some c.rb))(hf:f<=5)(hv:¬31<nv)(hm:m=nv):
  OutP c d (.ok (leafC 10 f m,⟨st.i+3,st.atoms+1,st.bad⟩)) w (.returned (.tuple #[.iface 177 (.agg #[.int .i64 (f:Int),.int .i64 (nv:Int)]),.bool true])) ((w4.setCell ⟨c.rb,1,none⟩ (.int .i64 ((st.i:Int)+2+1))).alloc o):=by
 subst hm;exact xqs (nv:=m) (f:=f) hc hR hG (xlf f m (by omega)).symm (by omega) rfl
section
variable(c:Ctx)(w:World)(st:St)(d:Int)(f:Nat)
theorem xqt(hc:c.Good)(h:Rd c w st.i st.atoms d st.bad 0 0)(hi:st.i+1<c.ts.length)(hk:(tk c.ts (st.i+1)).kind=11):
  Calls Tryz.prog 275 #[.pointer (some ⟨c.rb,0,none⟩),.int .i64 0] w (OutP c d (.error (5,(tk c.ts st.i).at_)) w):=by
 have h0:w.cell? ⟨c.rb,0,none⟩=some (.slice (some ⟨c.g,0,none⟩) c.ts.length c.cap):=h.cell 0;have h1:w.cell? ⟨c.rb,1,none⟩=some (.int .i64 st.i):=h.cell 1;obtain ⟨g0,_,_⟩:=hc.cell h hi;rw [hk] at g0;have HK:=hide hk;clear hk;obtain ⟨l1,l2⟩:=h.lt;have hl:=hc.le;have hm:=hc.cap;unfold maxLen at hm;have H:=hide h;clear h;go_enter Tryz.func275,Tryz.ntmps275;go_wp2;go_quiet (fail)
 go_wp2_with fail;refine (xg4 c hc _ st.i _ _ _ _ _ 5 (H.out.drewN nq) (by omega)).mono ?_;rintro x w1 ⟨rfl,hR,hG⟩;go_wp2;go_ret2;exact OutP.err hR (xje (xi8 (xjb _ _) nq) hG)
theorem xqw(hc:c.Good)(h:Rd c w st.i st.atoms d st.bad 0 0)(hi:st.i+1<c.ts.length)(hf:f<=5)(ha:st.atoms<=16)(hs:(f=0/\¬(tk c.ts (st.i+1)).kind=11)\/¬f=0)(hA:st.atoms=16):
  Calls Tryz.prog 275 #[.pointer (some ⟨c.rb,0,none⟩),.int .i64 f] w (OutP c d (Except.error (7,(tk c.ts st.i).at_)) w):=by
 have h0:w.cell? ⟨c.rb,0,none⟩=some (.slice (some ⟨c.g,0,none⟩) c.ts.length c.cap):=h.cell 0;have h1:w.cell? ⟨c.rb,1,none⟩=some (.int .i64 st.i):=h.cell 1;have h2:w.cell? ⟨c.rb,2,none⟩=some (.int .i64 st.atoms):=h.cell 2;have f1:w.frozen? ⟨c.rb,1,none⟩=false:=h.frozen 1;have f2:w.frozen? ⟨c.rb,2,none⟩=false:=h.frozen 2;obtain ⟨g0,gx,gy⟩:=hc.cell h hi;clear gx gy;obtain ⟨l1,l2⟩:=h.lt;have hl:=hc.le;have hm:=hc.cap;unfold maxLen at hm;have H:=hide h;clear h;have hA':((st.atoms:Int) == 16)=true:=by simp;omega
 clear hA;rcases hs with ⟨rfl,hk⟩|hf0
 ·have hk':((tk c.ts (st.i+1)).kind == 11)=false:=by simp [hk]
  have HK:=hide hk;clear hk;go_enter Tryz.func275,Tryz.ntmps275;go_wp2;go_quiet (fail)
  go_wp2_with fail;refine (xg4 c hc _ st.i _ _ _ _ _ 7 (H.out.drewN nq) (by omega)).mono ?_;rintro x w1 ⟨rfl,hR,hG⟩;go_wp2;go_ret2;exact OutP.err hR (xje (xi8 (xjb _ _) nq) hG)
 ·have hk':((f:Int) == 0)=false:=by simp;omega
  go_enter Tryz.func275,Tryz.ntmps275;go_wp2;go_quiet (fail)
  go_wp2_with fail;refine (xg4 c hc _ st.i _ _ _ _ _ 7 (H.out.drewN nq) (by omega)).mono ?_;rintro x w1 ⟨rfl,hR,hG⟩;go_wp2;go_ret2;exact OutP.err hR (xje (xi8 (xjb _ _) nq) hG)
theorem xqz(hc:c.Good)(h:Rd c w st.i st.atoms d st.bad 0 0)(hi:st.i+1<c.ts.length)(hf:f<=5)(ha:st.atoms<=16)(hs:(f=0/\¬(tk c.ts (st.i+1)).kind=11)\/¬f=0)(hA:¬st.atoms=16)(hk1:¬(tk c.ts (st.i+1)).kind=10/\¬(tk c.ts (st.i+1)).kind=11):
  Calls Tryz.prog 275 #[.pointer (some ⟨c.rb,0,none⟩),.int .i64 f] w (OutP c d (Except.error (3,(tk c.ts (st.i+1)).at_)) w):=by
 have h0:w.cell? ⟨c.rb,0,none⟩=some (.slice (some ⟨c.g,0,none⟩) c.ts.length c.cap):=h.cell 0;have h1:w.cell? ⟨c.rb,1,none⟩=some (.int .i64 st.i):=h.cell 1;have h2:w.cell? ⟨c.rb,2,none⟩=some (.int .i64 st.atoms):=h.cell 2;have f1:w.frozen? ⟨c.rb,1,none⟩=false:=h.frozen 1;have f2:w.frozen? ⟨c.rb,2,none⟩=false:=h.frozen 2;obtain ⟨g0,gx,gy⟩:=hc.cell h hi;clear gx gy;obtain ⟨l1,l2⟩:=h.lt;have hl:=hc.le;have hm:=hc.cap;unfold maxLen at hm;have H:=hide h;clear h;have hA':((st.atoms:Int) == 16)=false:=by simp;omega
 have k10:((tk c.ts (st.i+1)).kind != 10)=true:=by simp [hk1.1]
 have k11:((tk c.ts (st.i+1)).kind != 11)=true:=by simp [hk1.2]
 clear hk1;rcases hs with ⟨rfl,hk⟩|hf0
 ·have hk':((tk c.ts (st.i+1)).kind == 11)=false:=by simp [hk]
  have HK:=hide hk;clear hk;go_enter Tryz.func275,Tryz.ntmps275;go_wp2;go_quiet (fail)
  go_wp2_with fail;refine (xo9 c hc _ (st.i+1) (st.atoms+1) d st.bad 0 0 (((H.out.drewN nq).set2 hc _).set1 hc _) hi).mono ?_;rintro x w1 ⟨rfl,hg1⟩;have R1:Hid (Rd c w1 (st.i+1:Nat) ((st.atoms:Int)+1) d st.bad 0 0):=(((H.out.drewN nq).set2 hc ((st.atoms:Int)+1)).set1 hc ((st.i+1:Nat):Int)).kept hg1;have G1:Hid (w.grownBy w1 (some c.rb)):=xje (xje (xi8 (xjb _ _) nq) (xje (xjc _ _ _ _) (xjc _ _ _ _))) (xjd hg1);clear hg1 h0 h1 h2 f1 f2 g0;go_wp2_with fail;refine (xg4 c hc _ (st.i+1) _ _ _ _ _ 3 R1.out hi).mono ?_;rintro x w2 ⟨rfl,hR,hG⟩;go_wp2;go_ret2;exact OutP.err hR (xje G1.out hG)
 ·have hk':((f:Int) == 0)=false:=by simp;omega
  go_enter Tryz.func275,Tryz.ntmps275;go_wp2;go_quiet (fail)
  go_wp2_with fail;refine (xo9 c hc _ (st.i+1) (st.atoms+1) d st.bad 0 0 (((H.out.drewN nq).set2 hc _).set1 hc _) hi).mono ?_;rintro x w1 ⟨rfl,hg1⟩;have R1:Hid (Rd c w1 (st.i+1:Nat) ((st.atoms:Int)+1) d st.bad 0 0):=(((H.out.drewN nq).set2 hc ((st.atoms:Int)+1)).set1 hc ((st.i+1:Nat):Int)).kept hg1;have G1:Hid (w.grownBy w1 (some c.rb)):=xje (xje (xi8 (xjb _ _) nq) (xje (xjc _ _ _ _) (xjc _ _ _ _))) (xjd hg1);clear hg1 h0 h1 h2 f1 f2 g0;go_wp2_with fail;refine (xg4 c hc _ (st.i+1) _ _ _ _ _ 3 R1.out hi).mono ?_;rintro x w2 ⟨rfl,hR,hG⟩;go_wp2;go_ret2;exact OutP.err hR (xje G1.out hG)
theorem xqx(hc:c.Good)(h:Rd c w st.i st.atoms d st.bad 0 0)(hi:st.i+1<c.ts.length)(hf:f<=5)(ha:st.atoms<=16)(hs:(f=0/\¬(tk c.ts (st.i+1)).kind=11)\/¬f=0)(hA:¬st.atoms=16)(hi2:st.i+2<c.ts.length)(kk:Int)(hkk:kk=10\/kk=11)(hk1:(tk c.ts (st.i+1)).kind=kk)(hk2:¬(tk c.ts (st.i+2)).kind=3):
  Calls Tryz.prog 275 #[.pointer (some ⟨c.rb,0,none⟩),.int .i64 f] w (OutP c d (Except.error (3,(tk c.ts (st.i+2)).at_)) w):=by
 have h0:w.cell? ⟨c.rb,0,none⟩=some (.slice (some ⟨c.g,0,none⟩) c.ts.length c.cap):=h.cell 0;have h1:w.cell? ⟨c.rb,1,none⟩=some (.int .i64 st.i):=h.cell 1;have h2:w.cell? ⟨c.rb,2,none⟩=some (.int .i64 st.atoms):=h.cell 2;have f1:w.frozen? ⟨c.rb,1,none⟩=false:=h.frozen 1;have f2:w.frozen? ⟨c.rb,2,none⟩=false:=h.frozen 2;obtain ⟨g0,gx,gy⟩:=hc.cell h hi;clear gx gy;obtain ⟨l1,l2⟩:=h.lt;have hl:=hc.le;have hm:=hc.cap;unfold maxLen at hm;have H:=hide h;clear h;have hA':((st.atoms:Int) == 16)=false:=by simp;omega
 have k3:((tk c.ts (st.i+2)).kind != 3)=true:=by simp [hk2]
 clear hk2;have HK1:=hide hk1;clear hk1;rcases hs with ⟨rfl,hk⟩|hf0
 ·have hk':((tk c.ts (st.i+1)).kind == 11)=false:=by simp [hk]
  have HK:=hide hk;clear hk;go_enter Tryz.func275,Tryz.ntmps275;go_wp2;go_quiet (fail)
  go_wp2_with fail;refine (xo9 c hc _ (st.i+1) (st.atoms+1) d st.bad 0 0 (((H.out.drewN nq).set2 hc _).set1 hc _) hi).mono ?_;rintro x w1 ⟨rfl,hg1⟩;have R1:Hid (Rd c w1 (st.i+1:Nat) ((st.atoms:Int)+1) d st.bad 0 0):=(((H.out.drewN nq).set2 hc ((st.atoms:Int)+1)).set1 hc ((st.i+1:Nat):Int)).kept hg1;have G1:Hid (w.grownBy w1 (some c.rb)):=xje (xje (xi8 (xjb _ _) nq) (xje (xjc _ _ _ _) (xjc _ _ _ _))) (xjd hg1);clear hg1 h0 h1 h2 f1 f2 g0;rw [HK1.out];rcases hkk with rfl|rfl
  ·have c1:w1.cell? ⟨c.rb,1,none⟩=some (.int .i64 (st.i+1:Nat)):=R1.out.cell 1;have f1:w1.frozen? ⟨c.rb,1,none⟩=false:=R1.out.frozen 1;go_wp2_with fail;refine (xo9 c hc _ (st.i+2) (st.atoms+1) d st.bad 0 0 (R1.out.set1 hc _) hi2).mono ?_;rintro x w2 ⟨rfl,hg2⟩;have R2:Hid (Rd c w2 (st.i+2:Nat) ((st.atoms:Int)+1) d st.bad 0 0):=(R1.out.set1 hc ((st.i+2:Nat):Int)).kept hg2;have G2:Hid (w.grownBy w2 (some c.rb)):=xje (xje G1.out (xjc _ _ _ _)) (xjd hg2);clear hg2 c1 f1;go_wp2_with fail;refine (xg4 c hc _ (st.i+2) _ _ _ _ _ 3 R2.out hi2).mono ?_;rintro x w3 ⟨rfl,hR,hG⟩;go_wp2;go_ret2;exact OutP.err hR (xje G2.out hG)
  ·exact absurd HK1.out HK.out
 ·have hk':((f:Int) == 0)=false:=by simp;omega
  go_enter Tryz.func275,Tryz.ntmps275;go_wp2;go_quiet (fail)
  go_wp2_with fail;refine (xo9 c hc _ (st.i+1) (st.atoms+1) d st.bad 0 0 (((H.out.drewN nq).set2 hc _).set1 hc _) hi).mono ?_;rintro x w1 ⟨rfl,hg1⟩;have R1:Hid (Rd c w1 (st.i+1:Nat) ((st.atoms:Int)+1) d st.bad 0 0):=(((H.out.drewN nq).set2 hc ((st.atoms:Int)+1)).set1 hc ((st.i+1:Nat):Int)).kept hg1;have G1:Hid (w.grownBy w1 (some c.rb)):=xje (xje (xi8 (xjb _ _) nq) (xje (xjc _ _ _ _) (xjc _ _ _ _))) (xjd hg1);clear hg1 h0 h1 h2 f1 f2 g0;rw [HK1.out];rcases hkk with rfl|rfl
  ·have c1:w1.cell? ⟨c.rb,1,none⟩=some (.int .i64 (st.i+1:Nat)):=R1.out.cell 1;have f1:w1.frozen? ⟨c.rb,1,none⟩=false:=R1.out.frozen 1;go_wp2_with fail;refine (xo9 c hc _ (st.i+2) (st.atoms+1) d st.bad 0 0 (R1.out.set1 hc _) hi2).mono ?_;rintro x w2 ⟨rfl,hg2⟩;have R2:Hid (Rd c w2 (st.i+2:Nat) ((st.atoms:Int)+1) d st.bad 0 0):=(R1.out.set1 hc ((st.i+2:Nat):Int)).kept hg2;have G2:Hid (w.grownBy w2 (some c.rb)):=xje (xje G1.out (xjc _ _ _ _)) (xjd hg2);clear hg2 c1 f1;go_wp2_with fail;refine (xg4 c hc _ (st.i+2) _ _ _ _ _ 3 R2.out hi2).mono ?_;rintro x w3 ⟨rfl,hR,hG⟩;go_wp2;go_ret2;exact OutP.err hR (xje G2.out hG)
  ·have c1:w1.cell? ⟨c.rb,1,none⟩=some (.int .i64 (st.i+1:Nat)):=R1.out.cell 1;have f1:w1.frozen? ⟨c.rb,1,none⟩=false:=R1.out.frozen 1;go_wp2_with fail;refine (xo9 c hc _ (st.i+2) (st.atoms+1) d st.bad 0 0 (R1.out.set1 hc _) hi2).mono ?_;rintro x w2 ⟨rfl,hg2⟩;have R2:Hid (Rd c w2 (st.i+2:Nat) ((st.atoms:Int)+1) d st.bad 0 0):=(R1.out.set1 hc ((st.i+2:Nat):Int)).kept hg2;have G2:Hid (w.grownBy w2 (some c.rb)):=xje (xje G1.out (xjc _ _ _ _)) (xjd hg2);clear hg2 c1 f1;go_wp2_with fail;refine (xg4 c hc _ (st.i+2) _ _ _ _ _ 3 R2.out hi2).mono ?_;rintro x w3 ⟨rfl,hR,hG⟩;go_wp2;go_ret2;exact OutP.err hR (xje G2.out hG)
theorem xqr(hc:c.Good)(h:Rd c w st.i st.atoms d st.bad 0 0)(hi:st.i+1<c.ts.length)(hf:f<=5)(ha:st.atoms<=16)(hs:(f=0/\¬(tk c.ts (st.i+1)).kind=11)\/¬f=0)(hA:¬st.atoms=16)(hi2:st.i+2<c.ts.length)(kk:Int)(hkk:kk=10\/kk=11)(hk1:(tk c.ts (st.i+1)).kind=kk)(hk2:(tk c.ts (st.i+2)).kind=3)(hv:31<xpf (txt c.s (tk c.ts (st.i+2)))):
  Calls Tryz.prog 275 #[.pointer (some ⟨c.rb,0,none⟩),.int .i64 f] w (OutP c d (Except.error (4,(tk c.ts (st.i+2)).at_)) w):=by
 have h0:w.cell? ⟨c.rb,0,none⟩=some (.slice (some ⟨c.g,0,none⟩) c.ts.length c.cap):=h.cell 0;have h1:w.cell? ⟨c.rb,1,none⟩=some (.int .i64 st.i):=h.cell 1;have h2:w.cell? ⟨c.rb,2,none⟩=some (.int .i64 st.atoms):=h.cell 2;have f1:w.frozen? ⟨c.rb,1,none⟩=false:=h.frozen 1;have f2:w.frozen? ⟨c.rb,2,none⟩=false:=h.frozen 2;obtain ⟨g0,gx,gy⟩:=hc.cell h hi;clear gx gy;obtain ⟨l1,l2⟩:=h.lt;have hl:=hc.le;have hm:=hc.cap;unfold maxLen at hm;have H:=hide h;clear h;have hA':((st.atoms:Int) == 16)=false:=by simp;omega
 obtain ⟨nv,hnv⟩:∃nv,nv=xpf (txt c.s (tk c.ts (st.i+2))):=⟨_,rfl⟩;have HV:Hid (xpf (c.s.extract (tk c.ts (st.i+2)).at_ (tk c.ts (st.i+2)).to).data.toList=nv):=hnv.symm;have hsz:Hid ((c.s.extract (tk c.ts (st.i+2)).at_ (tk c.ts (st.i+2)).to).size<=400):=by have:=hc.size;show _<=_;rw [ByteArray.size_extract];omega
 rw [<-hnv] at hv;clear hnv;have k3:((tk c.ts (st.i+2)).kind != 3)=false:=by simp [hk2]
 clear hk2;have HK1:=hide hk1;clear hk1;rcases hs with ⟨rfl,hk⟩|hf0
 ·have hk':((tk c.ts (st.i+1)).kind == 11)=false:=by simp [hk]
  have HK:=hide hk;clear hk;go_enter Tryz.func275,Tryz.ntmps275;go_wp2;go_quiet (fail)
  go_wp2_with fail;refine (xo9 c hc _ (st.i+1) (st.atoms+1) d st.bad 0 0 (((H.out.drewN nq).set2 hc _).set1 hc _) hi).mono ?_;rintro x w1 ⟨rfl,hg1⟩;have R1:Hid (Rd c w1 (st.i+1:Nat) ((st.atoms:Int)+1) d st.bad 0 0):=(((H.out.drewN nq).set2 hc ((st.atoms:Int)+1)).set1 hc ((st.i+1:Nat):Int)).kept hg1;have G1:Hid (w.grownBy w1 (some c.rb)):=xje (xje (xi8 (xjb _ _) nq) (xje (xjc _ _ _ _) (xjc _ _ _ _))) (xjd hg1);clear hg1 h0 h1 h2 f1 f2 g0;rw [HK1.out];rcases hkk with rfl|rfl
  ·have c1:w1.cell? ⟨c.rb,1,none⟩=some (.int .i64 (st.i+1:Nat)):=R1.out.cell 1;have f1:w1.frozen? ⟨c.rb,1,none⟩=false:=R1.out.frozen 1;go_wp2_with fail;refine (xo9 c hc _ (st.i+2) (st.atoms+1) d st.bad 0 0 (R1.out.set1 hc _) hi2).mono ?_;rintro x w2 ⟨rfl,hg2⟩;have R2:Hid (Rd c w2 (st.i+2:Nat) ((st.atoms:Int)+1) d st.bad 0 0):=(R1.out.set1 hc ((st.i+2:Nat):Int)).kept hg2;have G2:Hid (w.grownBy w2 (some c.rb)):=xje (xje G1.out (xjc _ _ _ _)) (xjd hg2);clear hg2 c1 f1;go_wp2_with fail;refine (xo9 c hc _ (st.i+2) (st.atoms+1) d st.bad 0 0 R2.out hi2).mono ?_;rintro x w3 ⟨rfl,hg3⟩;have R3:Hid (Rd c w3 (st.i+2:Nat) ((st.atoms:Int)+1) d st.bad 0 0):=R2.out.kept hg3;have G3:Hid (w.grownBy w3 (some c.rb)):=xje G2.out (xjd hg3);clear hg3;go_wp2_with fail;refine (x0q _ _ hsz.out).mono ?_;rintro x w4 ⟨rfl,rfl⟩;rw [HV.out];go_wp2_with fail;refine (xg4 c hc _ (st.i+2) _ _ _ _ _ 4 R3.out hi2).mono ?_;rintro x w5 ⟨rfl,hR,hG⟩;go_wp2;go_ret2;exact OutP.err hR (xje G3.out hG)
  ·exact absurd HK1.out HK.out
 ·have hk':((f:Int) == 0)=false:=by simp;omega
  go_enter Tryz.func275,Tryz.ntmps275;go_wp2;go_quiet (fail)
  go_wp2_with fail;refine (xo9 c hc _ (st.i+1) (st.atoms+1) d st.bad 0 0 (((H.out.drewN nq).set2 hc _).set1 hc _) hi).mono ?_;rintro x w1 ⟨rfl,hg1⟩;have R1:Hid (Rd c w1 (st.i+1:Nat) ((st.atoms:Int)+1) d st.bad 0 0):=(((H.out.drewN nq).set2 hc ((st.atoms:Int)+1)).set1 hc ((st.i+1:Nat):Int)).kept hg1;have G1:Hid (w.grownBy w1 (some c.rb)):=xje (xje (xi8 (xjb _ _) nq) (xje (xjc _ _ _ _) (xjc _ _ _ _))) (xjd hg1);clear hg1 h0 h1 h2 f1 f2 g0;rw [HK1.out];rcases hkk with rfl|rfl
  ·have c1:w1.cell? ⟨c.rb,1,none⟩=some (.int .i64 (st.i+1:Nat)):=R1.out.cell 1;have f1:w1.frozen? ⟨c.rb,1,none⟩=false:=R1.out.frozen 1;go_wp2_with fail;refine (xo9 c hc _ (st.i+2) (st.atoms+1) d st.bad 0 0 (R1.out.set1 hc _) hi2).mono ?_;rintro x w2 ⟨rfl,hg2⟩;have R2:Hid (Rd c w2 (st.i+2:Nat) ((st.atoms:Int)+1) d st.bad 0 0):=(R1.out.set1 hc ((st.i+2:Nat):Int)).kept hg2;have G2:Hid (w.grownBy w2 (some c.rb)):=xje (xje G1.out (xjc _ _ _ _)) (xjd hg2);clear hg2 c1 f1;go_wp2_with fail;refine (xo9 c hc _ (st.i+2) (st.atoms+1) d st.bad 0 0 R2.out hi2).mono ?_;rintro x w3 ⟨rfl,hg3⟩;have R3:Hid (Rd c w3 (st.i+2:Nat) ((st.atoms:Int)+1) d st.bad 0 0):=R2.out.kept hg3;have G3:Hid (w.grownBy w3 (some c.rb)):=xje G2.out (xjd hg3);clear hg3;go_wp2_with fail;refine (x0q _ _ hsz.out).mono ?_;rintro x w4 ⟨rfl,rfl⟩;rw [HV.out];go_wp2_with fail;refine (xg4 c hc _ (st.i+2) _ _ _ _ _ 4 R3.out hi2).mono ?_;rintro x w5 ⟨rfl,hR,hG⟩;go_wp2;go_ret2;exact OutP.err hR (xje G3.out hG)
  ·have c1:w1.cell? ⟨c.rb,1,none⟩=some (.int .i64 (st.i+1:Nat)):=R1.out.cell 1;have f1:w1.frozen? ⟨c.rb,1,none⟩=false:=R1.out.frozen 1;go_wp2_with fail;refine (xo9 c hc _ (st.i+2) (st.atoms+1) d st.bad 0 0 (R1.out.set1 hc _) hi2).mono ?_;rintro x w2 ⟨rfl,hg2⟩;have R2:Hid (Rd c w2 (st.i+2:Nat) ((st.atoms:Int)+1) d st.bad 0 0):=(R1.out.set1 hc ((st.i+2:Nat):Int)).kept hg2;have G2:Hid (w.grownBy w2 (some c.rb)):=xje (xje G1.out (xjc _ _ _ _)) (xjd hg2);clear hg2 c1 f1;go_wp2_with fail;refine (xo9 c hc _ (st.i+2) (st.atoms+1) d st.bad 0 0 R2.out hi2).mono ?_;rintro x w3 ⟨rfl,hg3⟩;have R3:Hid (Rd c w3 (st.i+2:Nat) ((st.atoms:Int)+1) d st.bad 0 0):=R2.out.kept hg3;have G3:Hid (w.grownBy w3 (some c.rb)):=xje G2.out (xjd hg3);clear hg3;go_wp2_with fail;refine (x0q _ _ hsz.out).mono ?_;rintro x w4 ⟨rfl,rfl⟩;rw [HV.out];go_wp2_with fail;refine (xg4 c hc _ (st.i+2) _ _ _ _ _ 4 R3.out hi2).mono ?_;rintro x w5 ⟨rfl,hR,hG⟩;go_wp2;go_ret2;exact OutP.err hR (xje G3.out hG)
theorem xqy(hc:c.Good)(h:Rd c w st.i st.atoms d st.bad 0 0)(hi:st.i+1<c.ts.length)(hf:f<=5)(ha:st.atoms<=16)(hs:(f=0/\¬(tk c.ts (st.i+1)).kind=11)\/¬f=0)(hA:¬st.atoms=16)(hi2:st.i+2<c.ts.length)(hk1:(tk c.ts (st.i+1)).kind=11)(hk2:(tk c.ts (st.i+2)).kind=3)(hv:¬31<xpf (txt c.s (tk c.ts (st.i+2)))):
  Calls Tryz.prog 275 #[.pointer (some ⟨c.rb,0,none⟩),.int .i64 f] w (OutP c d (Except.ok (leafC 11 f (xpf (txt c.s (tk c.ts (st.i+2)))),⟨st.i+3,st.atoms+1,st.bad⟩)) w):=by
 have h0:w.cell? ⟨c.rb,0,none⟩=some (.slice (some ⟨c.g,0,none⟩) c.ts.length c.cap):=h.cell 0;have h1:w.cell? ⟨c.rb,1,none⟩=some (.int .i64 st.i):=h.cell 1;have h2:w.cell? ⟨c.rb,2,none⟩=some (.int .i64 st.atoms):=h.cell 2;have f1:w.frozen? ⟨c.rb,1,none⟩=false:=h.frozen 1;have f2:w.frozen? ⟨c.rb,2,none⟩=false:=h.frozen 2;obtain ⟨g0,gx,gy⟩:=hc.cell h hi;clear gx gy;obtain ⟨l1,l2⟩:=h.lt;have hl:=hc.le;have hm:=hc.cap;unfold maxLen at hm;have H:=hide h;clear h;have hA':((st.atoms:Int) == 16)=false:=by simp;omega
 obtain ⟨nv,hnv⟩:∃nv,nv=xpf (txt c.s (tk c.ts (st.i+2))):=⟨_,rfl⟩;have HV:Hid (xpf (c.s.extract (tk c.ts (st.i+2)).at_ (tk c.ts (st.i+2)).to).data.toList=nv):=hnv.symm;have hsz:Hid ((c.s.extract (tk c.ts (st.i+2)).at_ (tk c.ts (st.i+2)).to).size<=400):=by have:=hc.size;show _<=_;rw [ByteArray.size_extract];omega
 rw [<-hnv] at hv;clear hnv;have k3:((tk c.ts (st.i+2)).kind != 3)=false:=by simp [hk2]
 clear hk2;have HK1:=hide hk1;clear hk1;rcases hs with ⟨rfl,hk⟩|hf0
 ·have hk':((tk c.ts (st.i+1)).kind == 11)=false:=by simp [hk]
  have HK:=hide hk;clear hk;go_enter Tryz.func275,Tryz.ntmps275;go_wp2;go_quiet (fail)
  go_wp2_with fail;refine (xo9 c hc _ (st.i+1) (st.atoms+1) d st.bad 0 0 (((H.out.drewN nq).set2 hc _).set1 hc _) hi).mono ?_;rintro x w1 ⟨rfl,hg1⟩;have R1:Hid (Rd c w1 (st.i+1:Nat) ((st.atoms:Int)+1) d st.bad 0 0):=(((H.out.drewN nq).set2 hc ((st.atoms:Int)+1)).set1 hc ((st.i+1:Nat):Int)).kept hg1;have G1:Hid (w.grownBy w1 (some c.rb)):=xje (xje (xi8 (xjb _ _) nq) (xje (xjc _ _ _ _) (xjc _ _ _ _))) (xjd hg1);clear hg1 h0 h1 h2 f1 f2 g0;exact absurd HK1.out HK.out
 ·have hk':((f:Int) == 0)=false:=by simp;omega
  go_enter Tryz.func275,Tryz.ntmps275;go_wp2;go_quiet (fail)
  go_wp2_with fail;refine (xo9 c hc _ (st.i+1) (st.atoms+1) d st.bad 0 0 (((H.out.drewN nq).set2 hc _).set1 hc _) hi).mono ?_;rintro x w1 ⟨rfl,hg1⟩;have R1:Hid (Rd c w1 (st.i+1:Nat) ((st.atoms:Int)+1) d st.bad 0 0):=(((H.out.drewN nq).set2 hc ((st.atoms:Int)+1)).set1 hc ((st.i+1:Nat):Int)).kept hg1;have G1:Hid (w.grownBy w1 (some c.rb)):=xje (xje (xi8 (xjb _ _) nq) (xje (xjc _ _ _ _) (xjc _ _ _ _))) (xjd hg1);clear hg1 h0 h1 h2 f1 f2 g0;rw [HK1.out];have c1:w1.cell? ⟨c.rb,1,none⟩=some (.int .i64 (st.i+1:Nat)):=R1.out.cell 1;have f1:w1.frozen? ⟨c.rb,1,none⟩=false:=R1.out.frozen 1;go_wp2_with fail;refine (xo9 c hc _ (st.i+2) (st.atoms+1) d st.bad 0 0 (R1.out.set1 hc _) hi2).mono ?_;rintro x w2 ⟨rfl,hg2⟩;have R2:Hid (Rd c w2 (st.i+2:Nat) ((st.atoms:Int)+1) d st.bad 0 0):=(R1.out.set1 hc ((st.i+2:Nat):Int)).kept hg2;have G2:Hid (w.grownBy w2 (some c.rb)):=xje (xje G1.out (xjc _ _ _ _)) (xjd hg2);clear hg2 c1 f1;go_wp2_with fail;refine (xo9 c hc _ (st.i+2) (st.atoms+1) d st.bad 0 0 R2.out hi2).mono ?_;rintro x w3 ⟨rfl,hg3⟩;have R3:Hid (Rd c w3 (st.i+2:Nat) ((st.atoms:Int)+1) d st.bad 0 0):=R2.out.kept hg3;have G3:Hid (w.grownBy w3 (some c.rb)):=xje G2.out (xjd hg3);clear hg3;go_wp2_with fail;refine (x0q _ _ hsz.out).mono ?_;rintro x w4 ⟨rfl,rfl⟩;rw [HV.out];have c1:w4.cell? ⟨c.rb,1,none⟩=some (.int .i64 (st.i+2:Nat)):=R3.out.cell 1;have f1:w4.frozen? ⟨c.rb,1,none⟩=false:=R3.out.frozen 1;go_wp2;go_ret2;exact xqu hc R3.out G3.out (by omega) hv HV.out
theorem xq0(hc:c.Good)(h:Rd c w st.i st.atoms d st.bad 0 0)(hi:st.i+1<c.ts.length)(hf:f<=5)(ha:st.atoms<=16)(hs:(f=0/\¬(tk c.ts (st.i+1)).kind=11)\/¬f=0)(hA:¬st.atoms=16)(hi2:st.i+2<c.ts.length)(hk1:(tk c.ts (st.i+1)).kind=10)(hk2:(tk c.ts (st.i+2)).kind=3)(hv:¬31<xpf (txt c.s (tk c.ts (st.i+2)))):
  Calls Tryz.prog 275 #[.pointer (some ⟨c.rb,0,none⟩),.int .i64 f] w (OutP c d (Except.ok (leafC 10 f (xpf (txt c.s (tk c.ts (st.i+2)))),⟨st.i+3,st.atoms+1,st.bad⟩)) w):=by
 have h0:w.cell? ⟨c.rb,0,none⟩=some (.slice (some ⟨c.g,0,none⟩) c.ts.length c.cap):=h.cell 0;have h1:w.cell? ⟨c.rb,1,none⟩=some (.int .i64 st.i):=h.cell 1;have h2:w.cell? ⟨c.rb,2,none⟩=some (.int .i64 st.atoms):=h.cell 2;have f1:w.frozen? ⟨c.rb,1,none⟩=false:=h.frozen 1;have f2:w.frozen? ⟨c.rb,2,none⟩=false:=h.frozen 2;obtain ⟨g0,gx,gy⟩:=hc.cell h hi;clear gx gy;obtain ⟨l1,l2⟩:=h.lt;have hl:=hc.le;have hm:=hc.cap;unfold maxLen at hm;have H:=hide h;clear h;have hA':((st.atoms:Int) == 16)=false:=by simp;omega
 obtain ⟨nv,hnv⟩:∃nv,nv=xpf (txt c.s (tk c.ts (st.i+2))):=⟨_,rfl⟩;have HV:Hid (xpf (c.s.extract (tk c.ts (st.i+2)).at_ (tk c.ts (st.i+2)).to).data.toList=nv):=hnv.symm;have hsz:Hid ((c.s.extract (tk c.ts (st.i+2)).at_ (tk c.ts (st.i+2)).to).size<=400):=by have:=hc.size;show _<=_;rw [ByteArray.size_extract];omega
 rw [<-hnv] at hv;clear hnv;have k3:((tk c.ts (st.i+2)).kind != 3)=false:=by simp [hk2]
 clear hk2;have HK1:=hide hk1;clear hk1;rcases hs with ⟨rfl,hk⟩|hf0
 ·have hk':((tk c.ts (st.i+1)).kind == 11)=false:=by simp [hk]
  have HK:=hide hk;clear hk;go_enter Tryz.func275,Tryz.ntmps275;go_wp2;go_quiet (fail)
  go_wp2_with fail;refine (xo9 c hc _ (st.i+1) (st.atoms+1) d st.bad 0 0 (((H.out.drewN nq).set2 hc _).set1 hc _) hi).mono ?_;rintro x w1 ⟨rfl,hg1⟩;have R1:Hid (Rd c w1 (st.i+1:Nat) ((st.atoms:Int)+1) d st.bad 0 0):=(((H.out.drewN nq).set2 hc ((st.atoms:Int)+1)).set1 hc ((st.i+1:Nat):Int)).kept hg1;have G1:Hid (w.grownBy w1 (some c.rb)):=xje (xje (xi8 (xjb _ _) nq) (xje (xjc _ _ _ _) (xjc _ _ _ _))) (xjd hg1);clear hg1 h0 h1 h2 f1 f2 g0;rw [HK1.out];have c1:w1.cell? ⟨c.rb,1,none⟩=some (.int .i64 (st.i+1:Nat)):=R1.out.cell 1;have f1:w1.frozen? ⟨c.rb,1,none⟩=false:=R1.out.frozen 1;go_wp2_with fail;refine (xo9 c hc _ (st.i+2) (st.atoms+1) d st.bad 0 0 (R1.out.set1 hc _) hi2).mono ?_;rintro x w2 ⟨rfl,hg2⟩;have R2:Hid (Rd c w2 (st.i+2:Nat) ((st.atoms:Int)+1) d st.bad 0 0):=(R1.out.set1 hc ((st.i+2:Nat):Int)).kept hg2;have G2:Hid (w.grownBy w2 (some c.rb)):=xje (xje G1.out (xjc _ _ _ _)) (xjd hg2);clear hg2 c1 f1;go_wp2_with fail;refine (xo9 c hc _ (st.i+2) (st.atoms+1) d st.bad 0 0 R2.out hi2).mono ?_;rintro x w3 ⟨rfl,hg3⟩;have R3:Hid (Rd c w3 (st.i+2:Nat) ((st.atoms:Int)+1) d st.bad 0 0):=R2.out.kept hg3;have G3:Hid (w.grownBy w3 (some c.rb)):=xje G2.out (xjd hg3);clear hg3;go_wp2_with fail;refine (x0q _ _ hsz.out).mono ?_;rintro x w4 ⟨rfl,rfl⟩;rw [HV.out];have c1:w4.cell? ⟨c.rb,1,none⟩=some (.int .i64 (st.i+2:Nat)):=R3.out.cell 1;have f1:w4.frozen? ⟨c.rb,1,none⟩=false:=R3.out.frozen 1;go_wp2;go_ret2;exact xqv hc R3.out G3.out (by omega) hv HV.out
 ·have hk':((f:Int) == 0)=false:=by simp;omega
  go_enter Tryz.func275,Tryz.ntmps275;go_wp2;go_quiet (fail)
  go_wp2_with fail;refine (xo9 c hc _ (st.i+1) (st.atoms+1) d st.bad 0 0 (((H.out.drewN nq).set2 hc _).set1 hc _) hi).mono ?_;rintro x w1 ⟨rfl,hg1⟩;have R1:Hid (Rd c w1 (st.i+1:Nat) ((st.atoms:Int)+1) d st.bad 0 0):=(((H.out.drewN nq).set2 hc ((st.atoms:Int)+1)).set1 hc ((st.i+1:Nat):Int)).kept hg1;have G1:Hid (w.grownBy w1 (some c.rb)):=xje (xje (xi8 (xjb _ _) nq) (xje (xjc _ _ _ _) (xjc _ _ _ _))) (xjd hg1);clear hg1 h0 h1 h2 f1 f2 g0;rw [HK1.out];have c1:w1.cell? ⟨c.rb,1,none⟩=some (.int .i64 (st.i+1:Nat)):=R1.out.cell 1;have f1:w1.frozen? ⟨c.rb,1,none⟩=false:=R1.out.frozen 1;go_wp2_with fail;refine (xo9 c hc _ (st.i+2) (st.atoms+1) d st.bad 0 0 (R1.out.set1 hc _) hi2).mono ?_;rintro x w2 ⟨rfl,hg2⟩;have R2:Hid (Rd c w2 (st.i+2:Nat) ((st.atoms:Int)+1) d st.bad 0 0):=(R1.out.set1 hc ((st.i+2:Nat):Int)).kept hg2;have G2:Hid (w.grownBy w2 (some c.rb)):=xje (xje G1.out (xjc _ _ _ _)) (xjd hg2);clear hg2 c1 f1;go_wp2_with fail;refine (xo9 c hc _ (st.i+2) (st.atoms+1) d st.bad 0 0 R2.out hi2).mono ?_;rintro x w3 ⟨rfl,hg3⟩;have R3:Hid (Rd c w3 (st.i+2:Nat) ((st.atoms:Int)+1) d st.bad 0 0):=R2.out.kept hg3;have G3:Hid (w.grownBy w3 (some c.rb)):=xje G2.out (xjd hg3);clear hg3;go_wp2_with fail;refine (x0q _ _ hsz.out).mono ?_;rintro x w4 ⟨rfl,rfl⟩;rw [HV.out];have c1:w4.cell? ⟨c.rb,1,none⟩=some (.int .i64 (st.i+2:Nat)):=R3.out.cell 1;have f1:w4.frozen? ⟨c.rb,1,none⟩=false:=R3.out.frozen 1;go_wp2;go_ret2;exact xqv hc R3.out G3.out (by omega) hv HV.out
theorem xqq(hc:c.Good)(h:Rd c w st.i st.atoms d st.bad 0 0)(hi:st.i<c.ts.length)(hk:(tk c.ts st.i).kind=2)(hf:f<=5)(ha:st.atoms<=16):
  Calls Tryz.prog 275 #[.pointer (some ⟨c.rb,0,none⟩),.int .i64 f] w (OutP c d (pairP c.s c.ts f st) w):=by
 have hcl:xaa c.ts:=by rw [hc.toks];exact xzt _ _
 have hi1:st.i+1<c.ts.length:=hcl.next hi (by omega) (by omega);unfold pairP;by_cases b1:f=0/\(tk c.ts (st.i+1)).kind=11
 ·rw [if_pos b1];obtain ⟨rfl,b1⟩:=b1;exact xqt c w st d hc h hi1 b1
 have hs:(f=0/\¬(tk c.ts (st.i+1)).kind=11)\/¬f=0:=by
  by_cases e:f=0
  ·exact .inl ⟨e,fun e2=>b1 ⟨e,e2⟩⟩
  ·exact .inr e
 rw [if_neg b1];by_cases b2:st.atoms=16
 ·rw [if_pos b2];exact xqw c w st d f hc h hi1 hf ha hs b2
 rw [if_neg b2];by_cases b3:¬(tk c.ts (st.i+1)).kind=10/\¬(tk c.ts (st.i+1)).kind=11
 ·rw [if_pos b3];exact xqz c w st d f hc h hi1 hf ha hs b2 b3
 rw [if_neg b3];have hi2:st.i+2<c.ts.length:=hcl.next hi1 (by omega) (by omega);have hkk:(tk c.ts (st.i+1)).kind=10\/(tk c.ts (st.i+1)).kind=11:=by omega
 by_cases b4:¬(tk c.ts (st.i+2)).kind=3
 ·rw [if_pos b4];exact xqx c w st d f hc h hi1 hf ha hs b2 hi2 _ hkk rfl b4
 rw [if_neg b4];by_cases b5:31<xpf (txt c.s (tk c.ts (st.i+2)))
 ·rw [if_pos b5];exact xqr c w st d f hc h hi1 hf ha hs b2 hi2 _ hkk rfl (by omega) b5
 rw [if_neg b5];rcases hkk with e|e
 ·rw [e];exact xq0 c w st d f hc h hi1 hf ha hs b2 hi2 e (by omega) b5
 ·rw [e];exact xqy c w st d f hc h hi1 hf ha hs b2 hi2 e (by omega) b5
end
theorem OutP.leaf{c:Ctx}{d:Int}{w w':World}{n:Nat}{i a b:Nat}(h:Rd c w' i a d b 0 0)(hg:w.grownBy w' (some c.rb))(hn:n<2+2*192):OutP c d (.ok (.exit n,⟨i,a,b⟩)) w (.returned (.tuple #[leafV n,.bool true])) w':=
 ⟨hg,_,rfl,⟨rfl,hn⟩,h⟩
theorem OutP.shape{c:Ctx}{d:Int}{r:Except (Int×Nat) (Code×St)}{w w':World}{x:Ending}(h:OutP c d r w x w'):∃v b,x=.returned (.tuple #[v,.bool b]):=by
 obtain ⟨_,h⟩:=h;cases r with
 | error e=>exact ⟨_,_,h.1⟩
 | ok p=>obtain ⟨v,h,_⟩:=h;exact ⟨_,_,h⟩
section
variable(c:Ctx)(w:World)(st:St)(d:Int)
theorem x1b(hc:c.Good)(h:Rd c w st.i st.atoms d st.bad 0 0)(hi:st.i<c.ts.length)(ht:txt c.s (tk c.ts st.i)=[105,100]):
  Calls Tryz.prog 259 #[.pointer (some ⟨c.rb,0,none⟩)] w (OutP c d (.ok (.exit 0,⟨st.i+1,st.atoms,st.bad⟩)) w):=by
 have hl:=hc.le;have hm:=hc.cap;unfold maxLen at hm;have HE:((c.s.extract (tk c.ts st.i).at_ (tk c.ts st.i).to).toList == [105,100])=true:=by rw [beq_iff_eq,ByteArray.toList_eq];exact ht
 clear ht;have H:=hide h;clear h;go_enter Tryz.func259,Tryz.ntmps259;go_wp2_with fail;refine (xo9 c hc _ st.i st.atoms d st.bad 0 0 H.out hi).mono ?_;rintro x w1 ⟨rfl,hg1⟩;have R1:Hid (Rd c w1 st.i st.atoms d st.bad 0 0):=H.out.kept hg1;have G1:=hide hg1;clear hg1;have c1:w1.cell? ⟨c.rb,1,none⟩=some (.int .i64 st.i):=R1.out.cell 1;have f1:w1.frozen? ⟨c.rb,1,none⟩=false:=R1.out.frozen 1;go_wp2_with (go_at_call 272;refine (xjn 0 _).mono ?_;rintro x w2 ⟨rfl,rfl⟩);go_ret2;exact OutP.leaf (R1.out.set1 hc _) (xje (xjd G1.out) (xjc _ _ _ _)) (by decide)
theorem x09(hc:c.Good)(h:Rd c w st.i st.atoms d st.bad 0 0)(hi:st.i<c.ts.length)(ht:txt c.s (tk c.ts st.i)=[100,114,111,112]):
  Calls Tryz.prog 259 #[.pointer (some ⟨c.rb,0,none⟩)] w (OutP c d (.ok (.exit 1,⟨st.i+1,st.atoms,st.bad⟩)) w):=by
 have hl:=hc.le;have hm:=hc.cap;unfold maxLen at hm;have HE:((c.s.extract (tk c.ts st.i).at_ (tk c.ts st.i).to).toList == [105,100])=false:=by rw [ByteArray.toList_eq,show (c.s.extract (tk c.ts st.i).at_ (tk c.ts st.i).to).data.toList=_ from ht];rfl
 have HE2:((c.s.extract (tk c.ts st.i).at_ (tk c.ts st.i).to).toList == [100,114,111,112])=true:=by rw [beq_iff_eq,ByteArray.toList_eq];exact ht
 clear ht;have H:=hide h;clear h;go_enter Tryz.func259,Tryz.ntmps259;go_wp2_with fail;refine (xo9 c hc _ st.i st.atoms d st.bad 0 0 H.out hi).mono ?_;rintro x w1 ⟨rfl,hg1⟩;have R1:Hid (Rd c w1 st.i st.atoms d st.bad 0 0):=H.out.kept hg1;have G1:=hide hg1;clear hg1;have c1:w1.cell? ⟨c.rb,1,none⟩=some (.int .i64 st.i):=R1.out.cell 1;have f1:w1.frozen? ⟨c.rb,1,none⟩=false:=R1.out.frozen 1;go_wp2_with (go_at_call 273;refine (xgc 0 _).mono ?_;rintro x w2 ⟨rfl,rfl⟩);go_ret2;exact OutP.leaf (R1.out.set1 hc _) (xje (xjd G1.out) (xjc _ _ _ _)) (by decide)
theorem OutP.later{c:Ctx}{d:Int}{r:Except (Int×Nat) (Code×St)}{w w1 w':World}{x:Ending}(h:OutP c d r w1 x w')(hg:w.grownBy w1 (some c.rb)):OutP c d r w x w':=by
 refine ⟨xje hg h.1,?_⟩;obtain ⟨_,h⟩:=h;cases r with
 | error e=>exact h
 | ok p=>
  obtain ⟨v,h1,h2,h3⟩:=h;exact ⟨v,h1,xaq h2 (fun b _ hb=>Nat.le_trans hg.size hb),h3⟩
theorem x1a(hc:c.Good)(hn:Names w)(hr:1<c.rb)(h:Rd c w st.i st.atoms d st.bad 0 0)(hi:st.i<c.ts.length)(hk:(tk c.ts st.i).kind=2)(ha:st.atoms<=16)
  (h1:¬txt c.s (tk c.ts st.i)=[105,100]) (h2:¬txt c.s (tk c.ts st.i)=[100,114,111,112]) (f:Nat) (hf:xg6 (txt c.s (tk c.ts st.i))=some f):
  Calls Tryz.prog 259 #[.pointer (some ⟨c.rb,0,none⟩)] w (OutP c d (pairP c.s c.ts f st) w):=by
 have hl:=hc.le;have hm:=hc.cap;unfold maxLen at hm;have HE:((c.s.extract (tk c.ts st.i).at_ (tk c.ts st.i).to).toList == [105,100])=false:=by rw [beq_eq_false_iff_ne,ByteArray.toList_eq];exact h1
 have HE2:((c.s.extract (tk c.ts st.i).at_ (tk c.ts st.i).to).toList == [100,114,111,112])=false:=by rw [beq_eq_false_iff_ne,ByteArray.toList_eq];exact h2
 have HF:Hid (xg8 (c.s.extract (tk c.ts st.i).at_ (tk c.ts st.i).to)=.tuple #[.int .i64 (f:Int),.bool true]):=by
  show _=_;unfold xg8;rw [show xg6 (c.s.extract (tk c.ts st.i).at_ (tk c.ts st.i).to).data.toList=some f from hf]
 have hf5:f<=5:=by
  unfold xg6 at hf;repeat' split at hf
  all_goals first|(cases hf;omega)|cases hf
 clear h1 h2 hf;have H:=hide h;have HN:=hide hn;have HKK:=hide hk;clear h hn hk;go_enter Tryz.func259,Tryz.ntmps259;go_wp2_with fail;refine (xo9 c hc _ st.i st.atoms d st.bad 0 0 H.out hi).mono ?_;rintro x w1 ⟨rfl,hg1⟩;have R1:Hid (Rd c w1 st.i st.atoms d st.bad 0 0):=H.out.kept hg1;have N1:Hid (Names w1):=HN.out.grown (xjd hg1) hr;have G1:=hide hg1;clear hg1;go_wp2_with fail;refine (xhb _ _ N1.out).mono ?_;rintro x w2 ⟨rfl,rfl⟩;rw [HF.out];go_wp2_with fail;refine (xqq c _ st d f hc R1.out hi HKK.out hf5 ha).mono ?_;rintro x w3 ho;obtain ⟨v,b,rfl⟩:=ho.shape;have HO:=hide (ho.later (xjd G1.out));clear ho;go_wp2;go_ret2;exact HO.out
theorem x1c(hc:c.Good)(hn:Names w)(hr:1<c.rb)(h:Rd c w st.i st.atoms d st.bad 0 0)(hi:st.i<c.ts.length)
  (h1:¬txt c.s (tk c.ts st.i)=[105,100]) (h2:¬txt c.s (tk c.ts st.i)=[100,114,111,112]) (hf:xg6 (txt c.s (tk c.ts st.i))=none):
  Calls Tryz.prog 259 #[.pointer (some ⟨c.rb,0,none⟩)] w (OutP c d (.error (3,(tk c.ts st.i).at_)) w):=by
 have hl:=hc.le;have hm:=hc.cap;unfold maxLen at hm;have HE:((c.s.extract (tk c.ts st.i).at_ (tk c.ts st.i).to).toList == [105,100])=false:=by rw [beq_eq_false_iff_ne,ByteArray.toList_eq];exact h1
 have HE2:((c.s.extract (tk c.ts st.i).at_ (tk c.ts st.i).to).toList == [100,114,111,112])=false:=by rw [beq_eq_false_iff_ne,ByteArray.toList_eq];exact h2
 have HF:Hid (xg8 (c.s.extract (tk c.ts st.i).at_ (tk c.ts st.i).to)=.tuple #[.int .i64 0,.bool false]):=by
  show _=_;unfold xg8;rw [show xg6 (c.s.extract (tk c.ts st.i).at_ (tk c.ts st.i).to).data.toList=none from hf]
 clear h1 h2 hf;have H:=hide h;have HN:=hide hn;clear h hn;go_enter Tryz.func259,Tryz.ntmps259;go_wp2_with fail;refine (xo9 c hc _ st.i st.atoms d st.bad 0 0 H.out hi).mono ?_;rintro x w1 ⟨rfl,hg1⟩;have R1:Hid (Rd c w1 st.i st.atoms d st.bad 0 0):=H.out.kept hg1;have N1:Hid (Names w1):=HN.out.grown (xjd hg1) hr;have G1:=hide hg1;clear hg1;go_wp2_with fail;refine (xhb _ _ N1.out).mono ?_;rintro x w2 ⟨rfl,rfl⟩;rw [HF.out];go_wp2_with fail;refine (xg4 c hc _ st.i _ _ _ _ _ 3 R1.out hi).mono ?_;rintro x w3 ⟨rfl,hR,hG⟩;have HR:=hide hR;have HG:=hide hG;clear hR hG;go_wp2;go_ret2;exact OutP.err HR.out (xje (xjd G1.out) HG.out)
theorem x08(hc:c.Good)(hn:Names w)(hr:1<c.rb)(h:Rd c w st.i st.atoms d st.bad 0 0)(hi:st.i<c.ts.length)(hk:(tk c.ts st.i).kind=2)(ha:st.atoms<=16):
  Calls Tryz.prog 259 #[.pointer (some ⟨c.rb,0,none⟩)] w (OutP c d (wordP c.s c.ts st) w):=by
 unfold wordP;by_cases b1:txt c.s (tk c.ts st.i)=[105,100]
 ·rw [if_pos b1];exact x1b c w st d hc h hi b1
 rw [if_neg b1];by_cases b2:txt c.s (tk c.ts st.i)=[100,114,111,112]
 ·rw [if_pos b2];exact x09 c w st d hc h hi b2
 rw [if_neg b2];cases hf:xg6 (txt c.s (tk c.ts st.i)) with
 | none=>exact x1c c w st d hc hn hr h hi b1 b2 hf
 | some f=>exact x1a c w st d hc hn hr h hi hk ha b1 b2 f hf
end
def elems:Code->List Code
 | .seq t l=>t::elems l
 | _=>[]
def szC:Code->Nat
 | .loop t=>szC t+1
 | .scope t=>szC t+1
 | .block _ l=>szC l+1
 | .seq a b=>szC a+szC b+1
 | _=>0
theorem xyh{t l:Code}(h:t∈elems l):szC t<szC l:=by
 induction l with
 | seq a b _ ih=>
  simp only [elems,List.mem_cons] at h;rcases h with rfl|h
  ·simp only [szC];omega
  ·have:=ih h;simp only [szC];omega
 | _=>simp [elems] at h
theorem xj7{ok:Nat->Prop}{w:World}{l:Code}{g i n:Nat}(h:(TV ok w l).2 g i n):isT l=(elems l).all isT:=by
 induction l generalizing i n with
 | seq a b _ ih=>
  obtain ⟨n',x,_,_,_,h4⟩:=h;simp only [isT,elems,List.all_cons,ih h4]
 | skip=>rfl
 | _=>exact h.elim
theorem xak{ok:Nat->Prop}{w:World}{l:Code}{g i n:Nat}(h:(TV ok w l).2 g i n):(elems l).length=n/\∀j (hj:j<(elems l).length),∃x,w.cell? ⟨g,i+j,none⟩=some x/\(TV ok w ((elems l)[j])).1 x:=by
 induction l generalizing i n with
 | seq a b _ ih=>
  obtain ⟨n',x,rfl,h2,h3,h4⟩:=h;obtain ⟨e1,e2⟩:=ih h4;refine ⟨by simp [elems,e1],fun j hj=>?_⟩;cases j with
  | zero=>exact ⟨x,h2,h3⟩
  | succ j=>
   obtain ⟨y,y1,y2⟩:=e2 j (by simpa [elems] using hj);exact ⟨y,by rw [show i+(j+1)=i+1+j by omega];exact y1,y2⟩
 | skip=>
  simp [TV] at h;exact ⟨by simp [elems,h],fun j hj=>by simp [elems] at hj⟩
 | _=>exact h.elim
theorem xkr(k:Int)(w:World):Calls Tryz.prog 329 #[.agg #[.int .i64 k]] w fun x w'=>x=.returned (.int .i64 k)/\w.grownBy w' none:=by
 go_enter Tryz.func329,Tryz.ntmps329;go_wp2;go_ret;exact ⟨rfl,World.grownBy_alloc _ _ _⟩
theorem xku(a b:Int)(w:World):Calls Tryz.prog 301 #[.agg #[.int .i64 a,.int .i64 b]] w fun x w'=>x=.returned (.int .i64 6)/\w.grownBy w' none:=by
 go_enter Tryz.func301,Tryz.ntmps301;go_wp2;go_ret;exact ⟨rfl,World.grownBy_alloc _ _ _⟩
theorem xkt(a b:Int)(w:World):Calls Tryz.prog 316 #[.agg #[.int .i64 a,.int .i64 b]] w fun x w'=>x=.returned (.int .i64 7)/\w.grownBy w' none:=by
 go_enter Tryz.func316,Tryz.ntmps316;go_wp2;go_ret;exact ⟨rfl,World.grownBy_alloc _ _ _⟩
theorem xkq(k:Int)(v:Value)(g n cap:Nat)(w:World):Calls Tryz.prog 318 #[.agg #[.int .i64 k,.slice (some ⟨g,0,none⟩) n cap]] w fun x w'=>x=.returned (.int .i64 k)/\w.grownBy w' none:=by
 go_enter Tryz.func318,Tryz.ntmps318;go_wp2;go_ret;exact ⟨rfl,World.grownBy_alloc _ _ _⟩
@[go_sem] theorem Tryz.methKindLeaf (a : Array Value) (w : World) : Sem.run Tryz.prog (method 479 317 (.agg a) "Kind") w = .ok (329, .agg a) w := by kernel_rfl
@[go_sem] theorem Tryz.methKindTest (a : Array Value) (w : World) : Sem.run Tryz.prog (method 479 177 (.agg a) "Kind") w = .ok (301, .agg a) w := by kernel_rfl
@[go_sem] theorem Tryz.methKindSetting (a : Array Value) (w : World) : Sem.run Tryz.prog (method 479 178 (.agg a) "Kind") w = .ok (316, .agg a) w := by kernel_rfl
@[go_sem] theorem Tryz.methKindGroup (a : Array Value) (w : World) : Sem.run Tryz.prog (method 479 234 (.agg a) "Kind") w = .ok (318, .agg a) w := by kernel_rfl
@[go_sem] theorem Tryz.methTextLeaf (a : Array Value) (w : World) : Sem.run Tryz.prog (method 479 317 (.agg a) "Text") w = .ok (330, .agg a) w := by kernel_rfl
@[go_sem] theorem Tryz.methTextTest (a : Array Value) (w : World) : Sem.run Tryz.prog (method 479 177 (.agg a) "Text") w = .ok (302, .agg a) w := by kernel_rfl
@[go_sem] theorem Tryz.methTextSetting (a : Array Value) (w : World) : Sem.run Tryz.prog (method 479 178 (.agg a) "Text") w = .ok (317, .agg a) w := by kernel_rfl
@[go_sem] theorem Tryz.methTextGroup (a : Array Value) (w : World) : Sem.run Tryz.prog (method 479 234 (.agg a) "Text") w = .ok (319, .agg a) w := by kernel_rfl
@[go_sem] theorem Tryz.fieldGroup0(x y:Value)(w:World):Sem.run Tryz.prog (Instr.field 234 (.agg #[x,y]) 0) w=.ok x w:=by kernel_rfl
@[go_sem] theorem Tryz.fieldGroup1(x y:Value)(w:World):Sem.run Tryz.prog (Instr.field 234 (.agg #[x,y]) 1) w=.ok y w:=by kernel_rfl
@[go_sem] theorem Tryz.assertGroup(a:Array Value)(w:World):Sem.run Tryz.prog (Instr.typeAssert (.iface 234 (.agg a)) 101 234 false) w=.ok (.agg a) w:=by kernel_rfl
theorem xkd(n:Nat)(w:World)(hn:n<2+2*192):Calls Tryz.prog 276 #[leafV n] w fun x w'=>x=.returned (.bool (isT (.exit n)))/\w.grownBy w' none:=by
 unfold leafV;by_cases h0:n=0
 ·subst h0;rw [if_pos rfl];go_enter Tryz.func276,Tryz.ntmps276;go_wp2_with (go_at_call 329;refine (xkr _ _).mono ?_;rintro x w1 ⟨rfl,hg⟩);go_ret;exact ⟨rfl,hg⟩
 rw [if_neg h0];by_cases h1:n=1
 ·subst h1;rw [if_pos rfl];go_enter Tryz.func276,Tryz.ntmps276;go_wp2_with (go_at_call 329;refine (xkr _ _).mono ?_;rintro x w1 ⟨rfl,hg⟩);go_ret;exact ⟨rfl,hg⟩
 rw [if_neg h1];by_cases h2:n%2=0
 ·have HI:Hid (isT (.exit n)=true):=by show _=_;simp [isT,h2]
  rw [if_pos h2];generalize (n-2)/2/32=a;generalize (n-2)/2%32=b;clear h0 h1 h2 hn;go_enter Tryz.func276,Tryz.ntmps276;go_wp2_with (go_at_call 301;refine (xku _ _ _).mono ?_;rintro x w1 ⟨rfl,hg⟩);go_ret;rw [HI.out];exact ⟨rfl,hg⟩
 ·have HI:Hid (isT (.exit n)=false):=by show _=_;simp [isT];omega
  rw [if_neg h2];generalize (n-2)/2/32=a;generalize (n-2)/2%32=b;clear h0 h1 h2 hn;go_enter Tryz.func276,Tryz.ntmps276;go_wp2_with (go_at_call 316;refine (xkt _ _ _).mono ?_;rintro x w1 ⟨rfl,hg⟩);go_ret;rw [HI.out];exact ⟨rfl,hg⟩
theorem xkf(g n cap:Nat)(w:World):Calls Tryz.prog 276 #[xi2 2 g n cap] w fun x w'=>x=.returned (.bool false)/\w.grownBy w' none:=by
 unfold xi2;go_enter Tryz.func276,Tryz.ntmps276;go_wp2_with (go_at_call 318;refine (xkq _ undef _ _ _ _).mono ?_;rintro x w1 ⟨rfl,hg⟩);go_ret;exact ⟨rfl,hg⟩
theorem xke(g n cap:Nat)(w:World):Calls Tryz.prog 276 #[xi2 3 g n cap] w fun x w'=>x=.returned (.bool true)/\w.grownBy w' none:=by
 unfold xi2;go_enter Tryz.func276,Tryz.ntmps276;go_wp2_with (go_at_call 318;refine (xkq _ undef _ _ _ _).mono ?_;rintro x w1 ⟨rfl,hg⟩);go_ret;exact ⟨rfl,hg⟩
theorem xb1{l:Code}(hi:isT l=(elems l).all isT)(h:∀j (hj:j<(elems l).length),isT ((elems l)[j])=true):isT l=true:=by
 rw [hi,List.all_eq_true];intro t ht;obtain ⟨j,hj,rfl⟩:=List.mem_iff_getElem.1 ht;exact h j hj
theorem xbz{l:Code}{n k:Nat}(hi:isT l=(elems l).all isT)(hl:(elems l).length=n)(hk:k<n)(h:false=isT ((elems l)[k]'(by rw [hl];exact hk))):isT l=false:=by
 rw [hi,List.all_eq_false];exact ⟨_,List.getElem_mem _,by rw [<-h];simp⟩
theorem xkc(ok:Nat->Prop)(k:Nat)(l:Code)(g n cap:Nat)(w:World)(hk:k<=1)(hn:n<=1000)(h:(TV ok w l).2 g 0 n)
  (ih:∀t,t∈elems l->∀v w,(TV ok w t).1 v->Calls Tryz.prog 276 #[v] w fun x w'=>x=.returned (.bool (isT t))/\w.grownBy w' none):
  Calls Tryz.prog 276 #[xi2 k g n cap] w fun x w'=>x=.returned (.bool (isT l))/\w.grownBy w' none:=by
 obtain ⟨hlen,hel⟩:=xak h;have HI:Hid (isT l=(elems l).all isT):=xj7 h;have HL:=hide hlen;have HE:=hide hel;have IH:=hide ih;clear h hlen hel ih;unfold xi2;have hk':k=0\/k=1:=by omega
 rcases hk' with rfl|rfl
 all_goals
  go_enter Tryz.func276,Tryz.ntmps276;go_wp2_with (go_at_call 318;refine (xkq _ undef _ _ _ _).mono ?_;rintro x w1 ⟨rfl,hg⟩);have G1:=hide hg;clear hg;go_loopw [17] (fun i wr=>∃k:Nat,k<=n/\i=.int .i64 k/\w.grownBy wr none/\∀j (hj:j<(elems l).length),j<k->isT ((elems l)[j])=true) (fun i _=>n-(intOf i).toNat)
  case atStart=>exact ⟨0,Nat.zero_le _,rfl,G1.out,fun j _ hj=>by omega⟩
  case round=>
   obtain ⟨k,hk,rfl,hg,hall⟩:=hrel;have HA:=hide hall;have HG:=hide hg;clear hall hg;by_cases hlt:k<n
   ·obtain ⟨x,hx,hv⟩:=HE.out k (by rw [HL.out];exact hlt);rw [Nat.zero_add] at hx;have hx':wr.cell? ⟨g,k,none⟩=some x:=HG.out.cell hx (by simp);have hc:=hide (IH.out _ (List.getElem_mem _) x wr (xan hv HG.out));clear hx hv;obtain ⟨bt,hbt⟩:∃bt,bt=isT ((elems l)[k]'(by rw [HL.out];exact hlt)):=⟨_,rfl⟩;have HBT:=hide hbt;rw [<-hbt] at hc;clear hbt;cases bt
    ·go_wp2_with (go_at_call 276;refine hc.out.mono ?_;rintro y w2 ⟨rfl,hg2⟩);go_ret;exact ⟨by rw [xbz HI.out HL.out hlt HBT.out];rfl,xje HG.out hg2⟩
    ·go_wp2_with (go_at_call 276;refine hc.out.mono ?_;rintro y w2 ⟨rfl,hg2⟩);go_roundw
     case rel=>exact ⟨k+1,by omega,by go_num,xje HG.out hg2,fun j hj hj2=>by
      by_cases e:j=k
      ·subst e;exact HBT.out.symm
      ·exact HA.out j hj (by omega)⟩
     case measure=>simp [intOf];omega
   ·go_wp2;go_ret;exact ⟨by rw [xb1 HI.out (fun j hj=>HA.out j hj (by have:=HL.out;omega))];rfl,HG.out⟩
theorem xkb(ok:Nat->Prop):∀(n:Nat) (t:Code) (v:Value) (w:World),szC t<=n->(TV ok w t).1 v->Calls Tryz.prog 276 #[v] w fun x w'=>x=.returned (.bool (isT t))/\w.grownBy w' none:=by
 intro n;induction n with
 | zero=>
  intro t v w hn h;cases t with
  | exit m=>obtain ⟨rfl,hm⟩:=h;exact xkd m w hm
  | loop t=>simp [szC] at hn
  | scope t=>simp [szC] at hn
  | block k l=>simp [szC] at hn
  | _=>exact h.elim
 | succ n ih=>
  intro t v w hn h;cases t with
  | exit m=>obtain ⟨rfl,hm⟩:=h;exact xkd m w hm
  | loop t=>obtain ⟨g,cap,x,rfl,_⟩:=h;exact xkf g 1 cap w
  | scope t=>obtain ⟨g,cap,x,rfl,_⟩:=h;exact xke g 1 cap w
  | block k l=>
   obtain ⟨g,m,cap,rfl,hk,hr,hm,_,hl⟩:=h;exact xkc ok k l g m cap w hk hm hl (fun t ht v w hv=>ih t v w (by have:=xyh ht;simp only [szC] at hn;omega) hv)
  | _=>exact h.elim
def Does(c:Ctx)(fn:Nat)(d:Int)(p:St->Except (Int×Nat) (Code×St)):Prop:=
 ∀(w:World) (st:St),Names w->Rd c w st.i st.atoms d st.bad 0 0->st.i<c.ts.length->st.atoms<=16->Calls Tryz.prog fn #[.pointer (some ⟨c.rb,0,none⟩)] w (OutP c d (p st) w)
theorem xap{B rb:Nat}{w w':World}{t:Code}{v:Value}(h:(TV (fun b=>B<=b) w t).1 v)(hg:w.grownBy w' (some rb))(hr:rb<B):(TV (fun b=>B<=b) w' t).1 v:=
 xal h hg (fun b hb e=>by cases e;omega)
def posOf(c:Ctx)(w:World):Nat:=(intOf ((w.cell? ⟨c.rb,1,none⟩).getD undef)).toNat
theorem Rd.pos{c:Ctx}{w:World}{i:Nat}{a d b e p:Int}(h:Rd c w i a d b e p):posOf c w=i:=by
 unfold posOf;rw [show w.cell? ⟨c.rb,1,none⟩=some (.int .i64 (i:Int)) from h.cell 1];simp [intOf]
theorem Ctx.Good.closed{c:Ctx}(hc:c.Good):xaa c.ts:=by rw [hc.toks];exact xzt _ _
theorem Ctx.Good.few{c:Ctx}(hc:c.Good):c.ts.length<=401:=by
 have:=xzv c.s true;have:=hc.size;rw [hc.toks];omega
theorem xq2(c:Ctx)(d:Int)(p:St->Except (Int×Nat) (Code×St))(w:World)(st:St)(en:Int)(pl:Nat)
  (h:Calls Tryz.prog 233 #[.pointer (some ⟨c.rb,0,none⟩)] w (OutP c d (.error (en,pl)) w)):
  Calls Tryz.prog 187 #[.pointer (some ⟨c.rb,0,none⟩)] w (OutP c d (.error (en,pl)) w):=by
 have H:=hide h;clear h;go_enter Tryz.func187,Tryz.ntmps187;go_wp2_with fail;refine H.out.mono ?_;rintro x w1 ⟨hg1,rfl,hr1⟩;have G1:=hide hg1;have R1:=hide hr1;clear hg1 hr1;go_wp2;refine wp_loop_rounds 1 ?_;rw [rounds_succ];go_wp2;go_ret2;exact ⟨G1.out,rfl,R1.out⟩
theorem xq3(c:Ctx)(hc:c.Good)(d:Int)(w:World)(st:St)(t1:Code)(st1:St)(hi1:st1.i<c.ts.length)(hrb:c.rb<w.heap.size)
  (h:Calls Tryz.prog 233 #[.pointer (some ⟨c.rb,0,none⟩)] w (OutP c d (.ok (t1,st1)) w)):
  Calls Tryz.prog 187 #[.pointer (some ⟨c.rb,0,none⟩)] w (OutP c d (.ok ((xw4 c.ts c.ts.length t1 st1.i).1,⟨(xw4 c.ts c.ts.length t1 st1.i).2,st1.atoms,st1.bad⟩)) w):=by
 have H:=hide h;clear h;have hfew:=hc.few;go_enter Tryz.func187,Tryz.ntmps187;go_wp2_with fail;refine H.out.mono ?_;rintro x w1 ⟨hg1,v1,rfl,ht1,hr1⟩;have G1:=hide hg1;have R1:=hide hr1;have T1:=hide ht1;clear hg1 hr1 ht1;go_wp2;go_loopw [4] (fun v wr=>∃(f:Nat) (t:Code) (i:Nat),xw4 c.ts c.ts.length t1 st1.i=xw4 c.ts f t i/\c.ts.length<=f+i/\i<c.ts.length/\(TV (fun b=>w.heap.size<=b) wr t).1 v/\Rd c wr i st1.atoms d st1.bad 0 0/\w.grownBy wr (some c.rb)) (fun _ wr=>c.ts.length-posOf c wr)
 case atStart=>exact ⟨c.ts.length,t1,st1.i,rfl,by omega,hi1,T1.out,R1.out,G1.out⟩
 case round=>
  obtain ⟨f,t,i,he,hf,hi,ht,hr,hg⟩:=hrel;have HE:=hide he;have HT:=hide ht;have HR:=hide hr;have HG:=hide hg;have HP:Hid (posOf c wr=i):=hr.pos;clear he ht hr hg;obtain ⟨f,rfl⟩:∃f',f=f'+1:=⟨f-1,by omega⟩;by_cases hk:(tk c.ts i).kind=6
  ·have HS:Hid (xw4 c.ts (f+1) t i=xw4 c.ts f (.loop t) (i+1)):=by show _=_;rw [xw4,if_pos hk]
   have hi2:i+1<c.ts.length:=hc.closed.next hi (by omega) (by omega);have HK:=hide hk;clear hk;go_wp2_with fail;refine (xwf c hc _ i _ _ _ _ _ 6 HR.out hi2 HK.out).mono ?_;rintro x w2 ⟨rfl,hR2,hG2⟩;have R2:=hide hR2;have G2:=hide hG2;have T2:=hide (xap HT.out hG2 hrb);clear hR2 hG2;go_wp2_with fail;refine (xw6 (fun b=>w.heap.size<=b) _ t _ (Nat.le_trans HG.out.size G2.out.size) T2.out).mono ?_;rintro x w3 ⟨v',rfl,ht3,hg3⟩;have T3:=hide ht3;have G3:Hid (w.grownBy w3 (some c.rb)):=xje HG.out (xje G2.out (xjd hg3));have R3:=hide (R2.out.kept hg3);clear ht3 hg3;go_wp2;go_roundw
   case rel=>exact ⟨f,.loop t,i+1,HE.out.trans HS.out,by omega,hi2,T3.out,R3.out,G3.out⟩
   case measure=>rw [R3.out.pos,HP.out];omega
  ·have HS:Hid (xw4 c.ts (f+1) t i=(t,i)):=by show _=_;rw [xw4,if_neg hk]
   have HK:=hide hk;clear hk;go_wp2_with fail;refine (xwe c hc _ i _ _ _ _ _ 6 HR.out hi HK.out).mono ?_;rintro x w2 ⟨rfl,hR2,hG2⟩;have R2:=hide hR2;have G2:=hide hG2;clear hR2 hG2;go_wp2;go_ret2;refine ⟨xje HG.out G2.out,_,rfl,?_,?_⟩
   ·rw [HE.out,HS.out];exact xap HT.out G2.out hrb
   ·rw [HE.out,HS.out];exact R2.out
theorem xq1(c:Ctx)(hc:c.Good)(d:Int){p:St->Except (Int×Nat) (Code×St)}(hp:Does c 233 d p)(hg:Goes c.ts p):Does c 187 d (partP c.ts p):=by
 intro w st hn h hi ha;have H:=hp w st hn h hi ha;unfold partP;cases hres:p st with
 | error e=>
  rw [hres] at H;exact xq2 c d p w st e.1 e.2 H
 | ok r=>
  rw [hres] at H;exact xq3 c hc d w st r.1 r.2 (hg st r.1 r.2 hi ha hres).2.1 h.lt.1 H
def TVs(ok:Nat->Prop)(w:World):List Code->List Value->Prop
 | [],[]=>True
 | t::ts,v::vs=>(TV ok w t).1 v/\TVs ok w ts vs
 | _,_=>False
def okv(B:Nat)(v:Value)(b:Nat):Prop:=B<=b/\some b≠v.ownBlock
def preL(acc:List Code)(r:Except (Int×Nat) (List Code×St)):Except (Int×Nat) (List Code×St):=
 match r with
 | .error e=>.error e
 | .ok (l,st)=>.ok (acc++l,st)
theorem xso(a b:List Code)(r:Except (Int×Nat) (List Code×St)):preL a (preL b r)=preL (a++b) r:=by
 cases r with
 | error e=>rfl
 | ok p=>simp [preL]
section
variable{ok ok':Nat->Prop}{w w':World}
theorem xas:∀{ts:List Code} {vs:List Value},TVs ok w ts vs->ts.length=vs.length
 | [],[],_=>rfl
 | t::ts,v::vs,h=>by simp [xas h.2]
 | [],_::_,h=>h.elim
 | _::_,[],h=>h.elim
theorem xat(hm:∀t v,(TV ok w t).1 v->(TV ok' w' t).1 v):∀{ts:List Code} {vs:List Value},TVs ok w ts vs->TVs ok' w' ts vs
 | [],[],_=>trivial
 | t::ts,v::vs,h=>⟨hm t v h.1,xat hm h.2⟩
 | [],_::_,h=>h.elim
 | _::_,[],h=>h.elim
theorem xau{t:Code}{v:Value}(hv:(TV ok w t).1 v):∀{ts:List Code} {vs:List Value},TVs ok w ts vs->TVs ok w (ts++[t]) (vs++[v])
 | [],[],_=>⟨hv,trivial⟩
 | _::ts,_::vs,h=>⟨h.1,xau hv h.2⟩
 | [],_::_,h=>h.elim
 | _::_,[],h=>h.elim
theorem xar{g:Nat}:∀{ts:List Code} {vs:List Value} (i:Nat),TVs ok w ts vs->(∀j x,vs[j]?=some x->w.cell? ⟨g,i+j,none⟩=some x)->(TV ok w (chain ts)).2 g i ts.length
 | [],[],i,_,_=>rfl
 | t::ts,v::vs,i,h,hc=>⟨ts.length,v,rfl,hc 0 v rfl,h.1,xar (i+1) h.2 fun j x hj=>by rw [show i+1+j=i+(j+1) by omega];exact hc (j+1) x (by simpa using hj)⟩
 | [],_::_,_,h,_=>h.elim
 | _::_,[],_,h,_=>h.elim
end
theorem xqe{w w1:World}{B e size rb:Nat}{v:Value}{n:Nat}{xs:List Value}(h:w.ownsRow B e size v n xs)(hg:w.grownBy w1 (some rb))(hr:rb<B):w1.ownsRow B e size v n xs:=by
 refine h.kept hg ?_;cases hv:v.ownBlock with
 | none=>exact .inl rfl
 | some k=>exact .inr (by have:=(h.lt k hv).1;intro e;cases e;omega)
theorem Rd.other{c:Ctx}{w w':World}{i a d b e p:Int}{row:Option Nat}{B:Nat}(h:Rd c w i a d b e p)(hg:w.grownBy w' row)(hr:∀k,row=some k->B<=k)(hB:c.rb<B)(hc:c.Good):Rd c w' i a d b e p:=
 ⟨by rw [hg.block _ h.lt.2 (fun e=>by have:=hr _ e.symm;have:=hc.lt;omega)];exact h.row,by rw [hg.block _ h.lt.1 (fun e=>by have:=hr _ e.symm;omega)];exact h.rd⟩
theorem Names.other{w w':World}{row:Option Nat}{B:Nat}(h:Names w)(hg:w.grownBy w' row)(hr:∀k,row=some k->B<=k)(hB:1<B):Names w':=
 fun k hk=>hg.cell (h k hk) (fun e=>by have:=hr _ e.symm;simp at this;omega)
theorem xl6{c:Ctx}(hc:c.Good){w wr w1 w2:World}{v v' x:Value}{acc:List Code}{xs:List Value}{t:Code}{o:Obj}{i a d b:Int}{E:Nat}
  (hrb:c.rb<w.heap.size) (hnm:1<c.rb) (hgw:w.grownBy wr (some c.rb)) (hown:wr.ownsRow w.heap.size E 1 v acc.length xs) (htv:TVs (okv w.heap.size v) wr acc xs)
  (hg1:wr.grownBy w1 (some c.rb)) (hr1:Rd c w1 i a d b 0 0) (ht1:(TV (fun b=>wr.heap.size<=b) w1 t).1 x) (hn:Names wr)
  (hown':w2.ownsRow w.heap.size E 1 v' (acc.length+1) (xs++[x])) (hgrow:(w1.alloc o).grownBy w2 v.ownBlock) (hat:v'.ownBlock=v.ownBlock\/v'.ownBlock=some (w1.alloc o).heap.size):
  Rd c w2 i a d b 0 0/\TVs (okv w.heap.size v') w2 (acc++[t]) (xs++[x])/\w2.ownsRow w.heap.size E 1 v' (acc++[t]).length (xs++[x])/\w.grownBy w2 (some c.rb)/\Names w2:=by
 have hge:∀k,v.ownBlock=some k->w.heap.size<=k:=xqd hown;have hlt:∀k,v.ownBlock=some k->k<wr.heap.size:=fun k hk=>(hown.lt k hk).2
 have hga:=World.grownBy_alloc w1 o none;have hs1:=hg1.size;have hsa:w1.heap.size<(w1.alloc o).heap.size:=by simp
 -- the trees of old
 have hT:TVs (okv w.heap.size v') w2 acc xs:=by
  refine xat ?_ htv;intro t' v'' h;have a1:(TV (okv w.heap.size v) w1 t').1 v'':=xal h hg1 (fun b hb e=>by cases e;have:=hb.1;omega);have a2:(TV (fun b=>okv w.heap.size v b/\b<w1.heap.size) w1 t').1 v'':=xaq a1 (fun b hl hb=>⟨hb,hl⟩);have a3:=xal (xan a2 hga) hgrow (fun b hb e=>hb.1.2 e);refine xaq a3 (fun b _ hb=>⟨hb.1.1,fun e=>?_⟩);rcases hat with h|h
  ·rw [h] at e;exact hb.1.2 e
  ·rw [h] at e;cases e;have:=hb.2;omega
 have hN:(TV (okv w.heap.size v') w2 t).1 x:=by
  have a2:(TV (fun b=>wr.heap.size<=b/\b<w1.heap.size) w1 t).1 x:=xaq ht1 (fun b hl hb=>⟨hb,hl⟩);have a3:=xal (xan a2 hga) hgrow (fun b hb e=>by have:=hlt b e.symm;have:=hb.1;omega);refine xaq a3 (fun b _ hb=>⟨by have:=hgw.size;have:=hb.1;omega,fun e=>?_⟩);rcases hat with h|h
  ·rw [h] at e;have:=hlt b e.symm;have:=hb.1;omega
  ·rw [h] at e;cases e;have:=hb.2;omega
 refine ⟨(hr1.kept hga).other hgrow hge hrb hc,xau hN hT,by simpa using hown',xja (xje (xje hgw hg1) (xjd hga)) hgrow hge,?_⟩;exact ((hn.grown hg1 hnm).other hga (B:=w.heap.size) (by simp) (by omega)).other hgrow hge (by omega)
theorem Tryz.infoNode:(Tryz.prog.info? 101).map (fun i=>(i.zero,i.size,i.bytes))=some (some .nilIface,1,16):=by kernel_rfl
theorem xxu(ok:Nat->Prop)(w:World)(l:List Code)(g cap:Nat)(hr:ok g)(h0:0<l.length)(hl:l.length<=1000)(h:(TV ok w (chain l)).2 g 0 l.length):
  Calls Tryz.prog 140 #[.slice (some ⟨g,0,none⟩) l.length cap] w fun x w'=>∃v',x=.returned v'/\(TV ok w' (joinC 0 l)).1 v'/\w'=w:=by
 have H:=hide (xki ok w l 0 g cap (by decide) hr h0 hl h);clear h hr;generalize hn:l.length=n at *;clear hn;go_enter Tryz.func140,Tryz.ntmps140;go_wp2_with fail;refine H.out.mono ?_;rintro x w1 ⟨v',rfl,ht,rfl⟩;have T:=hide ht;clear ht;go_wp2;go_ret;exact ⟨_,rfl,T.out,rfl⟩
theorem xvu(ok:Nat->Prop)(w:World)(l:List Code)(g cap:Nat)(hr:ok g)(h0:0<l.length)(hl:l.length<=1000)(h:(TV ok w (chain l)).2 g 0 l.length):
  Calls Tryz.prog 188 #[.slice (some ⟨g,0,none⟩) l.length cap] w fun x w'=>∃v',x=.returned v'/\(TV ok w' (joinC 1 l)).1 v'/\w'=w:=by
 have H:=hide (xki ok w l 1 g cap (by decide) hr h0 hl h);clear h hr;generalize hn:l.length=n at *;clear hn;go_enter Tryz.func188,Tryz.ntmps188;go_wp2_with fail;refine H.out.mono ?_;rintro x w1 ⟨v',rfl,ht,rfl⟩;have T:=hide ht;clear ht;go_wp2;go_ret;exact ⟨_,rfl,T.out,rfl⟩
theorem xqf{w:World}{B e:Nat}{v:Value}{n:Nat}{xs:List Value}(h:w.ownsRow B e 1 v n xs)(hn:0<n):
  ∃g cap,v=.slice (some ⟨g,0,none⟩) n cap/\(∀j x,xs[j]?=some x->w.cell? ⟨g,j,none⟩=some x)/\B<=g:=by
 rcases h.2 with ⟨_,h0⟩|⟨g,cap,cur,rfl,hb,_⟩
 ·omega
 ·refine ⟨g,cap,rfl,fun j x hj=>?_,hb⟩;have:=h.cells (g:=g) rfl j x hj;have hadd:(⟨g,0,none⟩:Addr).add j=⟨g,j,none⟩:=by unfold Addr.add;split<;>simp_all
  rwa [hadd] at this
theorem xl3(c:Ctx)(hc:c.Good)(hnm:1<c.rb)(d:Int){p:St->Except (Int×Nat) (Code×St)}(hp:Does c 187 d p)(hgo:Goes c.ts p)(w:World)(st:St)(hn:Names w)
  (h:Rd c w st.i st.atoms d st.bad 0 0) (hi:st.i<c.ts.length) (ha:st.atoms<=16):
  Calls Tryz.prog 138 #[.pointer (some ⟨c.rb,0,none⟩),.func (.func 187) #[.pointer (some ⟨c.rb,0,none⟩)] #[],.int .i64 5,.func (.func 188) #[] #[]] w
   (OutP c d (joinP 1 (listP c.ts 5 p c.ts.length st)) w):=by
 obtain ⟨i0,hi0,hz0,hz1,hz2⟩:=info_parts Tryz.infoNode;have hfew:=hc.few;have hrb:=h.lt.1;have HP:=hide hp;have HGO:=hide hgo;have HN:=hide hn;have H:=hide h;clear hp hgo hn h;obtain ⟨r0,hr0⟩:∃r0,r0=listP c.ts 5 p c.ts.length st:=⟨_,rfl⟩;rw [<-hr0];have HR0:=hide hr0;clear hr0;go_enter Tryz.func138,Tryz.ntmps138;go_wp2
 go_loopw [10] (fun v wr=>∃(f:Nat) (acc:List Code) (xs:List Value) (st1:St),r0=preL acc (listP c.ts 5 p f st1)/\c.ts.length<=f+st1.i/\st1.i<c.ts.length/\st1.atoms<=16/\acc.length<=st1.i/\
   wr.ownsRow w.heap.size 101 1 v acc.length xs/\TVs (okv w.heap.size v) wr acc xs/\Rd c wr st1.i st1.atoms d st1.bad 0 0/\w.grownBy wr (some c.rb)/\Names wr) (fun _ wr=>c.ts.length-posOf c wr)
 case atStart=>exact ⟨c.ts.length,[],[],st,by rw [HR0.out];cases listP c.ts 5 p c.ts.length st<;>rfl,by omega,hi,ha,Nat.zero_le _,World.ownsRow_nil _ _ _ _,trivial,H.out,xjb _ _,HN.out⟩
 case round=>
  obtain ⟨f,acc,xs,st1,he,hf,hi1,ha1,hacc,hown,htv,hr,hg,hn⟩:=hrel;have HE:=hide he;have HO:=hide hown;have HT:=hide htv;have HR:=hide hr;have HG:=hide hg;have HNM:=hide hn;have HPS:Hid (posOf c wr=st1.i):=hr.pos;have C1:=hide (HP.out wr st1 hn hr hi1 ha1);clear he hown htv hr hg hn;obtain ⟨f,rfl⟩:∃f',f=f'+1:=⟨f-1,by omega⟩;cases hres:p st1 with
  | error e=>
   obtain ⟨en,pl⟩:=e;have HF:Hid (r0=.error (en,pl)):=by show _=_;rw [HE.out,listP,hres];rfl
   rw [hres] at C1;clear hres;go_wp2_with fail;refine C1.out.mono ?_;rintro x w1 ⟨hg1,rfl,hr1⟩;have G1:=hide hg1;have R1:=hide hr1;clear hg1 hr1;go_wp2;go_ret2;rw [HF.out];exact ⟨xje HG.out G1.out,rfl,R1.out⟩
  | ok r=>
   obtain ⟨t,st2⟩:=r;have hst2:=HGO.out st1 t st2 hi1 ha1 hres
   have HF:Hid (listP c.ts 5 p (f+1) st1=if (tk c.ts st2.i).kind=5 then preL [t] (listP c.ts 5 p f ⟨st2.i+1,st2.atoms,st2.bad⟩) else .ok ([t],st2)):=by
    show _=_;rw [listP,hres];simp only;split
    ·cases listP c.ts 5 p f ⟨st2.i+1,st2.atoms,st2.bad⟩<;>rfl
    ·rfl
   rw [hres] at C1;clear hres;obtain ⟨g1,g2,g3,g4⟩:=hst2;go_wp2_with fail;refine C1.out.mono ?_;rintro x w1 ⟨hg1,v1,rfl,ht1,hr1⟩;obtain ⟨T1,u1,rfl⟩:=xam ht1;have HO1:=hide (xqe HO.out hg1 hrb);have G1:=hide hg1;have R1:=hide hr1;have TT1:=hide ht1;clear hg1 hr1 ht1;go_wp2_with (at_builtin;refine wpList_append_own_at _ rfl _ _ 172 rfl w.heap.size 101 i0 _ 1 16 Tryz.underlying172 hi0 hz0 hz1 hz2 rfl (by decide) _ _ _ rfl (HO1.out.alloc _) ⟨w1.heap.size,0,none⟩ 1 1 [.iface T1 u1] rfl rfl (cell_one_new _ _ _) ?d2 ?d3 ?d4 ?d5 ?_)
   case d2=>intro u hu;simp only [List.mem_cons,List.not_mem_nil,or_false] at hu;subst hu;rfl
   case d3=>unfold maxLen;omega
   case d4=>omega
   case d5=>have:=HG.out.size;have:=G1.out.size;simp;omega
   intro v' w2 hown' hgrow _ hat;obtain ⟨s1,s2,s3,s4,s5⟩:=xl6 hc hrb hnm HG.out HO.out HT.out G1.out R1.out TT1.out HNM.out hown' hgrow (by simpa using hat);have S1:=hide s1;have S2:=hide s2;have S3:=hide s3;have S4:=hide s4;have S5:=hide s5;clear hown' hgrow hat s1 s2 s3 s4 s5;by_cases hk:(tk c.ts st2.i).kind=5
   ·have HF2:=hide (HF.out.trans (if_pos hk));have hi2:st2.i+1<c.ts.length:=hc.closed.next g2 (by omega) (by omega);have HK:=hide hk;clear hk;go_wp2_with fail;refine (xwf c hc _ st2.i _ _ _ _ _ 5 S1.out hi2 HK.out).mono ?_;rintro x w3 ⟨rfl,hR3,hG3⟩;have R3:=hide hR3;have G3:=hide hG3;clear hR3 hG3;go_wp2;go_roundw
    case rel=>
     refine ⟨f,acc++[t],xs++[.iface T1 u1],⟨st2.i+1,st2.atoms,st2.bad⟩,?_,by simp;omega,hi2,g3,by simp;omega,xqe S3.out G3.out hrb,?_,R3.out,xje S4.out G3.out,S5.out.grown G3.out hnm⟩
     ·rw [HE.out,HF2.out,xso]
     ·exact xat (fun t v h=>xal h G3.out (fun b hb e=>by cases e;have:=hb.1;omega)) S2.out
    case measure=>rw [R3.out.pos,HPS.out];omega
   ·have HF2:=hide (HF.out.trans (if_neg hk));have HK:=hide hk;clear hk;go_wp2_with fail;refine (xwe c hc _ st2.i _ _ _ _ _ 5 S1.out g2 HK.out).mono ?_;rintro x w3 ⟨rfl,hR3,hG3⟩;have R3:=hide hR3;have G3:=hide hG3;have O3:=hide (xqe S3.out hG3 hrb);have T3:=hide (xat (fun t v h=>xal h hG3 (fun b hb e=>by cases e;have:=hb.1;omega)) S2.out);clear hR3 hG3;obtain ⟨g,cap,hv,hcells,hge⟩:=xqf O3.out (by simp);have hch:=hide (xar (g:=g) (ok:=fun b=>w.heap.size<=b) 0 (xat (fun t v h=>xaq h (fun b _ hb=>hb.1)) T3.out) (fun j x hj=>by rw [Nat.zero_add];exact hcells j x hj));have hj0:=xvu (fun b=>w.heap.size<=b) w3 (acc++[t]) g cap hge (by simp) (by simp;omega) hch.out;rw [show (acc++[t]).length=acc.length+1 by simp] at hj0;have HJ:=hide hj0;clear hj0;clear hcells;subst hv;go_wp2_with fail;refine HJ.out.mono ?_;rintro x w4 ⟨v4,rfl,ht4,rfl⟩;have T4:=hide ht4;clear ht4;go_wp2;go_ret2;rw [show r0=.ok (acc++[t],st2) by rw [HE.out,HF2.out];rfl];exact ⟨xje S4.out G3.out,_,rfl,T4.out,R3.out⟩
theorem xl4(c:Ctx)(hc:c.Good)(hnm:1<c.rb)(d:Int){p:St->Except (Int×Nat) (Code×St)}(hp:Does c 139 d p)(hgo:Goes c.ts p)(w:World)(st:St)(hn:Names w)
  (h:Rd c w st.i st.atoms d st.bad 0 0) (hi:st.i<c.ts.length) (ha:st.atoms<=16):
  Calls Tryz.prog 138 #[.pointer (some ⟨c.rb,0,none⟩),.func (.func 139) #[.pointer (some ⟨c.rb,0,none⟩)] #[],.int .i64 4,.func (.func 140) #[] #[]] w
   (OutP c d (joinP 0 (listP c.ts 4 p c.ts.length st)) w):=by
 obtain ⟨i0,hi0,hz0,hz1,hz2⟩:=info_parts Tryz.infoNode;have hfew:=hc.few;have hrb:=h.lt.1;have HP:=hide hp;have HGO:=hide hgo;have HN:=hide hn;have H:=hide h;clear hp hgo hn h;obtain ⟨r0,hr0⟩:∃r0,r0=listP c.ts 4 p c.ts.length st:=⟨_,rfl⟩;rw [<-hr0];have HR0:=hide hr0;clear hr0;go_enter Tryz.func138,Tryz.ntmps138;go_wp2
 go_loopw [10] (fun v wr=>∃(f:Nat) (acc:List Code) (xs:List Value) (st1:St),r0=preL acc (listP c.ts 4 p f st1)/\c.ts.length<=f+st1.i/\st1.i<c.ts.length/\st1.atoms<=16/\acc.length<=st1.i/\
   wr.ownsRow w.heap.size 101 1 v acc.length xs/\TVs (okv w.heap.size v) wr acc xs/\Rd c wr st1.i st1.atoms d st1.bad 0 0/\w.grownBy wr (some c.rb)/\Names wr) (fun _ wr=>c.ts.length-posOf c wr)
 case atStart=>exact ⟨c.ts.length,[],[],st,by rw [HR0.out];cases listP c.ts 4 p c.ts.length st<;>rfl,by omega,hi,ha,Nat.zero_le _,World.ownsRow_nil _ _ _ _,trivial,H.out,xjb _ _,HN.out⟩
 case round=>
  obtain ⟨f,acc,xs,st1,he,hf,hi1,ha1,hacc,hown,htv,hr,hg,hn⟩:=hrel;have HE:=hide he;have HO:=hide hown;have HT:=hide htv;have HR:=hide hr;have HG:=hide hg;have HNM:=hide hn;have HPS:Hid (posOf c wr=st1.i):=hr.pos;have C1:=hide (HP.out wr st1 hn hr hi1 ha1);clear he hown htv hr hg hn;obtain ⟨f,rfl⟩:∃f',f=f'+1:=⟨f-1,by omega⟩;cases hres:p st1 with
  | error e=>
   obtain ⟨en,pl⟩:=e;have HF:Hid (r0=.error (en,pl)):=by show _=_;rw [HE.out,listP,hres];rfl
   rw [hres] at C1;clear hres;go_wp2_with fail;refine C1.out.mono ?_;rintro x w1 ⟨hg1,rfl,hr1⟩;have G1:=hide hg1;have R1:=hide hr1;clear hg1 hr1;go_wp2;go_ret2;rw [HF.out];exact ⟨xje HG.out G1.out,rfl,R1.out⟩
  | ok r=>
   obtain ⟨t,st2⟩:=r;have hst2:=HGO.out st1 t st2 hi1 ha1 hres
   have HF:Hid (listP c.ts 4 p (f+1) st1=if (tk c.ts st2.i).kind=4 then preL [t] (listP c.ts 4 p f ⟨st2.i+1,st2.atoms,st2.bad⟩) else .ok ([t],st2)):=by
    show _=_;rw [listP,hres];simp only;split
    ·cases listP c.ts 4 p f ⟨st2.i+1,st2.atoms,st2.bad⟩<;>rfl
    ·rfl
   rw [hres] at C1;clear hres;obtain ⟨g1,g2,g3,g4⟩:=hst2;go_wp2_with fail;refine C1.out.mono ?_;rintro x w1 ⟨hg1,v1,rfl,ht1,hr1⟩;obtain ⟨T1,u1,rfl⟩:=xam ht1;have HO1:=hide (xqe HO.out hg1 hrb);have G1:=hide hg1;have R1:=hide hr1;have TT1:=hide ht1;clear hg1 hr1 ht1;go_wp2_with (at_builtin;refine wpList_append_own_at _ rfl _ _ 172 rfl w.heap.size 101 i0 _ 1 16 Tryz.underlying172 hi0 hz0 hz1 hz2 rfl (by decide) _ _ _ rfl (HO1.out.alloc _) ⟨w1.heap.size,0,none⟩ 1 1 [.iface T1 u1] rfl rfl (cell_one_new _ _ _) ?d2 ?d3 ?d4 ?d5 ?_)
   case d2=>intro u hu;simp only [List.mem_cons,List.not_mem_nil,or_false] at hu;subst hu;rfl
   case d3=>unfold maxLen;omega
   case d4=>omega
   case d5=>have:=HG.out.size;have:=G1.out.size;simp;omega
   intro v' w2 hown' hgrow _ hat;obtain ⟨s1,s2,s3,s4,s5⟩:=xl6 hc hrb hnm HG.out HO.out HT.out G1.out R1.out TT1.out HNM.out hown' hgrow (by simpa using hat);have S1:=hide s1;have S2:=hide s2;have S3:=hide s3;have S4:=hide s4;have S5:=hide s5;clear hown' hgrow hat s1 s2 s3 s4 s5;by_cases hk:(tk c.ts st2.i).kind=4
   ·have HF2:=hide (HF.out.trans (if_pos hk));have hi2:st2.i+1<c.ts.length:=hc.closed.next g2 (by omega) (by omega);have HK:=hide hk;clear hk;go_wp2_with fail;refine (xwf c hc _ st2.i _ _ _ _ _ 4 S1.out hi2 HK.out).mono ?_;rintro x w3 ⟨rfl,hR3,hG3⟩;have R3:=hide hR3;have G3:=hide hG3;clear hR3 hG3;go_wp2;go_roundw
    case rel=>
     refine ⟨f,acc++[t],xs++[.iface T1 u1],⟨st2.i+1,st2.atoms,st2.bad⟩,?_,by simp;omega,hi2,g3,by simp;omega,xqe S3.out G3.out hrb,?_,R3.out,xje S4.out G3.out,S5.out.grown G3.out hnm⟩
     ·rw [HE.out,HF2.out,xso]
     ·exact xat (fun t v h=>xal h G3.out (fun b hb e=>by cases e;have:=hb.1;omega)) S2.out
    case measure=>rw [R3.out.pos,HPS.out];omega
   ·have HF2:=hide (HF.out.trans (if_neg hk));have HK:=hide hk;clear hk;go_wp2_with fail;refine (xwe c hc _ st2.i _ _ _ _ _ 4 S1.out g2 HK.out).mono ?_;rintro x w3 ⟨rfl,hR3,hG3⟩;have R3:=hide hR3;have G3:=hide hG3;have O3:=hide (xqe S3.out hG3 hrb);have T3:=hide (xat (fun t v h=>xal h hG3 (fun b hb e=>by cases e;have:=hb.1;omega)) S2.out);clear hR3 hG3;obtain ⟨g,cap,hv,hcells,hge⟩:=xqf O3.out (by simp);have hch:=hide (xar (g:=g) (ok:=fun b=>w.heap.size<=b) 0 (xat (fun t v h=>xaq h (fun b _ hb=>hb.1)) T3.out) (fun j x hj=>by rw [Nat.zero_add];exact hcells j x hj));have hj0:=xxu (fun b=>w.heap.size<=b) w3 (acc++[t]) g cap hge (by simp) (by simp;omega) hch.out;rw [show (acc++[t]).length=acc.length+1 by simp] at hj0;have HJ:=hide hj0;clear hj0;clear hcells;subst hv;go_wp2_with fail;refine HJ.out.mono ?_;rintro x w4 ⟨v4,rfl,ht4,rfl⟩;have T4:=hide ht4;clear ht4;go_wp2;go_ret2;rw [show r0=.ok (acc++[t],st2) by rw [HE.out,HF2.out];rfl];exact ⟨xje S4.out G3.out,_,rfl,T4.out,R3.out⟩
theorem xvv(c:Ctx)(hc:c.Good)(hnm:1<c.rb)(d:Int){p:St->Except (Int×Nat) (Code×St)}(hp:Does c 233 d p)(hg:Goes c.ts p):Does c 139 d (seqP c.ts p):=by
 intro w st hn h hi ha;have H:=hide (xl3 c hc hnm d (xq1 c hc d hp hg) (xis hc.closed hg) w st hn h hi ha);clear hp hg hn h;unfold seqP;go_enter Tryz.func139,Tryz.ntmps139;go_wp2_with fail;refine H.out.mono ?_;rintro x w1 ho;obtain ⟨v,b,rfl⟩:=ho.shape;have HO:=hide ho;clear ho;go_wp2;go_ret2;exact HO.out
theorem xx5(c:Ctx)(hc:c.Good)(hnm:1<c.rb)(d:Int){p:St->Except (Int×Nat) (Code×St)}(hp:Does c 233 d p)(hg:Goes c.ts p):Does c 85 d (sumP c.ts p):=by
 intro w st hn h hi ha;have H:=hide (xl4 c hc hnm d (xvv c hc hnm d hp hg) (xit hc.closed hg) w st hn h hi ha);clear hp hg hn h;unfold sumP;go_enter Tryz.func85,Tryz.ntmps85;go_wp2_with fail;refine H.out.mono ?_;rintro x w1 ho;obtain ⟨v,b,rfl⟩:=ho.shape;have HO:=hide ho;clear ho;go_wp2;go_ret2;exact HO.out
theorem xfq(c:Ctx)(hc:c.Good)(w:World)(st:St)(h:Rd c w st.i st.atoms 12 st.bad 0 0)(hi:st.i<c.ts.length):
  Calls Tryz.prog 260 #[.pointer (some ⟨c.rb,0,none⟩),.func (.func 261) #[.pointer (some ⟨c.rb,0,none⟩)] #[]] w (OutP c 12 (.error (7,(tk c.ts st.i).at_)) w):=by
 have c3:w.cell? ⟨c.rb,3,none⟩=some (.int .i64 12):=h.cell 3;have H:=hide h;clear h;go_enter Tryz.func260,Tryz.ntmps260;go_wp2_with fail;refine (xg4 c hc _ st.i _ _ _ _ _ 7 H.out hi).mono ?_;rintro x w1 ⟨rfl,hR,hG⟩;have R:=hide hR;have G:=hide hG;clear hR hG;go_wp2;go_ret2;exact OutP.err R.out G.out
theorem xfp(c:Ctx)(hc:c.Good)(hnm:1<c.rb)(w:World)(st:St)(d:Int)(hd0:0<=d)(hd:d<=11)(r:Except (Int×Nat) (Code×St))(hn:Names w)(h:Rd c w st.i st.atoms d st.bad 0 0)
  (hf:∀w',Names w'->Rd c w' st.i st.atoms (d+1) st.bad 0 0->Calls Tryz.prog 261 #[.pointer (some ⟨c.rb,0,none⟩)] w' (OutP c (d+1) r w')):
  Calls Tryz.prog 260 #[.pointer (some ⟨c.rb,0,none⟩),.func (.func 261) #[.pointer (some ⟨c.rb,0,none⟩)] #[]] w (OutP c d r w):=by
 have c3:w.cell? ⟨c.rb,3,none⟩=some (.int .i64 d):=h.cell 3;have f3:w.frozen? ⟨c.rb,3,none⟩=false:=h.frozen 3;have hrb:=h.lt.1;have H:=hide h;have HN:=hide hn;have HF:=hide hf;clear h hn hf;go_enter Tryz.func260,Tryz.ntmps260;go_wp2_with fail;refine (HF.out _ (HN.out.grown (xjc _ _ _ _) hnm) (H.out.set3 hc _)).mono ?_;rintro x w1 ho;cases r with
 | error e=>
  obtain ⟨hg,rfl,i1,a1,d1,b1,hr⟩:=ho;have R:=hide hr;have G:=hide hg;have k3:w1.cell? ⟨c.rb,3,none⟩=some (.int .i64 d1):=hr.cell 3;have q3:w1.frozen? ⟨c.rb,3,none⟩=false:=hr.frozen 3;clear hr hg c3 f3;go_wp2;go_ret2;exact ⟨xje (xje (xjc _ _ _ _) G.out) (xjc _ _ _ _),rfl,i1,a1,_,b1,R.out.set3 hc _⟩
 | ok q=>
  obtain ⟨t,st2⟩:=q;obtain ⟨hg,v,rfl,ht,hr⟩:=ho;have R:=hide hr;have G:=hide hg;have T:=hide ht;have k3:w1.cell? ⟨c.rb,3,none⟩=some (.int .i64 (d+1)):=hr.cell 3;have q3:w1.frozen? ⟨c.rb,3,none⟩=false:=hr.frozen 3;clear hr hg ht c3 f3;go_wp2;go_ret2;refine ⟨xje (xje (xjc _ _ _ _) G.out) (xjc _ _ _ _),_,rfl,?_,?_⟩
  ·exact xap (xaq T.out (fun b _ hb=>by simpa [World.setCell] using hb)) (xjc _ _ _ _) hrb
  ·exact R.out.set3 hc d
theorem xfs(c:Ctx)(hc:c.Good)(w:World)(st:St)(h:Rd c w st.i st.atoms 12 st.bad 0 0)(hi:st.i<c.ts.length):
  Calls Tryz.prog 260 #[.pointer (some ⟨c.rb,0,none⟩),.func (.func 262) #[.pointer (some ⟨c.rb,0,none⟩)] #[]] w (OutP c 12 (.error (7,(tk c.ts st.i).at_)) w):=by
 have c3:w.cell? ⟨c.rb,3,none⟩=some (.int .i64 12):=h.cell 3;have H:=hide h;clear h;go_enter Tryz.func260,Tryz.ntmps260;go_wp2_with fail;refine (xg4 c hc _ st.i _ _ _ _ _ 7 H.out hi).mono ?_;rintro x w1 ⟨rfl,hR,hG⟩;have R:=hide hR;have G:=hide hG;clear hR hG;go_wp2;go_ret2;exact OutP.err R.out G.out
theorem xfr(c:Ctx)(hc:c.Good)(hnm:1<c.rb)(w:World)(st:St)(d:Int)(hd0:0<=d)(hd:d<=11)(r:Except (Int×Nat) (Code×St))(hn:Names w)(h:Rd c w st.i st.atoms d st.bad 0 0)
  (hf:∀w',Names w'->Rd c w' st.i st.atoms (d+1) st.bad 0 0->Calls Tryz.prog 262 #[.pointer (some ⟨c.rb,0,none⟩)] w' (OutP c (d+1) r w')):
  Calls Tryz.prog 260 #[.pointer (some ⟨c.rb,0,none⟩),.func (.func 262) #[.pointer (some ⟨c.rb,0,none⟩)] #[]] w (OutP c d r w):=by
 have c3:w.cell? ⟨c.rb,3,none⟩=some (.int .i64 d):=h.cell 3;have f3:w.frozen? ⟨c.rb,3,none⟩=false:=h.frozen 3;have hrb:=h.lt.1;have H:=hide h;have HN:=hide hn;have HF:=hide hf;clear h hn hf;go_enter Tryz.func260,Tryz.ntmps260;go_wp2_with fail;refine (HF.out _ (HN.out.grown (xjc _ _ _ _) hnm) (H.out.set3 hc _)).mono ?_;rintro x w1 ho;cases r with
 | error e=>
  obtain ⟨hg,rfl,i1,a1,d1,b1,hr⟩:=ho;have R:=hide hr;have G:=hide hg;have k3:w1.cell? ⟨c.rb,3,none⟩=some (.int .i64 d1):=hr.cell 3;have q3:w1.frozen? ⟨c.rb,3,none⟩=false:=hr.frozen 3;clear hr hg c3 f3;go_wp2;go_ret2;exact ⟨xje (xje (xjc _ _ _ _) G.out) (xjc _ _ _ _),rfl,i1,a1,_,b1,R.out.set3 hc _⟩
 | ok q=>
  obtain ⟨t,st2⟩:=q;obtain ⟨hg,v,rfl,ht,hr⟩:=ho;have R:=hide hr;have G:=hide hg;have T:=hide ht;have k3:w1.cell? ⟨c.rb,3,none⟩=some (.int .i64 (d+1)):=hr.cell 3;have q3:w1.frozen? ⟨c.rb,3,none⟩=false:=hr.frozen 3;clear hr hg ht c3 f3;go_wp2;go_ret2;refine ⟨xje (xje (xjc _ _ _ _) G.out) (xjc _ _ _ _),_,rfl,?_,?_⟩
  ·exact xap (xaq T.out (fun b _ hb=>by simpa [World.setCell] using hb)) (xjc _ _ _ _) hrb
  ·exact R.out.set3 hc d
theorem xn3(c:Ctx)(hc:c.Good)(hnm:1<c.rb)(d:Int){p:St->Except (Int×Nat) (Code×St)}(hp:Does c 233 d p)(hgo:Goes c.ts p)(w:World)(st:St)(hn:Names w)
  (h:Rd c w st.i st.atoms d st.bad 0 0) (hi:st.i<c.ts.length) (hk:(tk c.ts st.i).kind=7) (ha:st.atoms<=16):
  Calls Tryz.prog 261 #[.pointer (some ⟨c.rb,0,none⟩)] w (OutP c d (notP (tk c.ts st.i).at_ (p ⟨st.i+1,st.atoms,st.bad⟩)) w):=by
 have hi1:st.i+1<c.ts.length:=hc.closed.next hi (by omega) (by omega);have hfew:=hc.few
 have hat:(tk c.ts st.i).at_<=400:=by
  have h1:=xzs c.s true st.i;have h2:=hc.size;rw [<-hc.toks] at h1;omega
 clear hk;have hrb:=h.lt.1;have H:=hide h;have HN:=hide hn;have hca:∀w',Names w'->Rd c w' (st.i+1:Nat) st.atoms d st.bad 0 0->Calls Tryz.prog 233 #[.pointer (some ⟨c.rb,0,none⟩)] w' (OutP c d (p ⟨st.i+1,st.atoms,st.bad⟩) w'):=fun w' h1 h2=>hp w' ⟨st.i+1,st.atoms,st.bad⟩ h1 h2 hi1 ha
 generalize p ⟨st.i+1,st.atoms,st.bad⟩=r at hca ⊢;have HCA:=hide hca;clear h hn hp hgo hca;cases r with
 | error e=>
  obtain ⟨en,pl⟩:=e;go_enter Tryz.func261,Tryz.ntmps261;go_wp2_with fail;refine (xo9 c hc _ st.i st.atoms d st.bad 0 0 H.out hi).mono ?_;rintro x w1 ⟨rfl,hg1⟩;have R1:Hid (Rd c w1 st.i st.atoms d st.bad 0 0):=H.out.kept hg1;have N1:Hid (Names w1):=HN.out.grown (xjd hg1) hnm;have G1:=hide hg1;clear hg1;have c1:w1.cell? ⟨c.rb,1,none⟩=some (.int .i64 st.i):=R1.out.cell 1;have f1:w1.frozen? ⟨c.rb,1,none⟩=false:=R1.out.frozen 1;go_wp2_with fail;have G2:Hid (w.grownBy (w1.setCell ⟨c.rb,1,none⟩ (.int .i64 ((st.i:Int)+1))) (some c.rb)):=xje (xjd G1.out) (xjc _ _ _ _);have hsz:w.heap.size<=(w1.setCell ⟨c.rb,1,none⟩ (.int .i64 ((st.i:Int)+1))).heap.size:=G2.out.size;refine (HCA.out _ (N1.out.grown (xjc w1 c.rb 1 (.int .i64 ((st.i:Int)+1))) hnm) (R1.out.set1 hc _)).mono ?_;rintro x w2 ⟨hg2,rfl,hr2⟩;have R2:=hide hr2;have G3:=hide hg2;clear hr2 hg2 c1 f1;go_wp2;go_ret2;exact ⟨xje G2.out G3.out,rfl,R2.out⟩
 | ok q=>
  obtain ⟨t,st2⟩:=q;go_enter Tryz.func261,Tryz.ntmps261;go_wp2_with fail;refine (xo9 c hc _ st.i st.atoms d st.bad 0 0 H.out hi).mono ?_;rintro x w1 ⟨rfl,hg1⟩;have R1:Hid (Rd c w1 st.i st.atoms d st.bad 0 0):=H.out.kept hg1;have N1:Hid (Names w1):=HN.out.grown (xjd hg1) hnm;have G1:=hide hg1;clear hg1;have c1:w1.cell? ⟨c.rb,1,none⟩=some (.int .i64 st.i):=R1.out.cell 1;have f1:w1.frozen? ⟨c.rb,1,none⟩=false:=R1.out.frozen 1;go_wp2_with fail;have G2:Hid (w.grownBy (w1.setCell ⟨c.rb,1,none⟩ (.int .i64 ((st.i:Int)+1))) (some c.rb)):=xje (xjd G1.out) (xjc _ _ _ _);have hsz:w.heap.size<=(w1.setCell ⟨c.rb,1,none⟩ (.int .i64 ((st.i:Int)+1))).heap.size:=G2.out.size;refine (HCA.out _ (N1.out.grown (xjc w1 c.rb 1 (.int .i64 ((st.i:Int)+1))) hnm) (R1.out.set1 hc _)).mono ?_;rintro x w2 ⟨hg2,v,rfl,ht,hr2⟩;have R2:=hide hr2;have G3:=hide (xje G2.out hg2);have T2:Hid ((TV (fun b=>w.heap.size<=b) w2 t).1 v):=xaq ht (fun b _ hb=>Nat.le_trans hsz hb);clear hr2 hg2 ht c1 f1;have hct:=hide (xkb (fun b=>w.heap.size<=b) (szC t) t v w2 (Nat.le_refl _) T2.out);obtain ⟨bt,hbt⟩:∃bt,bt=isT t:=⟨_,rfl⟩;rw [<-hbt] at hct;have HBT:=hide hbt;clear hbt;cases bt
  ·go_wp2_with fail;refine hct.out.mono ?_;rintro x w3 ⟨rfl,hg3⟩;have R3:=hide (R2.out.kept hg3);have T3:=hide (xan T2.out hg3);have G4:=hide (xje G3.out (xjd hg3));have c4:w3.cell? ⟨c.rb,4,none⟩=some (.int .i64 st2.bad):=R3.out.cell 4;have f4:w3.frozen? ⟨c.rb,4,none⟩=false:=R3.out.frozen 4;clear hg3;by_cases hlt:(tk c.ts st.i).at_<st2.bad
   ·have hlt':((tk c.ts st.i).at_:Int)<(st2.bad:Int):=by omega
    go_wp2_with fail;refine (xo0 (fun b=>w.heap.size<=b) _ t v (Nat.le_trans G4.out.size (xjc _ _ _ _).size) (xap T3.out (xjc _ _ _ _) hrb)).mono ?_;rintro x w4 ⟨v4,rfl,ht4,hg4⟩;have T4:=hide ht4;have G5:=hide hg4;clear ht4 hg4;go_wp2;go_ret2;have e9:isT t=false:=HBT.out.symm;have e8:min st2.bad (tk c.ts st.i).at_=(tk c.ts st.i).at_:=by omega
    simp only [notP,e9,e8];exact ⟨xje G4.out (xje (xjc _ _ _ _) (xjd G5.out)),_,rfl,T4.out,(R3.out.set4 hc _).kept G5.out⟩
   ·have hlt':(st2.bad:Int)<=((tk c.ts st.i).at_:Int):=by omega
    go_wp2_with fail;refine (xo0 (fun b=>w.heap.size<=b) _ t v (Nat.le_trans G4.out.size (xjc _ _ _ _).size) (xap T3.out (xjc _ _ _ _) hrb)).mono ?_;rintro x w4 ⟨v4,rfl,ht4,hg4⟩;have T4:=hide ht4;have G5:=hide hg4;clear ht4 hg4;go_wp2;go_ret2;have e9:isT t=false:=HBT.out.symm;have e8:min st2.bad (tk c.ts st.i).at_=st2.bad:=by omega
    simp only [notP,e9,e8];exact ⟨xje G4.out (xje (xjc _ _ _ _) (xjd G5.out)),_,rfl,T4.out,(R3.out.set4 hc _).kept G5.out⟩
  ·go_wp2_with fail;refine hct.out.mono ?_;rintro x w3 ⟨rfl,hg3⟩;have R3:=hide (R2.out.kept hg3);have T3:=hide (xan T2.out hg3);have G4:=hide (xje G3.out (xjd hg3));clear hg3;go_wp2_with fail;refine (xo0 (fun b=>w.heap.size<=b) _ t v G4.out.size T3.out).mono ?_;rintro x w4 ⟨v4,rfl,ht4,hg4⟩;have T4:=hide ht4;have G5:=hide hg4;clear ht4 hg4;go_wp2;go_ret2;have e9:isT t=true:=HBT.out.symm;simp only [notP,e9];exact ⟨xje G4.out (xjd G5.out),_,rfl,T4.out,R3.out.kept G5.out⟩
theorem xdt(c:Ctx)(hc:c.Good)(hnm:1<c.rb)(d:Int){p:St->Except (Int×Nat) (Code×St)}(hp:Does c 85 d p)(hgo:Goes c.ts p)(w:World)(st:St)(hn:Names w)
  (h:Rd c w st.i st.atoms d st.bad 0 0) (hi:st.i<c.ts.length) (hk:(tk c.ts st.i).kind=8) (ha:st.atoms<=16):
  Calls Tryz.prog 262 #[.pointer (some ⟨c.rb,0,none⟩)] w (OutP c d (xds c.ts (p ⟨st.i+1,st.atoms,st.bad⟩)) w):=by
 have hi1:st.i+1<c.ts.length:=hc.closed.next hi (by omega) (by omega);have hfew:=hc.few;clear hk;have hrb:=h.lt.1;have c1:w.cell? ⟨c.rb,1,none⟩=some (.int .i64 st.i):=h.cell 1;have f1:w.frozen? ⟨c.rb,1,none⟩=false:=h.frozen 1;have G2:Hid (w.grownBy (w.setCell ⟨c.rb,1,none⟩ (.int .i64 ((st.i:Int)+1))) (some c.rb)):=xjc _ _ _ _;have hgoes:∀t st2,p ⟨st.i+1,st.atoms,st.bad⟩=.ok (t,st2)->st2.i<c.ts.length:=fun t st2 e=>(hgo ⟨st.i+1,st.atoms,st.bad⟩ t st2 hi1 ha e).2.1
 have hca:=hp _ ⟨st.i+1,st.atoms,st.bad⟩ (hn.grown (xjc w c.rb 1 (.int .i64 ((st.i:Int)+1))) hnm) (h.set1 hc _) hi1 ha;generalize p ⟨st.i+1,st.atoms,st.bad⟩=r at hgoes hca ⊢;have HCA:=hide hca;clear h hn hp hgo hca;cases r with
 | error e=>
  obtain ⟨en,pl⟩:=e;clear hgoes;go_enter Tryz.func262,Tryz.ntmps262;go_wp2_with fail;refine HCA.out.mono ?_;rintro x w2 ⟨hg2,rfl,hr2⟩;have R2:=hide hr2;have G3:=hide hg2;clear hr2 hg2 c1 f1;go_wp2;go_ret2;exact ⟨xje G2.out G3.out,rfl,R2.out⟩
 | ok q=>
  obtain ⟨t,st2⟩:=q;have hst2:=hgoes t st2 rfl;clear hgoes;go_enter Tryz.func262,Tryz.ntmps262;go_wp2_with fail;refine HCA.out.mono ?_;rintro x w2 ⟨hg2,v,rfl,ht,hr2⟩;have R2:=hide hr2;have G3:=hide (xje G2.out hg2);have T2:Hid ((TV (fun b=>w.heap.size<=b) w2 t).1 v):=xaq ht (fun b _ hb=>Nat.le_trans G2.out.size hb);clear hr2 hg2 ht c1 f1;by_cases hk9:(tk c.ts st2.i).kind=9
  ·have HF:Hid (xds c.ts (.ok (t,st2))=.ok (t,⟨st2.i+1,st2.atoms,st2.bad⟩)):=by show _=_;simp only [xds,if_pos hk9]
   have hi2:st2.i+1<c.ts.length:=hc.closed.next hst2 (by omega) (by omega);have HK:=hide hk9;clear hk9;go_wp2_with fail;refine (xwf c hc _ st2.i _ _ _ _ _ 9 R2.out hi2 HK.out).mono ?_;rintro x w3 ⟨rfl,hR3,hG3⟩;have R3:=hide hR3;have G4:=hide hG3;clear hR3 hG3;go_wp2;go_ret2;rw [HF.out];exact ⟨xje G3.out G4.out,_,rfl,xap T2.out G4.out hrb,R3.out⟩
  ·have HF:Hid (xds c.ts (.ok (t,st2))=.error (3,(tk c.ts st2.i).at_)):=by show _=_;simp only [xds,if_neg hk9]
   have HK:=hide hk9;clear hk9;go_wp2_with fail;refine (xwe c hc _ st2.i _ _ _ _ _ 9 R2.out hst2 HK.out).mono ?_;rintro x w3 ⟨rfl,hR3,hG3⟩;have R3:=hide hR3;have G4:=hide hG3;clear hR3 hG3;go_wp2_with fail;refine (xg4 c hc _ st2.i _ _ _ _ _ 3 R3.out hst2).mono ?_;rintro x w4 ⟨rfl,hR4,hG4⟩;have R4:=hide hR4;have G5:=hide hG4;clear hR4 hG4;go_wp2;go_ret2;rw [HF.out];exact OutP.err R4.out (xje (xje G3.out G4.out) G5.out)
theorem xcb(c:Ctx)(hc:c.Good)(hnm:1<c.rb)(d:Int)(w:World)(st:St)(r:Except (Int×Nat) (Code×St))(hn:Names w)(h:Rd c w st.i st.atoms d st.bad 0 0)(hi:st.i<c.ts.length)(hk:(tk c.ts st.i).kind=2)
  (hf:∀w',Names w'->Rd c w' st.i st.atoms d st.bad 0 0->Calls Tryz.prog 259 #[.pointer (some ⟨c.rb,0,none⟩)] w' (OutP c d r w')):
  Calls Tryz.prog 233 #[.pointer (some ⟨c.rb,0,none⟩)] w (OutP c d r w):=by
 have H:=hide h;have HN:=hide hn;have HF:=hide hf;have HK:=hide hk;clear hk;clear h hn hf;go_enter Tryz.func233,Tryz.ntmps233;go_wp2_with fail;refine (xo9 c hc _ st.i st.atoms d st.bad 0 0 H.out hi).mono ?_;rintro x w1 ⟨rfl,hg1⟩;have R1:Hid (Rd c w1 st.i st.atoms d st.bad 0 0):=H.out.kept hg1;have N1:Hid (Names w1):=HN.out.grown (xjd hg1) hnm;have G1:=hide hg1;clear hg1;rw [HK.out];go_wp2_with fail;refine (HF.out _ N1.out R1.out).mono ?_;rintro x w2 ho;obtain ⟨v,b,rfl⟩:=ho.shape;have HO:=hide (ho.later (xjd G1.out));clear ho;go_wp2;go_ret2;exact HO.out
theorem xb9(c:Ctx)(hc:c.Good)(hnm:1<c.rb)(d:Int)(w:World)(st:St)(r:Except (Int×Nat) (Code×St))(hn:Names w)(h:Rd c w st.i st.atoms d st.bad 0 0)(hi:st.i<c.ts.length)(hk:(tk c.ts st.i).kind=7)
  (hf:∀w',Names w'->Rd c w' st.i st.atoms d st.bad 0 0->Calls Tryz.prog 260 #[.pointer (some ⟨c.rb,0,none⟩),.func (.func 261) #[.pointer (some ⟨c.rb,0,none⟩)] #[]] w' (OutP c d r w')):
  Calls Tryz.prog 233 #[.pointer (some ⟨c.rb,0,none⟩)] w (OutP c d r w):=by
 have H:=hide h;have HN:=hide hn;have HF:=hide hf;have HK:=hide hk;clear hk;clear h hn hf;go_enter Tryz.func233,Tryz.ntmps233;go_wp2_with fail;refine (xo9 c hc _ st.i st.atoms d st.bad 0 0 H.out hi).mono ?_;rintro x w1 ⟨rfl,hg1⟩;have R1:Hid (Rd c w1 st.i st.atoms d st.bad 0 0):=H.out.kept hg1;have N1:Hid (Names w1):=HN.out.grown (xjd hg1) hnm;have G1:=hide hg1;clear hg1;rw [HK.out];go_wp2_with fail;refine (HF.out _ N1.out R1.out).mono ?_;rintro x w2 ho;obtain ⟨v,b,rfl⟩:=ho.shape;have HO:=hide (ho.later (xjd G1.out));clear ho;go_wp2;go_ret2;exact HO.out
theorem xca(c:Ctx)(hc:c.Good)(hnm:1<c.rb)(d:Int)(w:World)(st:St)(r:Except (Int×Nat) (Code×St))(hn:Names w)(h:Rd c w st.i st.atoms d st.bad 0 0)(hi:st.i<c.ts.length)(hk:(tk c.ts st.i).kind=8)
  (hf:∀w',Names w'->Rd c w' st.i st.atoms d st.bad 0 0->Calls Tryz.prog 260 #[.pointer (some ⟨c.rb,0,none⟩),.func (.func 262) #[.pointer (some ⟨c.rb,0,none⟩)] #[]] w' (OutP c d r w')):
  Calls Tryz.prog 233 #[.pointer (some ⟨c.rb,0,none⟩)] w (OutP c d r w):=by
 have H:=hide h;have HN:=hide hn;have HF:=hide hf;have HK:=hide hk;clear hk;clear h hn hf;go_enter Tryz.func233,Tryz.ntmps233;go_wp2_with fail;refine (xo9 c hc _ st.i st.atoms d st.bad 0 0 H.out hi).mono ?_;rintro x w1 ⟨rfl,hg1⟩;have R1:Hid (Rd c w1 st.i st.atoms d st.bad 0 0):=H.out.kept hg1;have N1:Hid (Names w1):=HN.out.grown (xjd hg1) hnm;have G1:=hide hg1;clear hg1;rw [HK.out];go_wp2_with fail;refine (HF.out _ N1.out R1.out).mono ?_;rintro x w2 ho;obtain ⟨v,b,rfl⟩:=ho.shape;have HO:=hide (ho.later (xjd G1.out));clear ho;go_wp2;go_ret2;exact HO.out
theorem xb8(c:Ctx)(hc:c.Good)(hnm:1<c.rb)(d:Int)(w:World)(st:St)(r:Except (Int×Nat) (Code×St))(hn:Names w)(h:Rd c w st.i st.atoms d st.bad 0 0)(hi:st.i<c.ts.length)(hk2:¬(tk c.ts st.i).kind=2)(hk7:¬(tk c.ts st.i).kind=7)(hk8:¬(tk c.ts st.i).kind=8)
  (hf:∀w',Names w'->Rd c w' st.i st.atoms d st.bad 0 0->Calls Tryz.prog 87 #[.pointer (some ⟨c.rb,0,none⟩),.int .i64 3] w' (OutP c d r w')):
  Calls Tryz.prog 233 #[.pointer (some ⟨c.rb,0,none⟩)] w (OutP c d r w):=by
 have H:=hide h;have HN:=hide hn;have HF:=hide hf;have k2:((tk c.ts st.i).kind == 2)=false:=by simp [hk2]
 have k7:((tk c.ts st.i).kind == 7)=false:=by simp [hk7]
 have k8:((tk c.ts st.i).kind == 8)=false:=by simp [hk8]
 clear hk2 hk7 hk8;clear h hn hf;go_enter Tryz.func233,Tryz.ntmps233;go_wp2_with fail;refine (xo9 c hc _ st.i st.atoms d st.bad 0 0 H.out hi).mono ?_;rintro x w1 ⟨rfl,hg1⟩;have R1:Hid (Rd c w1 st.i st.atoms d st.bad 0 0):=H.out.kept hg1;have N1:Hid (Names w1):=HN.out.grown (xjd hg1) hnm;have G1:=hide hg1;clear hg1;go_wp2_with fail;refine (HF.out _ N1.out R1.out).mono ?_;rintro x w2 ho;obtain ⟨v,b,rfl⟩:=ho.shape;have HO:=hide (ho.later (xjd G1.out));clear ho;go_wp2;go_ret2;exact HO.out
theorem xb7(c:Ctx)(hc:c.Good)(hnm:1<c.rb):∀(n:Nat),n<=12->∀d:Int,d=12-(n:Int)->Does c 233 d (atomP c.s c.ts n):=by
 intro n;induction n with
 | zero=>
  intro _ d hd w st hn h hi ha;have hd12:d=12:=by simpa using hd
  subst hd12;unfold atomP;by_cases h2:(tk c.ts st.i).kind=2
  ·rw [if_pos h2];exact xcb c hc hnm _ w st _ hn h hi h2 (fun w' hn' h'=>x08 c w' st _ hc hn' hnm h' hi h2 ha)
  rw [if_neg h2];by_cases h7:(tk c.ts st.i).kind=7
  ·rw [if_pos h7];exact xb9 c hc hnm _ w st _ hn h hi h7 (fun w' hn' h'=>xfq c hc w' st h' hi)
  rw [if_neg h7];by_cases h8:(tk c.ts st.i).kind=8
  ·rw [if_pos h8];exact xca c hc hnm _ w st _ hn h hi h8 (fun w' hn' h'=>xfs c hc w' st h' hi)
  rw [if_neg h8];exact xb8 c hc hnm _ w st _ hn h hi h2 h7 h8 (fun w' hn' h'=>(xg4 c hc w' st.i _ _ _ _ _ 3 h' hi).mono (fun x w'' ⟨e,hR,hG⟩=>by subst e;exact OutP.err hR hG))
 | succ n ih=>
  intro hn12 d hd w st hn h hi ha;have IH:=ih (by omega) (d+1) (by omega);unfold atomP;by_cases h2:(tk c.ts st.i).kind=2
  ·rw [if_pos h2];exact xcb c hc hnm _ w st _ hn h hi h2 (fun w' hn' h'=>x08 c w' st _ hc hn' hnm h' hi h2 ha)
  rw [if_neg h2];by_cases h7:(tk c.ts st.i).kind=7
  ·rw [if_pos h7]
   exact xb9 c hc hnm _ w st _ hn h hi h7 (fun w' hn' h'=>xfp c hc hnm w' st d (by omega) (by omega) _ hn' h'
    (fun w'' hn'' h''=>xn3 c hc hnm (d+1) IH (xio hc.closed n) w'' st hn'' h'' hi h7 ha))
  rw [if_neg h7];by_cases h8:(tk c.ts st.i).kind=8
  ·rw [if_pos h8]
   exact xca c hc hnm _ w st _ hn h hi h8 (fun w' hn' h'=>xfr c hc hnm w' st d (by omega) (by omega) _ hn' h'
    (fun w'' hn'' h''=>xdt c hc hnm (d+1) (xx5 c hc hnm (d+1) IH (xio hc.closed n)) (xiu hc.closed (xio hc.closed n)) w'' st hn'' h'' hi h8 ha))
  rw [if_neg h8];exact xb8 c hc hnm _ w st _ hn h hi h2 h7 h8 (fun w' hn' h'=>(xg4 c hc w' st.i _ _ _ _ _ 3 h' hi).mono (fun x w'' ⟨e,hR,hG⟩=>by subst e;exact OutP.err hR hG))
def readS(s:ByteArray):Except (Int×Nat) Code:=if 400<s.size then .error (2,0) else readP s (toks s true 0)
def OutR(r:Except (Int×Nat) Code)(w:World)(x:Ending)(w':World):Prop:=
 w.grownBy w' none/\match r with
 | .ok t=>∃v,x=.returned (.tuple #[v,.int .i64 0,.int .i64 0])/\(TV (fun b=>w.heap.size<=b) w' t).1 v
 | .error (en,pl)=>x=.returned (.tuple #[.nilIface,.int .i64 en,.int .i64 pl])
theorem xsh(s:ByteArray)(w:World)(hs:400<s.size)(hs2:s.size<=9223372036854775807):
  Calls Tryz.prog 48 #[.string s] w (OutR (.error (2,0)) w):=by
 go_enter Tryz.func48,Tryz.ntmps48;go_wp2
 go_ret3
 exact ⟨xjb _ _,rfl⟩
theorem xsi(s:ByteArray)(w:World)(hn:Names w)(hs:s.size<=400):
  Calls Tryz.prog 48 #[.string s] w (OutR (readP s (toks s true 0)) w):=by
 have HN:=hide hn;have hg0:1<w.heap.size:=World.block_lt_of_cell? w _ (hn 0 (by decide));clear hn;obtain ⟨r0,hr0⟩:∃r0,r0=readP s (toks s true 0):=⟨_,rfl⟩;rw [<-hr0];have HR0:=hide hr0;clear hr0;go_enter Tryz.func48,Tryz.ntmps48;go_wp2_with fail;refine (xzr s w hs).mono ?_;rintro x w1 ⟨v,rfl,hown,hbel⟩;have hlen:0<(toks s true 0).length:=(xzt s 0).1;rcases hown.2 with ⟨_,h0⟩|⟨g,cap,cur,rfl,hbg,hgg,hnc,hcm,hcs,htake⟩
 ·omega
 have hG1:=xi5 hbel;have hgl:g<w1.heap.size:=(Array.getElem?_eq_some_iff.1 hgg).1;have hsz1:=hbel.size;let c:Ctx:=⟨s,toks s true 0,g,cap,w1.heap.size,cur⟩
 have hc:c.Good:=⟨hgl,hcs,hnc,hcm,htake,hs,rfl⟩;have hnm:1<c.rb:=by show _<w1.heap.size;omega
 have hRd:∀o,o=Obj.cells #[.slice (some ⟨g,0,none⟩) (toks s true 0).length cap,.int .i64 0,.int .i64 0,.int .i64 0,.int .i64 401,.int .i64 0,.int .i64 0] 157 (0,0)->Rd c (w1.alloc o) 0 0 0 401 0 0:=by
  rintro o rfl;exact ⟨by show (w1.alloc _).heap[g]?=_;rw [Below.heap_alloc w1 _ g hgl];exact hgg,heap_alloc_new w1 _⟩
 have hN1:∀o,Names (w1.alloc o):=fun o=>((HN.out.other hG1 (B:=w.heap.size) (by simp) hg0).other (World.grownBy_alloc w1 o none) (B:=w.heap.size) (by simp) hg0)
 have hdo:=xx5 c hc hnm 0 (xb7 c hc hnm 12 (by decide) 0 (by decide)) (xio hc.closed 12);have hcall:=hide (hdo _ ⟨0,0,401⟩ (hN1 _) (hRd _ rfl) hlen (by decide));have hgo:=xiu hc.closed (xio (s:=c.s) hc.closed 12) ⟨0,0,401⟩
 have hrp:readP s (toks s true 0)=match sumP c.ts (atomP c.s c.ts 12) ⟨0,0,401⟩ with
  | .error e=>.error e
  | .ok (t,st)=>if (tk c.ts st.i).kind=0 then (if st.bad=401 then .ok t else .error (6,st.bad)) else .error (3,(tk c.ts st.i).at_):=rfl
 generalize sumP c.ts (atomP c.s c.ts 12) ⟨0,0,401⟩=r at hcall hgo hrp;have HC:=hide hc;have HG1:=hide hG1;have HNM:=hide hnm;have HRP:=hide hrp;have HGO:=hide hgo;have hrbv:c.rb=w1.heap.size:=rfl;have hsv:c.s=s:=rfl;have htv:c.ts=toks s true 0:=rfl;have hgv:c.g=g:=rfl;have hcv:c.cap=cap:=rfl;have HALL:=hide (And.intro hrbv (And.intro hsv (And.intro htv (And.intro hgv hcv))));clear hrbv hsv htv hgv hcv;clear hRd hN1 hdo hG1 hc hown hbel hnm htake hgg hrp hgo hnc hcs
 clear_value c
 obtain ⟨o1,ho1⟩:∃o1,o1=Obj.cells #[.slice (some ⟨g,0,none⟩) (toks s true 0).length cap,.int .i64 0,.int .i64 0,.int .i64 0,.int .i64 401,.int .i64 0,.int .i64 0] 157 (0,0):=⟨_,rfl⟩;have HG2:Hid (w.grownBy (w1.alloc o1) none):=xje HG1.out (World.grownBy_alloc _ _ _);have hrbw:w.heap.size<=c.rb:=by rw [HALL.out.1];exact hsz1
 rw [<-ho1] at hcall;have HO1:=hide ho1;clear ho1;cases r with
 | error e=>
  obtain ⟨en,pl⟩:=e;have HF:Hid (r0=.error (en,pl)):=HR0.out.trans HRP.out;go_wp2_with fail;rw [<-HALL.out.1,<-HO1.out];refine hcall.out.mono ?_;clear hcall;rintro x w2 ⟨hg2,rfl,i2,a2,d2,b2,hr2⟩;have c5:w2.cell? ⟨c.rb,5,none⟩=some (.int .i64 en):=hr2.cell 5;have c6:w2.cell? ⟨c.rb,6,none⟩=some (.int .i64 pl):=hr2.cell 6;have G3:=hide (xi9 HG2.out hg2 hrbw);clear hg2 hr2;go_wp2;go_quiet (fail)
  go_wp2
  go_ret3
  rw [HF.out];exact ⟨xi8 G3.out _,rfl⟩
 | ok q=>
  obtain ⟨t,st2⟩:=q;obtain ⟨_,hi2,_,hb2⟩:=HGO.out t st2 (by rw [HALL.out.2.2.1];exact hlen) (by decide) rfl;by_cases hk:(tk c.ts st2.i).kind=0
  ·by_cases hb:st2.bad=401
   ·have HF:Hid (r0=.ok t):=(HR0.out.trans HRP.out).trans (by simp only [if_pos hk,if_pos hb]);have HK:=hide hk;have HB:=hide hb;clear hk hb;go_wp2_with fail;rw [<-HALL.out.1,<-HO1.out];refine hcall.out.mono ?_;clear hcall;rintro x w2 ⟨hg2,v2,rfl,ht2,hr2⟩;have R2:=hide hr2;have T2:=hide ht2;have G3:=hide (xi9 HG2.out hg2 hrbw);clear hg2 hr2 ht2;go_wp2_with fail;refine (xo9 c HC.out _ st2.i st2.atoms 0 st2.bad 0 0 R2.out hi2).mono ?_;rintro x w3 ⟨rfl,hg3⟩;rw [HK.out];have R3:=R2.out.kept hg3;have c4:w3.cell? ⟨c.rb,4,none⟩=some (.int .i64 st2.bad):=R3.cell 4;rw [HB.out] at c4;have T3:=hide (xaq (xan T2.out hg3) (ok':=fun b=>w.heap.size<=b) (fun b _ hb=>Nat.le_trans HG2.out.size hb));have G4:=hide (xje G3.out hg3);clear hg3 R3;go_wp2
    go_ret3
    rw [HF.out];exact ⟨G4.out,_,rfl,T3.out⟩
   ·have HF:Hid (r0=.error (6,st2.bad)):=(HR0.out.trans HRP.out).trans (by simp only [if_pos hk,if_neg hb]);have HK:=hide hk;have hne:((st2.bad:Int) != 401)=true:=by rw [bne_iff_ne];omega
    clear hk hb;go_wp2_with fail;rw [<-HALL.out.1,<-HO1.out];refine hcall.out.mono ?_;clear hcall;rintro x w2 ⟨hg2,v2,rfl,ht2,hr2⟩;have R2:=hide hr2;have G3:=hide (xi9 HG2.out hg2 hrbw);clear hg2 hr2 ht2;go_wp2_with fail;refine (xo9 c HC.out _ st2.i st2.atoms 0 st2.bad 0 0 R2.out hi2).mono ?_;rintro x w3 ⟨rfl,hg3⟩;rw [HK.out];have R3:=R2.out.kept hg3;have c4:w3.cell? ⟨c.rb,4,none⟩=some (.int .i64 st2.bad):=R3.cell 4;have G4:=hide (xje G3.out hg3);clear hg3 R3;go_wp2;go_quiet (fail)
    go_wp2
    go_ret3
    rw [HF.out];exact ⟨xi8 G4.out _,rfl⟩
  ·have HF:Hid (r0=.error (3,(tk c.ts st2.i).at_)):=(HR0.out.trans HRP.out).trans (by simp only [if_neg hk]);have hne:((tk c.ts st2.i).kind != 0)=true:=by rw [bne_iff_ne];exact hk
   clear hk;go_wp2_with fail;rw [<-HALL.out.1,<-HO1.out];refine hcall.out.mono ?_;clear hcall;rintro x w2 ⟨hg2,v2,rfl,ht2,hr2⟩;have R2:=hide hr2;have G3:=hide (xi9 HG2.out hg2 hrbw);clear hg2 hr2 ht2;go_wp2_with fail;refine (xo9 c HC.out _ st2.i st2.atoms 0 st2.bad 0 0 R2.out hi2).mono ?_;rintro x w3 ⟨rfl,hg3⟩;have R3:=hide (R2.out.kept hg3);have G4:=hide (xje G3.out hg3);clear hg3;go_wp2_with fail;refine (xg4 c HC.out _ st2.i _ _ _ _ _ 3 R3.out hi2).mono ?_;rintro x w4 ⟨rfl,hR4,hG4⟩;have c5:w4.cell? ⟨c.rb,5,none⟩=some (.int .i64 3):=hR4.cell 5;have c6:w4.cell? ⟨c.rb,6,none⟩=some (.int .i64 ((tk c.ts st2.i).at_:Int)):=hR4.cell 6;have G5:=hide (xi9 G4.out hG4 hrbw);clear hR4 hG4;go_wp2;go_quiet (fail)
   go_wp2
   go_ret3
   rw [HF.out];exact ⟨xi8 G5.out _,rfl⟩
theorem xsg(s:ByteArray)(w:World)(hn:Names w)(hs:s.size<=9223372036854775807):Calls Tryz.prog 48 #[.string s] w (OutR (readS s) w):=by
 unfold readS;by_cases h:400<s.size
 ·rw [if_pos h];exact xsh s w h hs
 ·rw [if_neg h];exact xsi s w hn (by omega)
end Go.Proofs.YtlhkfafdioakeaaGreatDoor
