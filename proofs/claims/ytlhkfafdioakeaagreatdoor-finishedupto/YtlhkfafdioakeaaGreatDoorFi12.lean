/- Parts of the proof. -/
import Derived.Test.YtlhkfafdioakeaaGreatDoorFi09
import Derived.Deep.RegionLawGrows
namespace Go.Proofs.YtlhkfafdioakeaaGreatDoor
open Go.RowKit Go.Weft
set_option linter.unusedVariables false
set_option linter.unusedSimpArgs false
def Im(b:Nat):Value:=.pointer (some ⟨b,0,none⟩)
def X5(n:Nat):Array Value:=
 if n=0 then #[.int .u8 105,.int .i64 0,.int .i64 0,.slice none 0 0]
 else if n=1 then #[.int .u8 100,.int .i64 0,.int .i64 0,.slice none 0 0]
 else if n%2=0 then #[.int .u8 61,.int .i64 (((n-2)/2/32:Nat):Int),.int .i64 (((n-2)/2%32:Nat):Int),.slice none 0 0]
 else #[.int .u8 58,.int .i64 (((n-2)/2/32:Nat):Int),.int .i64 (((n-2)/2%32:Nat):Int),.slice none 0 0]
def KU(k:Int)(g n cap:Nat):Array Value:=#[.int .u8 k,.int .i64 0,.int .i64 0,.slice (some ⟨g,0,none⟩) n cap]
def X4(k:Nat):Int:=if k=0 then 43 else 59
def Ib(w:World)(b:Nat)(cs:Array Value):Prop:=w.heap[b]?=some (.cells cs 167 (0,0))
def Ud(n:Nat)(cs:Array Value):Prop:=(n<2+2*192/\cs=X5 n)\/(2+2*192<=n/\∃x y,cs=#[.int .u8 (if n%2=0 then 61 else 58),x,y,.slice none 0 0])
def RV(ok:Nat->Prop)(w:World):Code->(Value->Prop)×(Nat->Nat->Nat->Prop)
 | .exit n=>(fun v=>∃b cs,v=Im b/\ok b/\Ib w b cs/\Ud n cs,fun _ _ _=>False)
 | .loop t=>(fun v=>∃b g cap x,v=Im b/\ok b/\Ib w b (KU 42 g 1 cap)/\ok g/\w.cell? ⟨g,0,none⟩=some x/\(RV ok w t).1 x,fun _ _ _=>False)
 | .scope t=>(fun v=>∃b g cap x,v=Im b/\ok b/\Ib w b (KU 33 g 1 cap)/\ok g/\w.cell? ⟨g,0,none⟩=some x/\(RV ok w t).1 x,fun _ _ _=>False)
 | .block k l=>(fun v=>∃b g n cap,v=Im b/\ok b/\Ib w b (KU (X4 k) g n cap)/\k<=1/\ok g/\n<=5000/\2<=n/\n<=cap/\(RV ok w l).2 g 0 n,fun _ _ _=>False)
 | .seq t l=>(fun _=>False,fun g i n=>∃n' x,n=n'+1/\w.cell? ⟨g,i,none⟩=some x/\(RV ok w t).1 x/\(RV ok w l).2 g (i+1) n')
 | .skip=>(fun _=>False,fun _ _ n=>n=0)
 | _=>(fun _=>False,fun _ _ _=>False)
end Go.Proofs.YtlhkfafdioakeaaGreatDoor
namespace Go
end Go
namespace Go.Proofs.YtlhkfafdioakeaaGreatDoor
open Go.RowKit Go.Weft
set_option linter.unusedVariables false
set_option linter.unusedSimpArgs false
def CZ(k:Nat)(t:Code):List Code:=match t with
 | .block k' l=>if k'=k then AE l else[t]
 | _=>[t]
def DF(k:Nat)(l:List Code):Code:=match l with
 | [t]=>t
 | l=>.block k (Ac (l.flatMap (CZ k)))
def lv:Code->Nat
 | .exit _=>1
 | .loop t=>lv t
 | .scope t=>lv t
 | .block _ l=>lv l
 | .seq a b=>lv a+lv b
 | _=>0
def B6:Code->Code×List Code
 | .exit n=>(.exit n,[])
 | .loop t=>(.loop (B6 t).1,[])
 | .scope t=>(.scope (B6 t).1,[])
 | .block k l=>(DF k (B6 l).2,[])
 | .seq a b=>(.skip,(B6 a).1::(B6 b).2)
 | _=>(.skip,[])
def flat(t:Code):Code:=(B6 t).1
theorem Tm:∀l:List Code,(B6 (Ac l)).2=l.map flat
 | []=>rfl
 | t::l=>by show(B6 t).1::(B6 (Ac l)).2=_;rw[Tm l];rfl
def wfC:Code->Bool×Bool
 | .exit _=>(true,false)
 | .loop t=>((wfC t).1,false)
 | .scope t=>((wfC t).1,false)
 | .block _ l=>((wfC l).2,false)
 | .seq a b=>(false,(wfC a).1&&(wfC b).2)
 | .skip=>(false,true)
 | _=>(false,false)
theorem Qa:∀l:List Code,(∀t,t∈l->(wfC t).1=true)->(wfC (Ac l)).2=true
 | [],_=>rfl
 | t::l,h=>by
  show((wfC t).1&&(wfC (Ac l)).2)=true;rw[h t (by simp),Qa l (fun x hx=>h x (by simp[hx]))];rfl
theorem NJ:∀l:List Code,isT (Ac l)=l.all isT
 | []=>rfl
 | t::l=>by show(isT t&&isT (Ac l))=_;rw[NJ l];rfl
theorem NK:∀l:Code,(wfC l).2=true->(AE l).all isT=isT l
 | .skip,_=>rfl
 | .seq a b,h=>by
  have h':((wfC a).1&&(wfC b).2)=true:=h;rw[Bool.and_eq_true]at h';show(a::AE b).all isT=(isT a&&isT b);rw[List.all_cons,NK b h'.2]
theorem Qb:∀l:Code,(wfC l).2=true->∀t,t∈AE l->(wfC t).1=true
 | .skip,_,t,ht=>by cases ht
 | .seq a b,h,t,ht=>by
  have h':((wfC a).1&&(wfC b).2)=true:=h;rw[Bool.and_eq_true]at h';rcases List.mem_cons.1 (show t∈a::AE b from ht) with rfl|ht
  ·exact h'.1
  ·exact Qb b h'.2 t ht
theorem UH(k:Nat)(t:Code)(h:(wfC t).1=true):(CZ k t).all isT=isT t:=by
 unfold CZ;split
 ·rename_i k' l;split
  ·exact NK l h
  ·simp
 ·simp
theorem Z5(k:Nat)(t:Code)(h:(wfC t).1=true):∀x,x∈CZ k t->(wfC x).1=true:=by
 unfold CZ;split
 ·rename_i k' l;split
  ·exact Qb l h
  ·intro x hx;rw[List.mem_singleton]at hx;rw[hx];exact h
 ·intro x hx;rw[List.mem_singleton]at hx;rw[hx];exact h
theorem Lp(k:Nat):∀l:List Code,(∀t,t∈l->(wfC t).1=true)->(l.flatMap (CZ k)).all isT=l.all isT
 | [],_=>rfl
 | t::l,h=>by
  rw[List.flatMap_cons,List.all_append,List.all_cons,UH k t (h t (by simp)),Lp k l (fun x hx=>h x (by simp[hx]))]
theorem UI(k:Nat)(l:List Code)(h:∀t,t∈l->(wfC t).1=true):isT (DF k l)=l.all isT:=by
 unfold DF;split
 ·simp
 ·show isT (Ac _)=_;rw[NJ,Lp k l h]
theorem Z7(k:Nat)(l:List Code)(h:∀t,t∈l->(wfC t).1=true):(wfC (DF k l)).1=true:=by
 unfold DF;split
 ·exact h _ (by simp)
 ·refine Qa _ (fun t ht=>?_);obtain⟨x,hx,hy⟩:=List.mem_flatMap.1 ht;exact Z5 k x (h x hx) t hy
theorem Je:∀t:Code,((wfC t).1=true->isT (B6 t).1=isT t/\(wfC (B6 t).1).1=true)/\((wfC t).2=true->(B6 t).2.all isT=isT t/\∀x,x∈(B6 t).2->(wfC x).1=true):=by
 intro t;induction t with
 | exit n=>exact⟨fun _=>⟨rfl,rfl⟩,fun h=>by cases h⟩
 | skip=>exact⟨fun h=>(by cases h),fun _=>⟨rfl,fun x hx=>by cases hx⟩⟩
 | loop t ih=>exact⟨fun h=>⟨rfl,(ih.1 h).2⟩,fun h=>by cases h⟩
 | scope t ih=>exact⟨fun h=>⟨rfl,(ih.1 h).2⟩,fun h=>by cases h⟩
 | block k l ih=>
  refine⟨fun h=>?_,fun h=>by cases h⟩;have hl:=ih.2 h;exact⟨(UI k _ hl.2).trans hl.1,Z7 k _ hl.2⟩
 | seq a b iha ihb=>
  refine⟨fun h=>(by cases h),fun h=>?_⟩;have h':((wfC a).1&&(wfC b).2)=true:=h;rw[Bool.and_eq_true]at h';have ha:=iha.1 h'.1;have hb:=ihb.2 h'.2;refine⟨?_,fun x hx=>?_⟩
  ·show((B6 a).1::(B6 b).2).all isT=(isT a&&isT b);rw[List.all_cons,ha.1,hb.1]
  ·rcases List.mem_cons.1 (show x∈(B6 a).1::(B6 b).2 from hx) with rfl|hx
   ·exact ha.2
   ·exact hb.2 x hx
 | _=>exact⟨fun h=>(by cases h),fun h=>by cases h⟩
end Go.Proofs.YtlhkfafdioakeaaGreatDoor
