/- Parts of the proof. -/
import Derived.Test.YtlhkfafdioakeaaGreatDoorSf09
import Derived.Deep.RegionLawGrows
namespace Go.Proofs.YtlhkfafdioakeaaGreatDoor
open Go.RowKit Go.Weft
set_option linter.unusedVariables false
set_option linter.unusedSimpArgs false
def ptrV(b:Nat):Value:=.pointer (some ⟨b,0,none⟩)
def rLeaf(n:Nat):Array Value:=
 if n=0 then #[.int .u8 105,.int .i64 0,.int .i64 0,.slice none 0 0]
 else if n=1 then #[.int .u8 100,.int .i64 0,.int .i64 0,.slice none 0 0]
 else if n%2=0 then #[.int .u8 61,.int .i64 (((n-2)/2/32:Nat):Int),.int .i64 (((n-2)/2%32:Nat):Int),.slice none 0 0]
 else #[.int .u8 58,.int .i64 (((n-2)/2/32:Nat):Int),.int .i64 (((n-2)/2%32:Nat):Int),.slice none 0 0]
def xte(k:Int)(g n cap:Nat):Array Value:=#[.int .u8 k,.int .i64 0,.int .i64 0,.slice (some ⟨g,0,none⟩) n cap]
def rKind(k:Nat):Int:=if k=0 then 43 else 59
def xov(w:World)(b:Nat)(cs:Array Value):Prop:=w.heap[b]?=some (.cells cs 167 (0,0))
def xlc(n:Nat)(cs:Array Value):Prop:=(n<2+2*192/\cs=rLeaf n)\/(2+2*192<=n/\∃x y,cs=#[.int .u8 (if n%2=0 then 61 else 58),x,y,.slice none 0 0])
def RV(ok:Nat->Prop)(w:World):Code->(Value->Prop)×(Nat->Nat->Nat->Prop)
 | .exit n=>(fun v=>∃b cs,v=ptrV b/\ok b/\xov w b cs/\xlc n cs,fun _ _ _=>False)
 | .loop t=>(fun v=>∃b g cap x,v=ptrV b/\ok b/\xov w b (xte 42 g 1 cap)/\ok g/\w.cell? ⟨g,0,none⟩=some x/\(RV ok w t).1 x,fun _ _ _=>False)
 | .scope t=>(fun v=>∃b g cap x,v=ptrV b/\ok b/\xov w b (xte 33 g 1 cap)/\ok g/\w.cell? ⟨g,0,none⟩=some x/\(RV ok w t).1 x,fun _ _ _=>False)
 | .block k l=>(fun v=>∃b g n cap,v=ptrV b/\ok b/\xov w b (xte (rKind k) g n cap)/\k<=1/\ok g/\n<=5000/\2<=n/\n<=cap/\(RV ok w l).2 g 0 n,fun _ _ _=>False)
 | .seq t l=>(fun _=>False,fun g i n=>∃n' x,n=n'+1/\w.cell? ⟨g,i,none⟩=some x/\(RV ok w t).1 x/\(RV ok w l).2 g (i+1) n')
 | .skip=>(fun _=>False,fun _ _ n=>n=0)
 | _=>(fun _=>False,fun _ _ _=>False)
end Go.Proofs.YtlhkfafdioakeaaGreatDoor
namespace Go
end Go
namespace Go.Proofs.YtlhkfafdioakeaaGreatDoor
open Go.RowKit Go.Weft
set_option linter.unusedVariables false
set_option linter.unusedSimpArgs false
def flatE(k:Nat)(t:Code):List Code:=match t with
 | .block k' l=>if k'=k then elems l else [t]
 | _=>[t]
def rjoin(k:Nat)(l:List Code):Code:=match l with
 | [t]=>t
 | l=>.block k (chain (l.flatMap (flatE k)))
def lv:Code->Nat
 | .exit _=>1
 | .loop t=>lv t
 | .scope t=>lv t
 | .block _ l=>lv l
 | .seq a b=>lv a+lv b
 | _=>0
def flatP:Code->Code×List Code
 | .exit n=>(.exit n,[])
 | .loop t=>(.loop (flatP t).1,[])
 | .scope t=>(.scope (flatP t).1,[])
 | .block k l=>(rjoin k (flatP l).2,[])
 | .seq a b=>(.skip,(flatP a).1::(flatP b).2)
 | _=>(.skip,[])
def flat(t:Code):Code:=(flatP t).1
theorem xhy:∀l:List Code,(flatP (chain l)).2=l.map flat
 | []=>rfl
 | t::l=>by show (flatP t).1::(flatP (chain l)).2=_;rw [xhy l];rfl
def wfC:Code->Bool×Bool
 | .exit _=>(true,false)
 | .loop t=>((wfC t).1,false)
 | .scope t=>((wfC t).1,false)
 | .block _ l=>((wfC l).2,false)
 | .seq a b=>(false,(wfC a).1&&(wfC b).2)
 | .skip=>(false,true)
 | _=>(false,false)
theorem x03:∀l:List Code,(∀t,t∈l->(wfC t).1=true)->(wfC (chain l)).2=true
 | [],_=>rfl
 | t::l,h=>by
  show ((wfC t).1&&(wfC (chain l)).2)=true;rw [h t (by simp),x03 l (fun x hx=>h x (by simp [hx]))];rfl
theorem xj6:∀l:List Code,isT (chain l)=l.all isT
 | []=>rfl
 | t::l=>by show (isT t&&isT (chain l))=_;rw [xj6 l];rfl
theorem xj8:∀l:Code,(wfC l).2=true->(elems l).all isT=isT l
 | .skip,_=>rfl
 | .seq a b,h=>by
  have h':((wfC a).1&&(wfC b).2)=true:=h;rw [Bool.and_eq_true] at h';show (a::elems b).all isT=(isT a&&isT b);rw [List.all_cons,xj8 b h'.2]
theorem x04:∀l:Code,(wfC l).2=true->∀t,t∈elems l->(wfC t).1=true
 | .skip,_,t,ht=>by cases ht
 | .seq a b,h,t,ht=>by
  have h':((wfC a).1&&(wfC b).2)=true:=h;rw [Bool.and_eq_true] at h';rcases List.mem_cons.1 (show t∈a::elems b from ht) with rfl|ht
  ·exact h'.1
  ·exact x04 b h'.2 t ht
theorem xj9(k:Nat)(t:Code)(h:(wfC t).1=true):(flatE k t).all isT=isT t:=by
 unfold flatE;split
 ·rename_i k' l;split
  ·exact xj8 l h
  ·simp
 ·simp
theorem x05(k:Nat)(t:Code)(h:(wfC t).1=true):∀x,x∈flatE k t->(wfC x).1=true:=by
 unfold flatE;split
 ·rename_i k' l;split
  ·exact x04 l h
  ·intro x hx;rw [List.mem_singleton] at hx;rw [hx];exact h
 ·intro x hx;rw [List.mem_singleton] at hx;rw [hx];exact h
theorem xb0(k:Nat):∀l:List Code,(∀t,t∈l->(wfC t).1=true)->(l.flatMap (flatE k)).all isT=l.all isT
 | [],_=>rfl
 | t::l,h=>by
  rw [List.flatMap_cons,List.all_append,List.all_cons,xj9 k t (h t (by simp)),xb0 k l (fun x hx=>h x (by simp [hx]))]
theorem xka(k:Nat)(l:List Code)(h:∀t,t∈l->(wfC t).1=true):isT (rjoin k l)=l.all isT:=by
 unfold rjoin;split
 ·simp
 ·show isT (chain _)=_;rw [xj6,xb0 k l h]
theorem x07(k:Nat)(l:List Code)(h:∀t,t∈l->(wfC t).1=true):(wfC (rjoin k l)).1=true:=by
 unfold rjoin;split
 ·exact h _ (by simp)
 ·refine x03 _ (fun t ht=>?_);obtain ⟨x,hx,hy⟩:=List.mem_flatMap.1 ht;exact x05 k x (h x hx) t hy
theorem xh0:∀t:Code,((wfC t).1=true->isT (flatP t).1=isT t/\(wfC (flatP t).1).1=true)/\((wfC t).2=true->(flatP t).2.all isT=isT t/\∀x,x∈(flatP t).2->(wfC x).1=true):=by
 intro t;induction t with
 | exit n=>exact ⟨fun _=>⟨rfl,rfl⟩,fun h=>by cases h⟩
 | skip=>exact ⟨fun h=>(by cases h),fun _=>⟨rfl,fun x hx=>by cases hx⟩⟩
 | loop t ih=>exact ⟨fun h=>⟨rfl,(ih.1 h).2⟩,fun h=>by cases h⟩
 | scope t ih=>exact ⟨fun h=>⟨rfl,(ih.1 h).2⟩,fun h=>by cases h⟩
 | block k l ih=>
  refine ⟨fun h=>?_,fun h=>by cases h⟩;have hl:=ih.2 h;exact ⟨(xka k _ hl.2).trans hl.1,x07 k _ hl.2⟩
 | seq a b iha ihb=>
  refine ⟨fun h=>(by cases h),fun h=>?_⟩;have h':((wfC a).1&&(wfC b).2)=true:=h;rw [Bool.and_eq_true] at h';have ha:=iha.1 h'.1;have hb:=ihb.2 h'.2;refine ⟨?_,fun x hx=>?_⟩
  ·show ((flatP a).1::(flatP b).2).all isT=(isT a&&isT b);rw [List.all_cons,ha.1,hb.1]
  ·rcases List.mem_cons.1 (show x∈(flatP a).1::(flatP b).2 from hx) with rfl|hx
   ·exact ha.2
   ·exact hb.2 x hx
 | _=>exact ⟨fun h=>(by cases h),fun h=>by cases h⟩
end Go.Proofs.YtlhkfafdioakeaaGreatDoor
