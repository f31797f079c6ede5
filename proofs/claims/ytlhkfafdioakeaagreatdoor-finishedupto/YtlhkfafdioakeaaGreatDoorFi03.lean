/- Parts of the proof. -/
import Derived.Test.YtlhkfafdioakeaaGreatDoorFi01
import Derived.ChangeKeysEq
import Derived.Deep.DeepCutAuto
import Derived.Sort.Grow
import Derived.Lib.SliceRun
import Derived.Laws.OwnMore
import Derived.Shelf.SlSortCmp.WholeK
namespace Go.Proofs.YtlhkfafdioakeaaGreatDoor
set_option maxRecDepth 100000
set_option maxHeartbeats 2000000
set_option linter.unusedVariables false
set_option linter.unusedSimpArgs false
def D5(x y:Int):Int:=if x<y then -1 else if y<x then 1 else 0
theorem JX(x y:Int):D5 x y=0↔x=y:=by
 unfold D5;split
 ·omega
 ·split<;>omega
theorem SO(x y:Int):D5 x y<0↔x<y:=by
 unfold D5;split
 ·omega
 ·split<;>omega
def Di(x y:Nat->Int):Nat->Nat->Int
 | _,0=>0
 | i,n+1=>if x i=y i then Di x y (i+1) n else D5 (x i) (y i)
def BX(x y:Nat->Int):Int:=Di x y 0 6
theorem MP(x y:Nat->Int):∀n i,Di x y i n=0↔∀t,i<=t->t<i+n->x t=y t
 | 0,i=>by simp[Di];intro t h1 h2;omega
 | n+1,i=>by
  unfold Di;split
  ·rename_i h;rw[MP x y n (i+1)];constructor
   ·intro g t h1 h2;by_cases e:t=i
    ·rw[e];exact h
    ·exact g t (by omega) (by omega)
   ·intro g t h1 h2;exact g t (by omega) (by omega)
  ·rename_i h;constructor
   ·intro g;exact absurd ((JX _ _).1 g) h
   ·intro g;exact absurd (g i (by omega) (by omega)) h
theorem MN(x y:Nat->Int):∀n i,Di x y i n<0↔∃j,i<=j/\j<i+n/\(∀t,i<=t->t<j->x t=y t)/\x j<y j
 | 0,i=>by
  simp[Di];intro j h1 h2;omega
 | n+1,i=>by
  unfold Di;split
  ·rename_i h;rw[MN x y n (i+1)];constructor
   ·rintro⟨j,h1,h2,h3,h4⟩;refine⟨j,by omega,by omega,fun t ht1 ht2=>?_,h4⟩;by_cases e:t=i
    ·rw[e];exact h
    ·exact h3 t (by omega) ht2
   ·rintro⟨j,h1,h2,h3,h4⟩;have hj:j≠i:=fun e=>by rw[e]at h4;omega
    exact⟨j,by omega,by omega,fun t ht1 ht2=>h3 t (by omega) ht2,h4⟩
  ·rename_i h;rw[SO];constructor
   ·intro g;exact⟨i,by omega,by omega,fun t h1 h2=>by omega,g⟩
   ·rintro⟨j,h1,h2,h3,h4⟩;by_cases e:j=i
    ·rw[<-e];exact h4
    ·exact absurd (h3 i (by omega) (by omega)) h
def ltP(x y:Nat->Int):Prop:=∃j,j<6/\(∀t,t<j->x t=y t)/\x j<y j
theorem Ff(x y:Nat->Int):BX x y<0↔ltP x y:=by
 unfold BX ltP;rw[MN];constructor
 ·rintro⟨j,_,h2,h3,h4⟩;exact⟨j,by omega,fun t ht=>h3 t (by omega) ht,h4⟩
 ·rintro⟨j,h2,h3,h4⟩;exact⟨j,by omega,by omega,fun t _ ht=>h3 t ht,h4⟩
theorem CJ(x y:Nat->Int):BX x y=0↔∀t,t<6->x t=y t:=by
 unfold BX;rw[MP];exact⟨fun h t ht=>h t (by omega) (by omega),fun h t _ ht=>h t (by omega)⟩
theorem ltP.irrefl(x:Nat->Int):¬ltP x x:=by
 rintro⟨j,_,_,h⟩;omega
theorem ltP.trans{x y z:Nat->Int}(h:ltP x y)(g:ltP y z):ltP x z:=by
 obtain⟨j,h1,h2,h3⟩:=h;obtain⟨k,g1,g2,g3⟩:=g;rcases Nat.lt_trichotomy j k with e|e|e
 ·exact⟨j,h1,fun t ht=>(h2 t ht).trans (g2 t (by omega)),by rw[<-g2 j e];exact h3⟩
 ·subst e;exact⟨j,h1,fun t ht=>(h2 t ht).trans (g2 t ht),by omega⟩
 ·exact⟨k,g1,fun t ht=>(h2 t (by omega)).trans (g2 t ht),by rw[h2 k e];exact g3⟩
theorem Mo(x y:Nat->Int):∀n,(∀t,t<n->x t=y t)\/∃j,j<n/\(∀t,t<j->x t=y t)/\x j≠y j
 | 0=>.inl (fun t h=>by omega)
 | n+1=>by
  rcases Mo x y n with h|⟨j,h1,h2,h3⟩
  ·by_cases e:x n=y n
   ·exact .inl (fun t ht=>by
     by_cases e2:t=n
     ·rw[e2];exact e
     ·exact h t (by omega))
   ·exact .inr ⟨n,by omega,h,e⟩
  ·exact .inr ⟨j,by omega,h2,h3⟩
theorem ltP.total(x y:Nat->Int):ltP x y\/ltP y x\/∀t,t<6->x t=y t:=by
 rcases Mo x y 6 with h|⟨j,h1,h2,h3⟩
 ·exact .inr (.inr h)
 ·rcases Int.lt_or_lt_of_ne h3 with g|g
  ·exact .inl ⟨j,h1,h2,g⟩
  ·exact .inr (.inl ⟨j,h1,fun t ht=>(h2 t ht).symm,g⟩)
theorem ltP.cong{x y z:Nat->Int}(h:ltP x y)(g:∀t,t<6->y t=z t):ltP x z:=by
 obtain⟨j,h1,h2,h3⟩:=h;exact⟨j,h1,fun t ht=>(h2 t ht).trans (g t (by omega)),by rw[<-g j h1];exact h3⟩
theorem ltP.congL{x y z:Nat->Int}(h:ltP x y)(g:∀t,t<6->x t=z t):ltP z y:=by
 obtain⟨j,h1,h2,h3⟩:=h;exact⟨j,h1,fun t ht=>(g t (by omega)).symm.trans (h2 t ht),by rw[<-g j h1];exact h3⟩
theorem ltP.ntrans{x y z:Nat->Int}(h:¬ltP x y)(g:¬ltP y z):¬ltP x z:=by
 intro k;rcases ltP.total y x with h1|h1|h1
 ·exact g (h1.trans k)
 ·exact h h1
 ·exact g (k.congL (fun t ht=>(h1 t ht).symm))
def Nm(x:Nat->Int):Prop:=∀i,6<=i->x i=0
theorem Nm.ext{x y:Nat->Int}(h:Nm x)(g:Nm y)(e:∀t,t<6->x t=y t):x=y:=by
 funext i;by_cases c:i<6
 ·exact e i c
 ·rw[h i (by omega),g i (by omega)]
def Da(k:Nat->Int):List (Nat->Int)->List (Nat->Int)
 | []=>[k]
 | x::r=>if BX x k<0 then x::Da k r else if BX x k=0 then x::r else k::x::r
def setS(l:List (Nat->Int)):List (Nat->Int):=l.foldl (fun s k=>Da k s) []
def Srt(l:List (Nat->Int)):Prop:=l.Pairwise ltP
theorem Jk{k:Nat->Int}(hk:Nm k):∀{l:List (Nat->Int)},(∀x∈l,Nm x)->∀x,x∈Da k l↔x=k\/x∈l
 | [],_,x=>by simp[Da]
 | y::r,hn,x=>by
  unfold Da;split
  ·rw[List.mem_cons,Jk hk (fun z hz=>hn z (List.mem_cons_of_mem _ hz)),List.mem_cons];constructor
   ·rintro(h|h|h)
    ·exact .inr (.inl h)
    ·exact .inl h
    ·exact .inr (.inr h)
   ·rintro(h|h|h)
    ·exact .inr (.inl h)
    ·exact .inl h
    ·exact .inr (.inr h)
  ·split
   ·rename_i _ h0;have e:y=k:=(hn y (by simp)).ext hk ((CJ _ _).1 h0);simp[e]
   ·simp
theorem NE{k:Nat->Int}(hk:Nm k):∀{l:List (Nat->Int)},(∀x∈l,Nm x)->Srt l->Srt (Da k l)
 | [],_,_=>by simp[Da,Srt]
 | y::r,hn,hs=>by
  unfold Srt at hs ⊢;rw[List.pairwise_cons]at hs;unfold Da;split
  ·rename_i h;rw[List.pairwise_cons];refine⟨fun z hz=>?_,NE hk (fun z hz=>hn z (List.mem_cons_of_mem _ hz)) hs.2⟩;rcases(Jk hk (fun z hz=>hn z (List.mem_cons_of_mem _ hz)) z).1 hz with e|e
   ·rw[e];exact(Ff _ _).1 h
   ·exact hs.1 z e
  ·split
   ·rw[List.pairwise_cons];exact hs
   ·rename_i h1 h2
    have hlt:ltP k y:=by
     rcases ltP.total y k with h|h|h
     ·exact absurd ((Ff _ _).2 h) h1
     ·exact h
     ·exact absurd ((CJ _ _).2 h) h2
    rw[List.pairwise_cons,List.pairwise_cons]
    exact⟨fun z hz=>by
     rcases List.mem_cons.1 hz with e|e
     ·rw[e];exact hlt
     ·exact hlt.trans (hs.1 z e),hs⟩
theorem Mz{l:List (Nat->Int)}:∀{s:List (Nat->Int)},(∀x∈l,Nm x)->(∀x∈s,Nm x)->Srt s->Srt (l.foldl (fun s k=>Da k s) s)/\∀x,x∈l.foldl (fun s k=>Da k s) s↔x∈l\/x∈s:=by
 induction l with
 | nil=>intro s _ _ hs;exact⟨hs,fun x=>by simp⟩
 | cons k l ih=>
  intro s hl hn hs;have hk:=hl k (by simp);have hm:=Jk hk hn
  obtain⟨h1,h2⟩:=ih (s:=Da k s) (fun x hx=>hl x (List.mem_cons_of_mem _ hx)) (fun x hx=>by
   rcases(hm x).1 hx with e|e
   ·rw[e];exact hk
   ·exact hn x e) (NE hk hn hs)
  refine⟨h1,fun x=>?_⟩;rw[List.foldl_cons,h2,hm,List.mem_cons];constructor
  ·rintro(h|h|h)
   ·exact .inl (.inr h)
   ·exact .inl (.inl h)
   ·exact .inr h
  ·rintro((h|h)|h)
   ·exact .inr (.inl h)
   ·exact .inl h
   ·exact .inr (.inr h)
theorem Iw{l:List (Nat->Int)}(hl:∀x∈l,Nm x):Srt (setS l):=(Mz (s:=[]) hl (fun x hx=>by simp at hx) (by simp[Srt])).1
theorem FP{l:List (Nat->Int)}(hl:∀x∈l,Nm x)(x:Nat->Int):x∈setS l↔x∈l:=by
 have:=(Mz (s:=[]) hl (fun x hx=>by simp at hx) (by simp[Srt])).2 x;unfold setS;rw[this];simp
theorem Kt:∀{l m:List (Nat->Int)},Srt l->Srt m->(∀x,x∈l↔x∈m)->l=m
 | [],[],_,_,_=>rfl
 | [],y::m,_,_,h=>by have:=(h y).2 (by simp);simp at this
 | x::l,[],_,_,h=>by have:=(h x).1 (by simp);simp at this
 | x::l,y::m,hl,hm,h=>by
  unfold Srt at hl hm;rw[List.pairwise_cons]at hl hm
  have e:x=y:=by
   rcases List.mem_cons.1 ((h x).1 (by simp)) with a|a
   ·exact a
   ·rcases List.mem_cons.1 ((h y).2 (by simp)) with b|b
    ·exact b.symm
    ·exact absurd ((hm.1 x a).trans (hl.1 y b)) (ltP.irrefl _)
  subst e;have hx1:x∉l:=fun g=>ltP.irrefl _ (hl.1 x g)
  have hx2:x∉m:=fun g=>ltP.irrefl _ (hm.1 x g)
  rw[Kt (l:=l) (m:=m) hl.2 hm.2 (fun z=>by
   constructor
   ·intro g;rcases List.mem_cons.1 ((h z).1 (List.mem_cons_of_mem _ g)) with a|a
    ·rw[a]at g;exact absurd g hx1
    ·exact a
   ·intro g;rcases List.mem_cons.1 ((h z).2 (List.mem_cons_of_mem _ g)) with a|a
    ·rw[a]at g;exact absurd g hx2
    ·exact a)]
def CK(d:Nat->Nat->Int):Nat->List (Nat->Int)
 | 0=>[]
 | n+1=>if n≠0/\BX (d n) (d (n-1))=0 then CK d n else CK d n++[d n]
theorem JZ{d:Nat->Nat->Int}:∀{n:Nat},(∀j,j<n->Nm (d j))->∀x,x∈CK d n↔∃j,j<n/\x=d j
 | 0,_,x=>by simp[CK]
 | n+1,hn,x=>by
  have ih:=JZ (d:=d) (n:=n) (fun j hj=>hn j (by omega)) x;unfold CK;split
  ·rename_i h;rw[ih];constructor
   ·rintro⟨j,h1,h2⟩;exact⟨j,by omega,h2⟩
   ·rintro⟨j,h1,h2⟩;by_cases e:j=n
    ·refine⟨n-1,by omega,?_⟩;rw[h2,e];exact(hn n (by omega)).ext (hn (n-1) (by omega)) ((CJ _ _).1 h.2)
    ·exact⟨j,by omega,h2⟩
  ·rw[List.mem_append,ih];simp only[List.mem_singleton];constructor
   ·rintro(⟨j,h1,h2⟩|h)
    ·exact⟨j,by omega,h2⟩
    ·exact⟨n,by omega,h⟩
   ·rintro⟨j,h1,h2⟩;by_cases e:j=n
    ·rw[e]at h2;exact .inr h2
    ·exact .inl ⟨j,by omega,h2⟩
theorem MT{d:Nat->Nat->Int}:∀{n:Nat},(∀j,j<n->Nm (d j))->(∀i j,i<j->j<n->¬ltP (d j) (d i))->Srt (CK d n)
 | 0,_,_=>by simp[CK,Srt]
 | n+1,hn,hs=>by
  have ih:=MT (d:=d) (n:=n) (fun j hj=>hn j (by omega)) (fun i j h1 h2=>hs i j h1 (by omega));unfold CK;split
  ·exact ih
  ·rename_i h;unfold Srt at ih ⊢;rw[List.pairwise_append];refine⟨ih,by simp,fun x hx y hy=>?_⟩;simp only[List.mem_singleton]at hy;subst hy;obtain⟨j,hj,rfl⟩:=(JZ (d:=d) (n:=n) (fun j hj=>hn j (by omega)) x).1 hx
   have h1:ltP (d (n-1)) (d n):=by
    rcases ltP.total (d (n-1)) (d n) with g|g|g
    ·exact g
    ·exact absurd g (hs (n-1) n (by omega) (by omega))
    ·exact absurd ⟨by omega,(CJ _ _).2 (fun t ht=>(g t ht).symm)⟩ h
   by_cases e:j=n-1
   ·rw[e];exact h1
   ·have h2:=hs j (n-1) (by omega) (by omega);rcases ltP.total (d j) (d (n-1)) with g|g|g
    ·exact g.trans h1
    ·exact absurd g h2
    ·exact h1.congL (fun t ht=>(g t ht).symm)
theorem SZ{d:Nat->Nat->Int}{n:Nat}{l:List (Nat->Int)}(hn:∀j,j<n->Nm (d j))(hs:∀i j,i<j->j<n->¬ltP (d j) (d i))(hl:∀x∈l,Nm x)(hm:∀x,x∈l↔∃j,j<n/\x=d j):CK d n=setS l:=
 Kt (MT hn hs) (Iw hl) (fun x=>by rw[JZ hn,FP hl,hm])
open Go.RowKit
def pkA(k:Nat->Int):Array Value:=#[.int .i64 (k 0),.int .i64 (k 1),.int .i64 (k 2),.int .i64 (k 3),.int .i64 (k 4),.int .i64 (k 5)]
def pkV(k:Nat->Int):Value:=.agg (pkA k)
def okF(v:Int):Prop:=0<=v/\v<=31
def okP(v:Int):Prop:=-1<=v/\v<=31
def BC(k:Nat->Int):Prop:=∀i,i<6->okF (k i)
def E7(k:Nat->Int):Prop:=k 0=-1/\∀i,i<6->okP (k i)
def Aq(p:Prop)(w:World)(e:Ending)(w':World):Prop:=(∃b:Bool,e=.returned (.bool b)/\(b=true↔p))/\w.grownBy w' none
def AD(w:World)(b:Nat)(k:Nat->Int):Prop:=w.heap[b]?=some (.cells (pkA k) 46 (0,0))
theorem Wj(k:Nat->Int)(i:Nat)(h:i<6):(pkA k)[i]?=some (.int .i64 (k i)):=by
 rcases(show i=0\/i=1\/i=2\/i=3\/i=4\/i=5 by omega) with rfl|rfl|rfl|rfl|rfl|rfl<;>rfl
theorem AD.cell{w:World}{b:Nat}{k:Nat->Int}(h:AD w b k)(i:Nat)(hi:i<6):w.cell? ⟨b,i,none⟩=some (.int .i64 (k i)):=by
 unfold AD at h;have:=Wj k i hi;simp only[World.cell?,h];simpa using this
theorem AD.frozen{w:World}{b:Nat}{k:Nat->Int}(h:AD w b k)(i:Nat):w.frozen? ⟨b,i,none⟩=false:=by
 unfold AD at h;simp[World.frozen?,h]
theorem AD.grown{w w':World}{b:Nat}{k:Nat->Int}{row:Option Nat}(h:AD w b k)(hg:w.grownBy w' row)(hr:row≠some b):AD w' b k:=by
 unfold AD at *;rw[hg.block b (Array.getElem?_eq_some_iff.1 h).1 hr.symm,h]
theorem AD.alloc(w:World)(k:Nat->Int):AD (w.alloc (.cells (pkA k) 46)) w.heap.size k:=by
 unfold AD;exact heap_alloc_new w _
theorem AD.set{w:World}{b:Nat}{k:Nat->Int}(h:AD w b k)(i:Nat)(hi:i<6)(x:Int):AD (w.setCell ⟨b,i,none⟩ (.int .i64 x)) b (fun j=>if j=i then x else k j):=by
 unfold AD at *;rw[AI h];congr 2;rcases(show i=0\/i=1\/i=2\/i=3\/i=4\/i=5 by omega) with rfl|rfl|rfl|rfl|rfl|rfl<;>simp[pkA]
@[go_sem] theorem Tryz.indexPk(k:Nat->Int)(i:Nat)(h:i<6)(w:World):Sem.run Tryz.prog (Instr.index 46 (.agg #[.int .i64 (k 0),.int .i64 (k 1),.int .i64 (k 2),.int .i64 (k 3),.int .i64 (k 4),.int .i64 (k 5)]) (.int .i64 (i:Int))) w=.ok (.int .i64 (k i)) w:=by
 rcases(show i=0\/i=1\/i=2\/i=3\/i=4\/i=5 by omega) with rfl|rfl|rfl|rfl|rfl|rfl<;>kernel_rfl
theorem Hl(k:Nat->Int)(w:World):Calls Tryz.prog 55 #[pkV k] w (Aq (BC k) w):=by
 unfold pkV pkA;go_enter Tryz.func55,Tryz.ntmps55;go_wp2;go_loopw [6] (fun i wr=>∃j:Nat,j<=6/\i=.int .i64 j/\(∀i,i<j->okF (k i))/\w.grownBy wr none) (fun i _=>6-(intOf i).toNat)
 case atStart=>exact⟨0,by omega,rfl,fun i hi=>by omega,World.grownBy_alloc _ _ _⟩
 case round=>
  obtain⟨j,hj,rfl,hok,hg⟩:=hrel;have HOK:=A0 hok;have HG:=A0 hg;clear hok hg;by_cases hlt:j<6
  ·obtain⟨x,hx⟩:∃x,x=k j:=⟨_,rfl⟩;have hix:=Tryz.indexPk k j hlt wr;rw[<-hx]at hix;by_cases h1:x<0
   ·go_wp2;go_ret;exact⟨⟨false,rfl,by simp;intro hh;have:=(hh j hlt).1;omega⟩,HG.o⟩
   ·by_cases h2:31<x
    ·go_wp2;go_ret;exact⟨⟨false,rfl,by simp;intro hh;have:=(hh j hlt).2;omega⟩,HG.o⟩
    ·go_wp2;go_roundw
     case rel=>exact⟨j+1,by omega,by go_num,fun i hi=>by
      by_cases e:i=j
      ·subst e;rw[<-hx];exact⟨by omega,by omega⟩
      ·exact HOK.o i (by omega),HG.o⟩
     case measure=>simp[intOf];omega
  ·go_wp2;go_ret;exact⟨⟨true,rfl,by simp;intro i hi;exact HOK.o i (by omega)⟩,HG.o⟩
def eq6(a0 a1 a2 a3 a4 a5 b0 b1 b2 b3 b4 b5:Int):Bool:=a0 == b0&&(a1 == b1&&(a2 == b2&&(a3 == b3&&(a4 == b4&&(a5 == b5)))))
theorem Tryz.part6(a0 a1 a2 a3 a4 a5:Int)(i:Nat)(h:i<6)(w:World):(part 3 #[.int .i64 a0,.int .i64 a1,.int .i64 a2,.int .i64 a3,.int .i64 a4,.int .i64 a5] i).run Tryz.prog w=.ok (.int .i64 (match i with|0=>a0|1=>a1|2=>a2|3=>a3|4=>a4|_=>a5)) w:=by
 rcases(show i=0\/i=1\/i=2\/i=3\/i=4\/i=5 by omega) with rfl|rfl|rfl|rfl|rfl|rfl<;>kernel_rfl
@[go_sem] theorem Tryz.eqPk(a0 a1 a2 a3 a4 a5 b0 b1 b2 b3 b4 b5:Int)(w:World):
  Sem.run Tryz.prog (Op.equalIn 10000 46 (.agg #[.int .i64 a0,.int .i64 a1,.int .i64 a2,.int .i64 a3,.int .i64 a4,.int .i64 a5]) (.agg #[.int .i64 b0,.int .i64 b1,.int .i64 b2,.int .i64 b3,.int .i64 b4,.int .i64 b5])) w=.ok (eq6 a0 a1 a2 a3 a4 a5 b0 b1 b2 b3 b4 b5) w:=by
 obtain⟨i0,hi0⟩:∃i0,Tryz.prog.info? 3=some i0:=by
  cases h:Tryz.prog.info? 3 with
  | none=>exact absurd h (by have:(Tryz.prog.info? 3).isSome=true:=by kernel_rfl
                             intro e;rw[e]at this;cases this)
  | some i=>exact⟨i,rfl⟩
 have hu:Tryz.prog.underlying 46=some (.array 6 3):=by kernel_rfl
 have hc:Tryz.prog.cellsOf 3=1:=by kernel_rfl
 have h3:Tryz.prog.underlying 3=some (.int .i64):=by kernel_rfl
 rw[run_equalIn_array w 9999 _ _ hu hi0,hc];rw[show List.range 6=[0,1,2,3,4,5] from rfl];have hs:∀x y:Int,∀w:World,(Op.equalIn 9999 3 (.int .i64 x) (.int .i64 y)).run Tryz.prog w=.ok (x == y) w:=fun x y w=>run_equalIn_int w 9998 3 .i64 .i64 x y h3
 have st:∀(i:Nat) (is:List Nat) (x y:Int),i<6->(part 3 #[.int .i64 a0,.int .i64 a1,.int .i64 a2,.int .i64 a3,.int .i64 a4,.int .i64 a5] i).run Tryz.prog w=.ok (.int .i64 x) w->(part 3 #[.int .i64 b0,.int .i64 b1,.int .i64 b2,.int .i64 b3,.int .i64 b4,.int .i64 b5] i).run Tryz.prog w=.ok (.int .i64 y) w->
   (Op.eqItems 9999 3 1 #[.int .i64 a0,.int .i64 a1,.int .i64 a2,.int .i64 a3,.int .i64 a4,.int .i64 a5] #[.int .i64 b0,.int .i64 b1,.int .i64 b2,.int .i64 b3,.int .i64 b4,.int .i64 b5] (i::is)).run Tryz.prog w=if (x == y)=true then(Op.eqItems 9999 3 1 #[.int .i64 a0,.int .i64 a1,.int .i64 a2,.int .i64 a3,.int .i64 a4,.int .i64 a5] #[.int .i64 b0,.int .i64 b1,.int .i64 b2,.int .i64 b3,.int .i64 b4,.int .i64 b5] is).run Tryz.prog w else .ok false w:=by
  intro i is x y hi h1 h2;rw[Op.eqItems];simp only[Sem.run_bind,Nat.mul_one,h1,h2,Result.andThen_ok,hs];cases x == y<;>simp[Sem.run_pure]
 have p:=fun i h=>Tryz.part6 a0 a1 a2 a3 a4 a5 i h w
 have q:=fun i h=>Tryz.part6 b0 b1 b2 b3 b4 b5 i h w
 rw[st 0 _ _ _ (by decide) (p 0 (by decide)) (q 0 (by decide)),st 1 _ _ _ (by decide) (p 1 (by decide)) (q 1 (by decide)),st 2 _ _ _ (by decide) (p 2 (by decide)) (q 2 (by decide)),st 3 _ _ _ (by decide) (p 3 (by decide)) (q 3 (by decide)),st 4 _ _ _ (by decide) (p 4 (by decide)) (q 4 (by decide)),st 5 _ _ _ (by decide) (p 5 (by decide)) (q 5 (by decide))];have e:(Op.eqItems 9999 3 1 #[.int .i64 a0,.int .i64 a1,.int .i64 a2,.int .i64 a3,.int .i64 a4,.int .i64 a5] #[.int .i64 b0,.int .i64 b1,.int .i64 b2,.int .i64 b3,.int .i64 b4,.int .i64 b5] []).run Tryz.prog w=.ok true w:=by simp[Op.eqItems,Sem.run_pure]
 rw[e];unfold eq6;clear e st p q hs;cases a0 == b0<;>cases a1 == b1<;>cases a2 == b2<;>cases a3 == b3<;>cases a4 == b4<;>cases a5 == b5<;>rfl
def AG(w:World)(v:Value)(n:Nat)(ps:Nat->Nat->Int):Prop:=
 (v=.slice none 0 0/\n=0)\/∃g off cap,v=.slice (some ⟨g,off,none⟩) n cap/\n<=3000000000000/\∀j,j<n->∀i,i<6->w.cell? ⟨g,off+j*6+i,none⟩=some (.int .i64 (ps j i))
theorem AG.grown{w w':World}{v:Value}{n:Nat}{ps:Nat->Nat->Int}(h:AG w v n ps)(hg:w.grownBy w' none):AG w' v n ps:=by
 rcases h with h|⟨g,off,cap,h1,h2,h3⟩
 ·exact .inl h
 ·exact .inr ⟨g,off,cap,h1,h2,fun j hj i hi=>hg.cell (h3 j hj i hi) (by simp)⟩
theorem Lo(p:(Nat->Int)->Prop)(hfn:∀k w,Calls Tryz.prog 55 #[pkV k] w (Aq (p k) w))(v:Value)(n:Nat)(ps:Nat->Nat->Int)(w:World)(h:AG w v n ps):
  Calls Tryz.prog 280 #[v,.func (.func 55) #[] #[]] w (Aq (∀j,j<n->p (ps j)) w):=by
 rcases h with⟨rfl,rfl⟩|⟨g,off,cap,rfl,hn,hcell⟩
 ·go_enter Tryz.func280,Tryz.ntmps280;go_wp2;go_loopw [9] (fun i wr=>i=.int .i64 0/\wr=w) (fun i _=>0)
  case atStart=>exact⟨rfl,rfl⟩
  case round=>
   obtain⟨rfl,rfl⟩:=hrel;go_wp2;go_ret;exact⟨⟨true,rfl,by simp⟩,AA _ _⟩
 ·have HF:=A0 hfn;have HC:=A0 hcell;clear hfn hcell;unfold pkV pkA at HF;go_enter Tryz.func280,Tryz.ntmps280;go_wp2;go_loopw [9] (fun i wr=>∃j:Nat,j<=n/\i=.int .i64 j/\(∀i,i<j->p (ps i))/\w.grownBy wr none) (fun i _=>n-(intOf i).toNat)
  case atStart=>exact⟨0,by omega,rfl,fun i hi=>by omega,AA _ _⟩
  case round=>
   obtain⟨j,hj,rfl,hok,hg⟩:=hrel;have HOK:=A0 hok;have HG:=A0 hg;clear hok hg;by_cases hlt:j<n
   ·obtain⟨k,hk⟩:∃k,k=ps j:=⟨_,rfl⟩;have c0:wr.cell? ⟨g,off+j*6,none⟩=some (.int .i64 (k 0)):=by rw[hk];exact HG.o.cell (HC.o j hlt 0 (by omega)) (by simp)
    have c1:wr.cell? ⟨g,off+j*6+1,none⟩=some (.int .i64 (k 1)):=by rw[hk];exact HG.o.cell (HC.o j hlt 1 (by omega)) (by simp)
    have c2:wr.cell? ⟨g,off+j*6+2,none⟩=some (.int .i64 (k 2)):=by rw[hk];exact HG.o.cell (HC.o j hlt 2 (by omega)) (by simp)
    have c3:wr.cell? ⟨g,off+j*6+3,none⟩=some (.int .i64 (k 3)):=by rw[hk];exact HG.o.cell (HC.o j hlt 3 (by omega)) (by simp)
    have c4:wr.cell? ⟨g,off+j*6+4,none⟩=some (.int .i64 (k 4)):=by rw[hk];exact HG.o.cell (HC.o j hlt 4 (by omega)) (by simp)
    have c5:wr.cell? ⟨g,off+j*6+5,none⟩=some (.int .i64 (k 5)):=by rw[hk];exact HG.o.cell (HC.o j hlt 5 (by omega)) (by simp)
    have HK:=A0 hk;clear hk;go_wp2_with fail;refine(HF.o k _).mono ?_;rintro e w1 ⟨⟨b,rfl,hb⟩,hg1⟩;have G1:=A0 hg1;have HB:=A0 hb;clear hb hg1;cases b
    ·go_wp2;go_ret;exact⟨⟨false,rfl,by simp;exact⟨j,hlt,fun h=>by have:=HB.o.2 (by rw[HK.o];exact h);simp at this⟩⟩,A1 (A1 HG.o (World.grownBy_alloc _ _ _)) G1.o⟩
    ·go_wp2;go_roundw
     case rel=>exact⟨j+1,by omega,by go_num,fun i hi=>by
      by_cases e:i=j
      ·subst e;rw[<-HK.o];exact HB.o.1 (by simp)
      ·exact HOK.o i (by omega),A1 (A1 HG.o (World.grownBy_alloc _ _ _)) G1.o⟩
     case measure=>simp[intOf];omega
   ·go_wp2;go_ret;exact⟨⟨true,rfl,by simp;intro i hi;exact HOK.o i (by omega)⟩,HG.o⟩
theorem RT(p:(Nat->Int)->Prop)(hfn:∀k w,Calls Tryz.prog 283 #[pkV k] w (Aq (p k) w))(v:Value)(n:Nat)(ps:Nat->Nat->Int)(w:World)(h:AG w v n ps):
  Calls Tryz.prog 280 #[v,.func (.func 283) #[] #[]] w (Aq (∀j,j<n->p (ps j)) w):=by
 rcases h with⟨rfl,rfl⟩|⟨g,off,cap,rfl,hn,hcell⟩
 ·go_enter Tryz.func280,Tryz.ntmps280;go_wp2;go_loopw [9] (fun i wr=>i=.int .i64 0/\wr=w) (fun i _=>0)
  case atStart=>exact⟨rfl,rfl⟩
  case round=>
   obtain⟨rfl,rfl⟩:=hrel;go_wp2;go_ret;exact⟨⟨true,rfl,by simp⟩,AA _ _⟩
 ·have HF:=A0 hfn;have HC:=A0 hcell;clear hfn hcell;unfold pkV pkA at HF;go_enter Tryz.func280,Tryz.ntmps280;go_wp2;go_loopw [9] (fun i wr=>∃j:Nat,j<=n/\i=.int .i64 j/\(∀i,i<j->p (ps i))/\w.grownBy wr none) (fun i _=>n-(intOf i).toNat)
  case atStart=>exact⟨0,by omega,rfl,fun i hi=>by omega,AA _ _⟩
  case round=>
   obtain⟨j,hj,rfl,hok,hg⟩:=hrel;have HOK:=A0 hok;have HG:=A0 hg;clear hok hg;by_cases hlt:j<n
   ·obtain⟨k,hk⟩:∃k,k=ps j:=⟨_,rfl⟩;have c0:wr.cell? ⟨g,off+j*6,none⟩=some (.int .i64 (k 0)):=by rw[hk];exact HG.o.cell (HC.o j hlt 0 (by omega)) (by simp)
    have c1:wr.cell? ⟨g,off+j*6+1,none⟩=some (.int .i64 (k 1)):=by rw[hk];exact HG.o.cell (HC.o j hlt 1 (by omega)) (by simp)
    have c2:wr.cell? ⟨g,off+j*6+2,none⟩=some (.int .i64 (k 2)):=by rw[hk];exact HG.o.cell (HC.o j hlt 2 (by omega)) (by simp)
    have c3:wr.cell? ⟨g,off+j*6+3,none⟩=some (.int .i64 (k 3)):=by rw[hk];exact HG.o.cell (HC.o j hlt 3 (by omega)) (by simp)
    have c4:wr.cell? ⟨g,off+j*6+4,none⟩=some (.int .i64 (k 4)):=by rw[hk];exact HG.o.cell (HC.o j hlt 4 (by omega)) (by simp)
    have c5:wr.cell? ⟨g,off+j*6+5,none⟩=some (.int .i64 (k 5)):=by rw[hk];exact HG.o.cell (HC.o j hlt 5 (by omega)) (by simp)
    have HK:=A0 hk;clear hk;go_wp2_with fail;refine(HF.o k _).mono ?_;rintro e w1 ⟨⟨b,rfl,hb⟩,hg1⟩;have G1:=A0 hg1;have HB:=A0 hb;clear hb hg1;cases b
    ·go_wp2;go_ret;exact⟨⟨false,rfl,by simp;exact⟨j,hlt,fun h=>by have:=HB.o.2 (by rw[HK.o];exact h);simp at this⟩⟩,A1 (A1 HG.o (World.grownBy_alloc _ _ _)) G1.o⟩
    ·go_wp2;go_roundw
     case rel=>exact⟨j+1,by omega,by go_num,fun i hi=>by
      by_cases e:i=j
      ·subst e;rw[<-HK.o];exact HB.o.1 (by simp)
      ·exact HOK.o i (by omega),A1 (A1 HG.o (World.grownBy_alloc _ _ _)) G1.o⟩
     case measure=>simp[intOf];omega
   ·go_wp2;go_ret;exact⟨⟨true,rfl,by simp;intro i hi;exact HOK.o i (by omega)⟩,HG.o⟩
def Cj(k:Nat->Int)(j i:Nat):Int:=if i<j/\k i=-1 then 0 else k i
theorem Vw(k:Nat->Int):Cj k 0=k:=by funext i;simp[Cj]
theorem Vv{k:Nat->Int}{j:Nat}(h:k j=-1):(fun i=>if i=j then 0 else Cj k j i)=Cj k (j+1):=by
 funext i;by_cases e:i=j
 ·subst e;simp[Cj,h]
 ·simp only[if_neg e,Cj];by_cases e2:i<j
  ·simp[e2,show i<j+1 by omega]
  ·simp[e2,show ¬i<j+1 by omega]
theorem Vt{k:Nat->Int}{j:Nat}(h:k j ≠ -1):Cj k j=Cj k (j+1):=by
 funext i;by_cases e:i=j
 ·subst e;simp[Cj,h]
 ·simp only[Cj];by_cases e2:i<j
  ·simp[e2,show i<j+1 by omega]
  ·simp[e2,show ¬i<j+1 by omega]
theorem Vu(k:Nat->Int)(h0:k 0=-1):BC (Cj k 6)↔E7 k:=by
 constructor
 ·intro h;refine⟨h0,fun i hi=>?_⟩;have:=h i hi;unfold okF Cj at this;unfold okP;by_cases e:k i=-1
  ·omega
  ·simp[hi,e]at this;omega
 ·intro h i hi;have:=h.2 i hi;unfold okP at this;unfold okF Cj;by_cases e:k i=-1
  ·simp[hi,e]
  ·simp[hi,e];omega
theorem Ol(k:Nat->Int)(w:World):Calls Tryz.prog 283 #[pkV k] w (Aq (E7 k) w):=by
 have HB:=A0 (AD.alloc w k);unfold pkA at HB;unfold pkV pkA;go_enter Tryz.func283,Tryz.ntmps283;by_cases h0:k 0=-1
 ·have H0:=A0 h0;have h1:k 0 <= -1:=by omega
  have h2:-1<=k 0:=by omega
  clear h0;go_wp2;go_loopw [9] (fun i wr=>∃j:Nat,j<=6/\i=.int .i64 j/\AD wr w.heap.size (Cj k j)/\w.grownBy wr none) (fun i _=>6-(intOf i).toNat)
  case atStart=>exact⟨0,by omega,rfl,by rw[Vw];exact HB.o,World.grownBy_alloc _ _ _⟩
  case round=>
   obtain⟨j,hj,rfl,hb,hg⟩:=hrel;have HG:=A0 hg;have HP:=A0 hb;clear hg hb h1 h2;by_cases hlt:j<6
   ·obtain⟨x,hx⟩:∃x,x=k j:=⟨_,rfl⟩;have HX:=A0 hx;have hix:=Tryz.indexPk k j hlt wr;rw[<-hx]at hix;clear hx;by_cases h3:x=-1
    ·have H3:=A0 h3;have h4:x <= -1:=by omega
     have h5:-1<=x:=by omega
     clear h3;have c1:=HP.o.cell j hlt;have c2:=HP.o.frozen j;go_wp2;go_roundw
     case rel=>
      have:=HP.o.set j hlt 0;rw[Vv (by rw[<-HX.o];exact H3.o)]at this;exact⟨j+1,by omega,by go_num,this,AR HG.o (A7 _ _ _ _) (Nat.le_refl _)⟩
     case measure=>simp[intOf];omega
    ·go_wp2;go_roundw
     case rel=>
      have:=HP.o;rw[Vt (by rw[<-HX.o];exact h3)]at this;exact⟨j+1,by omega,by go_num,this,HG.o⟩
     case measure=>simp[intOf];omega
   ·obtain rfl:j=6:=by omega
    have c0:=HP.o.cell 0 (by omega);have c1:=HP.o.cell 1 (by omega);have c2:=HP.o.cell 2 (by omega);have c3:=HP.o.cell 3 (by omega);have c4:=HP.o.cell 4 (by omega);have c5:=HP.o.cell 5 (by omega);obtain⟨q,hq⟩:∃q,q=Cj k 6:=⟨_,rfl⟩;rw[<-hq]at c0 c1 c2 c3 c4 c5;have HQ:=A0 hq;clear hq;have HR:=A0 (Hl q wr);unfold pkV pkA at HR;go_wp2_with fail;refine HR.o.mono ?_;rintro e w1 ⟨⟨b,rfl,hb⟩,hg1⟩;have G1:=A0 hg1;have HB:=A0 hb;clear hb hg1;go_wp2;go_ret;exact⟨⟨b,rfl,by rw[HB.o,HQ.o];exact Vu k H0.o⟩,A1 HG.o G1.o⟩
 ·go_wp2;go_ret;exact⟨⟨false,rfl,by simp;intro hh;exact h0 hh.1⟩,World.grownBy_alloc _ _ _⟩
theorem SP(x y:Int)(w:World):Calls Tryz.prog 214 #[.int .i64 x,.int .i64 y] w fun e w'=>e=.returned (.int .i64 (D5 x y))/\w'=w:=by
 unfold D5;by_cases h1:x<y
 ·rw[if_pos h1];go_enter Tryz.func214,Tryz.ntmps214;go_wp2;go_ret;exact⟨rfl,rfl⟩
 ·rw[if_neg h1];by_cases h2:y<x
  ·rw[if_pos h2];go_enter Tryz.func214,Tryz.ntmps214;go_wp2;go_ret;exact⟨rfl,rfl⟩
  ·rw[if_neg h2];go_enter Tryz.func214,Tryz.ntmps214;go_wp2;go_ret;exact⟨rfl,rfl⟩
theorem MJ(x y:Nat->Int):∀n i j,i<=j->j<i+n->(∀t,i<=t->t<j->x t=y t)->x j≠y j->Di x y i n=D5 (x j) (y j)
 | 0,i,j,h1,h2,_,_=>by omega
 | n+1,i,j,h1,h2,h3,h4=>by
  unfold Di;by_cases e:i=j
  ·rw[e,if_neg h4]
  ·rw[if_pos (h3 i (by omega) (by omega))];exact MJ x y n (i+1) j (by omega) (by omega) (fun t a b=>h3 t (by omega) b) h4
theorem SQ(x y:Nat->Int)(j:Nat)(hj:j<6)(h:∀t,t<j->x t=y t)(hne:x j≠y j):BX x y=D5 (x j) (y j):=
 MJ x y 6 0 j (by omega) (by omega) (fun t _ ht=>h t ht) hne
theorem Xq(b c:Nat)(x y:Nat->Int)(w:World)(hb:AD w b x)(hc:AD w c y):Calls Tryz.prog 152 #[.slice (some ⟨b,0,none⟩) 6 6,.slice (some ⟨c,0,none⟩) 6 6] w fun e w'=>e=.returned (.int .i64 (BX x y))/\w'=w:=by
 have HB:=A0 hb;have HC:=A0 hc;clear hb hc;have HI:=A0 (fun x y w=>SP x y w);go_enter Tryz.func152,Tryz.ntmps152;go_wp2;go_loopw [11] (fun i wr=>∃j:Nat,j<=6/\i=.int .i64 j/\(∀t,t<j->x t=y t)/\wr=w) (fun i _=>6-(intOf i).toNat)
 case atStart=>exact⟨0,by omega,rfl,fun t ht=>by omega,rfl⟩
 case round=>
  obtain⟨j,hj,rfl,hok,rfl⟩:=hrel;have HOK:=A0 hok;clear hok;by_cases hlt:j<6
  ·have c1:=HB.o.cell j hlt;have c2:=HC.o.cell j hlt;have hltI:(j:Int)<6:=by omega
   obtain⟨p,hp⟩:∃p,p=x j:=⟨_,rfl⟩;obtain⟨q,hq⟩:∃q,q=y j:=⟨_,rfl⟩;rw[<-hp]at c1;rw[<-hq]at c2;have HP:=A0 hp;have HQ:=A0 hq;clear hp hq;go_wp2_with fail;refine(HI.o p q wr).mono ?_;rintro e w1 ⟨rfl,hw⟩;rw[hw];clear hw;by_cases heq:p=q
   ·have h0:D5 p q=0:=(JX _ _).2 heq;rw[h0];have HE:=A0 heq;clear heq h0;go_wp2;go_roundw
    case rel=>exact⟨j+1,by omega,by go_num,fun t ht=>by
     by_cases e:t=j
     ·rw[e,<-HP.o,<-HQ.o];exact HE.o
     ·exact HOK.o t (by omega),by first|trivial|rfl⟩
    case measure=>simp[intOf];omega
   ·have h0:BX x y=D5 p q:=by rw[HP.o,HQ.o];exact SQ x y j hlt HOK.o (by rw[<-HP.o,<-HQ.o];exact heq)
    have hne:D5 p q≠0:=fun h=>heq ((JX _ _).1 h)
    have H0:=A0 h0;clear h0 heq;generalize D5 p q=r at *;go_wp2;go_ret;exact⟨by rw[H0.o];rfl,by first|trivial|rfl⟩
  ·have H0:Hid (BX x y=0):=(CJ _ _).2 (fun t ht=>HOK.o t (by omega));have hj6:(6:Int)<=j:=by omega
   go_wp2;go_ret;exact⟨by rw[H0.o];rfl,by first|trivial|rfl⟩
theorem Sb(x y:Nat->Int)(w:World):Calls Tryz.prog 99 #[pkV x,pkV y] w fun e w'=>e=.returned (.int .i64 (BX x y))/\∃q os',w'=Sort.grow (w.drewN q) os':=by
 obtain⟨w1,hw1⟩:∃w1,w1=w.alloc (.cells (pkA x) 46):=⟨_,rfl⟩;obtain⟨w2,hw2⟩:∃w2,w2=w1.alloc (.cells (pkA y) 46):=⟨_,rfl⟩;have B1:AD w2 w.heap.size x:=by rw[hw2,hw1];exact(AD.alloc w x).grown (World.grownBy_alloc _ _ none) (by simp)
 have B2:AD w2 (w.heap.size+1) y:=by rw[hw2];have:=AD.alloc w1 y;rw[hw1]at this ⊢;simpa using this
 have HS:Hid (∀n,Calls Tryz.prog 152 #[.slice (some ⟨w.heap.size,0,none⟩) 6 6,.slice (some ⟨w.heap.size+1,0,none⟩) 6 6] (w2.drewN n) fun e w'=>e=.returned (.int .i64 (BX x y))/\w'=w2.drewN n):=fun n=>Xq _ _ x y (w2.drewN n) B1 B2
 have HG:Hid (∀n,∃q os',w2.drewN n=Sort.grow (w.drewN q) os'):=fun n=>⟨n,#[.cells (pkA x) 46,.cells (pkA y) 46],by rw[hw2,hw1,Sort.alloc_eq_grow,Sort.alloc_eq_grow,Sort.grow_grow];rfl⟩
 clear B1 B2;generalize BX x y=r at *;rw[hw1]at hw2;clear hw1;unfold pkA at hw2;unfold pkV pkA;go_enter Tryz.func99,Tryz.ntmps99;go_wp2_with fail;rw[<-hw2];clear hw2;go_quiet ((go_at_call 152;exact Calls.quiet_of_same (HS.o _)))
 go_wp2;go_ret;exact⟨rfl,HG.o _⟩
def Own(w:World)(g n cap:Nat)(d:Nat->Nat->Int):Prop:=
 ∃cur:Array Value,w.heap[g]?=some (.cells cur 46 (0,0))/\cur.size=cap*6/\n<=cap/\(cap<=9223372036854775807/\n<=3000000000000)/\∀j,j<n->∀i,i<6->cur[j*6+i]?=some (.int .i64 (d j i))
theorem Own.cell{w:World}{g n cap:Nat}{d:Nat->Nat->Int}(h:Own w g n cap d)(j:Nat)(hj:j<n)(i:Nat)(hi:i<6):w.cell? ⟨g,j*6+i,none⟩=some (.int .i64 (d j i)):=by
 obtain⟨cur,h1,_,_,_,h4⟩:=h;simp only[World.cell?,h1];simpa using h4 j hj i hi
theorem Own.frozen{w:World}{g n cap:Nat}{d:Nat->Nat->Int}(h:Own w g n cap d)(o:Nat):w.frozen? ⟨g,o,none⟩=false:=by
 obtain⟨cur,h1,_⟩:=h;simp[World.frozen?,h1]
theorem Own.any{w:World}{g n cap:Nat}{d:Nat->Nat->Int}(h:Own w g n cap d)(o:Nat)(ho:o<cap*6):(w.cell? ⟨g,o,none⟩).isSome=true:=by
 obtain⟨cur,h1,h2,_⟩:=h;simp only[World.cell?,h1];simp[h2,ho]
theorem Own.lt{w:World}{g n cap:Nat}{d:Nat->Nat->Int}(h:Own w g n cap d):g<w.heap.size:=by
 obtain⟨cur,h1,_⟩:=h;exact(Array.getElem?_eq_some_iff.1 h1).1
theorem Own.cap{w:World}{g n cap:Nat}{d:Nat->Nat->Int}(h:Own w g n cap d):n<=cap/\cap<=9223372036854775807/\n<=3000000000000:=by
 obtain⟨cur,_,_,h1,h2,_⟩:=h;exact⟨h1,h2⟩
theorem Own.grown{w w':World}{g n cap:Nat}{d:Nat->Nat->Int}{row:Option Nat}(h:Own w g n cap d)(hg:w.grownBy w' row)(hr:row≠some g):Own w' g n cap d:=by
 obtain⟨cur,h1,h2⟩:=h;exact⟨cur,by rw[hg.block g (Array.getElem?_eq_some_iff.1 h1).1 hr.symm,h1],h2⟩
theorem Own.cong{w:World}{g n cap:Nat}{d e:Nat->Nat->Int}(h:Own w g n cap d)(he:∀j,j<n->∀i,i<6->d j i=e j i):Own w g n cap e:=by
 obtain⟨cur,h1,h2,h3,h4,h5⟩:=h;exact⟨cur,h1,h2,h3,h4,fun j hj i hi=>by rw[<-he j hj i hi];exact h5 j hj i hi⟩
theorem Own.row{w:World}{g n cap:Nat}{d:Nat->Nat->Int}(h:Own w g n cap d):AG w (.slice (some ⟨g,0,none⟩) n cap) n d:=
 .inr ⟨g,0,cap,rfl,by have:=h.cap;omega,fun j hj i hi=>by rw[Nat.zero_add];exact h.cell j hj i hi⟩
def Fw(w:World)(g o:Nat)(x:Nat->Int):World:=
 (((((w.setCell ⟨g,o,none⟩ (.int .i64 (x 0))).setCell ⟨g,o+1,none⟩ (.int .i64 (x 1))).setCell ⟨g,o+2,none⟩ (.int .i64 (x 2))).setCell ⟨g,o+3,none⟩ (.int .i64 (x 3))).setCell ⟨g,o+4,none⟩ (.int .i64 (x 4))).setCell ⟨g,o+5,none⟩ (.int .i64 (x 5))
theorem NT{w:World}{g o:Nat}{cur:Array Value}{T:TypeId}(h:w.heap[g]?=some (.cells cur T (0,0)))(x:Nat->Int):
  (Fw w g o x).heap[g]?=some (.cells ((((((cur.setIfInBounds o (.int .i64 (x 0))).setIfInBounds (o+1) (.int .i64 (x 1))).setIfInBounds (o+2) (.int .i64 (x 2))).setIfInBounds (o+3) (.int .i64 (x 3))).setIfInBounds (o+4) (.int .i64 (x 4))).setIfInBounds (o+5) (.int .i64 (x 5))) T (0,0)):=
 AI (AI (AI (AI (AI (AI h _ _) _ _) _ _) _ _) _ _) _ _
theorem IV(w:World)(g o:Nat)(x:Nat->Int):w.grownBy (Fw w g o x) (some g):=
 A1 (A1 (A1 (A1 (A1 (A7 _ _ _ _) (A7 _ _ _ _)) (A7 _ _ _ _)) (A7 _ _ _ _)) (A7 _ _ _ _)) (A7 _ _ _ _)
theorem Own.put{w:World}{g n cap:Nat}{d:Nat->Nat->Int}(h:Own w g n cap d)(j:Nat)(hj:j<n)(x:Nat->Int):Own (Fw w g (j*6) x) g n cap (fun t=>if t=j then x else d t):=by
 obtain⟨cur,h1,h2,h3,h4,h5⟩:=h;refine⟨_,NT h1 x,by simp[h2],h3,h4,fun t ht i hi=>?_⟩;have hlt:j*6+5<cur.size:=by rw[h2];omega
 simp only[Array.getElem?_setIfInBounds,Array.size_setIfInBounds];by_cases e:t=j
 ·subst e;rw[if_pos rfl];rcases(show i=0\/i=1\/i=2\/i=3\/i=4\/i=5 by omega) with rfl|rfl|rfl|rfl|rfl|rfl
  all_goals (repeat' split)<;>first|omega|rfl
 ·rw[if_neg e,if_neg (by omega),if_neg (by omega),if_neg (by omega),if_neg (by omega),if_neg (by omega),if_neg (by omega)];exact h5 t ht i hi
theorem Ev{x y:Nat->Int}(h:BX x y=0):eq6 (x 0) (x 1) (x 2) (x 3) (x 4) (x 5) (y 0) (y 1) (y 2) (y 3) (y 4) (y 5)=true:=by
 have e:=(CJ _ _).1 h;unfold eq6;rw[e 0 (by omega),e 1 (by omega),e 2 (by omega),e 3 (by omega),e 4 (by omega),e 5 (by omega)];simp
theorem Eu{x y:Nat->Int}(h:BX x y≠0):eq6 (x 0) (x 1) (x 2) (x 3) (x 4) (x 5) (y 0) (y 1) (y 2) (y 3) (y 4) (y 5)=false:=by
 cases hb:eq6 (x 0) (x 1) (x 2) (x 3) (x 4) (x 5) (y 0) (y 1) (y 2) (y 3) (y 4) (y 5) with
 | false=>rfl
 | true=>
  unfold eq6 at hb;simp only[Bool.and_eq_true,beq_iff_eq]at hb;obtain⟨h0,h1,h2,h3,h4,h5⟩:=hb;refine absurd ((CJ _ _).2 (fun t ht=>?_)) h;rcases(show t=0\/t=1\/t=2\/t=3\/t=4\/t=5 by omega) with rfl|rfl|rfl|rfl|rfl|rfl<;>assumption
structure CompI(d:Nat->Nat->Int)(p k:Nat)(e:Nat->Nat->Int):Prop where
 len:(CK d p).length=k
 low:∀j,j<k->(CK d p)[j]?=some (e j)
 high:∀j,k<=j->e j=d j
theorem CompI.one(d:Nat->Nat->Int):CompI d 1 1 d:=⟨rfl,fun j (hj:j<1)=>by
 obtain rfl:j=0:=by omega
 rfl,fun _ _=>rfl⟩
theorem CompI.skip{d e:Nat->Nat->Int}{p k:Nat}(h:CompI d p k e)(hp:1<=p)(hs:BX (d p) (d (p-1))=0):CompI d (p+1) k e:=by
 have e1:CK d (p+1)=CK d p:=by
  conv=>lhs;unfold CK
  rw[if_pos ⟨by omega,hs⟩]
 exact⟨by rw[e1];exact h.len,by rw[e1];exact h.low,h.high⟩
theorem CompI.keep{d e:Nat->Nat->Int}{p k:Nat}(h:CompI d p k e)(hs:BX (d p) (d (p-1))≠0):CompI d (p+1) (k+1) (fun t=>if t=k then d p else e t):=by
 have e1:CK d (p+1)=CK d p++[d p]:=by
  conv=>lhs;unfold CK
  rw[if_neg (fun c=>hs c.2)]
 refine⟨by rw[e1,List.length_append,h.len];rfl,fun j hj=>?_,fun j hj=>?_⟩
 ·rw[e1];by_cases c:j=k
  ·subst c;rw[List.getElem?_append_right (by rw[h.len];exact Nat.le_refl _),h.len];simp
  ·rw[List.getElem?_append_left (by rw[h.len];omega),h.low j (by omega)];simp[c]
 ·show(if j=k then d p else e j)=d j;rw[if_neg (by omega)];exact h.high j (by omega)
theorem CompI.same{d:Nat->Nat->Int}{p:Nat}(h:CompI d p p d)(hs:BX (d p) (d (p-1))≠0):CompI d (p+1) (p+1) d:=by
 have:=h.keep hs
 have e:(fun t=>if t=p then d p else d t)=d:=by
  funext t;split
  ·rename_i c;rw[c]
  ·rfl
 rw[e]at this;exact this
theorem Pn{g:Nat}{T:TypeId}:∀(vs:List Value) (o:Nat) (w:World) (cur:Array Value),w.heap[g]?=some (.cells cur T (0,0))->∃cur',(w.setCells g o vs).heap[g]?=some (.cells cur' T (0,0))/\cur'.size=cur.size/\∀t,t<o->cur'[t]?=cur[t]?
 | [],o,w,cur,h=>⟨cur,h,rfl,fun _ _=>rfl⟩
 | v::vs,o,w,cur,h=>by
  obtain⟨cur',h1,h2,h3⟩:=Pn vs (o+1) (w.setCell ⟨g,o,none⟩ v) _ (AI h o v);refine⟨cur',h1,by rw[h2];simp,fun t ht=>?_⟩;rw[h3 t (by omega),Array.getElem?_setIfInBounds_ne (by omega)]
theorem Pm(g:Nat):∀(vs:List Value) (o:Nat) (w:World),w.grownBy (w.setCells g o vs) (some g)
 | [],o,w=>AA _ _
 | v::vs,o,w=>A1 (A7 w g o v) (Pm g vs (o+1) _)
theorem Own.cleared{w:World}{g n cap m:Nat}{d:Nat->Nat->Int}(h:Own w g n cap d)(hm:m<=n)(vs:List Value):Own (w.setCells g (m*6) vs) g m cap d:=by
 obtain⟨cur,h1,h2,h3,h4,h5⟩:=h;obtain⟨cur',g1,g2,g3⟩:=Pn vs (m*6) w cur h1;exact⟨cur',g1,by omega,by omega,⟨h4.1,by omega⟩,fun j hj i hi=>by rw[g3 _ (by omega)];exact h5 j (by omega) i hi⟩
theorem XX(w:World)(g o m c:Nat)(ty:TypeId)(hm:0<m)(hc:∀j,j<m*6->(w.cell? ⟨g,o+j,none⟩).isSome=true)(hf:∀j,j<m*6->w.frozen? ⟨g,o+j,none⟩=false):
  (Builtin.clear_ #[29] ty #[.slice (some ⟨g,o,none⟩) m c]).run Tryz.prog w=.ok (.tuple #[]) (w.setCells g o (Builtin.zeroCells (pkA fun _=>0) m).toList):=by
 have ht:Tryz.prog.underlying 29=some (.slice 46):=by kernel_rfl
 have hv:∀w,(zeroValue 46).run Tryz.prog w=.ok (pkV fun _=>0) w:=Tryz.zeroValue46;have hz:(pkV fun _=>0).cells=pkA fun _=>0:=rfl
 have hst:=run_storeCells_cells (P:=Tryz.prog) g o (Builtin.zeroCells (pkA fun _=>0) m).toList 0 w (by simpa[Builtin.zeroCells,pkA] using hc) (by simpa[Builtin.zeroCells,pkA] using hf) (by
  intro v hv';simp only[Builtin.zeroCells,Array.toList_map,List.mem_map]at hv';obtain⟨i,_,rfl⟩:=hv';have:i%(pkA fun _=>0).size<6:=Nat.mod_lt _ (by simp[pkA]);rcases(show i%(pkA fun _=>0).size=0\/i%(pkA fun _=>0).size=1\/i%(pkA fun _=>0).size=2\/i%(pkA fun _=>0).size=3\/i%(pkA fun _=>0).size=4\/i%(pkA fun _=>0).size=5 by omega) with e|e|e|e|e|e<;>rw[e]<;>rfl)
 simp only[Nat.add_zero]at hst;obtain⟨k,rfl⟩:∃k,m=k+1:=⟨m-1,by omega⟩;simp[Builtin.clear_,run_underlying ht,hv,hz,hst]
theorem Sa(w:World)(g n cap:Nat)(d:Nat->Nat->Int)(h:Own w g n cap d):
  Calls Tryz.prog 223 #[.slice (some ⟨g,0,none⟩) n cap] w fun e w'=>∃m e',CompI d n m e'/\e=.returned (.slice (some ⟨g,0,none⟩) m cap)/\Own w' g m cap e'/\w.grownBy w' (some g):=by
 have hcap:=h.cap;obtain⟨hc1,hc2,hc3⟩:=hcap;have HO:=A0 h;clear h;by_cases h2:n<2
 ·go_enter Tryz.func223,Tryz.ntmps223;have h2I:(n:Int)<2:=by omega
  go_wp2;go_ret;rcases(show n=0\/n=1 by omega) with e|e
  ·subst e;exact⟨0,d,⟨rfl,fun j hj=>by omega,fun _ _=>rfl⟩,rfl,HO.o,AA _ _⟩
  ·subst e;exact⟨1,d,CompI.one d,rfl,HO.o,AA _ _⟩
 ·have h2I:¬(n:Int)<2:=by omega
  go_enter Tryz.func223,Tryz.ntmps223;go_wp2;go_loopw [3] (fun s3 wr=>∃k:Nat,1<=k/\k<=n/\s3=.int .i64 k/\CompI d k k d/\Own wr g n cap d/\w.grownBy wr (some g)) (fun s3 _=>n-(intOf s3).toNat)
  case atStart=>exact⟨1,by omega,by omega,rfl,CompI.one d,HO.o,AA _ _⟩
  case round=>
   obtain⟨k,hk1,hk,rfl,hI,hO,hg⟩:=hrel;have HI:=A0 hI;have HOO:=A0 hO;have HG:=A0 hg;clear hI hO hg;by_cases hlt:k<n
   ·have hltI:(k:Int)<n:=by omega
    have hk1I:(1:Int)<=k:=by omega
    obtain⟨x,hx⟩:∃x,x=d k:=⟨_,rfl⟩;obtain⟨y,hy⟩:∃y,y=d (k-1):=⟨_,rfl⟩;have c0:=HOO.o.cell k hlt 0 (by omega);have c1:=HOO.o.cell k hlt 1 (by omega);have c2:=HOO.o.cell k hlt 2 (by omega);have c3:=HOO.o.cell k hlt 3 (by omega);have c4:=HOO.o.cell k hlt 4 (by omega);have c5:=HOO.o.cell k hlt 5 (by omega);have d0:=HOO.o.cell (k-1) (by omega) 0 (by omega);have d1:=HOO.o.cell (k-1) (by omega) 1 (by omega);have d2:=HOO.o.cell (k-1) (by omega) 2 (by omega);have d3:=HOO.o.cell (k-1) (by omega) 3 (by omega);have d4:=HOO.o.cell (k-1) (by omega) 4 (by omega);have d5:=HOO.o.cell (k-1) (by omega) 5 (by omega);rw[<-hx]at c0 c1 c2 c3 c4 c5;rw[<-hy]at d0 d1 d2 d3 d4 d5;rw[Nat.add_zero]at c0 d0;by_cases hs:BX x y=0
    ·have he:=Ev hs;have HS:Hid (BX (d k) (d (k-1))=0):=by rw[<-hx,<-hy];exact hs
     clear hs hx hy;go_wp2_with fail;go_quiet (fail)
     go_wp2;clear c0 c1 c2 c3 c4 c5 d0 d1 d2 d3 d4 d5 he;have HI2:=A0 (HI.o.skip hk1 HS.o);clear HI HS;go_loopw [3,5] (fun s3 s5 wq=>∃(kk k2:Nat) (e':Nat->Nat->Int),1<=k2/\k+k2<=n/\kk+1<=k+k2/\s3=.int .i64 kk/\s5=.int .i64 k2/\CompI d (k+k2) kk e'/\Own wq g n cap e'/\w.grownBy wq (some g)) (fun _ s5 _=>n-(intOf s5).toNat)
     case atStart=>exact⟨k,1,d,by omega,by omega,by omega,rfl,rfl,HI2.o,HOO.o.grown (AT (AA _ none) _) (by simp),AT HG.o _⟩
     case round=>
      obtain⟨kk,k2,e',hk2,hkk,hlow,rfl,rfl,hI,hO,hg⟩:=hrel;clear HI2 HOO HG;have HI:=A0 hI;have HOO:=A0 hO;have HG:=A0 hg;clear hI hO hg;by_cases hlt2:k+k2<n
      ·have hlt2I:(k2:Int)<n-k:=by omega
       have hk2I:(1:Int)<=k2:=by omega
       have hkkI:(kk:Int)<n:=by omega
       obtain⟨x,hx⟩:∃x,x=d (k+k2):=⟨_,rfl⟩;obtain⟨y,hy⟩:∃y,y=d (k+k2-1):=⟨_,rfl⟩;have ex:e' (k+k2)=x:=by rw[hx];exact HI.o.high _ (by omega)
       have ey:e' (k+k2-1)=y:=by rw[hy];exact HI.o.high _ (by omega)
       have cx:∀i,i<6->wr.cell? ⟨g,k*6+k2*6+i,none⟩=some (.int .i64 (x i)):=fun i hi=>by
        rw[<-ex,<-HOO.o.cell (k+k2) hlt2 i hi];congr 2;omega
       have cy:∀i,i<6->wr.cell? ⟨g,k*6+(k2-1)*6+i,none⟩=some (.int .i64 (y i)):=fun i hi=>by
        rw[<-ey,<-HOO.o.cell (k+k2-1) (by omega) i hi];congr 2;omega
       have c0:=cx 0 (by omega);have c1:=cx 1 (by omega);have c2:=cx 2 (by omega);have c3:=cx 3 (by omega);have c4:=cx 4 (by omega);have c5:=cx 5 (by omega);have d0:=cy 0 (by omega);have d1:=cy 1 (by omega);have d2:=cy 2 (by omega);have d3:=cy 3 (by omega);have d4:=cy 4 (by omega);have d5:=cy 5 (by omega);rw[Nat.add_zero]at c0 d0;clear cx cy ex ey;by_cases hs:BX x y=0
       ·have he:=Ev hs;have HS:Hid (BX (d (k+k2)) (d (k+k2-1))=0):=by rw[<-hx,<-hy];exact hs
        clear hs hx hy;go_wp2_with fail;go_quiet (fail)
        go_wp2;go_roundw
        case rel=>exact⟨kk,k2+1,e',by omega,by omega,by omega,rfl,by go_num,HI.o.skip (by omega) HS.o,HOO.o.grown (AT (AA _ none) _) (by simp),AT HG.o _⟩
        case measure=>simp[intOf];omega
       ·have he:=Eu hs;have HS:Hid (BX (d (k+k2)) (d (k+k2-1))≠0):=by rw[<-hx,<-hy];exact hs
        have HX:=A0 hx;clear hs hx hy;have f0:=HOO.o.cell kk (by omega) 0 (by omega);have f1:=HOO.o.cell kk (by omega) 1 (by omega);have f2:=HOO.o.cell kk (by omega) 2 (by omega);have f3:=HOO.o.cell kk (by omega) 3 (by omega);have f4:=HOO.o.cell kk (by omega) 4 (by omega);have f5:=HOO.o.cell kk (by omega) 5 (by omega);rw[Nat.add_zero]at f0;have fz:=HOO.o.frozen;go_wp2_with fail;go_quiet (fail)
        go_wp2_with fail;have hkp:=HI.o.keep HS.o;rw[<-HX.o]at hkp;have hop:=(HOO.o.grown (AT (AA wr none) nq) (by simp)).put kk (by omega) x;exact⟨⟨kk+1,k2+1,_,by omega,by omega,by omega,by go_num,by go_num,hkp,hop,A1 (AT HG.o _) (IV _ _ _ _)⟩,by simp[intOf];omega⟩
      ·have hend:k+k2=n:=by omega
       have hlt2I:¬(k2:Int)<n-k:=by omega
       have hcl:∀ty,(Builtin.clear_ #[29] ty #[.slice (some ⟨g,kk*6,none⟩) (n-kk) (cap-kk)]).run Tryz.prog wr=.ok (.tuple #[]) (wr.setCells g (kk*6) (Builtin.zeroCells (pkA fun _=>0) (n-kk)).toList):=
        fun ty=>XX wr g (kk*6) (n-kk) (cap-kk) ty (by omega) (fun j hj=>HOO.o.any _ (by omega)) (fun j hj=>HOO.o.frozen _)
       generalize (Builtin.zeroCells (pkA fun _=>0) (n-kk)).toList=vs at hcl;go_wp2;go_ret;exact⟨kk,e',by rw[<-hend];exact HI.o,rfl,HOO.o.cleared (by omega) _,A1 HG.o (Pm _ _ _ _)⟩
    ·have he:=Eu hs;have HS:Hid (BX (d k) (d (k-1))≠0):=by rw[<-hx,<-hy];exact hs
     clear hs hx hy;go_wp2_with fail;go_quiet (fail)
     go_wp2;go_roundw
     case rel=>exact⟨k+1,by omega,by omega,by go_num,HI.o.same HS.o,HOO.o.grown (AT (AA _ none) _) (by simp),AT HG.o _⟩
     case measure=>simp[intOf];omega
   ·obtain rfl:k=n:=by omega
    go_wp2;go_ret;exact⟨k,d,HI.o,rfl,HOO.o,HG.o⟩
def Ch(m k:Nat->Int):Prop:=∀i,1<=i->i<6->m i=-1\/m i=k i
def Be(a k:Nat->Int):Nat->Int:=fun i=>if 1<=i/\i<6/\a i ≠ -1 then a i else k i
theorem Ll{a k:Nat->Int}(h:Nm k):Nm (Be a k):=fun i hi=>by
 unfold Be;rw[if_neg (by omega)];exact h i hi
def DL(a k:Nat->Int)(j:Nat):Nat->Int:=fun i=>if 1<=i/\i<j/\a i ≠ -1 then a i else k i
theorem Qw(a k:Nat->Int):DL a k 1=k:=by
 funext i;unfold DL;rw[if_neg (by omega)]
theorem Qx(a k:Nat->Int):DL a k 6=Be a k:=rfl
theorem Qy{a k:Nat->Int}{j:Nat}(hj:1<=j)(h:a j ≠ -1):(fun i=>if i=j then a j else DL a k j i)=DL a k (j+1):=by
 funext i;by_cases e:i=j
 ·subst e;simp[DL,h,hj]
 ·simp only[if_neg e,DL];by_cases e2:i<j
  ·simp[e2,show i<j+1 by omega]
  ·simp[e2,show ¬i<j+1 by omega]
theorem Qv{a k:Nat->Int}{j:Nat}(h:a j=-1):DL a k j=DL a k (j+1):=by
 funext i;by_cases e:i=j
 ·subst e;simp[DL,h]
 ·simp only[DL];by_cases e2:i<j
  ·simp[e2,show i<j+1 by omega]
  ·simp[e2,show ¬i<j+1 by omega]
theorem AD.lay{w:World}{b:Nat}{k:Nat->Int}(h:AD w b k)(x:Nat->Int):AD (Fw w b 0 x) b x:=by
 unfold AD at *;rw[NT h x];rfl
theorem VO(m k:Nat->Int)(w:World):Calls Tryz.prog 106 #[pkV m,pkV k] w (Aq (Ch m k) w):=by
 obtain⟨w1,hw1⟩:∃w1,w1=w.alloc (.cells (pkA m) 46):=⟨_,rfl⟩;obtain⟨w2,hw2⟩:∃w2,w2=w1.alloc (.cells (pkA k) 46):=⟨_,rfl⟩;have B1:Hid (AD w2 w.heap.size m):=by rw[hw2,hw1];exact(AD.alloc w m).grown (World.grownBy_alloc _ _ none) (by simp)
 have B2:Hid (AD w2 (w.heap.size+1) k):=by
  have z:w1.heap.size=w.heap.size+1:=by rw[hw1];simp
  rw[hw2,<-z];exact AD.alloc w1 k
 have G2:Hid (w.grownBy w2 none):=by rw[hw2,hw1];exact A1 (World.grownBy_alloc _ _ _) (World.grownBy_alloc _ _ _)
 rw[hw1]at hw2;clear hw1;unfold pkA at hw2;unfold pkV pkA;go_enter Tryz.func106,Tryz.ntmps106;go_wp2;rw[<-hw2];clear hw2;go_loopw [5] (fun i wr=>∃j:Nat,1<=j/\j<=6/\i=.int .i64 j/\(∀i,1<=i->i<j->m i=-1\/m i=k i)/\AD wr w.heap.size m/\AD wr (w.heap.size+1) k/\w.grownBy wr none) (fun i _=>6-(intOf i).toNat)
 case atStart=>exact⟨1,by omega,by omega,rfl,fun i h1 h2=>by omega,B1.o,B2.o,G2.o⟩
 case round=>
  obtain⟨j,hj1,hj,rfl,hok,b1,b2,hg⟩:=hrel;have HOK:=A0 hok;clear hok B1 B2 G2;have B1:=A0 b1;have B2:=A0 b2;have G2:=A0 hg;clear b1 b2 hg;by_cases hlt:j<6
  ·obtain⟨x,hx⟩:∃x,x=m j:=⟨_,rfl⟩;obtain⟨y,hy⟩:∃y,y=k j:=⟨_,rfl⟩;have c1:wr.cell? ⟨w.heap.size,j,none⟩=some (.int .i64 x):=by rw[hx];exact B1.o.cell j hlt
   have c2:wr.cell? ⟨w.heap.size+1,j,none⟩=some (.int .i64 y):=by rw[hy];exact B2.o.cell j hlt
   have HX:=A0 hx;have HY:=A0 hy;clear hx hy;have hltI:(j:Int)<6:=by omega
   by_cases h1:x=-1
   ·have hn:(x == -1)=true:=beq_iff_eq.2 h1;have hn2:(x != -1)=false:=by simp[h1]
    have H1:=A0 h1;clear h1;go_wp2_with fail;go_quiet (fail)
    go_wp2;go_roundw
    case rel=>exact⟨j+1,by omega,by omega,by go_num,fun i h1 h2=>by
     by_cases e:i=j
     ·subst e;left;rw[<-HX.o];exact H1.o
     ·exact HOK.o i h1 (by omega),B1.o,B2.o,AT G2.o _⟩
    case measure=>simp[intOf];omega
   ·have hn2:(x != -1)=true:=by rw[bne_iff_ne];exact h1
    by_cases h2:x=y
    ·subst h2;go_wp2_with fail;go_quiet (fail)
     go_wp2;go_roundw
     case rel=>exact⟨j+1,by omega,by omega,by go_num,fun i h1 h2=>by
      by_cases e:i=j
      ·subst e;right;rw[<-HX.o,<-HY.o]
      ·exact HOK.o i h1 (by omega),B1.o,B2.o,AT G2.o _⟩
     case measure=>simp[intOf];omega
    ·have hn3:(x != y)=true:=by rw[bne_iff_ne];exact h2
     go_wp2_with fail;go_quiet (fail)
     go_wp2;go_ret
     exact⟨⟨false,rfl,by
      simp only[Bool.false_eq_true,false_iff];intro hh;rcases hh j hj1 hlt with e|e
      ·exact h1 (by rw[HX.o];exact e)
      ·exact h2 (by rw[HX.o,HY.o];exact e)⟩,AT G2.o _⟩
  ·go_wp2;go_ret
   exact⟨⟨true,rfl,by
    simp only[true_iff];exact fun i h1 h2=>HOK.o i h1 (by omega)⟩,G2.o⟩
theorem R6(a k:Nat->Int)(w:World):Calls Tryz.prog 159 #[pkV a,pkV k] w fun e w'=>e=.returned (pkV (Be a k))/\w.grownBy w' none:=by
 obtain⟨w1,hw1⟩:∃w1,w1=w.alloc (.cells (pkA a) 46):=⟨_,rfl⟩;obtain⟨w2,hw2⟩:∃w2,w2=w1.alloc (.cells (pkA k) 46):=⟨_,rfl⟩;obtain⟨w3,hw3⟩:∃w3,w3=w2.alloc (.cells (pkA (fun _=>0)) 46):=⟨_,rfl⟩;have z1:w1.heap.size=w.heap.size+1:=by rw[hw1];simp
 have z2:w2.heap.size=w.heap.size+2:=by rw[hw2];simp[z1]
 have B1:Hid (AD w3 w.heap.size a):=by rw[hw3,hw2,hw1];exact((AD.alloc w a).grown (World.grownBy_alloc _ _ none) (by simp)).grown (World.grownBy_alloc _ _ none) (by simp)
 have B2:Hid (AD w3 (w.heap.size+1) k):=by rw[hw3,<-z1];refine AD.grown ?_ (World.grownBy_alloc _ _ none) (by simp);rw[hw2];exact AD.alloc w1 k
 have B3:Hid (AD w3 (w.heap.size+2) (fun _=>0)):=by rw[hw3,<-z2];exact AD.alloc w2 _
 have G3:Hid (w.grownBy w3 none):=by rw[hw3,hw2,hw1];exact A1 (A1 (World.grownBy_alloc _ _ _) (World.grownBy_alloc _ _ _)) (World.grownBy_alloc _ _ _)
 rw[hw1]at hw2;rw[hw2]at hw3;clear hw1 hw2 z1 z2;unfold pkA at hw3;unfold pkV pkA;go_enter Tryz.func159,Tryz.ntmps159;go_wp2;rw[<-hw3];clear hw3;go_loopw [5] (fun i wr=>∃j:Nat,1<=j/\j<=6/\i=.int .i64 j/\AD wr w.heap.size a/\AD wr (w.heap.size+1) (DL a k j)/\AD wr (w.heap.size+2) (fun _=>0)/\w.grownBy wr none) (fun i _=>6-(intOf i).toNat)
 case atStart=>exact⟨1,by omega,by omega,rfl,B1.o,by rw[Qw];exact B2.o,B3.o,G3.o⟩
 case round=>
  obtain⟨j,hj1,hj,rfl,b1,b2,b3,hg⟩:=hrel;clear B1 B2 B3 G3;have B1:=A0 b1;have B2:=A0 b2;have B3:=A0 b3;have HG:=A0 hg;clear b1 b2 b3 hg;by_cases hlt:j<6
  ·obtain⟨x,hx⟩:∃x,x=a j:=⟨_,rfl⟩;have c1:=B1.o.cell j hlt;rw[<-hx]at c1;have HX:=A0 hx;clear hx;have hltI:(j:Int)<6:=by omega
   by_cases h1:x=-1
   ·have hn2:(x == -1)=true:=beq_iff_eq.2 h1;have H1:=A0 h1;clear h1;go_wp2;go_roundw
    case rel=>exact⟨j+1,by omega,by omega,by go_num,B1.o,by rw[<-Qv (by rw[<-HX.o];exact H1.o)];exact B2.o,B3.o,HG.o⟩
    case measure=>simp[intOf];omega
   ·have hn2:(x == -1)=false:=beq_eq_false_iff_ne.2 h1;have c2:=B2.o.cell j hlt;have f2:=B2.o.frozen;go_wp2;go_roundw
    case rel=>
     have:=B2.o.set j hlt x;rw[HX.o,Qy hj1 (by rw[<-HX.o];exact h1)]at this;exact⟨j+1,by omega,by omega,by go_num,B1.o.grown (A7 _ _ _ _) (by simp),by rw[HX.o];exact this,B3.o.grown (A7 _ _ _ _) (by simp),AR HG.o (A7 _ _ _ _) (by omega)⟩
    case measure=>simp[intOf];omega
  ·obtain rfl:j=6:=by omega
   rw[Qx]at B2;obtain⟨r,hr⟩:∃r,r=Be a k:=⟨_,rfl⟩;rw[<-hr]at B2;have HR:=A0 hr;clear hr;have c0:=B2.o.cell 0 (by omega);have c1:=B2.o.cell 1 (by omega);have c2:=B2.o.cell 2 (by omega);have c3:=B2.o.cell 3 (by omega);have c4:=B2.o.cell 4 (by omega);have c5:=B2.o.cell 5 (by omega);have d0:=B3.o.cell 0 (by omega);have d1:=B3.o.cell 1 (by omega);have d2:=B3.o.cell 2 (by omega);have d3:=B3.o.cell 3 (by omega);have d4:=B3.o.cell 4 (by omega);have d5:=B3.o.cell 5 (by omega);have f3:=B3.o.frozen;go_wp2;change bodyPost _ _ _ _ _ (Fw wr (w.heap.size+2) 0 r);have hp:=B3.o.lay r;have e0:=hp.cell 0 (by omega);have e1:=hp.cell 1 (by omega);have e2:=hp.cell 2 (by omega);have e3:=hp.cell 3 (by omega);have e4:=hp.cell 4 (by omega);have e5:=hp.cell 5 (by omega);refine bodyPost_ret (v:=pkV r) (by unfold pkV pkA;simp[results,Tryz.results159,go_sem,e0,e1,e2,e3,e4,e5]) rfl ?_;exact⟨by rw[HR.o];rfl,AR HG.o (IV _ _ _ _) (by omega)⟩
open Go.Shelf
def Kq:Go.Shelf.Ren:=⟨fun|6=>98|15=>147|14=>151|28=>200|29=>201|20=>206|21=>207|22=>208|23=>209|24=>210|25=>211|26=>212|27=>213|46=>248|47=>237|48=>238|49=>249|50=>250|57=>265|n=>n,fun|22=>29|24=>46|25=>192|3=>3|39=>238|0=>0|53=>132|55=>285|4=>4|46=>277|45=>276|50=>281|5=>5|9=>9|66=>308|70=>153|76=>324|77=>325|n=>n,fun|n=>n⟩
theorem Ko:Go.Proofs.SlLaysF0.n6 Tryz.prog Kq:={
 mixed:=by kernel_rfl,
 f6:=⟨Tryz.f98.name,by decide,Tryz.func98.trans (congrArg some (by kernel_rfl))⟩,
 f14:=⟨Tryz.f151.name,by decide,Tryz.func151.trans (congrArg some (by kernel_rfl))⟩,
 f15:=Tryz.func147.trans (congrArg some (by kernel_rfl)),
 f20:=⟨Tryz.f206.name,by decide,Tryz.func206.trans (congrArg some (by kernel_rfl))⟩,
 f21:=⟨Tryz.f207.name,by decide,Tryz.func207.trans (congrArg some (by kernel_rfl))⟩,
 f22:=⟨Tryz.f208.name,by decide,Tryz.func208.trans (congrArg some (by kernel_rfl))⟩,
 f23:=⟨Tryz.f209.name,by decide,Tryz.func209.trans (congrArg some (by kernel_rfl))⟩,
 f24:=⟨Tryz.f210.name,by decide,Tryz.func210.trans (congrArg some (by kernel_rfl))⟩,
 f25:=⟨Tryz.f211.name,by decide,Tryz.func211.trans (congrArg some (by kernel_rfl))⟩,
 f26:=⟨Tryz.f212.name,by decide,Tryz.func212.trans (congrArg some (by kernel_rfl))⟩,
 f27:=⟨Tryz.f213.name,by decide,Tryz.func213.trans (congrArg some (by kernel_rfl))⟩,
 f28:=Tryz.func200.trans (congrArg some (by kernel_rfl)),
 f29:=Tryz.func201.trans (congrArg some (by kernel_rfl)),
 f46:=⟨Tryz.f248.name,by decide,Tryz.func248.trans (congrArg some (by kernel_rfl))⟩,
 f47:=Tryz.func237.trans (congrArg some (by kernel_rfl)),
 f48:=Tryz.func238.trans (congrArg some (by kernel_rfl)),
 f49:=⟨Tryz.f249.name,by decide,Tryz.func249.trans (congrArg some (by kernel_rfl))⟩,
 f50:=⟨Tryz.f250.name,by decide,Tryz.func250.trans (congrArg some (by kernel_rfl))⟩,
 f57:=⟨Tryz.f265.name,by decide,Tryz.func265.trans (congrArg some (by kernel_rfl))⟩,
 t0:=Tryz.underlying0,
 a0:=Tryz.isAgg0,
 z0:=Tryz.sizeOf0,
 v0:=Tryz.zeroValue0,
 t3:=Tryz.underlying3,
 a3:=Tryz.isAgg3,
 z3:=Tryz.sizeOf3,
 v3:=Tryz.zeroValue3,
 t4:=Tryz.underlying4,
 a4:=Tryz.isAgg4,
 z4:=Tryz.sizeOf4,
 v4:=Tryz.zeroValue4,
 t5:=Tryz.underlying5,
 a5:=Tryz.isAgg5,
 z5:=Tryz.sizeOf5,
 v5:=Tryz.zeroValue5,
 t9:=Tryz.underlying9,
 a9:=Tryz.isAgg9,
 z9:=Tryz.sizeOf9,
 v9:=Tryz.zeroValue9,
 t22:=Tryz.underlying29,
 a22:=Tryz.isAgg29,
 z22:=Tryz.sizeOf29,
 v22:=Tryz.zeroValue29,
 t25:=Tryz.underlying192,
 a25:=Tryz.isAgg192,
 z25:=Tryz.sizeOf192,
 v25:=Tryz.zeroValue192,
 t39:=Tryz.underlying238,
 a39:=Tryz.isAgg238,
 z39:=Tryz.sizeOf238,
 v39:=Tryz.zeroValue238,
 t45:=Tryz.underlying276,
 a45:=Tryz.isAgg276,
 z45:=Tryz.sizeOf276,
 v45:=Tryz.zeroValue276,
 t46:=Tryz.underlying277,
 a46:=Tryz.isAgg277,
 z46:=Tryz.sizeOf277,
 v46:=Tryz.zeroValue277,
 t50:=Tryz.underlying281,
 a50:=Tryz.isAgg281,
 z50:=Tryz.sizeOf281,
 v50:=Tryz.zeroValue281,
 t53:=Tryz.underlying132,
 a53:=Tryz.isAgg132,
 z53:=Tryz.sizeOf132,
 v53:=Tryz.zeroValue132,
 t55:=Tryz.underlying285,
 a55:=Tryz.isAgg285,
 z55:=Tryz.sizeOf285,
 v55:=Tryz.zeroValue285,
 t66:=Tryz.underlying308,
 a66:=Tryz.isAgg308,
 z66:=Tryz.sizeOf308,
 v66:=Tryz.zeroValue308,
 t70:=Tryz.underlying153,
 a70:=Tryz.isAgg153,
 z70:=Tryz.sizeOf153,
 v70:=Tryz.zeroValue153,
 t76:=Tryz.underlying324,
 a76:=Tryz.isAgg324,
 z76:=Tryz.sizeOf324,
 v76:=Tryz.zeroValue324,
 t77:=Tryz.underlying325,
 a77:=Tryz.isAgg325,
 z77:=Tryz.sizeOf325,
 v77:=Tryz.zeroValue325 }
def CQ(k:Nat->Int):List Value:=[.int .i64 (k 0),.int .i64 (k 1),.int .i64 (k 2),.int .i64 (k 3),.int .i64 (k 4),.int .i64 (k 5)]
theorem Ik(k:Nat->Int)(i:Nat)(h:i<6):(CQ k)[i]! = .int .i64 (k i):=by
 rcases(show i=0\/i=1\/i=2\/i=3\/i=4\/i=5 by omega) with rfl|rfl|rfl|rfl|rfl|rfl<;>rfl
theorem SU:Sort.SWO (ltOf BX) where
 irrefl x:=by simp[ltOf,Ff];exact ltP.irrefl x
 trans x y z h1 h2:=by
  simp only[ltOf,decide_eq_true_eq,Ff]at *;exact h1.trans h2
 ntrans x y z h1 h2:=by
  simp only[ltOf,decide_eq_false_iff_not,Ff]at *;exact ltP.ntrans h1 h2
theorem ST(blk off size:Nat)(w:World):CmpLays Tryz.prog 99 #[] CQ 6 BX blk off size w:=fun _ _ _ _ x y=>Sb x y _
def arr(n:Nat)(d:Nat->Nat->Int):Array (Nat->Int):=(Array.range n).map d
theorem Ej(n:Nat)(d:Nat->Nat->Int):(arr n d).size=n:=by simp[arr]
theorem Ra(n:Nat)(d:Nat->Nat->Int)(j:Nat)(h:j<n):(arr n d)[j]! = d j:=by simp[arr,h]
theorem Own.holds{w:World}{g n cap:Nat}{d:Nat->Nat->Int}(h:Own w g n cap d):Sort.HoldsK CQ 6 w g 0 (arr n d):=by
 intro t ht;rw[Sort.size_flatK,Ej]at ht;rw[Sort.get_flatK _ _ _ _ (by rw[Ej];exact ht),Ra _ _ _ (by omega),Ik _ _ (by omega),Nat.zero_add];refine⟨?_,h.frozen _⟩;have:=h.cell (t/6) (by omega) (t%6) (by omega);rw[show t/6*6+t%6=t by omega]at this;exact this
theorem Own.sorted{w:World}{g n cap:Nat}{d:Nat->Nat->Int}(h:Own w g n cap d)(m:Nat)(D:Array (Nat->Int))(os:Array Obj)(hD:D.size=n):
  Own (sortWorldK CQ 6 w g 0 m D os) g n cap (fun j=>D[j]!)/\w.grownBy (sortWorldK CQ 6 w g 0 m D os) (some g):=by
 have hh:=holdsK_sortWorldK_c CQ 6 w g 0 (arr n d) D m os h.holds h.lt (by rw[Ej];exact hD);have hlt:=h.lt;constructor
 ·obtain⟨cur,h1,h2,h3,h4,h5⟩:=h
  have hb:(sortWorldK CQ 6 w g 0 m D os).heap[g]?=some (.cells (Sort.putCells id 0 (Sort.flatK CQ 6 D) cur) 46 (0,0)):=by
   unfold sortWorldK Sort.putRowK;show(((Sort.putRow id (Sort.ahead w m) g 0 (Sort.flatK CQ 6 D)).heap)++os)[g]?=_;rw[Array.getElem?_append_left (by simpa[Sort.ahead] using hlt)];simp[Sort.putRow,Sort.mapBlock,Sort.ahead,Array.getElem?_modify,h1,Sort.onCells]
  refine⟨_,hb,by simp[Sort.putCells,h2],h3,h4,fun j hj i hi=>?_⟩;have hc:=(hh.cell (i:=j) (c:=i) (by omega) hi).1;rw[Ik _ _ hi,Nat.zero_add]at hc;simp only[World.cell?,hb]at hc;simpa using hc
 ·refine⟨rfl,rfl,rfl,by unfold sortWorldK Sort.putRowK;simp[Sort.ahead],fun k hk hne=>?_⟩;unfold sortWorldK Sort.putRowK;show(((Sort.putRow id (Sort.ahead w m) g 0 (Sort.flatK CQ 6 D)).heap)++os)[k]?=_;rw[Array.getElem?_append_left (by simpa[Sort.ahead] using hk)];have:g≠k:=fun e=>hne (by rw[e])
  simp[Sort.putRow,Sort.mapBlock,Sort.ahead,Array.getElem?_modify,this]
theorem Pv(w:World)(g n cap:Nat)(d:Nat->Nat->Int)(h:Own w g n cap d):
  Calls Tryz.prog 98 #[.slice (some ⟨g,0,none⟩) n cap,.func (.func 99) #[] #[]] w fun e w'=>e=.returned (.tuple #[])/\∃D:Array (Nat->Int),D.size=n/\D.toList.Perm ((List.range n).map d)/\(∀i j,i<j->j<n->¬ltP D[j]! D[i]!)/\Own w' g n cap (fun j=>D[j]!)/\w.grownBy w' (some g):=by
 have eg:∀args w,(callFunc 99 args).run Tryz.prog w=.ok (.enter 99 args) w:=enters_of Tryz.func99 (by kernel_rfl) rfl;have hcap:=h.cap
 have hcon:=AnyQ.slices_SortFunc Ko 6 Tryz.isAgg46 Tryz.sizeOf46 CQ (fun _=>rfl) (fun x v hv=>by
  simp[CQ]at hv;rcases hv with rfl|rfl|rfl|rfl|rfl|rfl<;>rfl) BX SU 99 #[] g 0 cap (arr n d) w eg (ST g 0 _ w) h.holds h.lt (by rw[Ej];omega)
 rw[Ej]at hcon;refine Calls.mono hcon ?_;rintro e w' ⟨rfl,D,m,os,hp,hs,rfl⟩;have hD:D.size=n:=by rw[hp.1,Ej]
 obtain⟨o1,o2⟩:=h.sorted m D os hD;refine⟨rfl,D,hD,?_,fun i j h1 h2 hl=>?_,o1,o2⟩
 ·have:=hp.2.2;rw[show D.extract 0 n=D by rw[<-hD];simp,show(arr n d).extract 0 n=arr n d by apply Array.extract_eq_self_of_le;rw[Ej];exact Nat.le_refl _]at this;simpa[arr] using this
 ·have:=hs i j (Nat.zero_le _) h1 h2;simp only[ltOf,decide_eq_false_iff_not,Ff]at this;exact this hl
structure Is(l:List (Nat->Int))(n:Nat)(d:Nat->Nat->Int):Prop where
 len:l.length=n
 get:∀j,j<n->l[j]?=some (d j)
theorem Po(w:World)(g n cap:Nat)(d:Nat->Nat->Int)(h:Own w g n cap d)(hn:∀j,j<n->Nm (d j)):
  Calls Tryz.prog 160 #[.slice (some ⟨g,0,none⟩) n cap] w fun e w'=>∃m e',Is (setS ((List.range n).map d)) m e'/\e=.returned (.slice (some ⟨g,0,none⟩) m cap)/\Own w' g m cap e'/\w.grownBy w' (some g):=by
 have HS:=A0 (Pv w g n cap d h);have HN:=A0 hn;clear h hn;go_enter Tryz.func160,Tryz.ntmps160;go_wp2_with fail;refine HS.o.mono ?_;rintro e w1 ⟨rfl,D,hD,hp,hs,ho,hg⟩;have HD:=A0 hD;have HP:=A0 hp;have HSS:=A0 hs;have HG:=A0 hg;have HC:=A0 (Sa w1 g n cap (fun j=>D[j]!) ho);clear hD hp hs hg ho HS;go_wp2_with fail;refine HC.o.mono ?_;rintro e w2 ⟨m,e',hI,rfl,ho2,hg2⟩;have HI:=A0 hI;have HO2:=A0 ho2;have HG2:=A0 hg2;clear hI ho2 hg2 HC;go_wp2;go_ret
 have hmem:∀x,x∈(List.range n).map d↔∃j,j<n/\x=D[j]! :=by
  intro x;rw[<-HP.o.mem_iff];constructor
  ·intro hx;obtain⟨j,hj,e⟩:=List.getElem_of_mem hx;have hj':j<D.size:=by simpa using hj
   refine⟨j,by rw[<-HD.o];exact hj',?_⟩;rw[<-e,getElem!_pos D j hj'];simp
  ·rintro⟨j,hj,rfl⟩;have hj':j<D.size:=by rw[HD.o];exact hj
   rw[getElem!_pos D j hj'];exact Array.getElem_mem_toList hj'
 have hnm:∀x∈(List.range n).map d,Nm x:=by
  intro x hx;simp only[List.mem_map,List.mem_range]at hx;obtain⟨j,hj,rfl⟩:=hx;exact HN.o j hj
 have hset:=SZ (d:=fun j=>D[j]!) (n:=n) (l:=(List.range n).map d) (fun j hj=>hnm _ ((hmem _).2 ⟨j,hj,rfl⟩)) HSS.o hnm hmem;exact⟨m,e',⟨by rw[<-hset];exact HI.o.len,fun j hj=>by rw[<-hset];exact HI.o.low j hj⟩,rfl,HO2.o,A1 HG.o HG2.o⟩
def PkR(w:World)(v:Value)(n:Nat)(ps:Nat->Nat->Int):Prop:=
 (∃a c,v=.slice a 0 c/\n=0/\(a=none->c=0))\/∃g off cap,v=.slice (some ⟨g,off,none⟩) n cap/\n<=3000000000000/\∀j,j<n->∀i,i<6->w.cell? ⟨g,off+j*6+i,none⟩=some (.int .i64 (ps j i))
theorem PkR.slice{w:World}{v:Value}{n:Nat}{ps:Nat->Nat->Int}(h:PkR w v n ps):∃a cap,v=.slice a n cap:=by
 rcases h with⟨a,c,rfl,rfl,_⟩|⟨g,off,cap,rfl,_⟩
 ·exact⟨_,_,rfl⟩
 ·exact⟨_,_,rfl⟩
theorem PkR.few{w:World}{v:Value}{n:Nat}{ps:Nat->Nat->Int}(h:PkR w v n ps):n<=3000000000000:=by
 rcases h with⟨a,c,rfl,rfl,_⟩|⟨g,off,cap,rfl,h,_⟩<;>omega
theorem PkR.grown{w w':World}{v:Value}{n:Nat}{ps:Nat->Nat->Int}(h:PkR w v n ps)(hg:w.grownBy w' none):PkR w' v n ps:=by
 rcases h with h|⟨g,off,cap,h1,h2,h3⟩
 ·exact .inl h
 ·exact .inr ⟨g,off,cap,h1,h2,fun j hj i hi=>hg.cell (h3 j hj i hi) (by simp)⟩
theorem AG.any{w:World}{v:Value}{n:Nat}{ps:Nat->Nat->Int}(h:AG w v n ps):PkR w v n ps:=by
 rcases h with⟨h1,h2⟩|h
 ·exact .inl ⟨none,0,h1,h2,fun _=>rfl⟩
 ·exact .inr h
theorem PkR.cong{w:World}{v:Value}{n:Nat}{ps qs:Nat->Nat->Int}(h:PkR w v n ps)(he:∀j,j<n->∀i,i<6->ps j i=qs j i):PkR w v n qs:=by
 rcases h with h|⟨g,off,cap,h1,h2,h3⟩
 ·exact .inl h
 ·exact .inr ⟨g,off,cap,h1,h2,fun j hj i hi=>by rw[<-he j hj i hi];exact h3 j hj i hi⟩
theorem Tryz.infoPk6:(Tryz.prog.info? 46).map (fun i=>(i.zero,i.size,i.bytes))=some (some (pkV fun _=>0),6,48):=by kernel_rfl
theorem VF(n:Nat)(j i:Nat)(hj:j<n)(hi:i<6):(madeCells (pkA fun _=>0) (n*6))[j*6+i]?=some (.int .i64 0):=by
 unfold madeCells;rw[Array.getElem?_map,Array.getElem?_range,if_pos (by omega)];simp only[Option.map_some];rw[show(pkA fun _=>0).size=6 from rfl,show(j*6+i)%6=i by omega];rcases(show i=0\/i=1\/i=2\/i=3\/i=4\/i=5 by omega) with rfl|rfl|rfl|rfl|rfl|rfl<;>rfl
theorem Own.made(w:World)(n:Nat)(hn:n<=3000000000000):Own (w.alloc (.cells (madeCells (pkA fun _=>0) (n*6)) 46)) w.heap.size n n (fun _ _=>0):=
 ⟨_,heap_alloc_new w _,size_madeCells _ _,Nat.le_refl _,⟨by omega,hn⟩,fun j hj i hi=>VF n j i hj hi⟩
theorem XZ(u:World)(n:Nat)(hn:n<=3000000000000):(Instr.makeSlice 29 (.int .i64 (n:Int)) (.int .i64 (n:Int))).run Tryz.prog u=.ok (.slice (some ⟨u.heap.size,0,none⟩) n n) (u.alloc (.cells (madeCells (pkA fun _=>0) (n*6)) 46)):=by
 obtain⟨i0,hi,hz0,hz1,hz2⟩:=info_parts Tryz.infoPk6;have h:=run_make (P:=Tryz.prog) u 29 46 i0 (pkV fun _=>0) Tryz.underlying29 hi hz0 .i64 .i64 (n:Int) (n:Int) (by omega) (Int.le_refl _) (by rw[hz2];omega) (by omega);rw[Int.toNat_natCast,hz1]at h;exact h
theorem VG(v:Value)(n:Nat)(ps:Nat->Nat->Int)(k:Nat->Int)(w:World)(h:PkR w v n ps)(hk:Nm k):
  Calls Tryz.prog 107 #[v,pkV k] w fun e w'=>∃g m cap e',w.heap.size<=g/\Is (setS ((List.range n).map fun j=>Be (ps j) k)) m e'/\e=.returned (.slice (some ⟨g,0,none⟩) m cap)/\Own w' g m cap e'/\w.grownBy w' none:=by
 obtain⟨a,ca,rfl⟩:=h.slice;have hn:=h.few;have HP:=A0 h;have HK:=A0 hk;clear h hk;obtain⟨w1,hw1⟩:∃w1,w1=w.alloc (.cells (pkA k) 46):=⟨_,rfl⟩;have B1:AD w1 w.heap.size k:=by rw[hw1];exact AD.alloc w k
 have G1:w.grownBy w1 none:=by rw[hw1];exact World.grownBy_alloc _ _ _
 have z1:w1.heap.size=w.heap.size+1:=by rw[hw1];simp
 obtain⟨w2,hw2⟩:∃w2,w2=w1.alloc (.cells (madeCells (pkA fun _=>0) (n*6)) 46):=⟨_,rfl⟩;have B2:Hid (AD w2 w.heap.size k):=by rw[hw2];exact B1.grown (World.grownBy_alloc _ _ none) (by simp)
 have O2:Hid (Own w2 (w.heap.size+1) n n (fun _ _=>0)):=by rw[hw2,<-z1];exact Own.made w1 n hn
 have G2:Hid (w.grownBy w2 none):=by rw[hw2];exact A1 G1 (World.grownBy_alloc _ _ _)
 have hmk:∀ww,(Instr.makeSlice 29 (.int .i64 (n:Int)) (.int .i64 (n:Int))).run Tryz.prog ww=.ok (.slice (some ⟨ww.heap.size,0,none⟩) n n) (ww.alloc (.cells (madeCells (pkA fun _=>0) (n*6)) 46)):=fun ww=>XZ ww n hn
 obtain⟨mc,hmc⟩:∃mc,mc=madeCells (pkA fun _=>0) (n*6):=⟨_,rfl⟩;rw[<-hmc]at hw2;simp only[<-hmc]at hmk;clear hmc B1 G1;unfold pkA at hw1;unfold pkV pkA;go_enter Tryz.func107,Tryz.ntmps107;go_wp2;rw[<-hw1,<-hw2];clear hw1 hw2 hmk;have hzz:w.heap.size+1=w1.heap.size:=z1.symm;try rw[<-hzz]
 clear hzz z1;go_loopw [13] (fun i wr=>∃j:Nat,j<=n/\i=.int .i64 j/\AD wr w.heap.size k/\Own wr (w.heap.size+1) n n (fun t=>if t<j then Be (ps t) k else fun _=>0)/\w.grownBy wr none) (fun i _=>n-(intOf i).toNat)
 case atStart=>exact⟨0,by omega,rfl,B2.o,O2.o,G2.o⟩
 case round=>
  obtain⟨j,hj,rfl,hb,ho,hg⟩:=hrel;clear B2 O2 G2;obtain⟨E,hE⟩:∃E:Nat->Nat->Int,E=fun t=>if t<j then Be (ps t) k else fun _=>0:=⟨_,rfl⟩
  rw[<-hE]at ho;have HE:=A0 hE;clear hE;have HB:=A0 hb;have HO:=A0 ho;have HG:=A0 hg;clear hb ho hg;by_cases hlt:j<n
  ·rcases HP.o with⟨_,_,_,h0,_⟩|⟨g,off,cap',hv,_,hcell⟩
   ·omega
   cases hv;obtain⟨x,hx⟩:∃x,x=ps j:=⟨_,rfl⟩;have cc:∀i,i<6->wr.cell? ⟨g,off+j*6+i,none⟩=some (.int .i64 (x i)):=fun i hi=>by rw[hx];exact HG.o.cell (hcell j hlt i hi) (by simp)
   have c0:=cc 0 (by omega);have c1:=cc 1 (by omega);have c2:=cc 2 (by omega);have c3:=cc 3 (by omega);have c4:=cc 4 (by omega);have c5:=cc 5 (by omega);rw[Nat.add_zero]at c0;have d0:=HB.o.cell 0 (by omega);have d1:=HB.o.cell 1 (by omega);have d2:=HB.o.cell 2 (by omega);have d3:=HB.o.cell 3 (by omega);have d4:=HB.o.cell 4 (by omega);have d5:=HB.o.cell 5 (by omega);have hzz:w.heap.size<wr.heap.size:=(Array.getElem?_eq_some_iff.1 HB.o).1;have HX:=A0 hx;clear cc hcell hx;have hltI:(j:Int)<n:=by omega
   obtain⟨wa,hwa⟩:∃wa,wa=wr.alloc (.cells (pkA x) 46):=⟨_,rfl⟩;have GA:wr.grownBy wa none:=by rw[hwa];exact World.grownBy_alloc _ _ _
   have HA:=A0 (R6 x k wa);unfold pkA at hwa;unfold pkV pkA at HA;go_wp2_with fail;rw[<-hwa];clear hwa c0 c1 c2 c3 c4 c5 d0 d1 d2 d3 d4 d5 hzz;refine HA.o.mono ?_;rintro e w3 ⟨rfl,hg3⟩;have B3:=A0 (HB.o.grown (A1 GA hg3) (by simp));have O3:=A0 (HO.o.grown (A1 GA hg3) (by simp));have G3:=A0 (A1 HG.o (A1 GA hg3));clear GA hg3 HA HB HO HG;obtain⟨y,hy⟩:∃y,y=Be x k:=⟨_,rfl⟩;rw[<-hy];have HY:=A0 hy;clear hy;have f0:w3.cell? ⟨w.heap.size+1,j*6,none⟩=some (.int .i64 (E j 0)):=O3.o.cell j hlt 0 (by omega);have f1:=O3.o.cell j hlt 1 (by omega);have f2:=O3.o.cell j hlt 2 (by omega);have f3:=O3.o.cell j hlt 3 (by omega);have f4:=O3.o.cell j hlt 4 (by omega);have f5:=O3.o.cell j hlt 5 (by omega);have fz:=O3.o.frozen;go_wp2_with fail;have hop:=O3.o.put j hlt y
   have hop2:Own (Fw w3 (w.heap.size+1) (j*6) y) (w.heap.size+1) n n (fun t=>if t<j+1 then Be (ps t) k else fun _=>0):=hop.cong (fun t ht i hi=>by
    by_cases e:t=j
    ·subst e;rw[if_pos rfl,if_pos (by omega),HY.o,HX.o]
    ·rw[if_neg e,HE.o];show(if t<j then Be (ps t) k else fun _=>0) i=(if t<j+1 then Be (ps t) k else fun _=>0) i;by_cases e2:t<j
     ·rw[if_pos e2,if_pos (by omega)]
     ·rw[if_neg e2,if_neg (by omega)])
   exact⟨⟨j+1,by omega,by go_num,B3.o.grown (IV _ _ _ _) (by simp),hop2,AR G3.o (IV _ _ _ _) (by omega)⟩,by simp[intOf];omega⟩
  ·obtain rfl:j=n:=by omega
   have HS:=A0 (Po wr (w.heap.size+1) j j E HO.o (fun t ht=>by
    rw[HE.o];show Nm (if t<j then Be (ps t) k else fun _=>0);rw[if_pos ht];exact Ll HK.o))
   go_wp2_with fail;refine HS.o.mono ?_;rintro e w4 ⟨m,e',hI,rfl,ho,hg⟩;have HI:=A0 hI;have HO4:=A0 ho;have HG4:=A0 hg;clear hI ho hg HS;go_wp2;go_ret;refine⟨w.heap.size+1,m,j,e',by omega,?_,rfl,HO4.o,AR HG.o HG4.o (by omega)⟩
   have hm:(List.range j).map E=(List.range j).map fun t=>Be (ps t) k:=by
    apply List.map_congr_left;intro t ht;rw[HE.o];show(if t<j then Be (ps t) k else fun _=>0)=Be (ps t) k;rw[if_pos (List.mem_range.1 ht)]
   have:=HI.o;rw[hm]at this;exact this
theorem Xb{p:Prop}{w w':World}{e:Ending}(h:Aq p w e w'):((p/\e=.returned (.bool true))\/(¬p/\e=.returned (.bool false)))/\w.grownBy w' none:=by
 obtain⟨⟨b,rfl,hb⟩,hg⟩:=h;refine⟨?_,hg⟩;cases b
 ·exact .inr ⟨fun hp=>by simpa using hb.2 hp,rfl⟩
 ·exact .inl ⟨hb.1 rfl,rfl⟩
structure Rl where
 prio:Int
 mt:Nat->Int
 na:Nat
 acts:Nat->Nat->Int
 av:Value
def Eh(w:World)(v:Value)(n:Nat)(rs:Nat->Rl):Prop:=
 (∃a c,v=.slice a 0 c/\n=0)\/∃g off cap,v=.slice (some ⟨g,off,none⟩) n cap/\n<=3000000000000/\∀j,j<n->w.cell? ⟨g,off+j*8,none⟩=some (.int .i64 (rs j).prio)/\(∀i,i<6->w.cell? ⟨g,off+j*8+(1+i),none⟩=some (.int .i64 ((rs j).mt i)))/\w.cell? ⟨g,off+j*8+7,none⟩=some (rs j).av/\PkR w (rs j).av (rs j).na (rs j).acts
theorem Eh.slice{w:World}{v:Value}{n:Nat}{rs:Nat->Rl}(h:Eh w v n rs):∃a cap,v=.slice a n cap:=by
 rcases h with⟨a,c,rfl,rfl⟩|⟨g,off,cap,rfl,_⟩
 ·exact⟨_,_,rfl⟩
 ·exact⟨_,_,rfl⟩
theorem Eh.few{w:World}{v:Value}{n:Nat}{rs:Nat->Rl}(h:Eh w v n rs):n<=3000000000000:=by
 rcases h with⟨a,c,rfl,rfl⟩|⟨g,off,cap,rfl,h,_⟩<;>omega
def LkS(rs:Nat->Rl)(n:Nat)(k:Nat->Int)(L:List (Nat->Int))(b:Bool):Prop:=
 (∃j,j<n/\(∀t,t<j->¬Ch (rs t).mt k)/\Ch (rs j).mt k/\L=setS ((List.range (rs j).na).map fun t=>Be ((rs j).acts t) k)/\b=true)\/((∀t,t<n->¬Ch (rs t).mt k)/\L=[]/\b=false)
theorem LkS.one{rs:Nat->Rl}{n:Nat}{k:Nat->Int}{L M:List (Nat->Int)}{b c:Bool}(h:LkS rs n k L b)(g:LkS rs n k M c):L=M/\b=c:=by
 rcases h with⟨j,h1,h2,h3,h4,h5⟩|⟨h1,h2,h3⟩<;>rcases g with⟨i,g1,g2,g3,g4,g5⟩|⟨g1,g2,g3⟩
 ·have e:j=i:=by
   rcases Nat.lt_trichotomy j i with e|e|e
   ·exact absurd h3 (g2 j e)
   ·exact e
   ·exact absurd g3 (h2 i e)
  subst e;exact⟨by rw[h4,g4],by rw[h5,g5]⟩
 ·exact absurd h3 (g1 j h1)
 ·exact absurd g3 (h1 i g1)
 ·exact⟨by rw[h2,g2],by rw[h3,g3]⟩
def AH(B:Nat)(w:World)(v:Value)(n:Nat)(d:Nat->Nat->Int):Prop:=
 (v=.slice none 0 0/\n=0)\/∃g cap,B<=g/\v=.slice (some ⟨g,0,none⟩) n cap/\Own w g n cap d
def Hz(rs:Nat->Rl)(n:Nat)(k:Nat->Int)(w:World)(e:Ending)(w':World):Prop:=
 ∃L b v m d,LkS rs n k L b/\Is L m d/\AH w.heap.size w' v m d/\e=.returned (.tuple #[v,.bool b])/\w.grownBy w' none
def rlA(p:Int)(mt:Nat->Int)(v:Value):Array Value:=#[.int .i64 p,.int .i64 (mt 0),.int .i64 (mt 1),.int .i64 (mt 2),.int .i64 (mt 3),.int .i64 (mt 4),.int .i64 (mt 5),v]
theorem YX(v:Value)(n:Nat)(rs:Nat->Rl)(k:Nat->Int)(w:World)(h:Eh w v n rs)(hk:Nm k):
  Calls Tryz.prog 65 #[v,pkV k] w (Hz rs n k w):=by
 obtain⟨a,ca,rfl⟩:=h.slice;have hn:=h.few;have HP:=A0 h;have HK:=A0 hk;clear h hk;have HQ:Hid (∀e w',Hz rs n k w e w'↔∃L b v m d,LkS rs n k L b/\Is L m d/\AH w.heap.size w' v m d/\e=.returned (.tuple #[v,.bool b])/\w.grownBy w' none):=fun _ _=>Iff.rfl
 generalize Hz rs n k w=Q at HQ ⊢;obtain⟨w1,hw1⟩:∃w1,w1=w.alloc (.cells (pkA k) 46):=⟨_,rfl⟩;have B1:Hid (AD w1 w.heap.size k):=by rw[hw1];exact AD.alloc w k
 have G1:Hid (w.grownBy w1 none):=by rw[hw1];exact World.grownBy_alloc _ _ _
 unfold pkA at hw1;unfold pkV pkA;go_enter Tryz.func65,Tryz.ntmps65;go_wp2;rw[<-hw1];clear hw1;go_loopw [10] (fun i wr=>∃j:Nat,j<=n/\i=.int .i64 j/\(∀t,t<j->¬Ch (rs t).mt k)/\AD wr w.heap.size k/\w.grownBy wr none) (fun i _=>n-(intOf i).toNat)
 case atStart=>exact⟨0,by omega,rfl,fun t ht=>by omega,B1.o,G1.o⟩
 case round=>
  obtain⟨j,hj,rfl,hno,hb,hg⟩:=hrel;clear B1 G1;have HNO:=A0 hno;have HB:=A0 hb;have HG:=A0 hg;clear hno hb hg;by_cases hlt:j<n
  ·rcases HP.o with⟨_,_,_,h0⟩|⟨g,off,cap',hv,_,hcell⟩
   ·omega
   cases hv;obtain⟨cp,cm,cv,cr⟩:=hcell j hlt;obtain⟨p,hp⟩:∃p,p=(rs j).prio:=⟨_,rfl⟩;obtain⟨x,hx⟩:∃x,x=(rs j).mt:=⟨_,rfl⟩;obtain⟨av,hav⟩:∃av,av=(rs j).av:=⟨_,rfl⟩;rw[<-hp]at cp;rw[<-hx]at cm;rw[<-hav]at cv cr;obtain⟨aa,ac,haa⟩:=cr.slice;rw[haa]at cv cr;have c0:wr.cell? ⟨g,off+j*8,none⟩=some (.int .i64 p):=HG.o.cell cp (by simp);have cc:∀i,i<6->wr.cell? ⟨g,off+j*8+(1+i),none⟩=some (.int .i64 (x i)):=fun i hi=>HG.o.cell (cm i hi) (by simp)
   have c1:wr.cell? ⟨g,off+j*8+1,none⟩=some (.int .i64 (x 0)):=cc 0 (by omega);have c2:wr.cell? ⟨g,off+j*8+2,none⟩=some (.int .i64 (x 1)):=cc 1 (by omega);have c3:wr.cell? ⟨g,off+j*8+3,none⟩=some (.int .i64 (x 2)):=cc 2 (by omega);have c4:wr.cell? ⟨g,off+j*8+4,none⟩=some (.int .i64 (x 3)):=cc 3 (by omega);have c5:wr.cell? ⟨g,off+j*8+5,none⟩=some (.int .i64 (x 4)):=cc 4 (by omega);have c6:wr.cell? ⟨g,off+j*8+6,none⟩=some (.int .i64 (x 5)):=cc 5 (by omega);obtain⟨N,hN⟩:∃N,N=(rs j).na:=⟨_,rfl⟩;rw[<-hN]at cv cr;have c7:wr.cell? ⟨g,off+j*8+7,none⟩=some (.slice aa N ac):=HG.o.cell cv (by simp);have HCR:=A0 cr;have HE:Hid (x=(rs j).mt/\N=(rs j).na):=⟨hx,hN⟩;clear cp cm cv cr cc hcell hp hx hav haa hN;have d0:=HB.o.cell 0 (by omega);have d1:=HB.o.cell 1 (by omega);have d2:=HB.o.cell 2 (by omega);have d3:=HB.o.cell 3 (by omega);have d4:=HB.o.cell 4 (by omega);have d5:=HB.o.cell 5 (by omega);have hzz:w.heap.size<wr.heap.size:=(Array.getElem?_eq_some_iff.1 HB.o).1;have hltI:(j:Int)<n:=by omega
   obtain⟨wa,hwa⟩:∃wa,wa=wr.alloc (.cells (rlA p x (.slice aa N ac)) 68):=⟨_,rfl⟩;have GA:wr.grownBy wa none:=by rw[hwa];exact World.grownBy_alloc _ _ _
   have RA:wa.heap[wr.heap.size]?=some (.cells (rlA p x (.slice aa N ac)) 68 (0,0)):=by rw[hwa];exact heap_alloc_new _ _
   have HA:=A0 (VO x k wa);unfold rlA at hwa;unfold pkV pkA at HA;go_wp2_with fail;rw[<-hwa];clear hwa c0 c1 c2 c3 c4 c5 c6 c7 d0 d1 d2 d3 d4 d5 hzz;refine HA.o.mono ?_;rintro e w3 hsay;obtain⟨hs,hg3⟩:=Xb hsay;clear hsay HA;have B3:=A0 (HB.o.grown (A1 GA hg3) (by simp));have G3:=A0 (A1 HG.o (A1 GA hg3))
   have R3:w3.cell? ⟨wr.heap.size,7,none⟩=some (.slice aa N ac):=by
    refine hg3.cell ?_ (by simp);simp only[World.cell?,RA];rfl
   have C3:=A0 ((HCR.o.grown HG.o).grown (A1 GA hg3));clear GA RA hg3 HB HG HCR;rcases hs with⟨hm,rfl⟩|⟨hm,rfl⟩
   ·have HM:=A0 hm;clear hm;have d0:=B3.o.cell 0 (by omega);have d1:=B3.o.cell 1 (by omega);have d2:=B3.o.cell 2 (by omega);have d3:=B3.o.cell 3 (by omega);have d4:=B3.o.cell 4 (by omega);have d5:=B3.o.cell 5 (by omega);have HMA:=A0 (VG _ N _ k w3 C3.o HK.o);unfold pkV pkA at HMA;go_wp2_with fail;clear d0 d1 d2 d3 d4 d5 R3;refine HMA.o.mono ?_;rintro e w4 ⟨gg,m,cap,e',hgg,hI,rfl,ho,hg4⟩;have HI:=A0 hI;have HO:=A0 ho;have HG4:=A0 hg4;have HGG:=A0 hgg;clear hI ho hg4 hgg HMA;go_wp2;have hsz:=G3.o.size;refine(HQ.o _ _).2 ⟨_,true,_,m,e',.inl ⟨j,hlt,HNO.o,?_,rfl,rfl⟩,?_,.inr ⟨gg,cap,?_,rfl,HO.o⟩,rfl,A1 G3.o HG4.o⟩
    ·rw[<-HE.o.1];exact HM.o
    ·rw[<-HE.o.2];exact HI.o
    ·have:=HGG.o;omega
   ·have HM:=A0 hm;clear hm;go_wp2;go_roundw
    case rel=>exact⟨j+1,by omega,by go_num,fun t ht=>by
     by_cases e:t=j
     ·subst e;rw[<-HE.o.1];exact HM.o
     ·exact HNO.o t (by omega),B3.o,G3.o⟩
    case measure=>simp[intOf];omega
  ·obtain rfl:j=n:=by omega
   go_wp2;exact(HQ.o _ _).2 ⟨[],false,.slice none 0 0,0,fun _ _=>0,.inr ⟨HNO.o,rfl,rfl⟩,⟨rfl,fun j hj=>by omega⟩,.inl ⟨rfl,rfl⟩,rfl,HG.o⟩
theorem FA{p:Prop}{w w':World}(h:¬p)(hg:w.grownBy w' none):Aq p w (.returned (.bool false)) w':=⟨⟨false,rfl,⟨fun e=>(by cases e),fun e=>absurd e h⟩⟩,hg⟩
theorem LT{p:Prop}{w w':World}(h:p)(hg:w.grownBy w' none):Aq p w (.returned (.bool true)) w':=⟨⟨true,rfl,⟨fun _=>h,fun _=>rfl⟩⟩,hg⟩
end Go.Proofs.YtlhkfafdioakeaaGreatDoor
