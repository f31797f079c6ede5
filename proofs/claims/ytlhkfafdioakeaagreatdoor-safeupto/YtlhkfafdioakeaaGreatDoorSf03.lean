/- Parts of the proof. -/
import Derived.Test.YtlhkfafdioakeaaGreatDoorSf01
import Derived.Test.YtlhkfafdioakeaaGreatDoorProg
import Derived.ChangeKeysEq
import Derived.Deep.DeepCutAuto
import Derived.Sort.Grow
import Derived.Lib.SliceRun
import Derived.Laws.OwnMore
import Derived.Shelf.SlSortCmp.WholeK
namespace Go.Proofs.YtlhkfafdioakeaaGreatDoor
set_option maxRecDepth 100000
set_option maxHeartbeats 2000000
set_option linter.unusedVariables false
set_option linter.unusedSimpArgs false
def cmpI(x y:Int):Int:=if x<y then -1 else if y<x then 1 else 0
theorem xem(x y:Int):cmpI x y=0↔x=y:=by
 unfold cmpI;split
 ·omega
 ·split<;>omega
theorem xel(x y:Int):cmpI x y<0↔x<y:=by
 unfold cmpI;split
 ·omega
 ·split<;>omega
def cmpN(x y:Nat->Int):Nat->Nat->Int
 | _,0=>0
 | i,n+1=>if x i=y i then cmpN x y (i+1) n else cmpI (x i) (y i)
def cmpP(x y:Nat->Int):Int:=cmpN x y 0 6
theorem xeq(x y:Nat->Int):∀n i,cmpN x y i n=0↔∀t,i<=t->t<i+n->x t=y t
 | 0,i=>by simp [cmpN];intro t h1 h2;omega
 | n+1,i=>by
  unfold cmpN;split
  ·rename_i h;rw [xeq x y n (i+1)];constructor
   ·intro g t h1 h2;by_cases e:t=i
    ·rw [e];exact h
    ·exact g t (by omega) (by omega)
   ·intro g t h1 h2;exact g t (by omega) (by omega)
  ·rename_i h;constructor
   ·intro g;exact absurd ((xem _ _).1 g) h
   ·intro g;exact absurd (g i (by omega) (by omega)) h
theorem xep(x y:Nat->Int):∀n i,cmpN x y i n<0↔∃j,i<=j/\j<i+n/\(∀t,i<=t->t<j->x t=y t)/\x j<y j
 | 0,i=>by
  simp [cmpN];intro j h1 h2;omega
 | n+1,i=>by
  unfold cmpN;split
  ·rename_i h;rw [xep x y n (i+1)];constructor
   ·rintro ⟨j,h1,h2,h3,h4⟩;refine ⟨j,by omega,by omega,fun t ht1 ht2=>?_,h4⟩;by_cases e:t=i
    ·rw [e];exact h
    ·exact h3 t (by omega) ht2
   ·rintro ⟨j,h1,h2,h3,h4⟩;have hj:j≠i:=fun e=>by rw [e] at h4;omega
    exact ⟨j,by omega,by omega,fun t ht1 ht2=>h3 t (by omega) ht2,h4⟩
  ·rename_i h;rw [xel];constructor
   ·intro g;exact ⟨i,by omega,by omega,fun t h1 h2=>by omega,g⟩
   ·rintro ⟨j,h1,h2,h3,h4⟩;by_cases e:j=i
    ·rw [<-e];exact h4
    ·exact absurd (h3 i (by omega) (by omega)) h
def ltP(x y:Nat->Int):Prop:=∃j,j<6/\(∀t,t<j->x t=y t)/\x j<y j
theorem xes(x y:Nat->Int):cmpP x y<0↔ltP x y:=by
 unfold cmpP ltP;rw [xep];constructor
 ·rintro ⟨j,_,h2,h3,h4⟩;exact ⟨j,by omega,fun t ht=>h3 t (by omega) ht,h4⟩
 ·rintro ⟨j,h2,h3,h4⟩;exact ⟨j,by omega,by omega,fun t _ ht=>h3 t ht,h4⟩
theorem xet(x y:Nat->Int):cmpP x y=0↔∀t,t<6->x t=y t:=by
 unfold cmpP;rw [xeq];exact ⟨fun h t ht=>h t (by omega) (by omega),fun h t _ ht=>h t (by omega)⟩
theorem ltP.irrefl(x:Nat->Int):¬ltP x x:=by
 rintro ⟨j,_,_,h⟩;omega
theorem ltP.trans{x y z:Nat->Int}(h:ltP x y)(g:ltP y z):ltP x z:=by
 obtain ⟨j,h1,h2,h3⟩:=h;obtain ⟨k,g1,g2,g3⟩:=g;rcases Nat.lt_trichotomy j k with e|e|e
 ·exact ⟨j,h1,fun t ht=>(h2 t ht).trans (g2 t (by omega)),by rw [<-g2 j e];exact h3⟩
 ·subst e;exact ⟨j,h1,fun t ht=>(h2 t ht).trans (g2 t ht),by omega⟩
 ·exact ⟨k,g1,fun t ht=>(h2 t (by omega)).trans (g2 t ht),by rw [h2 k e];exact g3⟩
theorem xhf(x y:Nat->Int):∀n,(∀t,t<n->x t=y t)\/∃j,j<n/\(∀t,t<j->x t=y t)/\x j≠y j
 | 0=>.inl (fun t h=>by omega)
 | n+1=>by
  rcases xhf x y n with h|⟨j,h1,h2,h3⟩
  ·by_cases e:x n=y n
   ·exact .inl (fun t ht=>by
     by_cases e2:t=n
     ·rw [e2];exact e
     ·exact h t (by omega))
   ·exact .inr ⟨n,by omega,h,e⟩
  ·exact .inr ⟨j,by omega,h2,h3⟩
theorem ltP.total(x y:Nat->Int):ltP x y\/ltP y x\/∀t,t<6->x t=y t:=by
 rcases xhf x y 6 with h|⟨j,h1,h2,h3⟩
 ·exact .inr (.inr h)
 ·rcases Int.lt_or_lt_of_ne h3 with g|g
  ·exact .inl ⟨j,h1,h2,g⟩
  ·exact .inr (.inl ⟨j,h1,fun t ht=>(h2 t ht).symm,g⟩)
theorem ltP.cong{x y z:Nat->Int}(h:ltP x y)(g:∀t,t<6->y t=z t):ltP x z:=by
 obtain ⟨j,h1,h2,h3⟩:=h;exact ⟨j,h1,fun t ht=>(h2 t ht).trans (g t (by omega)),by rw [<-g j h1];exact h3⟩
theorem ltP.congL{x y z:Nat->Int}(h:ltP x y)(g:∀t,t<6->x t=z t):ltP z y:=by
 obtain ⟨j,h1,h2,h3⟩:=h;exact ⟨j,h1,fun t ht=>(g t (by omega)).symm.trans (h2 t ht),by rw [<-g j h1];exact h3⟩
theorem ltP.ntrans{x y z:Nat->Int}(h:¬ltP x y)(g:¬ltP y z):¬ltP x z:=by
 intro k;rcases ltP.total y x with h1|h1|h1
 ·exact g (h1.trans k)
 ·exact h h1
 ·exact g (k.congL (fun t ht=>(h1 t ht).symm))
def Nm(x:Nat->Int):Prop:=∀i,6<=i->x i=0
theorem Nm.ext{x y:Nat->Int}(h:Nm x)(g:Nm y)(e:∀t,t<6->x t=y t):x=y:=by
 funext i;by_cases c:i<6
 ·exact e i c
 ·rw [h i (by omega),g i (by omega)]
def insS(k:Nat->Int):List (Nat->Int)->List (Nat->Int)
 | []=>[k]
 | x::r=>if cmpP x k<0 then x::insS k r else if cmpP x k=0 then x::r else k::x::r
def setS(l:List (Nat->Int)):List (Nat->Int):=l.foldl (fun s k=>insS k s) []
def Srt(l:List (Nat->Int)):Prop:=l.Pairwise ltP
theorem xjs{k:Nat->Int}(hk:Nm k):∀{l:List (Nat->Int)},(∀x∈l,Nm x)->∀x,x∈insS k l↔x=k\/x∈l
 | [],_,x=>by simp [insS]
 | y::r,hn,x=>by
  unfold insS;split
  ·rw [List.mem_cons,xjs hk (fun z hz=>hn z (List.mem_cons_of_mem _ hz)),List.mem_cons];constructor
   ·rintro (h|h|h)
    ·exact .inr (.inl h)
    ·exact .inl h
    ·exact .inr (.inr h)
   ·rintro (h|h|h)
    ·exact .inr (.inl h)
    ·exact .inl h
    ·exact .inr (.inr h)
  ·split
   ·rename_i _ h0;have e:y=k:=(hn y (by simp)).ext hk ((xet _ _).1 h0);simp [e]
   ·simp
theorem xjt{k:Nat->Int}(hk:Nm k):∀{l:List (Nat->Int)},(∀x∈l,Nm x)->Srt l->Srt (insS k l)
 | [],_,_=>by simp [insS,Srt]
 | y::r,hn,hs=>by
  unfold Srt at hs ⊢;rw [List.pairwise_cons] at hs;unfold insS;split
  ·rename_i h;rw [List.pairwise_cons];refine ⟨fun z hz=>?_,xjt hk (fun z hz=>hn z (List.mem_cons_of_mem _ hz)) hs.2⟩;rcases (xjs hk (fun z hz=>hn z (List.mem_cons_of_mem _ hz)) z).1 hz with e|e
   ·rw [e];exact (xes _ _).1 h
   ·exact hs.1 z e
  ·split
   ·rw [List.pairwise_cons];exact hs
   ·rename_i h1 h2
    have hlt:ltP k y:=by
     rcases ltP.total y k with h|h|h
     ·exact absurd ((xes _ _).2 h) h1
     ·exact h
     ·exact absurd ((xet _ _).2 h) h2
    rw [List.pairwise_cons,List.pairwise_cons]
    exact ⟨fun z hz=>by
     rcases List.mem_cons.1 hz with e|e
     ·rw [e];exact hlt
     ·exact hlt.trans (hs.1 z e),hs⟩
theorem foldS{l:List (Nat->Int)}:∀{s:List (Nat->Int)},(∀x∈l,Nm x)->(∀x∈s,Nm x)->Srt s->Srt (l.foldl (fun s k=>insS k s) s)/\∀x,x∈l.foldl (fun s k=>insS k s) s↔x∈l\/x∈s:=by
 induction l with
 | nil=>intro s _ _ hs;exact ⟨hs,fun x=>by simp⟩
 | cons k l ih=>
  intro s hl hn hs;have hk:=hl k (by simp);have hm:=xjs hk hn
  obtain ⟨h1,h2⟩:=ih (s:=insS k s) (fun x hx=>hl x (List.mem_cons_of_mem _ hx)) (fun x hx=>by
   rcases (hm x).1 hx with e|e
   ·rw [e];exact hk
   ·exact hn x e) (xjt hk hn hs)
  refine ⟨h1,fun x=>?_⟩;rw [List.foldl_cons,h2,hm,List.mem_cons];constructor
  ·rintro (h|h|h)
   ·exact .inl (.inr h)
   ·exact .inl (.inl h)
   ·exact .inr h
  ·rintro ((h|h)|h)
   ·exact .inr (.inl h)
   ·exact .inl h
   ·exact .inr (.inr h)
theorem xv3{l:List (Nat->Int)}(hl:∀x∈l,Nm x):Srt (setS l):=(foldS (s:=[]) hl (fun x hx=>by simp at hx) (by simp [Srt])).1
theorem xv2{l:List (Nat->Int)}(hl:∀x∈l,Nm x)(x:Nat->Int):x∈setS l↔x∈l:=by
 have:=(foldS (s:=[]) hl (fun x hx=>by simp at hx) (by simp [Srt])).2 x;unfold setS;rw [this];simp
theorem xw2:∀{l m:List (Nat->Int)},Srt l->Srt m->(∀x,x∈l↔x∈m)->l=m
 | [],[],_,_,_=>rfl
 | [],y::m,_,_,h=>by have:=(h y).2 (by simp);simp at this
 | x::l,[],_,_,h=>by have:=(h x).1 (by simp);simp at this
 | x::l,y::m,hl,hm,h=>by
  unfold Srt at hl hm;rw [List.pairwise_cons] at hl hm
  have e:x=y:=by
   rcases List.mem_cons.1 ((h x).1 (by simp)) with a|a
   ·exact a
   ·rcases List.mem_cons.1 ((h y).2 (by simp)) with b|b
    ·exact b.symm
    ·exact absurd ((hm.1 x a).trans (hl.1 y b)) (ltP.irrefl _)
  subst e;have hx1:x∉l:=fun g=>ltP.irrefl _ (hl.1 x g)
  have hx2:x∉m:=fun g=>ltP.irrefl _ (hm.1 x g)
  rw [xw2 (l:=l) (m:=m) hl.2 hm.2 (fun z=>by
   constructor
   ·intro g;rcases List.mem_cons.1 ((h z).1 (List.mem_cons_of_mem _ g)) with a|a
    ·rw [a] at g;exact absurd g hx1
    ·exact a
   ·intro g;rcases List.mem_cons.1 ((h z).2 (List.mem_cons_of_mem _ g)) with a|a
    ·rw [a] at g;exact absurd g hx2
    ·exact a)]
def compN(d:Nat->Nat->Int):Nat->List (Nat->Int)
 | 0=>[]
 | n+1=>if n≠0/\cmpP (d n) (d (n-1))=0 then compN d n else compN d n++[d n]
theorem xe3{d:Nat->Nat->Int}:∀{n:Nat},(∀j,j<n->Nm (d j))->∀x,x∈compN d n↔∃j,j<n/\x=d j
 | 0,_,x=>by simp [compN]
 | n+1,hn,x=>by
  have ih:=xe3 (d:=d) (n:=n) (fun j hj=>hn j (by omega)) x;unfold compN;split
  ·rename_i h;rw [ih];constructor
   ·rintro ⟨j,h1,h2⟩;exact ⟨j,by omega,h2⟩
   ·rintro ⟨j,h1,h2⟩;by_cases e:j=n
    ·refine ⟨n-1,by omega,?_⟩;rw [h2,e];exact (hn n (by omega)).ext (hn (n-1) (by omega)) ((xet _ _).1 h.2)
    ·exact ⟨j,by omega,h2⟩
  ·rw [List.mem_append,ih];simp only [List.mem_singleton];constructor
   ·rintro (⟨j,h1,h2⟩|h)
    ·exact ⟨j,by omega,h2⟩
    ·exact ⟨n,by omega,h⟩
   ·rintro ⟨j,h1,h2⟩;by_cases e:j=n
    ·rw [e] at h2;exact .inr h2
    ·exact .inl ⟨j,by omega,h2⟩
theorem xe5{d:Nat->Nat->Int}:∀{n:Nat},(∀j,j<n->Nm (d j))->(∀i j,i<j->j<n->¬ltP (d j) (d i))->Srt (compN d n)
 | 0,_,_=>by simp [compN,Srt]
 | n+1,hn,hs=>by
  have ih:=xe5 (d:=d) (n:=n) (fun j hj=>hn j (by omega)) (fun i j h1 h2=>hs i j h1 (by omega));unfold compN;split
  ·exact ih
  ·rename_i h;unfold Srt at ih ⊢;rw [List.pairwise_append];refine ⟨ih,by simp,fun x hx y hy=>?_⟩;simp only [List.mem_singleton] at hy;subst hy;obtain ⟨j,hj,rfl⟩:=(xe3 (d:=d) (n:=n) (fun j hj=>hn j (by omega)) x).1 hx
   have h1:ltP (d (n-1)) (d n):=by
    rcases ltP.total (d (n-1)) (d n) with g|g|g
    ·exact g
    ·exact absurd g (hs (n-1) n (by omega) (by omega))
    ·exact absurd ⟨by omega,(xet _ _).2 (fun t ht=>(g t ht).symm)⟩ h
   by_cases e:j=n-1
   ·rw [e];exact h1
   ·have h2:=hs j (n-1) (by omega) (by omega);rcases ltP.total (d j) (d (n-1)) with g|g|g
    ·exact g.trans h1
    ·exact absurd g h2
    ·exact h1.congL (fun t ht=>(g t ht).symm)
theorem xe4{d:Nat->Nat->Int}{n:Nat}{l:List (Nat->Int)}(hn:∀j,j<n->Nm (d j))(hs:∀i j,i<j->j<n->¬ltP (d j) (d i))(hl:∀x∈l,Nm x)(hm:∀x,x∈l↔∃j,j<n/\x=d j):compN d n=setS l:=
 xw2 (xe5 hn hs) (xv3 hl) (fun x=>by rw [xe3 hn,xv2 hl,hm])
open Go.RowKit
def pkA(k:Nat->Int):Array Value:=#[.int .i64 (k 0),.int .i64 (k 1),.int .i64 (k 2),.int .i64 (k 3),.int .i64 (k 4),.int .i64 (k 5)]
def pkV(k:Nat->Int):Value:=.agg (pkA k)
def okF(v:Int):Prop:=0<=v/\v<=31
def okP(v:Int):Prop:=-1<=v/\v<=31
def xtx(k:Nat->Int):Prop:=∀i,i<6->okF (k i)
def openS(k:Nat->Int):Prop:=k 0=-1/\∀i,i<6->okP (k i)
def Says(p:Prop)(w:World)(e:Ending)(w':World):Prop:=(∃b:Bool,e=.returned (.bool b)/\(b=true↔p))/\w.grownBy w' none
def pkBlk(w:World)(b:Nat)(k:Nat->Int):Prop:=w.heap[b]?=some (.cells (pkA k) 46 (0,0))
theorem xri(k:Nat->Int)(i:Nat)(h:i<6):(pkA k)[i]?=some (.int .i64 (k i)):=by
 rcases (show i=0\/i=1\/i=2\/i=3\/i=4\/i=5 by omega) with rfl|rfl|rfl|rfl|rfl|rfl<;>rfl
theorem pkBlk.cell{w:World}{b:Nat}{k:Nat->Int}(h:pkBlk w b k)(i:Nat)(hi:i<6):w.cell? ⟨b,i,none⟩=some (.int .i64 (k i)):=by
 unfold pkBlk at h;have:=xri k i hi;simp only [World.cell?,h];simpa using this
theorem pkBlk.frozen{w:World}{b:Nat}{k:Nat->Int}(h:pkBlk w b k)(i:Nat):w.frozen? ⟨b,i,none⟩=false:=by
 unfold pkBlk at h;simp [World.frozen?,h]
theorem pkBlk.grown{w w':World}{b:Nat}{k:Nat->Int}{row:Option Nat}(h:pkBlk w b k)(hg:w.grownBy w' row)(hr:row≠some b):pkBlk w' b k:=by
 unfold pkBlk at *;rw [hg.block b (Array.getElem?_eq_some_iff.1 h).1 hr.symm,h]
theorem pkBlk.alloc(w:World)(k:Nat->Int):pkBlk (w.alloc (.cells (pkA k) 46)) w.heap.size k:=by
 unfold pkBlk;exact heap_alloc_new w _
theorem pkBlk.set{w:World}{b:Nat}{k:Nat->Int}(h:pkBlk w b k)(i:Nat)(hi:i<6)(x:Int):pkBlk (w.setCell ⟨b,i,none⟩ (.int .i64 x)) b (fun j=>if j=i then x else k j):=by
 unfold pkBlk at *;rw [xjh h];congr 2;rcases (show i=0\/i=1\/i=2\/i=3\/i=4\/i=5 by omega) with rfl|rfl|rfl|rfl|rfl|rfl<;>simp [pkA]
@[go_sem] theorem Tryz.indexPk(k:Nat->Int)(i:Nat)(h:i<6)(w:World):Sem.run Tryz.prog (Instr.index 46 (.agg #[.int .i64 (k 0),.int .i64 (k 1),.int .i64 (k 2),.int .i64 (k 3),.int .i64 (k 4),.int .i64 (k 5)]) (.int .i64 (i:Int))) w=.ok (.int .i64 (k i)) w:=by
 rcases (show i=0\/i=1\/i=2\/i=3\/i=4\/i=5 by omega) with rfl|rfl|rfl|rfl|rfl|rfl<;>kernel_rfl
theorem xtz(k:Nat->Int)(w:World):Calls Tryz.prog 55 #[pkV k] w (Says (xtx k) w):=by
 unfold pkV pkA;go_enter Tryz.func55,Tryz.ntmps55;go_wp2;go_loopw [6] (fun i wr=>∃j:Nat,j<=6/\i=.int .i64 j/\(∀i,i<j->okF (k i))/\w.grownBy wr none) (fun i _=>6-(intOf i).toNat)
 case atStart=>exact ⟨0,by omega,rfl,fun i hi=>by omega,World.grownBy_alloc _ _ _⟩
 case round=>
  obtain ⟨j,hj,rfl,hok,hg⟩:=hrel;have HOK:=hide hok;have HG:=hide hg;clear hok hg;by_cases hlt:j<6
  ·obtain ⟨x,hx⟩:∃x,x=k j:=⟨_,rfl⟩;have hix:=Tryz.indexPk k j hlt wr;rw [<-hx] at hix;by_cases h1:x<0
   ·go_wp2;go_ret;exact ⟨⟨false,rfl,by simp;intro hh;have:=(hh j hlt).1;omega⟩,HG.out⟩
   ·by_cases h2:31<x
    ·go_wp2;go_ret;exact ⟨⟨false,rfl,by simp;intro hh;have:=(hh j hlt).2;omega⟩,HG.out⟩
    ·go_wp2;go_roundw
     case rel=>exact ⟨j+1,by omega,by go_num,fun i hi=>by
      by_cases e:i=j
      ·subst e;rw [<-hx];exact ⟨by omega,by omega⟩
      ·exact HOK.out i (by omega),HG.out⟩
     case measure=>simp [intOf];omega
  ·go_wp2;go_ret;exact ⟨⟨true,rfl,by simp;intro i hi;exact HOK.out i (by omega)⟩,HG.out⟩
def eq6(a0 a1 a2 a3 a4 a5 b0 b1 b2 b3 b4 b5:Int):Bool:=a0 == b0&&(a1 == b1&&(a2 == b2&&(a3 == b3&&(a4 == b4&&(a5 == b5)))))
theorem Tryz.part6(a0 a1 a2 a3 a4 a5:Int)(i:Nat)(h:i<6)(w:World):(part 3 #[.int .i64 a0,.int .i64 a1,.int .i64 a2,.int .i64 a3,.int .i64 a4,.int .i64 a5] i).run Tryz.prog w=.ok (.int .i64 (match i with|0=>a0|1=>a1|2=>a2|3=>a3|4=>a4|_=>a5)) w:=by
 rcases (show i=0\/i=1\/i=2\/i=3\/i=4\/i=5 by omega) with rfl|rfl|rfl|rfl|rfl|rfl<;>kernel_rfl
@[go_sem] theorem Tryz.eqPk(a0 a1 a2 a3 a4 a5 b0 b1 b2 b3 b4 b5:Int)(w:World):
  Sem.run Tryz.prog (Op.equalIn 10000 46 (.agg #[.int .i64 a0,.int .i64 a1,.int .i64 a2,.int .i64 a3,.int .i64 a4,.int .i64 a5]) (.agg #[.int .i64 b0,.int .i64 b1,.int .i64 b2,.int .i64 b3,.int .i64 b4,.int .i64 b5])) w=.ok (eq6 a0 a1 a2 a3 a4 a5 b0 b1 b2 b3 b4 b5) w:=by
 obtain ⟨i0,hi0⟩:∃i0,Tryz.prog.info? 3=some i0:=by
  cases h:Tryz.prog.info? 3 with
  | none=>exact absurd h (by have:(Tryz.prog.info? 3).isSome=true:=by kernel_rfl
                             intro e;rw [e] at this;cases this)
  | some i=>exact ⟨i,rfl⟩
 have hu:Tryz.prog.underlying 46=some (.array 6 3):=by kernel_rfl
 have hc:Tryz.prog.cellsOf 3=1:=by kernel_rfl
 have h3:Tryz.prog.underlying 3=some (.int .i64):=by kernel_rfl
 rw [run_equalIn_array w 9999 _ _ hu hi0,hc];rw [show List.range 6=[0,1,2,3,4,5] from rfl];have hs:∀x y:Int,∀w:World,(Op.equalIn 9999 3 (.int .i64 x) (.int .i64 y)).run Tryz.prog w=.ok (x == y) w:=fun x y w=>run_equalIn_int w 9998 3 .i64 .i64 x y h3
 have st:∀(i:Nat) (is:List Nat) (x y:Int),i<6->(part 3 #[.int .i64 a0,.int .i64 a1,.int .i64 a2,.int .i64 a3,.int .i64 a4,.int .i64 a5] i).run Tryz.prog w=.ok (.int .i64 x) w->(part 3 #[.int .i64 b0,.int .i64 b1,.int .i64 b2,.int .i64 b3,.int .i64 b4,.int .i64 b5] i).run Tryz.prog w=.ok (.int .i64 y) w->
   (Op.eqItems 9999 3 1 #[.int .i64 a0,.int .i64 a1,.int .i64 a2,.int .i64 a3,.int .i64 a4,.int .i64 a5] #[.int .i64 b0,.int .i64 b1,.int .i64 b2,.int .i64 b3,.int .i64 b4,.int .i64 b5] (i::is)).run Tryz.prog w=if (x == y)=true then (Op.eqItems 9999 3 1 #[.int .i64 a0,.int .i64 a1,.int .i64 a2,.int .i64 a3,.int .i64 a4,.int .i64 a5] #[.int .i64 b0,.int .i64 b1,.int .i64 b2,.int .i64 b3,.int .i64 b4,.int .i64 b5] is).run Tryz.prog w else .ok false w:=by
  intro i is x y hi h1 h2;rw [Op.eqItems];simp only [Sem.run_bind,Nat.mul_one,h1,h2,Result.andThen_ok,hs];cases x == y<;>simp [Sem.run_pure]
 have p:=fun i h=>Tryz.part6 a0 a1 a2 a3 a4 a5 i h w
 have q:=fun i h=>Tryz.part6 b0 b1 b2 b3 b4 b5 i h w
 rw [st 0 _ _ _ (by decide) (p 0 (by decide)) (q 0 (by decide)),st 1 _ _ _ (by decide) (p 1 (by decide)) (q 1 (by decide)),st 2 _ _ _ (by decide) (p 2 (by decide)) (q 2 (by decide)),st 3 _ _ _ (by decide) (p 3 (by decide)) (q 3 (by decide)),st 4 _ _ _ (by decide) (p 4 (by decide)) (q 4 (by decide)),st 5 _ _ _ (by decide) (p 5 (by decide)) (q 5 (by decide))];have e:(Op.eqItems 9999 3 1 #[.int .i64 a0,.int .i64 a1,.int .i64 a2,.int .i64 a3,.int .i64 a4,.int .i64 a5] #[.int .i64 b0,.int .i64 b1,.int .i64 b2,.int .i64 b3,.int .i64 b4,.int .i64 b5] []).run Tryz.prog w=.ok true w:=by simp [Op.eqItems,Sem.run_pure]
 rw [e];unfold eq6;clear e st p q hs;cases a0 == b0<;>cases a1 == b1<;>cases a2 == b2<;>cases a3 == b3<;>cases a4 == b4<;>cases a5 == b5<;>rfl
def PkRow(w:World)(v:Value)(n:Nat)(ps:Nat->Nat->Int):Prop:=
 (v=.slice none 0 0/\n=0)\/∃g off cap,v=.slice (some ⟨g,off,none⟩) n cap/\n<=3000000000000/\∀j,j<n->∀i,i<6->w.cell? ⟨g,off+j*6+i,none⟩=some (.int .i64 (ps j i))
theorem PkRow.grown{w w':World}{v:Value}{n:Nat}{ps:Nat->Nat->Int}(h:PkRow w v n ps)(hg:w.grownBy w' none):PkRow w' v n ps:=by
 rcases h with h|⟨g,off,cap,h1,h2,h3⟩
 ·exact .inl h
 ·exact .inr ⟨g,off,cap,h1,h2,fun j hj i hi=>hg.cell (h3 j hj i hi) (by simp)⟩
theorem xby(p:(Nat->Int)->Prop)(hfn:∀k w,Calls Tryz.prog 55 #[pkV k] w (Says (p k) w))(v:Value)(n:Nat)(ps:Nat->Nat->Int)(w:World)(h:PkRow w v n ps):
  Calls Tryz.prog 280 #[v,.func (.func 55) #[] #[]] w (Says (∀j,j<n->p (ps j)) w):=by
 rcases h with ⟨rfl,rfl⟩|⟨g,off,cap,rfl,hn,hcell⟩
 ·go_enter Tryz.func280,Tryz.ntmps280;go_wp2;go_loopw [9] (fun i wr=>i=.int .i64 0/\wr=w) (fun i _=>0)
  case atStart=>exact ⟨rfl,rfl⟩
  case round=>
   obtain ⟨rfl,rfl⟩:=hrel;go_wp2;go_ret;exact ⟨⟨true,rfl,by simp⟩,xjb _ _⟩
 ·have HF:=hide hfn;have HC:=hide hcell;clear hfn hcell;unfold pkV pkA at HF;go_enter Tryz.func280,Tryz.ntmps280;go_wp2;go_loopw [9] (fun i wr=>∃j:Nat,j<=n/\i=.int .i64 j/\(∀i,i<j->p (ps i))/\w.grownBy wr none) (fun i _=>n-(intOf i).toNat)
  case atStart=>exact ⟨0,by omega,rfl,fun i hi=>by omega,xjb _ _⟩
  case round=>
   obtain ⟨j,hj,rfl,hok,hg⟩:=hrel;have HOK:=hide hok;have HG:=hide hg;clear hok hg;by_cases hlt:j<n
   ·obtain ⟨k,hk⟩:∃k,k=ps j:=⟨_,rfl⟩;have c0:wr.cell? ⟨g,off+j*6,none⟩=some (.int .i64 (k 0)):=by rw [hk];exact HG.out.cell (HC.out j hlt 0 (by omega)) (by simp)
    have c1:wr.cell? ⟨g,off+j*6+1,none⟩=some (.int .i64 (k 1)):=by rw [hk];exact HG.out.cell (HC.out j hlt 1 (by omega)) (by simp)
    have c2:wr.cell? ⟨g,off+j*6+2,none⟩=some (.int .i64 (k 2)):=by rw [hk];exact HG.out.cell (HC.out j hlt 2 (by omega)) (by simp)
    have c3:wr.cell? ⟨g,off+j*6+3,none⟩=some (.int .i64 (k 3)):=by rw [hk];exact HG.out.cell (HC.out j hlt 3 (by omega)) (by simp)
    have c4:wr.cell? ⟨g,off+j*6+4,none⟩=some (.int .i64 (k 4)):=by rw [hk];exact HG.out.cell (HC.out j hlt 4 (by omega)) (by simp)
    have c5:wr.cell? ⟨g,off+j*6+5,none⟩=some (.int .i64 (k 5)):=by rw [hk];exact HG.out.cell (HC.out j hlt 5 (by omega)) (by simp)
    have HK:=hide hk;clear hk;go_wp2_with fail;refine (HF.out k _).mono ?_;rintro e w1 ⟨⟨b,rfl,hb⟩,hg1⟩;have G1:=hide hg1;have HB:=hide hb;clear hb hg1;cases b
    ·go_wp2;go_ret;exact ⟨⟨false,rfl,by simp;exact ⟨j,hlt,fun h=>by have:=HB.out.2 (by rw [HK.out];exact h);simp at this⟩⟩,xje (xje HG.out (World.grownBy_alloc _ _ _)) G1.out⟩
    ·go_wp2;go_roundw
     case rel=>exact ⟨j+1,by omega,by go_num,fun i hi=>by
      by_cases e:i=j
      ·subst e;rw [<-HK.out];exact HB.out.1 (by simp)
      ·exact HOK.out i (by omega),xje (xje HG.out (World.grownBy_alloc _ _ _)) G1.out⟩
     case measure=>simp [intOf];omega
   ·go_wp2;go_ret;exact ⟨⟨true,rfl,by simp;intro i hi;exact HOK.out i (by omega)⟩,HG.out⟩
theorem xbx(p:(Nat->Int)->Prop)(hfn:∀k w,Calls Tryz.prog 283 #[pkV k] w (Says (p k) w))(v:Value)(n:Nat)(ps:Nat->Nat->Int)(w:World)(h:PkRow w v n ps):
  Calls Tryz.prog 280 #[v,.func (.func 283) #[] #[]] w (Says (∀j,j<n->p (ps j)) w):=by
 rcases h with ⟨rfl,rfl⟩|⟨g,off,cap,rfl,hn,hcell⟩
 ·go_enter Tryz.func280,Tryz.ntmps280;go_wp2;go_loopw [9] (fun i wr=>i=.int .i64 0/\wr=w) (fun i _=>0)
  case atStart=>exact ⟨rfl,rfl⟩
  case round=>
   obtain ⟨rfl,rfl⟩:=hrel;go_wp2;go_ret;exact ⟨⟨true,rfl,by simp⟩,xjb _ _⟩
 ·have HF:=hide hfn;have HC:=hide hcell;clear hfn hcell;unfold pkV pkA at HF;go_enter Tryz.func280,Tryz.ntmps280;go_wp2;go_loopw [9] (fun i wr=>∃j:Nat,j<=n/\i=.int .i64 j/\(∀i,i<j->p (ps i))/\w.grownBy wr none) (fun i _=>n-(intOf i).toNat)
  case atStart=>exact ⟨0,by omega,rfl,fun i hi=>by omega,xjb _ _⟩
  case round=>
   obtain ⟨j,hj,rfl,hok,hg⟩:=hrel;have HOK:=hide hok;have HG:=hide hg;clear hok hg;by_cases hlt:j<n
   ·obtain ⟨k,hk⟩:∃k,k=ps j:=⟨_,rfl⟩;have c0:wr.cell? ⟨g,off+j*6,none⟩=some (.int .i64 (k 0)):=by rw [hk];exact HG.out.cell (HC.out j hlt 0 (by omega)) (by simp)
    have c1:wr.cell? ⟨g,off+j*6+1,none⟩=some (.int .i64 (k 1)):=by rw [hk];exact HG.out.cell (HC.out j hlt 1 (by omega)) (by simp)
    have c2:wr.cell? ⟨g,off+j*6+2,none⟩=some (.int .i64 (k 2)):=by rw [hk];exact HG.out.cell (HC.out j hlt 2 (by omega)) (by simp)
    have c3:wr.cell? ⟨g,off+j*6+3,none⟩=some (.int .i64 (k 3)):=by rw [hk];exact HG.out.cell (HC.out j hlt 3 (by omega)) (by simp)
    have c4:wr.cell? ⟨g,off+j*6+4,none⟩=some (.int .i64 (k 4)):=by rw [hk];exact HG.out.cell (HC.out j hlt 4 (by omega)) (by simp)
    have c5:wr.cell? ⟨g,off+j*6+5,none⟩=some (.int .i64 (k 5)):=by rw [hk];exact HG.out.cell (HC.out j hlt 5 (by omega)) (by simp)
    have HK:=hide hk;clear hk;go_wp2_with fail;refine (HF.out k _).mono ?_;rintro e w1 ⟨⟨b,rfl,hb⟩,hg1⟩;have G1:=hide hg1;have HB:=hide hb;clear hb hg1;cases b
    ·go_wp2;go_ret;exact ⟨⟨false,rfl,by simp;exact ⟨j,hlt,fun h=>by have:=HB.out.2 (by rw [HK.out];exact h);simp at this⟩⟩,xje (xje HG.out (World.grownBy_alloc _ _ _)) G1.out⟩
    ·go_wp2;go_roundw
     case rel=>exact ⟨j+1,by omega,by go_num,fun i hi=>by
      by_cases e:i=j
      ·subst e;rw [<-HK.out];exact HB.out.1 (by simp)
      ·exact HOK.out i (by omega),xje (xje HG.out (World.grownBy_alloc _ _ _)) G1.out⟩
     case measure=>simp [intOf];omega
   ·go_wp2;go_ret;exact ⟨⟨true,rfl,by simp;intro i hi;exact HOK.out i (by omega)⟩,HG.out⟩
def noAny(k:Nat->Int)(j i:Nat):Int:=if i<j/\k i=-1 then 0 else k i
theorem xor(k:Nat->Int):noAny k 0=k:=by funext i;simp [noAny]
theorem xoq{k:Nat->Int}{j:Nat}(h:k j=-1):(fun i=>if i=j then 0 else noAny k j i)=noAny k (j+1):=by
 funext i;by_cases e:i=j
 ·subst e;simp [noAny,h]
 ·simp only [if_neg e,noAny];by_cases e2:i<j
  ·simp [e2,show i<j+1 by omega]
  ·simp [e2,show ¬i<j+1 by omega]
theorem xoo{k:Nat->Int}{j:Nat}(h:k j ≠ -1):noAny k j=noAny k (j+1):=by
 funext i;by_cases e:i=j
 ·subst e;simp [noAny,h]
 ·simp only [noAny];by_cases e2:i<j
  ·simp [e2,show i<j+1 by omega]
  ·simp [e2,show ¬i<j+1 by omega]
theorem xop(k:Nat->Int)(h0:k 0=-1):xtx (noAny k 6)↔openS k:=by
 constructor
 ·intro h;refine ⟨h0,fun i hi=>?_⟩;have:=h i hi;unfold okF noAny at this;unfold okP;by_cases e:k i=-1
  ·omega
  ·simp [hi,e] at this;omega
 ·intro h i hi;have:=h.2 i hi;unfold okP at this;unfold okF noAny;by_cases e:k i=-1
  ·simp [hi,e]
  ·simp [hi,e];omega
theorem xra(k:Nat->Int)(w:World):Calls Tryz.prog 283 #[pkV k] w (Says (openS k) w):=by
 have HB:=hide (pkBlk.alloc w k);unfold pkA at HB;unfold pkV pkA;go_enter Tryz.func283,Tryz.ntmps283;by_cases h0:k 0=-1
 ·have H0:=hide h0;have h1:k 0 <= -1:=by omega
  have h2:-1<=k 0:=by omega
  clear h0;go_wp2;go_loopw [9] (fun i wr=>∃j:Nat,j<=6/\i=.int .i64 j/\pkBlk wr w.heap.size (noAny k j)/\w.grownBy wr none) (fun i _=>6-(intOf i).toNat)
  case atStart=>exact ⟨0,by omega,rfl,by rw [xor];exact HB.out,World.grownBy_alloc _ _ _⟩
  case round=>
   obtain ⟨j,hj,rfl,hb,hg⟩:=hrel;have HG:=hide hg;have HP:=hide hb;clear hg hb h1 h2;by_cases hlt:j<6
   ·obtain ⟨x,hx⟩:∃x,x=k j:=⟨_,rfl⟩;have HX:=hide hx;have hix:=Tryz.indexPk k j hlt wr;rw [<-hx] at hix;clear hx;by_cases h3:x=-1
    ·have H3:=hide h3;have h4:x <= -1:=by omega
     have h5:-1<=x:=by omega
     clear h3;have c1:=HP.out.cell j hlt;have c2:=HP.out.frozen j;go_wp2;go_roundw
     case rel=>
      have:=HP.out.set j hlt 0;rw [xoq (by rw [<-HX.out];exact H3.out)] at this;exact ⟨j+1,by omega,by go_num,this,xi9 HG.out (xjc _ _ _ _) (Nat.le_refl _)⟩
     case measure=>simp [intOf];omega
    ·go_wp2;go_roundw
     case rel=>
      have:=HP.out;rw [xoo (by rw [<-HX.out];exact h3)] at this;exact ⟨j+1,by omega,by go_num,this,HG.out⟩
     case measure=>simp [intOf];omega
   ·obtain rfl:j=6:=by omega
    have c0:=HP.out.cell 0 (by omega);have c1:=HP.out.cell 1 (by omega);have c2:=HP.out.cell 2 (by omega);have c3:=HP.out.cell 3 (by omega);have c4:=HP.out.cell 4 (by omega);have c5:=HP.out.cell 5 (by omega);obtain ⟨q,hq⟩:∃q,q=noAny k 6:=⟨_,rfl⟩;rw [<-hq] at c0 c1 c2 c3 c4 c5;have HQ:=hide hq;clear hq;have HR:=hide (xtz q wr);unfold pkV pkA at HR;go_wp2_with fail;refine HR.out.mono ?_;rintro e w1 ⟨⟨b,rfl,hb⟩,hg1⟩;have G1:=hide hg1;have HB:=hide hb;clear hb hg1;go_wp2;go_ret;exact ⟨⟨b,rfl,by rw [HB.out,HQ.out];exact xop k H0.out⟩,xje HG.out G1.out⟩
 ·go_wp2;go_ret;exact ⟨⟨false,rfl,by simp;intro hh;exact h0 hh.1⟩,World.grownBy_alloc _ _ _⟩
theorem xen(x y:Int)(w:World):Calls Tryz.prog 214 #[.int .i64 x,.int .i64 y] w fun e w'=>e=.returned (.int .i64 (cmpI x y))/\w'=w:=by
 unfold cmpI;by_cases h1:x<y
 ·rw [if_pos h1];go_enter Tryz.func214,Tryz.ntmps214;go_wp2;go_ret;exact ⟨rfl,rfl⟩
 ·rw [if_neg h1];by_cases h2:y<x
  ·rw [if_pos h2];go_enter Tryz.func214,Tryz.ntmps214;go_wp2;go_ret;exact ⟨rfl,rfl⟩
  ·rw [if_neg h2];go_enter Tryz.func214,Tryz.ntmps214;go_wp2;go_ret;exact ⟨rfl,rfl⟩
theorem xeo(x y:Nat->Int):∀n i j,i<=j->j<i+n->(∀t,i<=t->t<j->x t=y t)->x j≠y j->cmpN x y i n=cmpI (x j) (y j)
 | 0,i,j,h1,h2,_,_=>by omega
 | n+1,i,j,h1,h2,h3,h4=>by
  unfold cmpN;by_cases e:i=j
  ·rw [e,if_neg h4]
  ·rw [if_pos (h3 i (by omega) (by omega))];exact xeo x y n (i+1) j (by omega) (by omega) (fun t a b=>h3 t (by omega) b) h4
theorem xer(x y:Nat->Int)(j:Nat)(hj:j<6)(h:∀t,t<j->x t=y t)(hne:x j≠y j):cmpP x y=cmpI (x j) (y j):=
 xeo x y 6 0 j (by omega) (by omega) (fun t _ ht=>h t ht) hne
theorem xwg(b c:Nat)(x y:Nat->Int)(w:World)(hb:pkBlk w b x)(hc:pkBlk w c y):Calls Tryz.prog 152 #[.slice (some ⟨b,0,none⟩) 6 6,.slice (some ⟨c,0,none⟩) 6 6] w fun e w'=>e=.returned (.int .i64 (cmpP x y))/\w'=w:=by
 have HB:=hide hb;have HC:=hide hc;clear hb hc;have HI:=hide (fun x y w=>xen x y w);go_enter Tryz.func152,Tryz.ntmps152;go_wp2;go_loopw [11] (fun i wr=>∃j:Nat,j<=6/\i=.int .i64 j/\(∀t,t<j->x t=y t)/\wr=w) (fun i _=>6-(intOf i).toNat)
 case atStart=>exact ⟨0,by omega,rfl,fun t ht=>by omega,rfl⟩
 case round=>
  obtain ⟨j,hj,rfl,hok,rfl⟩:=hrel;have HOK:=hide hok;clear hok;by_cases hlt:j<6
  ·have c1:=HB.out.cell j hlt;have c2:=HC.out.cell j hlt;have hltI:(j:Int)<6:=by omega
   obtain ⟨p,hp⟩:∃p,p=x j:=⟨_,rfl⟩;obtain ⟨q,hq⟩:∃q,q=y j:=⟨_,rfl⟩;rw [<-hp] at c1;rw [<-hq] at c2;have HP:=hide hp;have HQ:=hide hq;clear hp hq;go_wp2_with fail;refine (HI.out p q wr).mono ?_;rintro e w1 ⟨rfl,hw⟩;rw [hw];clear hw;by_cases heq:p=q
   ·have h0:cmpI p q=0:=(xem _ _).2 heq;rw [h0];have HE:=hide heq;clear heq h0;go_wp2;go_roundw
    case rel=>exact ⟨j+1,by omega,by go_num,fun t ht=>by
     by_cases e:t=j
     ·rw [e,<-HP.out,<-HQ.out];exact HE.out
     ·exact HOK.out t (by omega),by first|trivial|rfl⟩
    case measure=>simp [intOf];omega
   ·have h0:cmpP x y=cmpI p q:=by rw [HP.out,HQ.out];exact xer x y j hlt HOK.out (by rw [<-HP.out,<-HQ.out];exact heq)
    have hne:cmpI p q≠0:=fun h=>heq ((xem _ _).1 h)
    have H0:=hide h0;clear h0 heq;generalize cmpI p q=r at *;go_wp2;go_ret;exact ⟨by rw [H0.out];rfl,by first|trivial|rfl⟩
  ·have H0:Hid (cmpP x y=0):=(xet _ _).2 (fun t ht=>HOK.out t (by omega));have hj6:(6:Int)<=j:=by omega
   go_wp2;go_ret;exact ⟨by rw [H0.out];rfl,by first|trivial|rfl⟩
theorem xe8(x y:Nat->Int)(w:World):Calls Tryz.prog 99 #[pkV x,pkV y] w fun e w'=>e=.returned (.int .i64 (cmpP x y))/\∃q os',w'=Sort.grow (w.drewN q) os':=by
 obtain ⟨w1,hw1⟩:∃w1,w1=w.alloc (.cells (pkA x) 46):=⟨_,rfl⟩;obtain ⟨w2,hw2⟩:∃w2,w2=w1.alloc (.cells (pkA y) 46):=⟨_,rfl⟩;have B1:pkBlk w2 w.heap.size x:=by rw [hw2,hw1];exact (pkBlk.alloc w x).grown (World.grownBy_alloc _ _ none) (by simp)
 have B2:pkBlk w2 (w.heap.size+1) y:=by rw [hw2];have:=pkBlk.alloc w1 y;rw [hw1] at this ⊢;simpa using this
 have HS:Hid (∀n,Calls Tryz.prog 152 #[.slice (some ⟨w.heap.size,0,none⟩) 6 6,.slice (some ⟨w.heap.size+1,0,none⟩) 6 6] (w2.drewN n) fun e w'=>e=.returned (.int .i64 (cmpP x y))/\w'=w2.drewN n):=fun n=>xwg _ _ x y (w2.drewN n) B1 B2
 have HG:Hid (∀n,∃q os',w2.drewN n=Sort.grow (w.drewN q) os'):=fun n=>⟨n,#[.cells (pkA x) 46,.cells (pkA y) 46],by rw [hw2,hw1,Sort.alloc_eq_grow,Sort.alloc_eq_grow,Sort.grow_grow];rfl⟩
 clear B1 B2;generalize cmpP x y=r at *;rw [hw1] at hw2;clear hw1;unfold pkA at hw2;unfold pkV pkA;go_enter Tryz.func99,Tryz.ntmps99;go_wp2_with fail;rw [<-hw2];clear hw2;go_quiet ((go_at_call 152;exact Calls.quiet_of_same (HS.out _)))
 go_wp2;go_ret;exact ⟨rfl,HG.out _⟩
def Own(w:World)(g n cap:Nat)(d:Nat->Nat->Int):Prop:=
 ∃cur:Array Value,w.heap[g]?=some (.cells cur 46 (0,0))/\cur.size=cap*6/\n<=cap/\(cap<=9223372036854775807/\n<=3000000000000)/\∀j,j<n->∀i,i<6->cur[j*6+i]?=some (.int .i64 (d j i))
theorem Own.cell{w:World}{g n cap:Nat}{d:Nat->Nat->Int}(h:Own w g n cap d)(j:Nat)(hj:j<n)(i:Nat)(hi:i<6):w.cell? ⟨g,j*6+i,none⟩=some (.int .i64 (d j i)):=by
 obtain ⟨cur,h1,_,_,_,h4⟩:=h;simp only [World.cell?,h1];simpa using h4 j hj i hi
theorem Own.frozen{w:World}{g n cap:Nat}{d:Nat->Nat->Int}(h:Own w g n cap d)(o:Nat):w.frozen? ⟨g,o,none⟩=false:=by
 obtain ⟨cur,h1,_⟩:=h;simp [World.frozen?,h1]
theorem Own.any{w:World}{g n cap:Nat}{d:Nat->Nat->Int}(h:Own w g n cap d)(o:Nat)(ho:o<cap*6):(w.cell? ⟨g,o,none⟩).isSome=true:=by
 obtain ⟨cur,h1,h2,_⟩:=h;simp only [World.cell?,h1];simp [h2,ho]
theorem Own.lt{w:World}{g n cap:Nat}{d:Nat->Nat->Int}(h:Own w g n cap d):g<w.heap.size:=by
 obtain ⟨cur,h1,_⟩:=h;exact (Array.getElem?_eq_some_iff.1 h1).1
theorem Own.cap{w:World}{g n cap:Nat}{d:Nat->Nat->Int}(h:Own w g n cap d):n<=cap/\cap<=9223372036854775807/\n<=3000000000000:=by
 obtain ⟨cur,_,_,h1,h2,_⟩:=h;exact ⟨h1,h2⟩
theorem Own.grown{w w':World}{g n cap:Nat}{d:Nat->Nat->Int}{row:Option Nat}(h:Own w g n cap d)(hg:w.grownBy w' row)(hr:row≠some g):Own w' g n cap d:=by
 obtain ⟨cur,h1,h2⟩:=h;exact ⟨cur,by rw [hg.block g (Array.getElem?_eq_some_iff.1 h1).1 hr.symm,h1],h2⟩
theorem Own.cong{w:World}{g n cap:Nat}{d e:Nat->Nat->Int}(h:Own w g n cap d)(he:∀j,j<n->∀i,i<6->d j i=e j i):Own w g n cap e:=by
 obtain ⟨cur,h1,h2,h3,h4,h5⟩:=h;exact ⟨cur,h1,h2,h3,h4,fun j hj i hi=>by rw [<-he j hj i hi];exact h5 j hj i hi⟩
theorem Own.row{w:World}{g n cap:Nat}{d:Nat->Nat->Int}(h:Own w g n cap d):PkRow w (.slice (some ⟨g,0,none⟩) n cap) n d:=
 .inr ⟨g,0,cap,rfl,by have:=h.cap;omega,fun j hj i hi=>by rw [Nat.zero_add];exact h.cell j hj i hi⟩
def lay6(w:World)(g o:Nat)(x:Nat->Int):World:=
 (((((w.setCell ⟨g,o,none⟩ (.int .i64 (x 0))).setCell ⟨g,o+1,none⟩ (.int .i64 (x 1))).setCell ⟨g,o+2,none⟩ (.int .i64 (x 2))).setCell ⟨g,o+3,none⟩ (.int .i64 (x 3))).setCell ⟨g,o+4,none⟩ (.int .i64 (x 4))).setCell ⟨g,o+5,none⟩ (.int .i64 (x 5))
theorem xkz{w:World}{g o:Nat}{cur:Array Value}{T:TypeId}(h:w.heap[g]?=some (.cells cur T (0,0)))(x:Nat->Int):
  (lay6 w g o x).heap[g]?=some (.cells ((((((cur.setIfInBounds o (.int .i64 (x 0))).setIfInBounds (o+1) (.int .i64 (x 1))).setIfInBounds (o+2) (.int .i64 (x 2))).setIfInBounds (o+3) (.int .i64 (x 3))).setIfInBounds (o+4) (.int .i64 (x 4))).setIfInBounds (o+5) (.int .i64 (x 5))) T (0,0)):=
 xjh (xjh (xjh (xjh (xjh (xjh h _ _) _ _) _ _) _ _) _ _) _ _
theorem xky(w:World)(g o:Nat)(x:Nat->Int):w.grownBy (lay6 w g o x) (some g):=
 xje (xje (xje (xje (xje (xjc _ _ _ _) (xjc _ _ _ _)) (xjc _ _ _ _)) (xjc _ _ _ _)) (xjc _ _ _ _)) (xjc _ _ _ _)
theorem Own.put{w:World}{g n cap:Nat}{d:Nat->Nat->Int}(h:Own w g n cap d)(j:Nat)(hj:j<n)(x:Nat->Int):Own (lay6 w g (j*6) x) g n cap (fun t=>if t=j then x else d t):=by
 obtain ⟨cur,h1,h2,h3,h4,h5⟩:=h;refine ⟨_,xkz h1 x,by simp [h2],h3,h4,fun t ht i hi=>?_⟩;have hlt:j*6+5<cur.size:=by rw [h2];omega
 simp only [Array.getElem?_setIfInBounds,Array.size_setIfInBounds];by_cases e:t=j
 ·subst e;rw [if_pos rfl];rcases (show i=0\/i=1\/i=2\/i=3\/i=4\/i=5 by omega) with rfl|rfl|rfl|rfl|rfl|rfl
  all_goals (repeat' split)<;>first|omega|rfl
 ·rw [if_neg e,if_neg (by omega),if_neg (by omega),if_neg (by omega),if_neg (by omega),if_neg (by omega),if_neg (by omega)];exact h5 t ht i hi
theorem xgo{x y:Nat->Int}(h:cmpP x y=0):eq6 (x 0) (x 1) (x 2) (x 3) (x 4) (x 5) (y 0) (y 1) (y 2) (y 3) (y 4) (y 5)=true:=by
 have e:=(xet _ _).1 h;unfold eq6;rw [e 0 (by omega),e 1 (by omega),e 2 (by omega),e 3 (by omega),e 4 (by omega),e 5 (by omega)];simp
theorem xgm{x y:Nat->Int}(h:cmpP x y≠0):eq6 (x 0) (x 1) (x 2) (x 3) (x 4) (x 5) (y 0) (y 1) (y 2) (y 3) (y 4) (y 5)=false:=by
 cases hb:eq6 (x 0) (x 1) (x 2) (x 3) (x 4) (x 5) (y 0) (y 1) (y 2) (y 3) (y 4) (y 5) with
 | false=>rfl
 | true=>
  unfold eq6 at hb;simp only [Bool.and_eq_true,beq_iff_eq] at hb;obtain ⟨h0,h1,h2,h3,h4,h5⟩:=hb;refine absurd ((xet _ _).2 (fun t ht=>?_)) h;rcases (show t=0\/t=1\/t=2\/t=3\/t=4\/t=5 by omega) with rfl|rfl|rfl|rfl|rfl|rfl<;>assumption
structure CompI(d:Nat->Nat->Int)(p k:Nat)(e:Nat->Nat->Int):Prop where
 len:(compN d p).length=k
 low:∀j,j<k->(compN d p)[j]?=some (e j)
 high:∀j,k<=j->e j=d j
theorem CompI.one(d:Nat->Nat->Int):CompI d 1 1 d:=⟨rfl,fun j (hj:j<1)=>by
 obtain rfl:j=0:=by omega
 rfl,fun _ _=>rfl⟩
theorem CompI.skip{d e:Nat->Nat->Int}{p k:Nat}(h:CompI d p k e)(hp:1<=p)(hs:cmpP (d p) (d (p-1))=0):CompI d (p+1) k e:=by
 have e1:compN d (p+1)=compN d p:=by
  conv=>lhs;unfold compN
  rw [if_pos ⟨by omega,hs⟩]
 exact ⟨by rw [e1];exact h.len,by rw [e1];exact h.low,h.high⟩
theorem CompI.keep{d e:Nat->Nat->Int}{p k:Nat}(h:CompI d p k e)(hs:cmpP (d p) (d (p-1))≠0):CompI d (p+1) (k+1) (fun t=>if t=k then d p else e t):=by
 have e1:compN d (p+1)=compN d p++[d p]:=by
  conv=>lhs;unfold compN
  rw [if_neg (fun c=>hs c.2)]
 refine ⟨by rw [e1,List.length_append,h.len];rfl,fun j hj=>?_,fun j hj=>?_⟩
 ·rw [e1];by_cases c:j=k
  ·subst c;rw [List.getElem?_append_right (by rw [h.len];exact Nat.le_refl _),h.len];simp
  ·rw [List.getElem?_append_left (by rw [h.len];omega),h.low j (by omega)];simp [c]
 ·show (if j=k then d p else e j)=d j;rw [if_neg (by omega)];exact h.high j (by omega)
theorem CompI.same{d:Nat->Nat->Int}{p:Nat}(h:CompI d p p d)(hs:cmpP (d p) (d (p-1))≠0):CompI d (p+1) (p+1) d:=by
 have:=h.keep hs
 have e:(fun t=>if t=p then d p else d t)=d:=by
  funext t;split
  ·rename_i c;rw [c]
  ·rfl
 rw [e] at this;exact this
theorem xv1{g:Nat}{T:TypeId}:∀(vs:List Value) (o:Nat) (w:World) (cur:Array Value),w.heap[g]?=some (.cells cur T (0,0))->∃cur',(w.setCells g o vs).heap[g]?=some (.cells cur' T (0,0))/\cur'.size=cur.size/\∀t,t<o->cur'[t]?=cur[t]?
 | [],o,w,cur,h=>⟨cur,h,rfl,fun _ _=>rfl⟩
 | v::vs,o,w,cur,h=>by
  obtain ⟨cur',h1,h2,h3⟩:=xv1 vs (o+1) (w.setCell ⟨g,o,none⟩ v) _ (xjh h o v);refine ⟨cur',h1,by rw [h2];simp,fun t ht=>?_⟩;rw [h3 t (by omega),Array.getElem?_setIfInBounds_ne (by omega)]
theorem xv0(g:Nat):∀(vs:List Value) (o:Nat) (w:World),w.grownBy (w.setCells g o vs) (some g)
 | [],o,w=>xjb _ _
 | v::vs,o,w=>xje (xjc w g o v) (xv0 g vs (o+1) _)
theorem Own.cleared{w:World}{g n cap m:Nat}{d:Nat->Nat->Int}(h:Own w g n cap d)(hm:m<=n)(vs:List Value):Own (w.setCells g (m*6) vs) g m cap d:=by
 obtain ⟨cur,h1,h2,h3,h4,h5⟩:=h;obtain ⟨cur',g1,g2,g3⟩:=xv1 vs (m*6) w cur h1;exact ⟨cur',g1,by omega,by omega,⟨h4.1,by omega⟩,fun j hj i hi=>by rw [g3 _ (by omega)];exact h5 j (by omega) i hi⟩
theorem xu8(w:World)(g o m c:Nat)(ty:TypeId)(hm:0<m)(hc:∀j,j<m*6->(w.cell? ⟨g,o+j,none⟩).isSome=true)(hf:∀j,j<m*6->w.frozen? ⟨g,o+j,none⟩=false):
  (Builtin.clear_ #[29] ty #[.slice (some ⟨g,o,none⟩) m c]).run Tryz.prog w=.ok (.tuple #[]) (w.setCells g o (Builtin.zeroCells (pkA fun _=>0) m).toList):=by
 have ht:Tryz.prog.underlying 29=some (.slice 46):=by kernel_rfl
 have hv:∀w,(zeroValue 46).run Tryz.prog w=.ok (pkV fun _=>0) w:=Tryz.zeroValue46;have hz:(pkV fun _=>0).cells=pkA fun _=>0:=rfl
 have hst:=run_storeCells_cells (P:=Tryz.prog) g o (Builtin.zeroCells (pkA fun _=>0) m).toList 0 w (by simpa [Builtin.zeroCells,pkA] using hc) (by simpa [Builtin.zeroCells,pkA] using hf) (by
  intro v hv';simp only [Builtin.zeroCells,Array.toList_map,List.mem_map] at hv';obtain ⟨i,_,rfl⟩:=hv';have:i%(pkA fun _=>0).size<6:=Nat.mod_lt _ (by simp [pkA]);rcases (show i%(pkA fun _=>0).size=0\/i%(pkA fun _=>0).size=1\/i%(pkA fun _=>0).size=2\/i%(pkA fun _=>0).size=3\/i%(pkA fun _=>0).size=4\/i%(pkA fun _=>0).size=5 by omega) with e|e|e|e|e|e<;>rw [e]<;>rfl)
 simp only [Nat.add_zero] at hst;obtain ⟨k,rfl⟩:∃k,m=k+1:=⟨m-1,by omega⟩;simp [Builtin.clear_,run_underlying ht,hv,hz,hst]
theorem xe6(w:World)(g n cap:Nat)(d:Nat->Nat->Int)(h:Own w g n cap d):
  Calls Tryz.prog 223 #[.slice (some ⟨g,0,none⟩) n cap] w fun e w'=>∃m e',CompI d n m e'/\e=.returned (.slice (some ⟨g,0,none⟩) m cap)/\Own w' g m cap e'/\w.grownBy w' (some g):=by
 have hcap:=h.cap;obtain ⟨hc1,hc2,hc3⟩:=hcap;have HO:=hide h;clear h;by_cases h2:n<2
 ·go_enter Tryz.func223,Tryz.ntmps223;have h2I:(n:Int)<2:=by omega
  go_wp2;go_ret;rcases (show n=0\/n=1 by omega) with e|e
  ·subst e;exact ⟨0,d,⟨rfl,fun j hj=>by omega,fun _ _=>rfl⟩,rfl,HO.out,xjb _ _⟩
  ·subst e;exact ⟨1,d,CompI.one d,rfl,HO.out,xjb _ _⟩
 ·have h2I:¬(n:Int)<2:=by omega
  go_enter Tryz.func223,Tryz.ntmps223;go_wp2;go_loopw [3] (fun s3 wr=>∃k:Nat,1<=k/\k<=n/\s3=.int .i64 k/\CompI d k k d/\Own wr g n cap d/\w.grownBy wr (some g)) (fun s3 _=>n-(intOf s3).toNat)
  case atStart=>exact ⟨1,by omega,by omega,rfl,CompI.one d,HO.out,xjb _ _⟩
  case round=>
   obtain ⟨k,hk1,hk,rfl,hI,hO,hg⟩:=hrel;have HI:=hide hI;have HOO:=hide hO;have HG:=hide hg;clear hI hO hg;by_cases hlt:k<n
   ·have hltI:(k:Int)<n:=by omega
    have hk1I:(1:Int)<=k:=by omega
    obtain ⟨x,hx⟩:∃x,x=d k:=⟨_,rfl⟩;obtain ⟨y,hy⟩:∃y,y=d (k-1):=⟨_,rfl⟩;have c0:=HOO.out.cell k hlt 0 (by omega);have c1:=HOO.out.cell k hlt 1 (by omega);have c2:=HOO.out.cell k hlt 2 (by omega);have c3:=HOO.out.cell k hlt 3 (by omega);have c4:=HOO.out.cell k hlt 4 (by omega);have c5:=HOO.out.cell k hlt 5 (by omega);have d0:=HOO.out.cell (k-1) (by omega) 0 (by omega);have d1:=HOO.out.cell (k-1) (by omega) 1 (by omega);have d2:=HOO.out.cell (k-1) (by omega) 2 (by omega);have d3:=HOO.out.cell (k-1) (by omega) 3 (by omega);have d4:=HOO.out.cell (k-1) (by omega) 4 (by omega);have d5:=HOO.out.cell (k-1) (by omega) 5 (by omega);rw [<-hx] at c0 c1 c2 c3 c4 c5;rw [<-hy] at d0 d1 d2 d3 d4 d5;rw [Nat.add_zero] at c0 d0;by_cases hs:cmpP x y=0
    ·have he:=xgo hs;have HS:Hid (cmpP (d k) (d (k-1))=0):=by rw [<-hx,<-hy];exact hs
     clear hs hx hy;go_wp2_with fail;go_quiet (fail)
     go_wp2;clear c0 c1 c2 c3 c4 c5 d0 d1 d2 d3 d4 d5 he;have HI2:=hide (HI.out.skip hk1 HS.out);clear HI HS;go_loopw [3,5] (fun s3 s5 wq=>∃(kk k2:Nat) (e':Nat->Nat->Int),1<=k2/\k+k2<=n/\kk+1<=k+k2/\s3=.int .i64 kk/\s5=.int .i64 k2/\CompI d (k+k2) kk e'/\Own wq g n cap e'/\w.grownBy wq (some g)) (fun _ s5 _=>n-(intOf s5).toNat)
     case atStart=>exact ⟨k,1,d,by omega,by omega,by omega,rfl,rfl,HI2.out,HOO.out.grown (xi8 (xjb _ none) _) (by simp),xi8 HG.out _⟩
     case round=>
      obtain ⟨kk,k2,e',hk2,hkk,hlow,rfl,rfl,hI,hO,hg⟩:=hrel;clear HI2 HOO HG;have HI:=hide hI;have HOO:=hide hO;have HG:=hide hg;clear hI hO hg;by_cases hlt2:k+k2<n
      ·have hlt2I:(k2:Int)<n-k:=by omega
       have hk2I:(1:Int)<=k2:=by omega
       have hkkI:(kk:Int)<n:=by omega
       obtain ⟨x,hx⟩:∃x,x=d (k+k2):=⟨_,rfl⟩;obtain ⟨y,hy⟩:∃y,y=d (k+k2-1):=⟨_,rfl⟩;have ex:e' (k+k2)=x:=by rw [hx];exact HI.out.high _ (by omega)
       have ey:e' (k+k2-1)=y:=by rw [hy];exact HI.out.high _ (by omega)
       have cx:∀i,i<6->wr.cell? ⟨g,k*6+k2*6+i,none⟩=some (.int .i64 (x i)):=fun i hi=>by
        rw [<-ex,<-HOO.out.cell (k+k2) hlt2 i hi];congr 2;omega
       have cy:∀i,i<6->wr.cell? ⟨g,k*6+(k2-1)*6+i,none⟩=some (.int .i64 (y i)):=fun i hi=>by
        rw [<-ey,<-HOO.out.cell (k+k2-1) (by omega) i hi];congr 2;omega
       have c0:=cx 0 (by omega);have c1:=cx 1 (by omega);have c2:=cx 2 (by omega);have c3:=cx 3 (by omega);have c4:=cx 4 (by omega);have c5:=cx 5 (by omega);have d0:=cy 0 (by omega);have d1:=cy 1 (by omega);have d2:=cy 2 (by omega);have d3:=cy 3 (by omega);have d4:=cy 4 (by omega);have d5:=cy 5 (by omega);rw [Nat.add_zero] at c0 d0;clear cx cy ex ey;by_cases hs:cmpP x y=0
       ·have he:=xgo hs;have HS:Hid (cmpP (d (k+k2)) (d (k+k2-1))=0):=by rw [<-hx,<-hy];exact hs
        clear hs hx hy;go_wp2_with fail;go_quiet (fail)
        go_wp2;go_roundw
        case rel=>exact ⟨kk,k2+1,e',by omega,by omega,by omega,rfl,by go_num,HI.out.skip (by omega) HS.out,HOO.out.grown (xi8 (xjb _ none) _) (by simp),xi8 HG.out _⟩
        case measure=>simp [intOf];omega
       ·have he:=xgm hs;have HS:Hid (cmpP (d (k+k2)) (d (k+k2-1))≠0):=by rw [<-hx,<-hy];exact hs
        have HX:=hide hx;clear hs hx hy;have f0:=HOO.out.cell kk (by omega) 0 (by omega);have f1:=HOO.out.cell kk (by omega) 1 (by omega);have f2:=HOO.out.cell kk (by omega) 2 (by omega);have f3:=HOO.out.cell kk (by omega) 3 (by omega);have f4:=HOO.out.cell kk (by omega) 4 (by omega);have f5:=HOO.out.cell kk (by omega) 5 (by omega);rw [Nat.add_zero] at f0;have fz:=HOO.out.frozen;go_wp2_with fail;go_quiet (fail)
        go_wp2_with fail;have hkp:=HI.out.keep HS.out;rw [<-HX.out] at hkp;have hop:=(HOO.out.grown (xi8 (xjb wr none) nq) (by simp)).put kk (by omega) x;exact ⟨⟨kk+1,k2+1,_,by omega,by omega,by omega,by go_num,by go_num,hkp,hop,xje (xi8 HG.out _) (xky _ _ _ _)⟩,by simp [intOf];omega⟩
      ·have hend:k+k2=n:=by omega
       have hlt2I:¬(k2:Int)<n-k:=by omega
       have hcl:∀ty,(Builtin.clear_ #[29] ty #[.slice (some ⟨g,kk*6,none⟩) (n-kk) (cap-kk)]).run Tryz.prog wr=.ok (.tuple #[]) (wr.setCells g (kk*6) (Builtin.zeroCells (pkA fun _=>0) (n-kk)).toList):=
        fun ty=>xu8 wr g (kk*6) (n-kk) (cap-kk) ty (by omega) (fun j hj=>HOO.out.any _ (by omega)) (fun j hj=>HOO.out.frozen _)
       generalize (Builtin.zeroCells (pkA fun _=>0) (n-kk)).toList=vs at hcl;go_wp2;go_ret;exact ⟨kk,e',by rw [<-hend];exact HI.out,rfl,HOO.out.cleared (by omega) _,xje HG.out (xv0 _ _ _ _)⟩
    ·have he:=xgm hs;have HS:Hid (cmpP (d k) (d (k-1))≠0):=by rw [<-hx,<-hy];exact hs
     clear hs hx hy;go_wp2_with fail;go_quiet (fail)
     go_wp2;go_roundw
     case rel=>exact ⟨k+1,by omega,by omega,by go_num,HI.out.same HS.out,HOO.out.grown (xi8 (xjb _ none) _) (by simp),xi8 HG.out _⟩
     case measure=>simp [intOf];omega
   ·obtain rfl:k=n:=by omega
    go_wp2;go_ret;exact ⟨k,d,HI.out,rfl,HOO.out,HG.out⟩
def xm4(m k:Nat->Int):Prop:=∀i,1<=i->i<6->m i=-1\/m i=k i
def actS(a k:Nat->Int):Nat->Int:=fun i=>if 1<=i/\i<6/\a i ≠ -1 then a i else k i
theorem xbd{a k:Nat->Int}(h:Nm k):Nm (actS a k):=fun i hi=>by
 unfold actS;rw [if_neg (by omega)];exact h i hi
def actN(a k:Nat->Int)(j:Nat):Nat->Int:=fun i=>if 1<=i/\i<j/\a i ≠ -1 then a i else k i
theorem xa9(a k:Nat->Int):actN a k 1=k:=by
 funext i;unfold actN;rw [if_neg (by omega)]
theorem xba(a k:Nat->Int):actN a k 6=actS a k:=rfl
theorem xbb{a k:Nat->Int}{j:Nat}(hj:1<=j)(h:a j ≠ -1):(fun i=>if i=j then a j else actN a k j i)=actN a k (j+1):=by
 funext i;by_cases e:i=j
 ·subst e;simp [actN,h,hj]
 ·simp only [if_neg e,actN];by_cases e2:i<j
  ·simp [e2,show i<j+1 by omega]
  ·simp [e2,show ¬i<j+1 by omega]
theorem xa8{a k:Nat->Int}{j:Nat}(h:a j=-1):actN a k j=actN a k (j+1):=by
 funext i;by_cases e:i=j
 ·subst e;simp [actN,h]
 ·simp only [actN];by_cases e2:i<j
  ·simp [e2,show i<j+1 by omega]
  ·simp [e2,show ¬i<j+1 by omega]
theorem pkBlk.lay{w:World}{b:Nat}{k:Nat->Int}(h:pkBlk w b k)(x:Nat->Int):pkBlk (lay6 w b 0 x) b x:=by
 unfold pkBlk at *;rw [xkz h x];rfl
theorem xm7(m k:Nat->Int)(w:World):Calls Tryz.prog 106 #[pkV m,pkV k] w (Says (xm4 m k) w):=by
 obtain ⟨w1,hw1⟩:∃w1,w1=w.alloc (.cells (pkA m) 46):=⟨_,rfl⟩;obtain ⟨w2,hw2⟩:∃w2,w2=w1.alloc (.cells (pkA k) 46):=⟨_,rfl⟩;have B1:Hid (pkBlk w2 w.heap.size m):=by rw [hw2,hw1];exact (pkBlk.alloc w m).grown (World.grownBy_alloc _ _ none) (by simp)
 have B2:Hid (pkBlk w2 (w.heap.size+1) k):=by
  have z:w1.heap.size=w.heap.size+1:=by rw [hw1];simp
  rw [hw2,<-z];exact pkBlk.alloc w1 k
 have G2:Hid (w.grownBy w2 none):=by rw [hw2,hw1];exact xje (World.grownBy_alloc _ _ _) (World.grownBy_alloc _ _ _)
 rw [hw1] at hw2;clear hw1;unfold pkA at hw2;unfold pkV pkA;go_enter Tryz.func106,Tryz.ntmps106;go_wp2;rw [<-hw2];clear hw2;go_loopw [5] (fun i wr=>∃j:Nat,1<=j/\j<=6/\i=.int .i64 j/\(∀i,1<=i->i<j->m i=-1\/m i=k i)/\pkBlk wr w.heap.size m/\pkBlk wr (w.heap.size+1) k/\w.grownBy wr none) (fun i _=>6-(intOf i).toNat)
 case atStart=>exact ⟨1,by omega,by omega,rfl,fun i h1 h2=>by omega,B1.out,B2.out,G2.out⟩
 case round=>
  obtain ⟨j,hj1,hj,rfl,hok,b1,b2,hg⟩:=hrel;have HOK:=hide hok;clear hok B1 B2 G2;have B1:=hide b1;have B2:=hide b2;have G2:=hide hg;clear b1 b2 hg;by_cases hlt:j<6
  ·obtain ⟨x,hx⟩:∃x,x=m j:=⟨_,rfl⟩;obtain ⟨y,hy⟩:∃y,y=k j:=⟨_,rfl⟩;have c1:wr.cell? ⟨w.heap.size,j,none⟩=some (.int .i64 x):=by rw [hx];exact B1.out.cell j hlt
   have c2:wr.cell? ⟨w.heap.size+1,j,none⟩=some (.int .i64 y):=by rw [hy];exact B2.out.cell j hlt
   have HX:=hide hx;have HY:=hide hy;clear hx hy;have hltI:(j:Int)<6:=by omega
   by_cases h1:x=-1
   ·have hn:(x == -1)=true:=beq_iff_eq.2 h1;have hn2:(x != -1)=false:=by simp [h1]
    have H1:=hide h1;clear h1;go_wp2_with fail;go_quiet (fail)
    go_wp2;go_roundw
    case rel=>exact ⟨j+1,by omega,by omega,by go_num,fun i h1 h2=>by
     by_cases e:i=j
     ·subst e;left;rw [<-HX.out];exact H1.out
     ·exact HOK.out i h1 (by omega),B1.out,B2.out,xi8 G2.out _⟩
    case measure=>simp [intOf];omega
   ·have hn2:(x != -1)=true:=by rw [bne_iff_ne];exact h1
    by_cases h2:x=y
    ·subst h2;go_wp2_with fail;go_quiet (fail)
     go_wp2;go_roundw
     case rel=>exact ⟨j+1,by omega,by omega,by go_num,fun i h1 h2=>by
      by_cases e:i=j
      ·subst e;right;rw [<-HX.out,<-HY.out]
      ·exact HOK.out i h1 (by omega),B1.out,B2.out,xi8 G2.out _⟩
     case measure=>simp [intOf];omega
    ·have hn3:(x != y)=true:=by rw [bne_iff_ne];exact h2
     go_wp2_with fail;go_quiet (fail)
     go_wp2;go_ret
     exact ⟨⟨false,rfl,by
      simp only [Bool.false_eq_true,false_iff];intro hh;rcases hh j hj1 hlt with e|e
      ·exact h1 (by rw [HX.out];exact e)
      ·exact h2 (by rw [HX.out,HY.out];exact e)⟩,xi8 G2.out _⟩
  ·go_wp2;go_ret
   exact ⟨⟨true,rfl,by
    simp only [true_iff];exact fun i h1 h2=>HOK.out i h1 (by omega)⟩,G2.out⟩
theorem xbe(a k:Nat->Int)(w:World):Calls Tryz.prog 159 #[pkV a,pkV k] w fun e w'=>e=.returned (pkV (actS a k))/\w.grownBy w' none:=by
 obtain ⟨w1,hw1⟩:∃w1,w1=w.alloc (.cells (pkA a) 46):=⟨_,rfl⟩;obtain ⟨w2,hw2⟩:∃w2,w2=w1.alloc (.cells (pkA k) 46):=⟨_,rfl⟩;obtain ⟨w3,hw3⟩:∃w3,w3=w2.alloc (.cells (pkA (fun _=>0)) 46):=⟨_,rfl⟩;have z1:w1.heap.size=w.heap.size+1:=by rw [hw1];simp
 have z2:w2.heap.size=w.heap.size+2:=by rw [hw2];simp [z1]
 have B1:Hid (pkBlk w3 w.heap.size a):=by rw [hw3,hw2,hw1];exact ((pkBlk.alloc w a).grown (World.grownBy_alloc _ _ none) (by simp)).grown (World.grownBy_alloc _ _ none) (by simp)
 have B2:Hid (pkBlk w3 (w.heap.size+1) k):=by rw [hw3,<-z1];refine pkBlk.grown ?_ (World.grownBy_alloc _ _ none) (by simp);rw [hw2];exact pkBlk.alloc w1 k
 have B3:Hid (pkBlk w3 (w.heap.size+2) (fun _=>0)):=by rw [hw3,<-z2];exact pkBlk.alloc w2 _
 have G3:Hid (w.grownBy w3 none):=by rw [hw3,hw2,hw1];exact xje (xje (World.grownBy_alloc _ _ _) (World.grownBy_alloc _ _ _)) (World.grownBy_alloc _ _ _)
 rw [hw1] at hw2;rw [hw2] at hw3;clear hw1 hw2 z1 z2;unfold pkA at hw3;unfold pkV pkA;go_enter Tryz.func159,Tryz.ntmps159;go_wp2;rw [<-hw3];clear hw3;go_loopw [5] (fun i wr=>∃j:Nat,1<=j/\j<=6/\i=.int .i64 j/\pkBlk wr w.heap.size a/\pkBlk wr (w.heap.size+1) (actN a k j)/\pkBlk wr (w.heap.size+2) (fun _=>0)/\w.grownBy wr none) (fun i _=>6-(intOf i).toNat)
 case atStart=>exact ⟨1,by omega,by omega,rfl,B1.out,by rw [xa9];exact B2.out,B3.out,G3.out⟩
 case round=>
  obtain ⟨j,hj1,hj,rfl,b1,b2,b3,hg⟩:=hrel;clear B1 B2 B3 G3;have B1:=hide b1;have B2:=hide b2;have B3:=hide b3;have HG:=hide hg;clear b1 b2 b3 hg;by_cases hlt:j<6
  ·obtain ⟨x,hx⟩:∃x,x=a j:=⟨_,rfl⟩;have c1:=B1.out.cell j hlt;rw [<-hx] at c1;have HX:=hide hx;clear hx;have hltI:(j:Int)<6:=by omega
   by_cases h1:x=-1
   ·have hn2:(x == -1)=true:=beq_iff_eq.2 h1;have H1:=hide h1;clear h1;go_wp2;go_roundw
    case rel=>exact ⟨j+1,by omega,by omega,by go_num,B1.out,by rw [<-xa8 (by rw [<-HX.out];exact H1.out)];exact B2.out,B3.out,HG.out⟩
    case measure=>simp [intOf];omega
   ·have hn2:(x == -1)=false:=beq_eq_false_iff_ne.2 h1;have c2:=B2.out.cell j hlt;have f2:=B2.out.frozen;go_wp2;go_roundw
    case rel=>
     have:=B2.out.set j hlt x;rw [HX.out,xbb hj1 (by rw [<-HX.out];exact h1)] at this;exact ⟨j+1,by omega,by omega,by go_num,B1.out.grown (xjc _ _ _ _) (by simp),by rw [HX.out];exact this,B3.out.grown (xjc _ _ _ _) (by simp),xi9 HG.out (xjc _ _ _ _) (by omega)⟩
    case measure=>simp [intOf];omega
  ·obtain rfl:j=6:=by omega
   rw [xba] at B2;obtain ⟨r,hr⟩:∃r,r=actS a k:=⟨_,rfl⟩;rw [<-hr] at B2;have HR:=hide hr;clear hr;have c0:=B2.out.cell 0 (by omega);have c1:=B2.out.cell 1 (by omega);have c2:=B2.out.cell 2 (by omega);have c3:=B2.out.cell 3 (by omega);have c4:=B2.out.cell 4 (by omega);have c5:=B2.out.cell 5 (by omega);have d0:=B3.out.cell 0 (by omega);have d1:=B3.out.cell 1 (by omega);have d2:=B3.out.cell 2 (by omega);have d3:=B3.out.cell 3 (by omega);have d4:=B3.out.cell 4 (by omega);have d5:=B3.out.cell 5 (by omega);have f3:=B3.out.frozen;go_wp2;change bodyPost _ _ _ _ _ (lay6 wr (w.heap.size+2) 0 r);have hp:=B3.out.lay r;have e0:=hp.cell 0 (by omega);have e1:=hp.cell 1 (by omega);have e2:=hp.cell 2 (by omega);have e3:=hp.cell 3 (by omega);have e4:=hp.cell 4 (by omega);have e5:=hp.cell 5 (by omega);refine bodyPost_ret (v:=pkV r) (by unfold pkV pkA;simp [results,Tryz.results159,go_sem,e0,e1,e2,e3,e4,e5]) rfl ?_;exact ⟨by rw [HR.out];rfl,xi9 HG.out (xky _ _ _ _) (by omega)⟩
open Go.Shelf
def xwr:Go.Shelf.Ren:=⟨fun|6=>98|15=>147|14=>151|28=>200|29=>201|20=>206|21=>207|22=>208|23=>209|24=>210|25=>211|26=>212|27=>213|46=>248|47=>237|48=>238|49=>249|50=>250|57=>265|n=>n,fun|22=>29|24=>46|25=>192|3=>3|39=>238|0=>0|53=>132|55=>285|4=>4|46=>277|45=>276|50=>281|5=>5|9=>9|66=>308|70=>153|76=>324|77=>325|n=>n,fun|n=>n⟩
theorem xwq:Go.Proofs.SlLaysF0.n6 Tryz.prog xwr:={
 mixed:=by kernel_rfl,
 f6:=⟨Tryz.f98.name,by decide,Tryz.func98.trans (congrArg some (by kernel_rfl))⟩,
 f14:=⟨Tryz.f151.name,by decide,Tryz.func151.trans (congrArg some (by kernel_rfl))⟩,
 f15:=Tryz.func147.trans (congrArg some (by kernel_rfl)),
 f20:=⟨Tryz.f206.name,by decide,Tryz.func206.trans (congrArg some (by kernel_rfl))⟩,
 f21:=⟨Tryz.f207.name,by decide,Tryz.func207.trans (congrArg some (by kernel_rfl))⟩,
 f22:=⟨Tryz.f208.name,by decide,Tryz.func208.trans (congrArg some (by kernel_rfl))⟩,
 f23:=⟨Tryz.f209.name,by decide,Tryz.func209.trans (congrArg some (by kernel_rfl))⟩,
 f24:=⟨Tryz.f210.name,by decide,Tryz.func210.trans (congrArg some (by kernel_rfl))⟩,
 f25:=⟨Tryz.f211.name,by decide,Tryz.func211.trans (congrArg some (by kernel_rfl))⟩,
 f26:=⟨Tryz.f212.name,by decide,Tryz.func212.trans (congrArg some (by kernel_rfl))⟩,
 f27:=⟨Tryz.f213.name,by decide,Tryz.func213.trans (congrArg some (by kernel_rfl))⟩,
 f28:=Tryz.func200.trans (congrArg some (by kernel_rfl)),
 f29:=Tryz.func201.trans (congrArg some (by kernel_rfl)),
 f46:=⟨Tryz.f248.name,by decide,Tryz.func248.trans (congrArg some (by kernel_rfl))⟩,
 f47:=Tryz.func237.trans (congrArg some (by kernel_rfl)),
 f48:=Tryz.func238.trans (congrArg some (by kernel_rfl)),
 f49:=⟨Tryz.f249.name,by decide,Tryz.func249.trans (congrArg some (by kernel_rfl))⟩,
 f50:=⟨Tryz.f250.name,by decide,Tryz.func250.trans (congrArg some (by kernel_rfl))⟩,
 f57:=⟨Tryz.f265.name,by decide,Tryz.func265.trans (congrArg some (by kernel_rfl))⟩,
 t0:=Tryz.underlying0,
 a0:=Tryz.isAgg0,
 z0:=Tryz.sizeOf0,
 v0:=Tryz.zeroValue0,
 t3:=Tryz.underlying3,
 a3:=Tryz.isAgg3,
 z3:=Tryz.sizeOf3,
 v3:=Tryz.zeroValue3,
 t4:=Tryz.underlying4,
 a4:=Tryz.isAgg4,
 z4:=Tryz.sizeOf4,
 v4:=Tryz.zeroValue4,
 t5:=Tryz.underlying5,
 a5:=Tryz.isAgg5,
 z5:=Tryz.sizeOf5,
 v5:=Tryz.zeroValue5,
 t9:=Tryz.underlying9,
 a9:=Tryz.isAgg9,
 z9:=Tryz.sizeOf9,
 v9:=Tryz.zeroValue9,
 t22:=Tryz.underlying29,
 a22:=Tryz.isAgg29,
 z22:=Tryz.sizeOf29,
 v22:=Tryz.zeroValue29,
 t25:=Tryz.underlying192,
 a25:=Tryz.isAgg192,
 z25:=Tryz.sizeOf192,
 v25:=Tryz.zeroValue192,
 t39:=Tryz.underlying238,
 a39:=Tryz.isAgg238,
 z39:=Tryz.sizeOf238,
 v39:=Tryz.zeroValue238,
 t45:=Tryz.underlying276,
 a45:=Tryz.isAgg276,
 z45:=Tryz.sizeOf276,
 v45:=Tryz.zeroValue276,
 t46:=Tryz.underlying277,
 a46:=Tryz.isAgg277,
 z46:=Tryz.sizeOf277,
 v46:=Tryz.zeroValue277,
 t50:=Tryz.underlying281,
 a50:=Tryz.isAgg281,
 z50:=Tryz.sizeOf281,
 v50:=Tryz.zeroValue281,
 t53:=Tryz.underlying132,
 a53:=Tryz.isAgg132,
 z53:=Tryz.sizeOf132,
 v53:=Tryz.zeroValue132,
 t55:=Tryz.underlying285,
 a55:=Tryz.isAgg285,
 z55:=Tryz.sizeOf285,
 v55:=Tryz.zeroValue285,
 t66:=Tryz.underlying308,
 a66:=Tryz.isAgg308,
 z66:=Tryz.sizeOf308,
 v66:=Tryz.zeroValue308,
 t70:=Tryz.underlying153,
 a70:=Tryz.isAgg153,
 z70:=Tryz.sizeOf153,
 v70:=Tryz.zeroValue153,
 t76:=Tryz.underlying324,
 a76:=Tryz.isAgg324,
 z76:=Tryz.sizeOf324,
 v76:=Tryz.zeroValue324,
 t77:=Tryz.underlying325,
 a77:=Tryz.isAgg325,
 z77:=Tryz.sizeOf325,
 v77:=Tryz.zeroValue325 }
def pkCs(k:Nat->Int):List Value:=[.int .i64 (k 0),.int .i64 (k 1),.int .i64 (k 2),.int .i64 (k 3),.int .i64 (k 4),.int .i64 (k 5)]
theorem xrn(k:Nat->Int)(i:Nat)(h:i<6):(pkCs k)[i]! = .int .i64 (k i):=by
 rcases (show i=0\/i=1\/i=2\/i=3\/i=4\/i=5 by omega) with rfl|rfl|rfl|rfl|rfl|rfl<;>rfl
theorem xev:Sort.SWO (ltOf cmpP) where
 irrefl x:=by simp [ltOf,xes];exact ltP.irrefl x
 trans x y z h1 h2:=by
  simp only [ltOf,decide_eq_true_eq,xes] at *;exact h1.trans h2
 ntrans x y z h1 h2:=by
  simp only [ltOf,decide_eq_false_iff_not,xes] at *;exact ltP.ntrans h1 h2
theorem xeu(blk off size:Nat)(w:World):CmpLays Tryz.prog 99 #[] pkCs 6 cmpP blk off size w:=fun _ _ _ _ x y=>xe8 x y _
def arr(n:Nat)(d:Nat->Nat->Int):Array (Nat->Int):=(Array.range n).map d
theorem xb4(n:Nat)(d:Nat->Nat->Int):(arr n d).size=n:=by simp [arr]
theorem xb3(n:Nat)(d:Nat->Nat->Int)(j:Nat)(h:j<n):(arr n d)[j]! = d j:=by simp [arr,h]
theorem Own.holds{w:World}{g n cap:Nat}{d:Nat->Nat->Int}(h:Own w g n cap d):Sort.HoldsK pkCs 6 w g 0 (arr n d):=by
 intro t ht;rw [Sort.size_flatK,xb4] at ht;rw [Sort.get_flatK _ _ _ _ (by rw [xb4];exact ht),xb3 _ _ _ (by omega),xrn _ _ (by omega),Nat.zero_add];refine ⟨?_,h.frozen _⟩;have:=h.cell (t/6) (by omega) (t%6) (by omega);rw [show t/6*6+t%6=t by omega] at this;exact this
theorem Own.sorted{w:World}{g n cap:Nat}{d:Nat->Nat->Int}(h:Own w g n cap d)(m:Nat)(D:Array (Nat->Int))(os:Array Obj)(hD:D.size=n):
  Own (sortWorldK pkCs 6 w g 0 m D os) g n cap (fun j=>D[j]!)/\w.grownBy (sortWorldK pkCs 6 w g 0 m D os) (some g):=by
 have hh:=holdsK_sortWorldK_c pkCs 6 w g 0 (arr n d) D m os h.holds h.lt (by rw [xb4];exact hD);have hlt:=h.lt;constructor
 ·obtain ⟨cur,h1,h2,h3,h4,h5⟩:=h
  have hb:(sortWorldK pkCs 6 w g 0 m D os).heap[g]?=some (.cells (Sort.putCells id 0 (Sort.flatK pkCs 6 D) cur) 46 (0,0)):=by
   unfold sortWorldK Sort.putRowK;show (((Sort.putRow id (Sort.ahead w m) g 0 (Sort.flatK pkCs 6 D)).heap)++os)[g]?=_;rw [Array.getElem?_append_left (by simpa [Sort.ahead] using hlt)];simp [Sort.putRow,Sort.mapBlock,Sort.ahead,Array.getElem?_modify,h1,Sort.onCells]
  refine ⟨_,hb,by simp [Sort.putCells,h2],h3,h4,fun j hj i hi=>?_⟩;have hc:=(hh.cell (i:=j) (c:=i) (by omega) hi).1;rw [xrn _ _ hi,Nat.zero_add] at hc;simp only [World.cell?,hb] at hc;simpa using hc
 ·refine ⟨rfl,rfl,rfl,by unfold sortWorldK Sort.putRowK;simp [Sort.ahead],fun k hk hne=>?_⟩;unfold sortWorldK Sort.putRowK;show (((Sort.putRow id (Sort.ahead w m) g 0 (Sort.flatK pkCs 6 D)).heap)++os)[k]?=_;rw [Array.getElem?_append_left (by simpa [Sort.ahead] using hk)];have:g≠k:=fun e=>hne (by rw [e])
  simp [Sort.putRow,Sort.mapBlock,Sort.ahead,Array.getElem?_modify,this]
theorem xwt(w:World)(g n cap:Nat)(d:Nat->Nat->Int)(h:Own w g n cap d):
  Calls Tryz.prog 98 #[.slice (some ⟨g,0,none⟩) n cap,.func (.func 99) #[] #[]] w fun e w'=>e=.returned (.tuple #[])/\∃D:Array (Nat->Int),D.size=n/\D.toList.Perm ((List.range n).map d)/\(∀i j,i<j->j<n->¬ltP D[j]! D[i]!)/\Own w' g n cap (fun j=>D[j]!)/\w.grownBy w' (some g):=by
 have eg:∀args w,(callFunc 99 args).run Tryz.prog w=.ok (.enter 99 args) w:=enters_of Tryz.func99 (by kernel_rfl) rfl;have hcap:=h.cap
 have hcon:=AnyQ.slices_SortFunc xwq 6 Tryz.isAgg46 Tryz.sizeOf46 pkCs (fun _=>rfl) (fun x v hv=>by
  simp [pkCs] at hv;rcases hv with rfl|rfl|rfl|rfl|rfl|rfl<;>rfl) cmpP xev 99 #[] g 0 cap (arr n d) w eg (xeu g 0 _ w) h.holds h.lt (by rw [xb4];omega)
 rw [xb4] at hcon;refine Calls.mono hcon ?_;rintro e w' ⟨rfl,D,m,os,hp,hs,rfl⟩;have hD:D.size=n:=by rw [hp.1,xb4]
 obtain ⟨o1,o2⟩:=h.sorted m D os hD;refine ⟨rfl,D,hD,?_,fun i j h1 h2 hl=>?_,o1,o2⟩
 ·have:=hp.2.2;rw [show D.extract 0 n=D by rw [<-hD];simp,show (arr n d).extract 0 n=arr n d by apply Array.extract_eq_self_of_le;rw [xb4];exact Nat.le_refl _] at this;simpa [arr] using this
 ·have:=hs i j (Nat.zero_le _) h1 h2;simp only [ltOf,decide_eq_false_iff_not,xes] at this;exact this hl
structure Is(l:List (Nat->Int))(n:Nat)(d:Nat->Nat->Int):Prop where
 len:l.length=n
 get:∀j,j<n->l[j]?=some (d j)
theorem xv4(w:World)(g n cap:Nat)(d:Nat->Nat->Int)(h:Own w g n cap d)(hn:∀j,j<n->Nm (d j)):
  Calls Tryz.prog 160 #[.slice (some ⟨g,0,none⟩) n cap] w fun e w'=>∃m e',Is (setS ((List.range n).map d)) m e'/\e=.returned (.slice (some ⟨g,0,none⟩) m cap)/\Own w' g m cap e'/\w.grownBy w' (some g):=by
 have HS:=hide (xwt w g n cap d h);have HN:=hide hn;clear h hn;go_enter Tryz.func160,Tryz.ntmps160;go_wp2_with fail;refine HS.out.mono ?_;rintro e w1 ⟨rfl,D,hD,hp,hs,ho,hg⟩;have HD:=hide hD;have HP:=hide hp;have HSS:=hide hs;have HG:=hide hg;have HC:=hide (xe6 w1 g n cap (fun j=>D[j]!) ho);clear hD hp hs hg ho HS;go_wp2_with fail;refine HC.out.mono ?_;rintro e w2 ⟨m,e',hI,rfl,ho2,hg2⟩;have HI:=hide hI;have HO2:=hide ho2;have HG2:=hide hg2;clear hI ho2 hg2 HC;go_wp2;go_ret
 have hmem:∀x,x∈(List.range n).map d↔∃j,j<n/\x=D[j]! :=by
  intro x;rw [<-HP.out.mem_iff];constructor
  ·intro hx;obtain ⟨j,hj,e⟩:=List.getElem_of_mem hx;have hj':j<D.size:=by simpa using hj
   refine ⟨j,by rw [<-HD.out];exact hj',?_⟩;rw [<-e,getElem!_pos D j hj'];simp
  ·rintro ⟨j,hj,rfl⟩;have hj':j<D.size:=by rw [HD.out];exact hj
   rw [getElem!_pos D j hj'];exact Array.getElem_mem_toList hj'
 have hnm:∀x∈(List.range n).map d,Nm x:=by
  intro x hx;simp only [List.mem_map,List.mem_range] at hx;obtain ⟨j,hj,rfl⟩:=hx;exact HN.out j hj
 have hset:=xe4 (d:=fun j=>D[j]!) (n:=n) (l:=(List.range n).map d) (fun j hj=>hnm _ ((hmem _).2 ⟨j,hj,rfl⟩)) HSS.out hnm hmem;exact ⟨m,e',⟨by rw [<-hset];exact HI.out.len,fun j hj=>by rw [<-hset];exact HI.out.low j hj⟩,rfl,HO2.out,xje HG.out HG2.out⟩
def PkR(w:World)(v:Value)(n:Nat)(ps:Nat->Nat->Int):Prop:=
 (∃a c,v=.slice a 0 c/\n=0/\(a=none->c=0))\/∃g off cap,v=.slice (some ⟨g,off,none⟩) n cap/\n<=3000000000000/\∀j,j<n->∀i,i<6->w.cell? ⟨g,off+j*6+i,none⟩=some (.int .i64 (ps j i))
theorem PkR.slice{w:World}{v:Value}{n:Nat}{ps:Nat->Nat->Int}(h:PkR w v n ps):∃a cap,v=.slice a n cap:=by
 rcases h with ⟨a,c,rfl,rfl,_⟩|⟨g,off,cap,rfl,_⟩
 ·exact ⟨_,_,rfl⟩
 ·exact ⟨_,_,rfl⟩
theorem PkR.few{w:World}{v:Value}{n:Nat}{ps:Nat->Nat->Int}(h:PkR w v n ps):n<=3000000000000:=by
 rcases h with ⟨a,c,rfl,rfl,_⟩|⟨g,off,cap,rfl,h,_⟩<;>omega
theorem PkR.grown{w w':World}{v:Value}{n:Nat}{ps:Nat->Nat->Int}(h:PkR w v n ps)(hg:w.grownBy w' none):PkR w' v n ps:=by
 rcases h with h|⟨g,off,cap,h1,h2,h3⟩
 ·exact .inl h
 ·exact .inr ⟨g,off,cap,h1,h2,fun j hj i hi=>hg.cell (h3 j hj i hi) (by simp)⟩
theorem PkRow.any{w:World}{v:Value}{n:Nat}{ps:Nat->Nat->Int}(h:PkRow w v n ps):PkR w v n ps:=by
 rcases h with ⟨h1,h2⟩|h
 ·exact .inl ⟨none,0,h1,h2,fun _=>rfl⟩
 ·exact .inr h
theorem Tryz.infoPk6:(Tryz.prog.info? 46).map (fun i=>(i.zero,i.size,i.bytes))=some (some (pkV fun _=>0),6,48):=by kernel_rfl
theorem xmp(n:Nat)(j i:Nat)(hj:j<n)(hi:i<6):(madeCells (pkA fun _=>0) (n*6))[j*6+i]?=some (.int .i64 0):=by
 unfold madeCells;rw [Array.getElem?_map,Array.getElem?_range,if_pos (by omega)];simp only [Option.map_some];rw [show (pkA fun _=>0).size=6 from rfl,show (j*6+i)%6=i by omega];rcases (show i=0\/i=1\/i=2\/i=3\/i=4\/i=5 by omega) with rfl|rfl|rfl|rfl|rfl|rfl<;>rfl
theorem Own.made(w:World)(n:Nat)(hn:n<=3000000000000):Own (w.alloc (.cells (madeCells (pkA fun _=>0) (n*6)) 46)) w.heap.size n n (fun _ _=>0):=
 ⟨_,heap_alloc_new w _,size_madeCells _ _,Nat.le_refl _,⟨by omega,hn⟩,fun j hj i hi=>xmp n j i hj hi⟩
theorem xva(u:World)(n:Nat)(hn:n<=3000000000000):(Instr.makeSlice 29 (.int .i64 (n:Int)) (.int .i64 (n:Int))).run Tryz.prog u=.ok (.slice (some ⟨u.heap.size,0,none⟩) n n) (u.alloc (.cells (madeCells (pkA fun _=>0) (n*6)) 46)):=by
 obtain ⟨i0,hi,hz0,hz1,hz2⟩:=info_parts Tryz.infoPk6;have h:=run_make (P:=Tryz.prog) u 29 46 i0 (pkV fun _=>0) Tryz.underlying29 hi hz0 .i64 .i64 (n:Int) (n:Int) (by omega) (Int.le_refl _) (by rw [hz2];omega) (by omega);rw [Int.toNat_natCast,hz1] at h;exact h
theorem xmq(v:Value)(n:Nat)(ps:Nat->Nat->Int)(k:Nat->Int)(w:World)(h:PkR w v n ps)(hk:Nm k):
  Calls Tryz.prog 107 #[v,pkV k] w fun e w'=>∃g m cap e',w.heap.size<=g/\Is (setS ((List.range n).map fun j=>actS (ps j) k)) m e'/\e=.returned (.slice (some ⟨g,0,none⟩) m cap)/\Own w' g m cap e'/\w.grownBy w' none:=by
 obtain ⟨a,ca,rfl⟩:=h.slice;have hn:=h.few;have HP:=hide h;have HK:=hide hk;clear h hk;obtain ⟨w1,hw1⟩:∃w1,w1=w.alloc (.cells (pkA k) 46):=⟨_,rfl⟩;have B1:pkBlk w1 w.heap.size k:=by rw [hw1];exact pkBlk.alloc w k
 have G1:w.grownBy w1 none:=by rw [hw1];exact World.grownBy_alloc _ _ _
 have z1:w1.heap.size=w.heap.size+1:=by rw [hw1];simp
 obtain ⟨w2,hw2⟩:∃w2,w2=w1.alloc (.cells (madeCells (pkA fun _=>0) (n*6)) 46):=⟨_,rfl⟩;have B2:Hid (pkBlk w2 w.heap.size k):=by rw [hw2];exact B1.grown (World.grownBy_alloc _ _ none) (by simp)
 have O2:Hid (Own w2 (w.heap.size+1) n n (fun _ _=>0)):=by rw [hw2,<-z1];exact Own.made w1 n hn
 have G2:Hid (w.grownBy w2 none):=by rw [hw2];exact xje G1 (World.grownBy_alloc _ _ _)
 have hmk:∀ww,(Instr.makeSlice 29 (.int .i64 (n:Int)) (.int .i64 (n:Int))).run Tryz.prog ww=.ok (.slice (some ⟨ww.heap.size,0,none⟩) n n) (ww.alloc (.cells (madeCells (pkA fun _=>0) (n*6)) 46)):=fun ww=>xva ww n hn
 obtain ⟨mc,hmc⟩:∃mc,mc=madeCells (pkA fun _=>0) (n*6):=⟨_,rfl⟩;rw [<-hmc] at hw2;simp only [<-hmc] at hmk;clear hmc B1 G1;unfold pkA at hw1;unfold pkV pkA;go_enter Tryz.func107,Tryz.ntmps107;go_wp2;rw [<-hw1,<-hw2];clear hw1 hw2 hmk;have hzz:w.heap.size+1=w1.heap.size:=z1.symm;try rw [<-hzz]
 clear hzz z1;go_loopw [13] (fun i wr=>∃j:Nat,j<=n/\i=.int .i64 j/\pkBlk wr w.heap.size k/\Own wr (w.heap.size+1) n n (fun t=>if t<j then actS (ps t) k else fun _=>0)/\w.grownBy wr none) (fun i _=>n-(intOf i).toNat)
 case atStart=>exact ⟨0,by omega,rfl,B2.out,O2.out,G2.out⟩
 case round=>
  obtain ⟨j,hj,rfl,hb,ho,hg⟩:=hrel;clear B2 O2 G2;obtain ⟨E,hE⟩:∃E:Nat->Nat->Int,E=fun t=>if t<j then actS (ps t) k else fun _=>0:=⟨_,rfl⟩
  rw [<-hE] at ho;have HE:=hide hE;clear hE;have HB:=hide hb;have HO:=hide ho;have HG:=hide hg;clear hb ho hg;by_cases hlt:j<n
  ·rcases HP.out with ⟨_,_,_,h0,_⟩|⟨g,off,cap',hv,_,hcell⟩
   ·omega
   cases hv;obtain ⟨x,hx⟩:∃x,x=ps j:=⟨_,rfl⟩;have cc:∀i,i<6->wr.cell? ⟨g,off+j*6+i,none⟩=some (.int .i64 (x i)):=fun i hi=>by rw [hx];exact HG.out.cell (hcell j hlt i hi) (by simp)
   have c0:=cc 0 (by omega);have c1:=cc 1 (by omega);have c2:=cc 2 (by omega);have c3:=cc 3 (by omega);have c4:=cc 4 (by omega);have c5:=cc 5 (by omega);rw [Nat.add_zero] at c0;have d0:=HB.out.cell 0 (by omega);have d1:=HB.out.cell 1 (by omega);have d2:=HB.out.cell 2 (by omega);have d3:=HB.out.cell 3 (by omega);have d4:=HB.out.cell 4 (by omega);have d5:=HB.out.cell 5 (by omega);have hzz:w.heap.size<wr.heap.size:=(Array.getElem?_eq_some_iff.1 HB.out).1;have HX:=hide hx;clear cc hcell hx;have hltI:(j:Int)<n:=by omega
   obtain ⟨wa,hwa⟩:∃wa,wa=wr.alloc (.cells (pkA x) 46):=⟨_,rfl⟩;have GA:wr.grownBy wa none:=by rw [hwa];exact World.grownBy_alloc _ _ _
   have HA:=hide (xbe x k wa);unfold pkA at hwa;unfold pkV pkA at HA;go_wp2_with fail;rw [<-hwa];clear hwa c0 c1 c2 c3 c4 c5 d0 d1 d2 d3 d4 d5 hzz;refine HA.out.mono ?_;rintro e w3 ⟨rfl,hg3⟩;have B3:=hide (HB.out.grown (xje GA hg3) (by simp));have O3:=hide (HO.out.grown (xje GA hg3) (by simp));have G3:=hide (xje HG.out (xje GA hg3));clear GA hg3 HA HB HO HG;obtain ⟨y,hy⟩:∃y,y=actS x k:=⟨_,rfl⟩;rw [<-hy];have HY:=hide hy;clear hy;have f0:w3.cell? ⟨w.heap.size+1,j*6,none⟩=some (.int .i64 (E j 0)):=O3.out.cell j hlt 0 (by omega);have f1:=O3.out.cell j hlt 1 (by omega);have f2:=O3.out.cell j hlt 2 (by omega);have f3:=O3.out.cell j hlt 3 (by omega);have f4:=O3.out.cell j hlt 4 (by omega);have f5:=O3.out.cell j hlt 5 (by omega);have fz:=O3.out.frozen;go_wp2_with fail;have hop:=O3.out.put j hlt y
   have hop2:Own (lay6 w3 (w.heap.size+1) (j*6) y) (w.heap.size+1) n n (fun t=>if t<j+1 then actS (ps t) k else fun _=>0):=hop.cong (fun t ht i hi=>by
    by_cases e:t=j
    ·subst e;rw [if_pos rfl,if_pos (by omega),HY.out,HX.out]
    ·rw [if_neg e,HE.out];show (if t<j then actS (ps t) k else fun _=>0) i=(if t<j+1 then actS (ps t) k else fun _=>0) i;by_cases e2:t<j
     ·rw [if_pos e2,if_pos (by omega)]
     ·rw [if_neg e2,if_neg (by omega)])
   exact ⟨⟨j+1,by omega,by go_num,B3.out.grown (xky _ _ _ _) (by simp),hop2,xi9 G3.out (xky _ _ _ _) (by omega)⟩,by simp [intOf];omega⟩
  ·obtain rfl:j=n:=by omega
   have HS:=hide (xv4 wr (w.heap.size+1) j j E HO.out (fun t ht=>by
    rw [HE.out];show Nm (if t<j then actS (ps t) k else fun _=>0);rw [if_pos ht];exact xbd HK.out))
   go_wp2_with fail;refine HS.out.mono ?_;rintro e w4 ⟨m,e',hI,rfl,ho,hg⟩;have HI:=hide hI;have HO4:=hide ho;have HG4:=hide hg;clear hI ho hg HS;go_wp2;go_ret;refine ⟨w.heap.size+1,m,j,e',by omega,?_,rfl,HO4.out,xi9 HG.out HG4.out (by omega)⟩
   have hm:(List.range j).map E=(List.range j).map fun t=>actS (ps t) k:=by
    apply List.map_congr_left;intro t ht;rw [HE.out];show (if t<j then actS (ps t) k else fun _=>0)=actS (ps t) k;rw [if_pos (List.mem_range.1 ht)]
   have:=HI.out;rw [hm] at this;exact this
theorem xvj{p:Prop}{w w':World}{e:Ending}(h:Says p w e w'):((p/\e=.returned (.bool true))\/(¬p/\e=.returned (.bool false)))/\w.grownBy w' none:=by
 obtain ⟨⟨b,rfl,hb⟩,hg⟩:=h;refine ⟨?_,hg⟩;cases b
 ·exact .inr ⟨fun hp=>by simpa using hb.2 hp,rfl⟩
 ·exact .inl ⟨hb.1 rfl,rfl⟩
structure Rl where
 prio:Int
 mt:Nat->Int
 na:Nat
 acts:Nat->Nat->Int
 av:Value
def RlRow(w:World)(v:Value)(n:Nat)(rs:Nat->Rl):Prop:=
 (∃a c,v=.slice a 0 c/\n=0)\/∃g off cap,v=.slice (some ⟨g,off,none⟩) n cap/\n<=3000000000000/\∀j,j<n->w.cell? ⟨g,off+j*8,none⟩=some (.int .i64 (rs j).prio)/\(∀i,i<6->w.cell? ⟨g,off+j*8+(1+i),none⟩=some (.int .i64 ((rs j).mt i)))/\w.cell? ⟨g,off+j*8+7,none⟩=some (rs j).av/\PkR w (rs j).av (rs j).na (rs j).acts
theorem RlRow.slice{w:World}{v:Value}{n:Nat}{rs:Nat->Rl}(h:RlRow w v n rs):∃a cap,v=.slice a n cap:=by
 rcases h with ⟨a,c,rfl,rfl⟩|⟨g,off,cap,rfl,_⟩
 ·exact ⟨_,_,rfl⟩
 ·exact ⟨_,_,rfl⟩
theorem RlRow.few{w:World}{v:Value}{n:Nat}{rs:Nat->Rl}(h:RlRow w v n rs):n<=3000000000000:=by
 rcases h with ⟨a,c,rfl,rfl⟩|⟨g,off,cap,rfl,h,_⟩<;>omega
def LkS(rs:Nat->Rl)(n:Nat)(k:Nat->Int)(L:List (Nat->Int))(b:Bool):Prop:=
 (∃j,j<n/\(∀t,t<j->¬xm4 (rs t).mt k)/\xm4 (rs j).mt k/\L=setS ((List.range (rs j).na).map fun t=>actS ((rs j).acts t) k)/\b=true)\/((∀t,t<n->¬xm4 (rs t).mt k)/\L=[]/\b=false)
theorem LkS.one{rs:Nat->Rl}{n:Nat}{k:Nat->Int}{L M:List (Nat->Int)}{b c:Bool}(h:LkS rs n k L b)(g:LkS rs n k M c):L=M/\b=c:=by
 rcases h with ⟨j,h1,h2,h3,h4,h5⟩|⟨h1,h2,h3⟩<;>rcases g with ⟨i,g1,g2,g3,g4,g5⟩|⟨g1,g2,g3⟩
 ·have e:j=i:=by
   rcases Nat.lt_trichotomy j i with e|e|e
   ·exact absurd h3 (g2 j e)
   ·exact e
   ·exact absurd g3 (h2 i e)
  subst e;exact ⟨by rw [h4,g4],by rw [h5,g5]⟩
 ·exact absurd h3 (g1 j h1)
 ·exact absurd g3 (h1 i g1)
 ·exact ⟨by rw [h2,g2],by rw [h3,g3]⟩
def OwnV(B:Nat)(w:World)(v:Value)(n:Nat)(d:Nat->Nat->Int):Prop:=
 (v=.slice none 0 0/\n=0)\/∃g cap,B<=g/\v=.slice (some ⟨g,0,none⟩) n cap/\Own w g n cap d
def LkOut(rs:Nat->Rl)(n:Nat)(k:Nat->Int)(w:World)(e:Ending)(w':World):Prop:=
 ∃L b v m d,LkS rs n k L b/\Is L m d/\OwnV w.heap.size w' v m d/\e=.returned (.tuple #[v,.bool b])/\w.grownBy w' none
def rlA(p:Int)(mt:Nat->Int)(v:Value):Array Value:=#[.int .i64 p,.int .i64 (mt 0),.int .i64 (mt 1),.int .i64 (mt 2),.int .i64 (mt 3),.int .i64 (mt 4),.int .i64 (mt 5),v]
theorem xyy(v:Value)(n:Nat)(rs:Nat->Rl)(k:Nat->Int)(w:World)(h:RlRow w v n rs)(hk:Nm k):
  Calls Tryz.prog 65 #[v,pkV k] w (LkOut rs n k w):=by
 obtain ⟨a,ca,rfl⟩:=h.slice;have hn:=h.few;have HP:=hide h;have HK:=hide hk;clear h hk;have HQ:Hid (∀e w',LkOut rs n k w e w'↔∃L b v m d,LkS rs n k L b/\Is L m d/\OwnV w.heap.size w' v m d/\e=.returned (.tuple #[v,.bool b])/\w.grownBy w' none):=fun _ _=>Iff.rfl
 generalize LkOut rs n k w=Q at HQ ⊢;obtain ⟨w1,hw1⟩:∃w1,w1=w.alloc (.cells (pkA k) 46):=⟨_,rfl⟩;have B1:Hid (pkBlk w1 w.heap.size k):=by rw [hw1];exact pkBlk.alloc w k
 have G1:Hid (w.grownBy w1 none):=by rw [hw1];exact World.grownBy_alloc _ _ _
 unfold pkA at hw1;unfold pkV pkA;go_enter Tryz.func65,Tryz.ntmps65;go_wp2;rw [<-hw1];clear hw1;go_loopw [10] (fun i wr=>∃j:Nat,j<=n/\i=.int .i64 j/\(∀t,t<j->¬xm4 (rs t).mt k)/\pkBlk wr w.heap.size k/\w.grownBy wr none) (fun i _=>n-(intOf i).toNat)
 case atStart=>exact ⟨0,by omega,rfl,fun t ht=>by omega,B1.out,G1.out⟩
 case round=>
  obtain ⟨j,hj,rfl,hno,hb,hg⟩:=hrel;clear B1 G1;have HNO:=hide hno;have HB:=hide hb;have HG:=hide hg;clear hno hb hg;by_cases hlt:j<n
  ·rcases HP.out with ⟨_,_,_,h0⟩|⟨g,off,cap',hv,_,hcell⟩
   ·omega
   cases hv;obtain ⟨cp,cm,cv,cr⟩:=hcell j hlt;obtain ⟨p,hp⟩:∃p,p=(rs j).prio:=⟨_,rfl⟩;obtain ⟨x,hx⟩:∃x,x=(rs j).mt:=⟨_,rfl⟩;obtain ⟨av,hav⟩:∃av,av=(rs j).av:=⟨_,rfl⟩;rw [<-hp] at cp;rw [<-hx] at cm;rw [<-hav] at cv cr;obtain ⟨aa,ac,haa⟩:=cr.slice;rw [haa] at cv cr;have c0:wr.cell? ⟨g,off+j*8,none⟩=some (.int .i64 p):=HG.out.cell cp (by simp);have cc:∀i,i<6->wr.cell? ⟨g,off+j*8+(1+i),none⟩=some (.int .i64 (x i)):=fun i hi=>HG.out.cell (cm i hi) (by simp)
   have c1:wr.cell? ⟨g,off+j*8+1,none⟩=some (.int .i64 (x 0)):=cc 0 (by omega);have c2:wr.cell? ⟨g,off+j*8+2,none⟩=some (.int .i64 (x 1)):=cc 1 (by omega);have c3:wr.cell? ⟨g,off+j*8+3,none⟩=some (.int .i64 (x 2)):=cc 2 (by omega);have c4:wr.cell? ⟨g,off+j*8+4,none⟩=some (.int .i64 (x 3)):=cc 3 (by omega);have c5:wr.cell? ⟨g,off+j*8+5,none⟩=some (.int .i64 (x 4)):=cc 4 (by omega);have c6:wr.cell? ⟨g,off+j*8+6,none⟩=some (.int .i64 (x 5)):=cc 5 (by omega);obtain ⟨N,hN⟩:∃N,N=(rs j).na:=⟨_,rfl⟩;rw [<-hN] at cv cr;have c7:wr.cell? ⟨g,off+j*8+7,none⟩=some (.slice aa N ac):=HG.out.cell cv (by simp);have HCR:=hide cr;have HE:Hid (x=(rs j).mt/\N=(rs j).na):=⟨hx,hN⟩;clear cp cm cv cr cc hcell hp hx hav haa hN;have d0:=HB.out.cell 0 (by omega);have d1:=HB.out.cell 1 (by omega);have d2:=HB.out.cell 2 (by omega);have d3:=HB.out.cell 3 (by omega);have d4:=HB.out.cell 4 (by omega);have d5:=HB.out.cell 5 (by omega);have hzz:w.heap.size<wr.heap.size:=(Array.getElem?_eq_some_iff.1 HB.out).1;have hltI:(j:Int)<n:=by omega
   obtain ⟨wa,hwa⟩:∃wa,wa=wr.alloc (.cells (rlA p x (.slice aa N ac)) 68):=⟨_,rfl⟩;have GA:wr.grownBy wa none:=by rw [hwa];exact World.grownBy_alloc _ _ _
   have RA:wa.heap[wr.heap.size]?=some (.cells (rlA p x (.slice aa N ac)) 68 (0,0)):=by rw [hwa];exact heap_alloc_new _ _
   have HA:=hide (xm7 x k wa);unfold rlA at hwa;unfold pkV pkA at HA;go_wp2_with fail;rw [<-hwa];clear hwa c0 c1 c2 c3 c4 c5 c6 c7 d0 d1 d2 d3 d4 d5 hzz;refine HA.out.mono ?_;rintro e w3 hsay;obtain ⟨hs,hg3⟩:=xvj hsay;clear hsay HA;have B3:=hide (HB.out.grown (xje GA hg3) (by simp));have G3:=hide (xje HG.out (xje GA hg3))
   have R3:w3.cell? ⟨wr.heap.size,7,none⟩=some (.slice aa N ac):=by
    refine hg3.cell ?_ (by simp);simp only [World.cell?,RA];rfl
   have C3:=hide ((HCR.out.grown HG.out).grown (xje GA hg3));clear GA RA hg3 HB HG HCR;rcases hs with ⟨hm,rfl⟩|⟨hm,rfl⟩
   ·have HM:=hide hm;clear hm;have d0:=B3.out.cell 0 (by omega);have d1:=B3.out.cell 1 (by omega);have d2:=B3.out.cell 2 (by omega);have d3:=B3.out.cell 3 (by omega);have d4:=B3.out.cell 4 (by omega);have d5:=B3.out.cell 5 (by omega);have HMA:=hide (xmq _ N _ k w3 C3.out HK.out);unfold pkV pkA at HMA;go_wp2_with fail;clear d0 d1 d2 d3 d4 d5 R3;refine HMA.out.mono ?_;rintro e w4 ⟨gg,m,cap,e',hgg,hI,rfl,ho,hg4⟩;have HI:=hide hI;have HO:=hide ho;have HG4:=hide hg4;have HGG:=hide hgg;clear hI ho hg4 hgg HMA;go_wp2;have hsz:=G3.out.size;refine (HQ.out _ _).2 ⟨_,true,_,m,e',.inl ⟨j,hlt,HNO.out,?_,rfl,rfl⟩,?_,.inr ⟨gg,cap,?_,rfl,HO.out⟩,rfl,xje G3.out HG4.out⟩
    ·rw [<-HE.out.1];exact HM.out
    ·rw [<-HE.out.2];exact HI.out
    ·have:=HGG.out;omega
   ·have HM:=hide hm;clear hm;go_wp2;go_roundw
    case rel=>exact ⟨j+1,by omega,by go_num,fun t ht=>by
     by_cases e:t=j
     ·subst e;rw [<-HE.out.1];exact HM.out
     ·exact HNO.out t (by omega),B3.out,G3.out⟩
    case measure=>simp [intOf];omega
  ·obtain rfl:j=n:=by omega
   go_wp2;exact (HQ.out _ _).2 ⟨[],false,.slice none 0 0,0,fun _ _=>0,.inr ⟨HNO.out,rfl,rfl⟩,⟨rfl,fun j hj=>by omega⟩,.inl ⟨rfl,rfl⟩,rfl,HG.out⟩
theorem xou{p:Prop}{w w':World}(h:¬p)(hg:w.grownBy w' none):Says p w (.returned (.bool false)) w':=⟨⟨false,rfl,⟨fun e=>(by cases e),fun e=>absurd e h⟩⟩,hg⟩
theorem x1z{p:Prop}{w w':World}(h:p)(hg:w.grownBy w' none):Says p w (.returned (.bool true)) w':=⟨⟨true,rfl,⟨fun _=>h,fun _=>rfl⟩⟩,hg⟩
end Go.Proofs.YtlhkfafdioakeaaGreatDoor
