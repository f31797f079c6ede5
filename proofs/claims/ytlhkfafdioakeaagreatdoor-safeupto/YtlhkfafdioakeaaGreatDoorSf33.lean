/- Parts of the proof. -/
import Derived.Test.YtlhkfafdioakeaaGreatDoorSf25
import Derived.Test.YtlhkfafdioakeaaGreatDoorSf29
import Derived.Test.YtlhkfafdioakeaaGreatDoorSf32
namespace Go.Proofs.YtlhkfafdioakeaaGreatDoor
set_option maxRecDepth 100000
set_option maxHeartbeats 4000000
open Go.RowKit Go.Weft
set_option linter.unusedVariables false
set_option linter.unusedSimpArgs false
theorem xdq{α:Type}{nxt:α->Option (Nat×α)}{hst:α->Bool}{F:α->Option (List α×Nat)}(x:α):∀(l:List α) (f:List α) (c:Nat),brL nxt hst F l=some (f,c)->brL nxt hst F (l++[x])=match nxt x with
  | some (_,y)=>(match F y with|some (g,d)=>some (f++g,c+d)|none=>none)
  | none=>some (f++(if hst x then [x] else []),c)
 | [],f,c,h=>by
  simp only [brL,Option.some.injEq,Prod.mk.injEq] at h;obtain ⟨rfl,rfl⟩:=h;simp only [List.nil_append,brL];cases nxt x with
  | none=>simp
  | some p=>
   obtain ⟨t,y⟩:=p;simp only;cases F y with
   | none=>rfl
   | some q=>simp
 | z::l,f,c,h=>by
  rw [List.cons_append];unfold brL at h ⊢;cases hz:nxt z with
  | none=>
   rw [hz] at h;simp only at h ⊢;cases hl:brL nxt hst F l with
   | none=>rw [hl] at h;cases h
   | some q=>
    obtain ⟨g,d⟩:=q;rw [hl] at h;simp only [Option.some.injEq,Prod.mk.injEq] at h;obtain ⟨rfl,rfl⟩:=h;rw [xdq x l g d hl];cases nxt x with
    | none=>simp
    | some p=>
     obtain ⟨t,y⟩:=p;simp only;cases F y with
     | none=>rfl
     | some q=>simp
  | some p=>
   obtain ⟨t,y⟩:=p;rw [hz] at h;simp only at h ⊢;cases hy:F y with
   | none=>rw [hy] at h;simp at h
   | some q0=>
    obtain ⟨g0,d0⟩:=q0;cases hl:brL nxt hst F l with
    | none=>rw [hy,hl] at h;simp at h
    | some q=>
     obtain ⟨g,d⟩:=q;rw [hy,hl] at h;simp only [Option.some.injEq,Prod.mk.injEq] at h;obtain ⟨rfl,rfl⟩:=h;rw [xdq x l g d hl];cases nxt x with
     | none=>simp
     | some p=>
      obtain ⟨t',y'⟩:=p;simp only;cases F y' with
      | none=>rfl
      | some q=>simp [Nat.add_assoc]
structure Gg where
 pb:Nat
 nb:Nat
 D:Nat
 la:Option Addr
 ln:Nat
 lc:Nat
 room:Int
 sa:Option Addr
 sn:Nat
 sc:Nat
 cr:Bool
def gmA(G:Gg)(fv:Value)(en bd:Bool):Array Value:=#[.pointer (some ⟨G.pb,0,none⟩),.pointer (some ⟨G.nb,0,none⟩),.int .i64 G.D,.slice G.la G.ln G.lc,.int .i64 G.room,.slice G.sa G.sn G.sc,fv,.bool en,.bool G.cr,.int .i64 0,.bool bd]
structure BrS(w0:World)(gb sb:Nat)(G:Gg)(bd:Bool)(fv:Value)(F:List (Nat->Int))(en:Bool)(c:Nat)(w:World):Prop where
 old:w0.grownBy w none
 blk:w.heap[gb]?=some (.cells (gmA G fv en bd) 96 (0,0))
 stp:w.heap[sb]?=some (.cells #[.int .i64 c] 3 (0,0))
 row:QRow w0.heap.size w 46 6 fv F.length (pksC F)
 gl:w0.heap.size<=gb
 sl:w0.heap.size<=sb
theorem BrS.ne{w0 w:World}{gb sb:Nat}{G:Gg}{bd:Bool}{fv:Value}{F:List (Nat->Int)}{en:Bool}{c:Nat}(h:BrS w0 gb sb G bd fv F en c w):gb≠sb/\∀b,fv.ownBlock=some b->b≠gb/\b≠sb:=by
 refine ⟨fun e=>?_,fun b hb=>?_⟩
 ·have h1:=h.blk;rw [e,h.stp] at h1;cases h1
 ·rcases h.row.2 with ⟨e,_⟩|⟨g,off,cap,cur,e,_,h2,_⟩
  ·rw [e] at hb;cases hb
  ·rw [e] at hb;cases hb;refine ⟨fun e=>?_,fun e=>?_⟩
   ·have e:g=gb:=e;rw [e,h.blk] at h2;cases h2
   ·have e:g=sb:=e;rw [e,h.stp] at h2;cases h2
theorem BrS.quiet{w0 w w':World}{gb sb:Nat}{G:Gg}{bd:Bool}{fv:Value}{F:List (Nat->Int)}{en:Bool}{c:Nat}(h:BrS w0 gb sb G bd fv F en c w)(hg:w.grownBy w' none):BrS w0 gb sb G bd fv F en c w':=by
 exact ⟨xje h.old hg,xc9 h.blk hg (by simp),xc9 h.stp hg (by simp),h.row.kept hg (fun b e=>by cases e),h.gl,h.sl⟩
def BrO(X:Nx Rl (Nat->Int))(w0:World)(gb sb:Nat)(G:Gg)(bd:Bool)(fv:Value)(F:List (Nat->Int))(c m:Nat)(k:Nat->Int)(w:World)(e:Ending)(w':World):Prop:=
 e=.returned (.tuple #[])/\∃fv' F' en' c',BrS w0 gb sb G bd fv' F' en' c' w'/\(en'=false->∃f cc,X.brF m k=some (f,cc)/\F'=F++f/\c'=c+cc/\c'<=250)/\c<c'/\c'<=251/\F'.length<=F.length+1660*(c'-c)/\Kp (fun b=>b=gb\/b=sb\/fv.ownBlock=some b) w w'/\∀b,fv'.ownBlock=some b->fv.ownBlock=some b\/w.heap.size<=b
theorem xdv(X:Nx Rl (Nat->Int))(w0:World)(gb sb:Nat)(G:Gg)(bd:Bool)(fv:Value)(F:List (Nat->Int))(c m deep:Nat)(k:Nat->Int)(w:World)(h:BrS w0 gb sb G bd fv F false c w)(hc:c<=250)(hd:30<deep\/c=250)(hd2:deep<=31):
  Calls Tryz.prog 82 #[.pointer (some ⟨gb,0,none⟩),.agg #[.int .i64 (k 0),.int .i64 (k 1),.int .i64 (k 2),.int .i64 (k 3),.int .i64 (k 4),.int .i64 (k 5)],.int .i64 deep,.pointer (some ⟨sb,0,none⟩)] w (BrO X w0 gb sb G bd fv F c m k w):=by
 obtain ⟨P,hP⟩:∃P,P=BrO X w0 gb sb G bd fv F c m k w:=⟨_,rfl⟩;rw [<-hP];have ho:=h.row;obtain ⟨fa,fc,rfl⟩:=ho.slice;have hne:=h.ne;have s0:=xc7 h.stp 0 _ rfl;have sf:w.frozen? ⟨sb,0,none⟩=false:=by simp [World.frozen?,h.stp]
 have g7:=xc7 h.blk 7 _ rfl;have gf:w.frozen? ⟨gb,7,none⟩=false:=by simp [World.frozen?,h.blk]
 have hgb:gb<w.heap.size:=(Array.getElem?_eq_some_iff.1 h.blk).1;have hsb:sb<w.heap.size:=(Array.getElem?_eq_some_iff.1 h.stp).1;have n1:=hne.1;have n2:=hne.1.symm
 have FIN:Hid (∀wz,((w.setCell ⟨sb,0,none⟩ (.int .i64 ((c:Int)+1))).setCell ⟨gb,7,none⟩ (.bool true)).grownBy wz none->P (.returned (.tuple #[])) wz):=fun wz hz=>by
  rw [hP];obtain ⟨wA,hA⟩:∃wA,wA=w.setCell ⟨sb,0,none⟩ (.int .i64 ((c:Int)+1)):=⟨_,rfl⟩;obtain ⟨wB,hB⟩:∃wB,wB=wA.setCell ⟨gb,7,none⟩ (.bool true):=⟨_,rfl⟩;rw [<-hA,<-hB] at hz;have g1:w.grownBy wA (some sb):=by rw [hA];exact xjc _ _ _ _
  have g2:wA.grownBy wB (some gb):=by rw [hB];exact xjc _ _ _ _
  have b1:wA.heap[sb]?=some (.cells #[.int .i64 ((c+1:Nat):Int)] 3 (0,0)):=by rw [hA];exact xjh h.stp 0 _
  have b2:wA.heap[gb]?=some (.cells (gmA G (.slice fa F.length fc) false bd) 96 (0,0)):=xc9 h.blk g1 (by simp;exact n2);have b3:wB.heap[gb]?=some (.cells (gmA G (.slice fa F.length fc) true bd) 96 (0,0)):=by rw [hB];exact xjh b2 7 _
  have b4:wB.heap[sb]?=some (.cells #[.int .i64 ((c+1:Nat):Int)] 3 (0,0)):=xc9 b1 g2 (by simp;exact n1);have oA:=ho.kept g1 (fun b e hb=>by cases e;exact (hne.2 _ hb).2 rfl);have oB:=oA.kept g2 (fun b e hb=>by cases e;exact (hne.2 _ hb).1 rfl);have hS:BrS w0 gb sb G bd (.slice fa F.length fc) F true (c+1) wB:=⟨xi9 (xi9 h.old g1 h.sl) g2 h.gl,b3,b4,oB,h.gl,h.sl⟩;refine ⟨rfl,_,F,true,c+1,hS.quiet hz,(fun e=>by cases e),by omega,by omega,by omega,(((Kp.refl _ w).step g1 (fun b e=>.inl (by cases e;exact .inr (.inl rfl)))).step g2 (fun b e=>.inl (by cases e;exact .inl rfl))).step hz (fun b e=>by cases e),fun b hb=>.inl hb⟩
 have hwr:IntKind.i64.wrap ((c:Int)+1)=(c:Int)+1:=by rw [IntKind.wrap_i64]<;>omega
 clear h hP ho hne;rcases hd with hd|hd
 ·have hdI:(30:Int)<deep:=by omega
  go_enter Tryz.func82,Tryz.ntmps82;go_wp2_with fail;refine bodyPost_ret (results_none rfl _ _ _) rfl ?_;exact FIN.out _ (World.grownBy_alloc _ _ _)
 ·obtain rfl:c=250:=hd;by_cases hdI:(30:Int)<deep
  ·go_enter Tryz.func82,Tryz.ntmps82;go_wp2_with fail;refine bodyPost_ret (results_none rfl _ _ _) rfl ?_;exact FIN.out _ (World.grownBy_alloc _ _ _)
  ·go_enter Tryz.func82,Tryz.ntmps82;go_wp2_with fail;refine bodyPost_ret (results_none rfl _ _ _) rfl ?_;exact FIN.out _ (World.grownBy_alloc _ _ _)
end Go.Proofs.YtlhkfafdioakeaaGreatDoor
