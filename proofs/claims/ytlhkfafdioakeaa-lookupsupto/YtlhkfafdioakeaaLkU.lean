/- Proved here: what the law of the lookups stands on. -/
import Derived.Test.YtlhkfafdioakeaaLkT
import Derived.Test.YtlhkfafdioakeaaLkP
import Derived.Test.YtlhkfafdioakeaaLkJ
namespace Go.Proofs.Ytlhkfafdioakeaa
open Go.RowKit
set_option linter.unusedVariables false
set_option linter.unusedSimpArgs false
theorem Kp.grown {S : Nat → Prop} {w w1 w2 : World} (h : w.grownBy w1 none) (k : Kp S w1 w2) (hs : ∀ b, b < w1.heap.size → S b → w.heap.size ≤ b) : w.grownBy w2 none :=
  ⟨k.1.trans h.os, k.2.1.trans h.tape, k.2.2.1.trans h.output, Nat.le_trans h.size k.size, fun b hb hn => (k.2.2.2.2 b (Nat.lt_of_lt_of_le hb h.size) (fun c => by have := hs b (Nat.lt_of_lt_of_le hb h.size) c; omega)).trans (h.block b hb hn)⟩
theorem RB.kp {S : Nat → Prop} {w w' : World} {g N : Nat} {f : Nat → Nat → Value} (h : RB w g N f) (k : Kp S w w') (hs : ¬ S g) : RB w' g N f := by
  obtain ⟨cur, h1, h2⟩ := h
  exact ⟨cur, by rw [k.2.2.2.2 g (Array.getElem?_eq_some_iff.1 h1).1 hs, h1], h2⟩
theorem Own.kp {S : Nat → Prop} {w w' : World} {g n c : Nat} {d : Nat → Nat → Int} (h : Own w g n c d) (k : Kp S w w') (hs : ¬ S g) : Own w' g n c d := by
  obtain ⟨cur, h1, h2⟩ := h
  exact ⟨cur, by rw [k.2.2.2.2 g (Array.getElem?_eq_some_iff.1 h1).1 hs, h1], h2⟩
theorem Lent.kp {S : Nat → Prop} {w w' : World} {g n m i : Nat} {rs : Nat → Rl} {A : Nat → Nat} {E : Nat → Nat → Nat → Int} (h : Lent w g n m i rs A E) (k : Kp S w w') (h1 : ¬ S g) (h2 : ∀ j, j < i → ¬ S (A j)) : Lent w' g n m i rs A E :=
  ⟨h.rb.kp k h1, fun j hj => (h.own j hj).kp k (h2 j hj), h.above, h.inc⟩
theorem LkS.cong {rs ts : Nat → Rl} {n : Nat} {k : Nat → Int} {L : List (Nat → Int)} {b : Bool} (h : LkS rs n k L b) (hm : ∀ j, j < n → (ts j).mt = (rs j).mt) (hn : ∀ j, j < n → (ts j).na = (rs j).na) (ha : ∀ j, j < n → ∀ t, t < (rs j).na → (ts j).acts t = (rs j).acts t) : LkS ts n k L b := by
  rcases h with ⟨j, h1, h2, h3, h4, h5⟩ | ⟨h1, h2, h3⟩
  · refine .inl ⟨j, h1, fun t ht => by rw [hm t (by omega)]; exact h2 t ht, by rw [hm j h1]; exact h3, ?_, h5⟩
    rw [h4, hn j h1]
    congr 1
    refine List.map_congr_left (fun t ht => ?_)
    rw [ha j h1 t (by simpa using ht)]
  · exact .inr ⟨fun t ht => by rw [hm t ht]; exact h1 t ht, h2, h3⟩
theorem LkS.few {rs : Nat → Rl} {n : Nat} {k : Nat → Int} {L : List (Nat → Int)} {b : Bool} (h : LkS rs n k L b) {N : Nat} (hn : ∀ j, j < n → (rs j).na ≤ N) : L.length ≤ N := by
  rcases h with ⟨j, h1, h2, h3, h4, h5⟩ | ⟨h1, h2, h3⟩
  · rw [h4]; exact Nat.le_trans (setS_len _ _) (hn j h1)
  · rw [h2]; exact Nat.zero_le _
/-- The cells of books in which nothing stands yet. -/
def bk0 : Array Value := bkA (bkF 0 0 (.slice none 0 0) (.slice none 0 0) (.slice none 0 0) (.slice none 0 0))
/-- New books. -/
theorem Bk.new (w : World) : Bk w.heap.size (w.heap.size + 1) (w.alloc (.cells bk0 38)) w.heap.size 0 := by
  refine ⟨0, .slice none 0 0, .slice none 0 0, .slice none 0 0, .slice none 0 0, 0, fun _ _ => 0, fun _ => .slice none 0 0, fun _ => 0, fun _ => 0, ⟨heap_alloc_new w _, by omega, by omega, ⟨rfl, .inl ⟨rfl, rfl⟩⟩, ⟨rfl, .inl ⟨rfl, rfl⟩⟩, (fun i hi => by omega), .inl ⟨rfl, rfl⟩, .inl ⟨rfl, rfl⟩, (fun i hi => by omega), ⟨Nat.le_refl _, Nat.lt_succ_self _⟩, (fun b e => by cases e), (fun b e => by cases e), (fun b e => by cases e), (fun b e => by cases e), (fun i hi => by omega), by simp⟩⟩
/-- The packets and the rule that come first. -/
def k01 : Nat → Int := fun i => if i = 1 then 1 else 0
def k02 : Nat → Int := fun i => if i = 1 then 2 else 0
def fm1 : Nat → Int := fun i => if i = 1 then 1 else -1
def fa1 : Nat → Int := fun i => if i = 1 then 2 else -1
def frs (b : Nat) : Nat → Rl := fun _ => ⟨0, fm1, 1, fun _ => fa1, .slice (some ⟨b, 0, none⟩) 1 1⟩
theorem fm1_k01 : matchS fm1 k01 := fun i h1 h2 => by
  unfold fm1 k01
  by_cases e : i = 1
  · exact .inr (by rw [if_pos e, if_pos e])
  · exact .inl (by rw [if_neg e])
theorem fa1_k01 (i : Nat) (hi : i < 6) : actS fa1 k01 i = k02 i := by
  rcases (show i = 0 ∨ i = 1 ∨ i = 2 ∨ i = 3 ∨ i = 4 ∨ i = 5 by omega) with rfl | rfl | rfl | rfl | rfl | rfl <;> decide
/-- The rule that comes first, in a world. -/
theorem first_row (w : World) (w2 : World) (hw2 : w2 = (w.alloc (.cells #[.int .i64 (-1), .int .i64 2, .int .i64 (-1), .int .i64 (-1), .int .i64 (-1), .int .i64 (-1)] 27)).alloc (.cells #[.int .i64 0, .int .i64 (-1), .int .i64 1, .int .i64 (-1), .int .i64 (-1), .int .i64 (-1), .int .i64 (-1), .slice (some ⟨w.heap.size, 0, none⟩) 1 1] 29)) :
    RlRow w2 (.slice (some ⟨w.heap.size + 1, 0, none⟩) 1 1) 1 (frs w.heap.size) := by
  have h1 : PkR (w.alloc (.cells (pkA fa1) 27)) (.slice (some ⟨w.heap.size, 0, none⟩) 1 1) 1 (fun _ => fa1) := one_row w fa1
  have h2 : PkR w2 (.slice (some ⟨w.heap.size, 0, none⟩) 1 1) 1 (fun _ => fa1) := by
    rw [hw2]
    exact h1.grown (World.grownBy_alloc _ _ _)
  have hb : w2.heap[w.heap.size + 1]? = some (.cells #[.int .i64 0, .int .i64 (-1), .int .i64 1, .int .i64 (-1), .int .i64 (-1), .int .i64 (-1), .int .i64 (-1), .slice (some ⟨w.heap.size, 0, none⟩) 1 1] 29 (0, 0)) := by
    rw [hw2]
    have := heap_alloc_new (w.alloc (.cells #[.int .i64 (-1), .int .i64 2, .int .i64 (-1), .int .i64 (-1), .int .i64 (-1), .int .i64 (-1)] 27)) (.cells #[.int .i64 0, .int .i64 (-1), .int .i64 1, .int .i64 (-1), .int .i64 (-1), .int .i64 (-1), .int .i64 (-1), .slice (some ⟨w.heap.size, 0, none⟩) 1 1] 29)
    rwa [show (w.alloc (.cells #[.int .i64 (-1), .int .i64 2, .int .i64 (-1), .int .i64 (-1), .int .i64 (-1), .int .i64 (-1)] 27)).heap.size = w.heap.size + 1 by simp] at this
  refine .inr ⟨w.heap.size + 1, 0, 1, rfl, by omega, fun j hj => ?_⟩
  obtain rfl : j = 0 := by omega
  refine ⟨?_, fun i hi => ?_, ?_, h2⟩
  · simp only [World.cell?, hb]; rfl
  · simp only [World.cell?, hb]
    rcases (show i = 0 ∨ i = 1 ∨ i = 2 ∨ i = 3 ∨ i = 4 ∨ i = 5 by omega) with rfl | rfl | rfl | rfl | rfl | rfl <;> rfl
  · simp only [World.cell?, hb]; rfl
/-- The Lookup that comes first. -/
theorem first_any (w w2 : World) (hw2 : w2 = (w.alloc (.cells #[.int .i64 (-1), .int .i64 2, .int .i64 (-1), .int .i64 (-1), .int .i64 (-1), .int .i64 (-1)] 27)).alloc (.cells #[.int .i64 0, .int .i64 (-1), .int .i64 1, .int .i64 (-1), .int .i64 (-1), .int .i64 (-1), .int .i64 (-1), .slice (some ⟨w.heap.size, 0, none⟩) 1 1] 29)) :
    Calls Try.prog 6 #[.slice (some ⟨w.heap.size + 1, 0, none⟩) 1 1, .agg #[.int .i64 0, .int .i64 1, .int .i64 0, .int .i64 0, .int .i64 0, .int .i64 0]] w2 fun e w' => ∃ a c, e = .returned (.tuple #[.slice a 1 c, .bool true]) ∧ PkR w' (.slice a 1 c) 1 (fun _ => k02) ∧ w.grownBy w' none := by
  have hk : Nm k01 := fun i hi => by unfold k01; rw [if_neg (by omega)]
  have hg : w.grownBy w2 none := by rw [hw2]; exact grown_trans (World.grownBy_alloc _ _ _) (World.grownBy_alloc _ _ _)
  refine (show Calls Try.prog 6 #[.slice (some ⟨w.heap.size + 1, 0, none⟩) 1 1, pkV k01] w2 _ from (wLookup_any _ 1 _ k01 w2 (first_row w w2 hw2) hk).mono ?_)
  rintro e w' ⟨L, b, v, m, d, h1, h2, h3, rfl, h5⟩
  have hL : L = [actS fa1 k01] ∧ b = true := by
    rcases h1 with ⟨j, g1, g2, g3, g4, g5⟩ | ⟨g1, _, _⟩
    · obtain rfl : j = 0 := by omega
      exact ⟨g4, g5⟩
    · exact absurd fm1_k01 (g1 0 (by omega))
  obtain ⟨rfl, rfl⟩ := hL
  obtain rfl : m = 1 := h2.len.symm
  obtain ⟨a, c, rfl⟩ := h3.slice
  refine ⟨a, c, rfl, (h3.row.any).cong (fun j hj i hi => ?_), grown_trans hg h5⟩
  obtain rfl : j = 0 := by omega
  have := h2.get 0 (by omega)
  simp only [List.getElem?_cons_zero, Option.some.injEq] at this
  show d 0 i = k02 i
  rw [← this]
  exact fa1_k01 i hi
/-- What the two Lookups answer, in the walk's words. -/
theorem lkW (v : Value) (n : Nat) (rs : Nat → Rl) (k : Nat → Int) (w : World) (h : RlRow w v n rs) (hk : Nm k) (N : Nat) (hN : ∀ j, j < n → (rs j).na ≤ N) :
    Calls Try.prog 6 #[v, .agg #[.int .i64 (k 0), .int .i64 (k 1), .int .i64 (k 2), .int .i64 (k 3), .int .i64 (k 4), .int .i64 (k 5)]] w fun e w' => ∃ L b a m c d, e = .returned (.tuple #[.slice a m c, .bool b]) ∧ LkS rs n k L b ∧ Is L m d ∧ m ≤ N ∧ OwnV w.heap.size w' (.slice a m c) m d ∧ w.grownBy w' none := by
  refine (wLookup_any v n rs k w h hk).mono ?_
  rintro e w' ⟨L, b, v, m, d, h1, h2, h3, rfl, h5⟩
  obtain ⟨a, c, rfl⟩ := h3.slice
  exact ⟨L, b, a, m, c, d, rfl, h1, h2, by rw [← h2.len]; exact h1.few hN, h3, h5⟩
theorem lkR (v : Value) (n : Nat) (rs : Nat → Rl) (k : Nat → Int) (w : World) (h : RlRow w v n rs) (N : Nat) (hN : ∀ j, j < n → (rs j).na ≤ N) (hN2 : N ≤ 1000000000000) :
    Calls Try.prog 9 #[v, .agg #[.int .i64 (k 0), .int .i64 (k 1), .int .i64 (k 2), .int .i64 (k 3), .int .i64 (k 4), .int .i64 (k 5)]] w fun e w' => ∃ L b a m c d, e = .returned (.tuple #[.slice a m c, .bool b]) ∧ LkS rs n k L b ∧ Is L m d ∧ m ≤ N ∧ OwnV w.heap.size w' (.slice a m c) m d ∧ w.grownBy w' none := by
  refine (rLookup_any v n rs k w h (fun j hj => Nat.le_trans (hN j hj) hN2)).mono ?_
  rintro e w' ⟨L, b, v, m, d, h1, h2, h3, rfl, h5⟩
  obtain ⟨a, c, rfl⟩ := h3.slice
  exact ⟨L, b, a, m, c, d, rfl, h1, h2, by rw [← h2.len]; exact h1.few hN, h3, h5⟩
/-- Two lists that are the same list: the statements find them the same. -/
theorem same_lists {L : List (Nat → Int)} {m m2 : Nat} {d d2 : Nat → Nat → Int} (h : Is L m d) (h2 : Is L m2 d2) : m2 = m ∧ ∀ j, j < m → ∀ i, i < 6 → d j i = d2 j i := by
  obtain rfl : m2 = m := by rw [← h.len, ← h2.len]
  refine ⟨rfl, fun j hj i _ => ?_⟩
  have g1 := h.get j hj
  have g2 := h2.get j hj
  rw [g1] at g2
  exact congrFun (Option.some.inj g2) i
/-- Two lists of their own that hold the same. -/
def Two (C : Nat) (w : World) (v u : Value) (m : Nat) : Prop := ∃ d e, OwnV C w v m d ∧ OwnV C w u m e ∧ ∀ j, j < m → ∀ i, i < 6 → d j i = e j i
theorem Two.same {C : Nat} {w : World} {v u : Value} {m : Nat} (h : Two C w v u m) : Calls Try.prog 7 #[v, u] w fun e w' => e = .returned (.bool true) ∧ w.grownBy w' none := by
  obtain ⟨d, e, h1, h2, h3⟩ := h
  exact samePR _ _ m d e w h1.row.any h2.row.any h3
theorem Two.grown {C : Nat} {w w' : World} {v u : Value} {m : Nat} (h : Two C w v u m) (hg : w.grownBy w' none) : Two C w' v u m := by
  obtain ⟨d, e, h1, h2, h3⟩ := h
  exact ⟨d, e, h1.grown hg (fun b c => by cases c), h2.grown hg (fun b c => by cases c), h3⟩
theorem Two.kp {S : Nat → Prop} {C : Nat} {w w' : World} {v u : Value} {m : Nat} (h : Two C w v u m) (k : Kp S w w') (hs : ∀ b, C ≤ b → ¬ S b) : Two C w' v u m := by
  obtain ⟨d, e, h1, h2, h3⟩ := h
  exact ⟨d, e, h1.kp k (fun b c => hs b (h1.lt b c).1), h2.kp k (fun b c => hs b (h2.lt b c).1), h3⟩
theorem Bk.wide {B C D : Nat} {w : World} {bb ca : Nat} (h : Bk B C w bb ca) (hC : C ≤ D) (hD : D ≤ w.heap.size) : Bk B D w bb ca := by
  obtain ⟨n, kv, wv, vP, vN, km, kd, xs, ys, ls, h⟩ := h
  exact ⟨n, kv, wv, vP, vN, km, kd, xs, ys, ls, ⟨h.bk, h.few, h.kfew, h.rP, h.rN, h.mrk, h.kept, h.were, h.apart, ⟨h.inB.1, Nat.lt_of_lt_of_le h.inB.2 hC⟩, fun b e => Nat.lt_of_lt_of_le (h.inP b e) hC, fun b e => Nat.lt_of_lt_of_le (h.inN b e) hC, fun b e => Nat.lt_of_lt_of_le (h.inK b e) hC, fun b e => Nat.lt_of_lt_of_le (h.inW b e) hC, fun i hi b e => Nat.lt_of_lt_of_le (h.inX i hi b e) hC, hD⟩⟩
/-- A Lookup of the program, in rules that hold what others hold. -/
theorem lkW2 (v : Value) (n : Nat) (rs ts : Nat → Rl) (k : Nat → Int) (w1 ww : World) (hgw : w1.grownBy ww none) (h : RlRow w1 v n ts) (hk : Nm k) (hN : ∀ j, j < n → (ts j).na ≤ 1000000000) (hs : ∀ j, j < n → (rs j).mt = (ts j).mt ∧ (rs j).na = (ts j).na ∧ ∀ t, t < (ts j).na → (rs j).acts t = (ts j).acts t) :
    Calls Try.prog 6 #[v, .agg #[.int .i64 (k 0), .int .i64 (k 1), .int .i64 (k 2), .int .i64 (k 3), .int .i64 (k 4), .int .i64 (k 5)]] ww fun e w' => ∃ (b : Bool) (a : Option Addr) (mm c : Nat), e = .returned (.tuple #[.slice a mm c, .bool b]) ∧ mm ≤ 1000000000 ∧ (∃ L d, LkS rs n k L b ∧ Is L mm d ∧ OwnV w1.heap.size w' (.slice a mm c) mm d) ∧ w1.grownBy w' none := by
  refine (lkW v n ts k ww (h.grown hgw) hk 1000000000 hN).mono ?_
  rintro e w' ⟨L, b, a, mm, c, d, rfl, h1, h2, h3, h4, h5⟩
  exact ⟨b, a, mm, c, rfl, h3, ⟨L, d, h1.cong (fun j hj => (hs j hj).1) (fun j hj => (hs j hj).2.1) (fun j hj t ht => (hs j hj).2.2 t ht), h2, h4.mono hgw.size⟩, grown_trans hgw h5⟩
/-- Then one of the statements: the same list. -/
theorem lkR2 (v : Value) (n : Nat) (rs : Nat → Rl) (k : Nat → Int) (C : Nat) (w : World) (h : RlRow w v n rs) (hC : C ≤ w.heap.size) (hN : ∀ j, j < n → (rs j).na ≤ 1000000000) (b : Bool) (u : Value) (m : Nat) (ho : ∃ L d, LkS rs n k L b ∧ Is L m d ∧ OwnV C w u m d) :
    Calls Try.prog 9 #[v, .agg #[.int .i64 (k 0), .int .i64 (k 1), .int .i64 (k 2), .int .i64 (k 3), .int .i64 (k 4), .int .i64 (k 5)]] w fun e w' => ∃ (a : Option Addr) (c : Nat), e = .returned (.tuple #[.slice a m c, .bool b]) ∧ Two C w' u (.slice a m c) m ∧ w.grownBy w' none := by
  obtain ⟨L, d, g1, g2, g3⟩ := ho
  refine (lkR v n rs k w h 1000000000 hN (by omega)).mono ?_
  rintro e w' ⟨L', b', a, mm, c, d', rfl, h1, h2, h3, h4, h5⟩
  obtain ⟨rfl, rfl⟩ := g1.one h1
  obtain ⟨rfl, hs⟩ := same_lists g2 h2
  exact ⟨a, c, rfl, ⟨d, d', g3.grown h5 (fun b c => by cases c), h4.mono hC, hs⟩, h5⟩
end Go.Proofs.Ytlhkfafdioakeaa
