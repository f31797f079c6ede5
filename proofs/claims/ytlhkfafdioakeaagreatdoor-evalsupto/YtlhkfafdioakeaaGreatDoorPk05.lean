/- Pk05: several parts, each with what it proves in plain words at its head. -/
import Derived.Test.YtlhkfafdioakeaaGreatDoorPk01
import Derived.Test.YtlhkfafdioakeaaGreatDoorPk04
import Derived.Test.YtlhkfafdioakeaaGreatDoorGRead
/- Plain facts: what a call that answers whether something holds comes to. -/
namespace Go.Proofs.YtlhkfafdioakeaaGreatDoor
open Go.RowKit
theorem no_says {p : Prop} {w w' : World} (h : ¬ p) (hg : w.grownBy w' none) : Says p w (.returned (.bool false)) w' := ⟨⟨false, rfl, ⟨fun e => (by cases e), fun e => absurd e h⟩⟩, hg⟩
theorem yes_says {p : Prop} {w w' : World} (h : p) (hg : w.grownBy w' none) : Says p w (.returned (.bool true)) w' := ⟨⟨true, rfl, ⟨fun _ => h, fun _ => rfl⟩⟩, hg⟩
end Go.Proofs.YtlhkfafdioakeaaGreatDoor
/- Proved here: what the walk of the statement on evals stands on: the books that are new, which packets the document takes for right. -/
namespace Go.Proofs.YtlhkfafdioakeaaGreatDoor
open Go.RowKit Go.Weft
set_option linter.unusedVariables false
set_option linter.unusedSimpArgs false
theorem Kp.grown {S : Nat → Prop} {w w1 w2 : World} (h : w.grownBy w1 none) (k : Kp S w1 w2) (hs : ∀ b, b < w1.heap.size → S b → w.heap.size ≤ b) : w.grownBy w2 none :=
  ⟨k.1.trans h.os, k.2.1.trans h.tape, k.2.2.1.trans h.output, Nat.le_trans h.size k.size, fun b hb hn => (k.2.2.2.2 b (Nat.lt_of_lt_of_le hb h.size) (fun c => by have := hs b (Nat.lt_of_lt_of_le hb h.size) c; omega)).trans (h.block b hb hn)⟩
/-- The cells of books in which nothing stands yet. -/
def bk0 : Array Value := bkA (bkF 0 0 (.slice none 0 0) (.slice none 0 0) (.slice none 0 0) (.slice none 0 0))
/-- New books. -/
theorem Bk.new (w : World) : Bk w.heap.size (w.heap.size + 1) (w.alloc (.cells bk0 42)) w.heap.size 0 := by
  refine ⟨0, .slice none 0 0, .slice none 0 0, .slice none 0 0, .slice none 0 0, 0, fun _ _ => 0, fun _ => .slice none 0 0, fun _ => 0, fun _ => 0, ⟨heap_alloc_new w _, by omega, by omega, ⟨rfl, .inl ⟨rfl, rfl⟩⟩, ⟨rfl, .inl ⟨rfl, rfl⟩⟩, (fun i hi => by omega), .inl ⟨rfl, rfl⟩, .inl ⟨rfl, rfl⟩, (fun i hi => by omega), ⟨Nat.le_refl _, Nat.lt_succ_self _⟩, (fun b e => by cases e), (fun b e => by cases e), (fun b e => by cases e), (fun b e => by cases e), (fun i hi => by omega), by simp⟩⟩
/-- Two lists that are the same list: the statements find them the same. -/
theorem same_lists {L : List (Nat → Int)} {m m2 : Nat} {d d2 : Nat → Nat → Int} (h : Is L m d) (h2 : Is L m2 d2) : m2 = m ∧ ∀ j, j < m → ∀ i, i < 6 → d j i = d2 j i := by
  obtain rfl : m2 = m := by rw [← h.len, ← h2.len]
  refine ⟨rfl, fun j hj i _ => ?_⟩
  have g1 := h.get j hj
  have g2 := h2.get j hj
  rw [g1] at g2
  exact congrFun (Option.some.inj g2) i
theorem Bk.wide {B C D : Nat} {w : World} {bb ca : Nat} (h : Bk B C w bb ca) (hC : C ≤ D) (hD : D ≤ w.heap.size) : Bk B D w bb ca := by
  obtain ⟨n, kv, wv, vP, vN, km, kd, xs, ys, ls, h⟩ := h
  exact ⟨n, kv, wv, vP, vN, km, kd, xs, ys, ls, ⟨h.bk, h.few, h.kfew, h.rP, h.rN, h.mrk, h.kept, h.were, h.apart, ⟨h.inB.1, Nat.lt_of_lt_of_le h.inB.2 hC⟩, fun b e => Nat.lt_of_lt_of_le (h.inP b e) hC, fun b e => Nat.lt_of_lt_of_le (h.inN b e) hC, fun b e => Nat.lt_of_lt_of_le (h.inK b e) hC, fun b e => Nat.lt_of_lt_of_le (h.inW b e) hC, fun i hi b e => Nat.lt_of_lt_of_le (h.inX i hi b e) hC, hD⟩⟩
set_option maxRecDepth 100000 in
set_option maxHeartbeats 1000000 in
theorem rRight_any (k : Nat → Int) (w : World) : Calls Tryz.prog 17 #[pkV k] w (Says (rightS k) w) := by
  have HB := hide (pkBlk.alloc w k)
  unfold pkV pkA at *
  obtain ⟨P, hP⟩ : ∃ P, P = rightS k := ⟨_, rfl⟩
  rw [← hP]
  have HP := hide hP
  clear hP
  go_enter Tryz.func17, Tryz.ntmps17
  go_wp2
  go_loopw [3] (fun i wr => ∃ j : Nat, j ≤ 6 ∧ i = .int .i64 j ∧ (∀ i, i < j → okF (k i)) ∧ pkBlk wr w.heap.size k ∧ w.grownBy wr none) (fun i _ => 6 - (intOf i).toNat)
  case atStart => exact ⟨0, by omega, rfl, fun i hi => by omega, HB.out, World.grownBy_alloc _ _ _⟩
  case round =>
    obtain ⟨j, hj, rfl, hok, hb, hg⟩ := hrel
    have HOK := hide hok
    have HG := hide hg
    have HBL := hide hb
    clear hok hg hb
    by_cases hlt : j < 6
    · obtain ⟨x, hx⟩ : ∃ x, x = k j := ⟨_, rfl⟩
      have c1 := HBL.out.cell j hlt
      rw [← hx] at c1
      have HX := hide hx
      clear hx
      by_cases h1 : x < 0
      · go_wp2
        go_ret
        exact no_says (fun h => by rw [HP.out] at h; have := (h j hlt).1; rw [← HX.out] at this; omega) HG.out
      · by_cases h2 : 31 < x
        · go_wp2
          go_ret
          exact no_says (fun h => by rw [HP.out] at h; have := (h j hlt).2; rw [← HX.out] at this; omega) HG.out
        · go_wp2
          go_roundw
          case rel => exact ⟨j + 1, by omega, by go_num, fun i hi => by
            by_cases e : i = j
            · subst e; rw [← HX.out]; exact ⟨by omega, by omega⟩
            · exact HOK.out i (by omega), HBL.out, HG.out⟩
          case measure => simp [intOf]; omega
    · go_wp2
      go_ret
      exact yes_says (by rw [HP.out]; intro i hi; exact HOK.out i (by omega)) HG.out
end Go.Proofs.YtlhkfafdioakeaaGreatDoor
