/- Proved here: which packets, matches and actions the program takes for right. -/
import Derived.Test.YtlhkfafdioakeaaKitA
namespace Go.Proofs.Ytlhkfafdioakeaa
open Go.RowKit
set_option linter.unusedVariables false
set_option linter.unusedSimpArgs false
/-- A packet's cells: its six fields. -/
def pkA (k : Nat → Int) : Array Value := #[.int .i64 (k 0), .int .i64 (k 1), .int .i64 (k 2), .int .i64 (k 3), .int .i64 (k 4), .int .i64 (k 5)]
def pkV (k : Nat → Int) : Value := .agg (pkA k)
def okF (v : Int) : Prop := 0 ≤ v ∧ v ≤ 31
def okP (v : Int) : Prop := -1 ≤ v ∧ v ≤ 31
def rightS (k : Nat → Int) : Prop := ∀ i, i < 6 → okF (k i)
def openS (k : Nat → Int) : Prop := k 0 = -1 ∧ ∀ i, i < 6 → okP (k i)
/-- What a call that answers whether something holds comes to. -/
def Says (p : Prop) (w : World) (e : Ending) (w' : World) : Prop := (∃ b : Bool, e = .returned (.bool b) ∧ (b = true ↔ p)) ∧ w.grownBy w' none
/-- A block that holds a packet. -/
def pkBlk (w : World) (b : Nat) (k : Nat → Int) : Prop := w.heap[b]? = some (.cells (pkA k) 27 (0, 0))
theorem pkA_get (k : Nat → Int) (i : Nat) (h : i < 6) : (pkA k)[i]? = some (.int .i64 (k i)) := by
  rcases (show i = 0 ∨ i = 1 ∨ i = 2 ∨ i = 3 ∨ i = 4 ∨ i = 5 by omega) with rfl | rfl | rfl | rfl | rfl | rfl <;> rfl
theorem pkBlk.cell {w : World} {b : Nat} {k : Nat → Int} (h : pkBlk w b k) (i : Nat) (hi : i < 6) : w.cell? ⟨b, i, none⟩ = some (.int .i64 (k i)) := by
  unfold pkBlk at h
  have := pkA_get k i hi
  simp only [World.cell?, h]
  simpa using this
theorem pkBlk.frozen {w : World} {b : Nat} {k : Nat → Int} (h : pkBlk w b k) (i : Nat) : w.frozen? ⟨b, i, none⟩ = false := by
  unfold pkBlk at h
  simp [World.frozen?, h]
theorem pkBlk.grown {w w' : World} {b : Nat} {k : Nat → Int} {row : Option Nat} (h : pkBlk w b k) (hg : w.grownBy w' row) (hr : row ≠ some b) : pkBlk w' b k := by
  unfold pkBlk at *
  rw [hg.block b (Array.getElem?_eq_some_iff.1 h).1 hr.symm, h]
theorem pkBlk.alloc (w : World) (k : Nat → Int) : pkBlk (w.alloc (.cells (pkA k) 27)) w.heap.size k := by
  unfold pkBlk
  exact heap_alloc_new w _
theorem pkBlk.set {w : World} {b : Nat} {k : Nat → Int} (h : pkBlk w b k) (i : Nat) (hi : i < 6) (x : Int) : pkBlk (w.setCell ⟨b, i, none⟩ (.int .i64 x)) b (fun j => if j = i then x else k j) := by
  unfold pkBlk at *
  rw [heap_set h]
  congr 2
  rcases (show i = 0 ∨ i = 1 ∨ i = 2 ∨ i = 3 ∨ i = 4 ∨ i = 5 by omega) with rfl | rfl | rfl | rfl | rfl | rfl <;> simp [pkA]
@[go_sem] theorem Try.indexPk (k : Nat → Int) (i : Nat) (h : i < 6) (w : World) : Sem.run Try.prog (Instr.index 27 (.agg #[.int .i64 (k 0), .int .i64 (k 1), .int .i64 (k 2), .int .i64 (k 3), .int .i64 (k 4), .int .i64 (k 5)]) (.int .i64 (i : Int))) w = .ok (.int .i64 (k i)) w := by
  rcases (show i = 0 ∨ i = 1 ∨ i = 2 ∨ i = 3 ∨ i = 4 ∨ i = 5 by omega) with rfl | rfl | rfl | rfl | rfl | rfl <;> kernel_rfl
set_option maxRecDepth 100000 in
set_option maxHeartbeats 1000000 in
theorem right_any (k : Nat → Int) (w : World) : Calls Try.prog 51 #[pkV k] w (Says (rightS k) w) := by
  unfold pkV pkA
  go_enter Try.func51, Try.ntmps51
  go_wp2
  go_loopw [6] (fun i wr => ∃ j : Nat, j ≤ 6 ∧ i = .int .i64 j ∧ (∀ i, i < j → okF (k i)) ∧ w.grownBy wr none) (fun i _ => 6 - (intOf i).toNat)
  case atStart => exact ⟨0, by omega, rfl, fun i hi => by omega, World.grownBy_alloc _ _ _⟩
  case round =>
    obtain ⟨j, hj, rfl, hok, hg⟩ := hrel
    have HOK := hide hok
    have HG := hide hg
    clear hok hg
    by_cases hlt : j < 6
    · obtain ⟨x, hx⟩ : ∃ x, x = k j := ⟨_, rfl⟩
      have hix := Try.indexPk k j hlt wr
      rw [← hx] at hix
      by_cases h1 : x < 0
      · go_wp2
        go_ret
        exact ⟨⟨false, rfl, by simp; intro hh; have := (hh j hlt).1; omega⟩, HG.out⟩
      · by_cases h2 : 31 < x
        · go_wp2
          go_ret
          exact ⟨⟨false, rfl, by simp; intro hh; have := (hh j hlt).2; omega⟩, HG.out⟩
        · go_wp2
          go_roundw
          case rel => exact ⟨j + 1, by omega, by go_num, fun i hi => by
            by_cases e : i = j
            · subst e; rw [← hx]; exact ⟨by omega, by omega⟩
            · exact HOK.out i (by omega), HG.out⟩
          case measure => simp [intOf]; omega
    · go_wp2
      go_ret
      exact ⟨⟨true, rfl, by simp; intro i hi; exact HOK.out i (by omega)⟩, HG.out⟩
end Go.Proofs.Ytlhkfafdioakeaa
