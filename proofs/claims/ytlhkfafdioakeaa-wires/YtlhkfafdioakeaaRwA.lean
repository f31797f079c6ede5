/- Proved here: which packets, matches and actions the document takes for right. -/
import Derived.Test.YtlhkfafdioakeaaMsgI
namespace Go.Proofs.Ytlhkfafdioakeaa
open Go.RowKit
set_option linter.unusedVariables false
set_option linter.unusedSimpArgs false
set_option maxRecDepth 100000 in
set_option maxHeartbeats 1000000 in
theorem rRight_any (k : Nat → Int) (w : World) : Calls Try.prog 45 #[pkV k] w (Says (rightS k) w) := by
  have HB := hide (pkBlk.alloc w k)
  unfold pkV pkA at *
  obtain ⟨P, hP⟩ : ∃ P, P = rightS k := ⟨_, rfl⟩
  rw [← hP]
  have HP := hide hP
  clear hP
  go_enter Try.func45, Try.ntmps45
  go_wp2
  go_loopw [3] (fun i wr => ∃ j : Nat, j ≤ 6 ∧ i = .int .i64 j ∧ (∀ i, i < j → okF (k i)) ∧ pkBlk wr w.heap.size k ∧ w.grownBy wr none) (fun i _ => 6 - (intOf i).toNat)
  case atStart => exact ⟨0, by omega, rfl, fun i hi => by omega, HB.out, World.grownBy_alloc _ _ _⟩
  case round =>
    obtain ⟨j, hj, rfl, hok, hb, hg⟩ := hrel
    have HOK := hide hok
    have HG := hide hg
    have HBL := hide hb
    clear hok hg hb
    by_cases hlt : j < 6
    · obtain ⟨x, hx⟩ : ∃ x, x = k j := ⟨_, rfl⟩
      have c1 := HBL.out.cell j hlt
      rw [← hx] at c1
      have HX := hide hx
      clear hx
      by_cases h1 : x < 0
      · go_wp2
        go_ret
        exact says_no (fun h => by rw [HP.out] at h; have := (h j hlt).1; rw [← HX.out] at this; omega) HG.out
      · by_cases h2 : 31 < x
        · go_wp2
          go_ret
          exact says_no (fun h => by rw [HP.out] at h; have := (h j hlt).2; rw [← HX.out] at this; omega) HG.out
        · go_wp2
          go_roundw
          case rel => exact ⟨j + 1, by omega, by go_num, fun i hi => by
            by_cases e : i = j
            · subst e; rw [← HX.out]; exact ⟨by omega, by omega⟩
            · exact HOK.out i (by omega), HBL.out, HG.out⟩
          case measure => simp [intOf]; omega
    · go_wp2
      go_ret
      exact says_yes (by rw [HP.out]; intro i hi; exact HOK.out i (by omega)) HG.out
set_option maxRecDepth 100000 in
set_option maxHeartbeats 1000000 in
theorem rOpen_any (k : Nat → Int) (w : World) : Calls Try.prog 44 #[pkV k] w (Says (openS k) w) := by
  have HB := hide (pkBlk.alloc w k)
  unfold pkV pkA at *
  obtain ⟨P, hP⟩ : ∃ P, P = openS k := ⟨_, rfl⟩
  rw [← hP]
  have HP := hide hP
  clear hP
  go_enter Try.func44, Try.ntmps44
  go_wp2
  go_loopw [3] (fun i wr => ∃ j : Nat, 1 ≤ j ∧ j ≤ 6 ∧ i = .int .i64 j ∧ (∀ i, 1 ≤ i → i < j → okP (k i)) ∧ pkBlk wr w.heap.size k ∧ w.grownBy wr none) (fun i _ => 6 - (intOf i).toNat)
  case atStart => exact ⟨1, by omega, by omega, rfl, fun i hi hj => by omega, HB.out, World.grownBy_alloc _ _ _⟩
  case round =>
    obtain ⟨j, hj1, hj, rfl, hok, hb, hg⟩ := hrel
    have HOK := hide hok
    have HG := hide hg
    have HBL := hide hb
    clear hok hg hb
    by_cases hlt : j < 6
    · obtain ⟨x, hx⟩ : ∃ x, x = k j := ⟨_, rfl⟩
      have c1 := HBL.out.cell j hlt
      rw [← hx] at c1
      have HX := hide hx
      clear hx
      by_cases h1 : x < -1
      · go_wp2
        go_ret
        exact says_no (fun h => by rw [HP.out] at h; have := (h.2 j hlt).1; rw [← HX.out] at this; omega) HG.out
      · by_cases h2 : 31 < x
        · go_wp2
          go_ret
          exact says_no (fun h => by rw [HP.out] at h; have := (h.2 j hlt).2; rw [← HX.out] at this; omega) HG.out
        · go_wp2
          go_roundw
          case rel => exact ⟨j + 1, by omega, by omega, by go_num, fun i hi1 hi => by
            by_cases e : i = j
            · subst e; rw [← HX.out]; exact ⟨by omega, by omega⟩
            · exact HOK.out i hi1 (by omega), HBL.out, HG.out⟩
          case measure => simp [intOf]; omega
    · obtain ⟨x, hx⟩ : ∃ x, x = k 0 := ⟨_, rfl⟩
      have c1 := HBL.out.cell 0 (by omega)
      rw [← hx] at c1
      have HX := hide hx
      clear hx
      by_cases h1 : x = -1
      · have H1 := hide h1
        have h2 : x ≤ -1 := by omega
        have h3 : -1 ≤ x := by omega
        clear h1
        go_wp2
        go_ret
        exact says_t (by simp [H1.out]) (by
          rw [HP.out]
          have e : k 0 = -1 := by rw [← HX.out]; exact H1.out
          refine ⟨e, fun i hi => ?_⟩
          by_cases i0 : i = 0
          · subst i0; rw [e]; exact ⟨by omega, by omega⟩
          · exact HOK.out i (by omega) (by omega)) HG.out
      · go_wp2
        go_ret
        exact says_f (by simp [h1]) (fun h => by rw [HP.out] at h; exact h1 (HX.out.trans h.1)) HG.out
end Go.Proofs.Ytlhkfafdioakeaa
