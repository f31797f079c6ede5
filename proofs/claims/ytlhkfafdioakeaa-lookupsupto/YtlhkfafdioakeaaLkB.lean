/- Proved here: what packet.Compare answers: the order of packets. -/
import Derived.Test.YtlhkfafdioakeaaLkA
import Derived.Test.YtlhkfafdioakeaaMsgB
import Derived.Deep.DeepCutAuto
import Derived.Sort.Grow
namespace Go.Proofs.Ytlhkfafdioakeaa
open Go.RowKit
set_option linter.unusedVariables false
set_option linter.unusedSimpArgs false
set_option maxRecDepth 100000 in
set_option maxHeartbeats 1000000 in
theorem cmpInt_any (x y : Int) (w : World) : Calls Try.prog 72 #[.int .i64 x, .int .i64 y] w fun e w' => e = .returned (.int .i64 (cmpI x y)) ∧ w' = w := by
  unfold cmpI
  by_cases h1 : x < y
  · rw [if_pos h1]
    go_enter Try.func72, Try.ntmps72
    go_wp2
    go_ret
    exact ⟨rfl, rfl⟩
  · rw [if_neg h1]
    by_cases h2 : y < x
    · rw [if_pos h2]
      go_enter Try.func72, Try.ntmps72
      go_wp2
      go_ret
      exact ⟨rfl, rfl⟩
    · rw [if_neg h2]
      go_enter Try.func72, Try.ntmps72
      go_wp2
      go_ret
      exact ⟨rfl, rfl⟩
theorem cmpN_at (x y : Nat → Int) : ∀ n i j, i ≤ j → j < i + n → (∀ t, i ≤ t → t < j → x t = y t) → x j ≠ y j → cmpN x y i n = cmpI (x j) (y j)
  | 0, i, j, h1, h2, _, _ => by omega
  | n + 1, i, j, h1, h2, h3, h4 => by
    unfold cmpN
    by_cases e : i = j
    · rw [e, if_neg h4]
    · rw [if_pos (h3 i (by omega) (by omega))]
      exact cmpN_at x y n (i + 1) j (by omega) (by omega) (fun t a b => h3 t (by omega) b) h4
theorem cmpP_at (x y : Nat → Int) (j : Nat) (hj : j < 6) (h : ∀ t, t < j → x t = y t) (hne : x j ≠ y j) : cmpP x y = cmpI (x j) (y j) :=
  cmpN_at x y 6 0 j (by omega) (by omega) (fun t _ ht => h t ht) hne
set_option maxRecDepth 100000 in
set_option maxHeartbeats 1000000 in
theorem slCmp_any (b c : Nat) (x y : Nat → Int) (w : World) (hb : pkBlk w b x) (hc : pkBlk w c y) : Calls Try.prog 61 #[.slice (some ⟨b, 0, none⟩) 6 6, .slice (some ⟨c, 0, none⟩) 6 6] w fun e w' => e = .returned (.int .i64 (cmpP x y)) ∧ w' = w := by
  have HB := hide hb
  have HC := hide hc
  clear hb hc
  have HI := hide (fun x y w => cmpInt_any x y w)
  go_enter Try.func61, Try.ntmps61
  go_wp2
  go_loopw [11] (fun i wr => ∃ j : Nat, j ≤ 6 ∧ i = .int .i64 j ∧ (∀ t, t < j → x t = y t) ∧ wr = w) (fun i _ => 6 - (intOf i).toNat)
  case atStart => exact ⟨0, by omega, rfl, fun t ht => by omega, rfl⟩
  case round =>
    obtain ⟨j, hj, rfl, hok, rfl⟩ := hrel
    have HOK := hide hok
    clear hok
    by_cases hlt : j < 6
    · have c1 := HB.out.cell j hlt
      have c2 := HC.out.cell j hlt
      have hltI : (j : Int) < 6 := by omega
      obtain ⟨p, hp⟩ : ∃ p, p = x j := ⟨_, rfl⟩
      obtain ⟨q, hq⟩ : ∃ q, q = y j := ⟨_, rfl⟩
      rw [← hp] at c1
      rw [← hq] at c2
      have HP := hide hp
      have HQ := hide hq
      clear hp hq
      go_wp2_with fail
      refine (HI.out p q wr).mono ?_
      rintro e w1 ⟨rfl, hw⟩
      rw [hw]
      clear hw
      by_cases heq : p = q
      · have h0 : cmpI p q = 0 := (cmpI_zero _ _).2 heq
        rw [h0]
        have HE := hide heq
        clear heq h0
        go_wp2
        go_roundw
        case rel => exact ⟨j + 1, by omega, by go_num, fun t ht => by
          by_cases e : t = j
          · rw [e, ← HP.out, ← HQ.out]; exact HE.out
          · exact HOK.out t (by omega), by first | trivial | rfl⟩
        case measure => simp [intOf]; omega
      · have h0 : cmpP x y = cmpI p q := by rw [HP.out, HQ.out]; exact cmpP_at x y j hlt HOK.out (by rw [← HP.out, ← HQ.out]; exact heq)
        have hne : cmpI p q ≠ 0 := fun h => heq ((cmpI_zero _ _).1 h)
        have H0 := hide h0
        clear h0 heq
        generalize cmpI p q = r at *
        go_wp2
        go_ret
        exact ⟨by rw [H0.out]; rfl, by first | trivial | rfl⟩
    · have H0 : Hid (cmpP x y = 0) := (cmpP_zero _ _).2 (fun t ht => HOK.out t (by omega))
      have hj6 : (6 : Int) ≤ j := by omega
      go_wp2
      go_ret
      exact ⟨by rw [H0.out]; rfl, by first | trivial | rfl⟩
set_option maxRecDepth 100000 in
set_option maxHeartbeats 1000000 in
theorem compare_any (x y : Nat → Int) (w : World) : Calls Try.prog 56 #[pkV x, pkV y] w fun e w' => e = .returned (.int .i64 (cmpP x y)) ∧ ∃ q os', w' = Sort.grow (w.drewN q) os' := by
  obtain ⟨w1, hw1⟩ : ∃ w1, w1 = w.alloc (.cells (pkA x) 27) := ⟨_, rfl⟩
  obtain ⟨w2, hw2⟩ : ∃ w2, w2 = w1.alloc (.cells (pkA y) 27) := ⟨_, rfl⟩
  have B1 : pkBlk w2 w.heap.size x := by rw [hw2, hw1]; exact (pkBlk.alloc w x).grown (World.grownBy_alloc _ _ none) (by simp)
  have B2 : pkBlk w2 (w.heap.size + 1) y := by rw [hw2]; have := pkBlk.alloc w1 y; rw [hw1] at this ⊢; simpa using this
  have HS : Hid (∀ n, Calls Try.prog 61 #[.slice (some ⟨w.heap.size, 0, none⟩) 6 6, .slice (some ⟨w.heap.size + 1, 0, none⟩) 6 6] (w2.drewN n) fun e w' => e = .returned (.int .i64 (cmpP x y)) ∧ w' = w2.drewN n) := fun n => slCmp_any _ _ x y (w2.drewN n) B1 B2
  have HG : Hid (∀ n, ∃ q os', w2.drewN n = Sort.grow (w.drewN q) os') := fun n => ⟨n, #[.cells (pkA x) 27, .cells (pkA y) 27], by rw [hw2, hw1, Sort.alloc_eq_grow, Sort.alloc_eq_grow, Sort.grow_grow]; rfl⟩
  clear B1 B2
  generalize cmpP x y = r at *
  rw [hw1] at hw2
  clear hw1
  unfold pkA at hw2
  unfold pkV pkA
  go_enter Try.func56, Try.ntmps56
  go_wp2_with fail
  rw [← hw2]
  clear hw2
  go_quiet ((go_at_call 61; exact Calls.quiet_of_same (HS.out _)))
  go_wp2
  go_ret
  exact ⟨rfl, HG.out _⟩
end Go.Proofs.Ytlhkfafdioakeaa
