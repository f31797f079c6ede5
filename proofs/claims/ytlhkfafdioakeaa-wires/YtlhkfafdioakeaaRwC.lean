/- Proved here: how the document writes numbers, packets and lists of packets. -/
import Derived.Test.YtlhkfafdioakeaaRwA
import Derived.Laws.Append
namespace Go.Proofs.Ytlhkfafdioakeaa
open Go.RowKit
set_option linter.unusedVariables false
set_option linter.unusedSimpArgs false
theorem strI_two (x y : Int) (w : World) : (convert 64 9 (.slice (some ⟨w.heap.size, 0, none⟩) 2 2)).run Try.prog (w.alloc (.cells #[.int .u8 x, .int .u8 y] 5)) = .ok (strI [x, y]) (w.alloc (.cells #[.int .u8 x, .int .u8 y] 5)) := by
  have h : BRow w.heap.size (w.alloc (.cells #[.int .u8 x, .int .u8 y] 5)) (.slice (some ⟨w.heap.size, 0, none⟩) 2 2) [x, y] :=
    ⟨rfl, .inr ⟨w.heap.size, 2, _, rfl, Nat.le_refl _, heap_alloc_new w _, Nat.le_refl _, by unfold maxLen; omega, rfl, rfl⟩⟩
  exact h.str (by simp)
set_option maxRecDepth 100000 in
set_option maxHeartbeats 1000000 in
theorem rTwo_any (n : Int) (w : World) : Calls Try.prog 31 #[.int .i64 n] w fun e w' => e = .returned (strI (twoB n)) ∧ w.grownBy w' none := by
  have hc := strI_two (n / 256 % 256) (n % 256) w
  unfold twoB
  obtain ⟨S, hS⟩ : ∃ S, S = strI [n / 256 % 256, n % 256] := ⟨_, rfl⟩
  rw [← hS] at hc ⊢
  clear hS
  go_enter Try.func31, Try.ntmps31
  go_wp2
  go_ret
  exact ⟨rfl, World.grownBy_alloc _ _ _⟩

set_option maxRecDepth 100000 in
set_option maxHeartbeats 1000000 in
theorem rBytes_any (k : Nat → Int) (w : World) : Calls Try.prog 32 #[pkV k] w fun e w' => e = .returned (strI (pkB k)) ∧ w.grownBy w' none := by
  obtain ⟨i0, hi0, hz0, hz1, hz2⟩ := info_parts Try.infoU8
  have HB := hide (pkBlk.alloc w k)
  unfold pkV pkA at *
  obtain ⟨S, hS⟩ : ∃ S, S = strI (pkB k) := ⟨_, rfl⟩
  rw [← hS]
  have HSS := hide hS
  clear hS
  go_enter Try.func32, Try.ntmps32
  go_wp2_with (at_make; refine wpList_make_full _ rfl _ _ 64 rfl w.heap.size 5 i0 _ 1 Try.underlying64 hi0 hz0 hz1 .i64 .i64 _ _ 6 rfl rfl rfl rfl ?m1 ?m2 ?m3 ?_)
  case m1 => rw [hz2]; omega
  case m2 => unfold maxLen; omega
  case m3 => simp
  intro w1 hown1 hg1
  have HO1 := hide hown1
  have HB1 := hide (HB.out.grown hg1 (by simp))
  have HG1 := hide (grown_trans (World.grownBy_alloc _ _ _) hg1)
  clear hown1 hg1 HB
  go_wp2
  go_loopw [4] (fun v4 wr => ∃ (j : Nat) (xs : List Value), v4 = .int .i64 j ∧ j ≤ 6 ∧ wr.ownsRow w.heap.size 5 1 (.slice (some ⟨w.heap.size + 1, 0, none⟩) 6 6) 6 xs ∧ (∀ i, i < j → xs[i]? = some (.int .u8 (k i % 256))) ∧ pkBlk wr w.heap.size k ∧ w.grownBy wr none) (fun v4 _ => 6 - (intOf v4).toNat)
  case atStart => exact ⟨0, _, rfl, by omega, HO1.out, fun i hi => absurd hi (Nat.not_lt_zero _), HB1.out, HG1.out⟩
  case round =>
    obtain ⟨j, xs, rfl, hj, hown, hxs, hb, hg⟩ := hrel
    have HO := hide hown
    have HX := hide hxs
    have HB := hide hb
    have HG := hide hg
    clear hown hxs hb hg
    by_cases hlt : j < 6
    · have hxl : j < xs.length := by have := HO.out.1; omega
      have c1 := HB.out.cell j hlt
      obtain ⟨x, hx⟩ : ∃ x, x = k j := ⟨_, rfl⟩
      rw [← hx] at c1
      have HXJ := hide hx
      clear hx
      have q1 : wr.frozen? ⟨w.heap.size + 1, j, none⟩ = false := HO.out.frozenAt j
      have q2 : wr.cell? ⟨w.heap.size + 1, j, none⟩ = some (xs[j]) := by rw [HO.out.cellAt j (by omega)]; simp [hxl]
      have hst := HO.out.stored j (.int .u8 (x % 256))
      have HS1 := hide hst.1
      have HS2 := hide (grown_own HG.out hst.2 (fun b e => by cases e; omega))
      have HB2 := hide (HB.out.grown hst.2 (by simp))
      clear hst
      go_wp2
      go_roundw
      case rel => exact ⟨j + 1, _, by go_num, by omega, HS1.out, fun i hi => by
        by_cases e : i = j
        · subst e; simp [hxl, HXJ.out]
        · rw [List.getElem?_set_ne (by omega)]; exact HX.out i (by omega), HB2.out, HS2.out⟩
      case measure => simp [intOf]; omega
    · obtain rfl : j = 6 := by omega
      have hxe : xs = (pkB k).map (Value.int .u8) := by
        have hl := HO.out.1
        apply List.ext_getElem?
        intro i
        by_cases hi : i < 6
        · rw [HX.out i hi]
          rcases (show i = 0 ∨ i = 1 ∨ i = 2 ∨ i = 3 ∨ i = 4 ∨ i = 5 by omega) with rfl | rfl | rfl | rfl | rfl | rfl <;> rfl
        · rw [List.getElem?_eq_none (by omega), List.getElem?_eq_none (by simp [pkB]; omega)]
      have hB : BRow w.heap.size wr (.slice (some ⟨w.heap.size + 1, 0, none⟩) 6 6) (pkB k) := by
        have := HO.out
        rw [hxe] at this
        exact this
      have hconv := hB.str (by simp [pkB])
      rw [← HSS.out] at hconv
      clear hB hxe
      go_wp2
      go_ret
      exact ⟨rfl, HG.out⟩
end Go.Proofs.Ytlhkfafdioakeaa
