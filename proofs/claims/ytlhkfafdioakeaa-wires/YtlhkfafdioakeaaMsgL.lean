/- Proved here: what Decode answers. -/
import Derived.Test.YtlhkfafdioakeaaMsgK
namespace Go.Proofs.Ytlhkfafdioakeaa
open Go.RowKit
set_option linter.unusedVariables false
set_option linter.unusedSimpArgs false
set_option maxRecDepth 100000 in
set_option maxHeartbeats 4000000 in
theorem decode_cut (s : ByteArray) (w : World) (hs : 3 ≤ s.size) (hs2 : s.size ≤ 9223372036854775807) (hl : (s.size : Int) < 3 + lenS s) :
    Calls Try.prog 29 #[.string s] w fun e w' => e = .returned (.tuple #[zeroA, .int .i64 10]) ∧ w.grownBy w' none := by
  have h1 : (3 : Int) ≤ s.size := by omega
  have h2 : (s.size : Int) ≤ 9223372036854775807 := by omega
  have H := hide (fun w => lens_any s w hs)
  obtain ⟨L, hL⟩ : ∃ L, L = lenS s := ⟨_, rfl⟩
  have hr := lenS_range s
  rw [← hL] at H hl hr
  obtain ⟨hr1, hr2⟩ := hr
  clear hL
  unfold zeroA
  obtain ⟨wa, hwa⟩ : ∃ wa, wa = w.alloc (.cells (mA (mz 0)) 45) := ⟨_, rfl⟩
  have RA : mBlk wa w.heap.size (mz 0) := by rw [hwa]; exact mBlk.alloc _ _
  have GA : w.grownBy wa none := by rw [hwa]; exact World.grownBy_alloc _ _ _
  unfold mA mz at hwa
  simp only [if_true, Nat.reduceEqDiff, if_false, Nat.reduceLT] at hwa
  go_enter Try.func29, Try.ntmps29
  go_wp2_with fail
  rw [← hwa]
  clear hwa
  refine (H.out wa).mono ?_
  rintro e w1 ⟨rfl, nq, hw1⟩
  have R1 : Hid (mBlk w1 w.heap.size (mz 0)) := by rw [hw1]; exact RA
  have G1 : Hid (w.grownBy w1 none) := by rw [hw1]; exact grown_drewN GA nq
  clear hw1 RA GA
  obtain ⟨d0, d1, d2, d3, d4, d5, d6, d7, d8, d9⟩ := R1.out.tenCells
  have f0 := R1.out.frozen
  simp only [mz, if_true, Nat.reduceEqDiff, if_false, Nat.reduceLT] at d0 d1 d2 d3 d4 d5 d6 d7 d8 d9
  go_wp2
  change bodyPost _ _ _ _ _ (put10 w1 w.heap.size (mz 0))
  have hp := put10_blk R1.out (mz 0)
  obtain ⟨e0, e1, e2, e3, e4, e5, e6, e7, e8, e9⟩ := hp.tenCells
  simp only [mz, if_true, Nat.reduceEqDiff, if_false, Nat.reduceLT] at e0 e1 e2 e3 e4 e5 e6 e7 e8 e9
  refine bodyPost_ret (v := .tuple #[.agg #[.int .i64 0, .int .i64 0, .int .i64 0, .int .i64 0, .int .i64 0, .int .i64 0, .int .i64 0, .int .i64 0, .slice none 0 0, .slice none 0 0], .int .i64 10]) (by simp [results, Try.results29, go_sem, e0, e1, e2, e3, e4, e5, e6, e7, e8, e9]) rfl ?_
  exact ⟨rfl, grown_new G1.out (put10_grown _ _ _) (Nat.le_refl _)⟩
set_option maxRecDepth 100000 in
set_option maxHeartbeats 4000000 in
theorem decode_more (s : ByteArray) (w : World) (hs : 3 ≤ s.size) (hs2 : s.size ≤ 9223372036854775807) (hl : 3 + lenS s < (s.size : Int)) :
    Calls Try.prog 29 #[.string s] w fun e w' => e = .returned (.tuple #[zeroA, .int .i64 12]) ∧ w.grownBy w' none := by
  have h1 : (3 : Int) ≤ s.size := by omega
  have h2 : (s.size : Int) ≤ 9223372036854775807 := by omega
  have H := hide (fun w => lens_any s w hs)
  obtain ⟨L, hL⟩ : ∃ L, L = lenS s := ⟨_, rfl⟩
  have hr := lenS_range s
  rw [← hL] at H hl hr
  obtain ⟨hr1, hr2⟩ := hr
  clear hL
  unfold zeroA
  obtain ⟨wa, hwa⟩ : ∃ wa, wa = w.alloc (.cells (mA (mz 0)) 45) := ⟨_, rfl⟩
  have RA : mBlk wa w.heap.size (mz 0) := by rw [hwa]; exact mBlk.alloc _ _
  have GA : w.grownBy wa none := by rw [hwa]; exact World.grownBy_alloc _ _ _
  unfold mA mz at hwa
  simp only [if_true, Nat.reduceEqDiff, if_false, Nat.reduceLT] at hwa
  go_enter Try.func29, Try.ntmps29
  go_wp2_with fail
  rw [← hwa]
  clear hwa
  refine (H.out wa).mono ?_
  rintro e w1 ⟨rfl, nq, hw1⟩
  have R1 : Hid (mBlk w1 w.heap.size (mz 0)) := by rw [hw1]; exact RA
  have G1 : Hid (w.grownBy w1 none) := by rw [hw1]; exact grown_drewN GA nq
  clear hw1 RA GA
  go_wp2_with fail
  refine (H.out w1).mono ?_
  rintro e w2 ⟨rfl, nq2, hw2⟩
  have R2 : Hid (mBlk w2 w.heap.size (mz 0)) := by rw [hw2]; exact R1.out
  have G2 : Hid (w.grownBy w2 none) := by rw [hw2]; exact grown_drewN G1.out nq2
  have hsz2 : w.heap.size < w2.heap.size := (Array.getElem?_eq_some_iff.1 R2.out).1
  clear hw2 R1 G1
  obtain ⟨d0, d1, d2, d3, d4, d5, d6, d7, d8, d9⟩ := R2.out.tenCells
  have f0 := R2.out.frozen
  simp only [mz, if_true, Nat.reduceEqDiff, if_false, Nat.reduceLT] at d0 d1 d2 d3 d4 d5 d6 d7 d8 d9
  go_wp2
  change bodyPost _ _ _ _ _ (put10 w2 w.heap.size (mz 0))
  have hp := put10_blk R2.out (mz 0)
  obtain ⟨e0, e1, e2, e3, e4, e5, e6, e7, e8, e9⟩ := hp.tenCells
  simp only [mz, if_true, Nat.reduceEqDiff, if_false, Nat.reduceLT] at e0 e1 e2 e3 e4 e5 e6 e7 e8 e9
  refine bodyPost_ret (v := .tuple #[.agg #[.int .i64 0, .int .i64 0, .int .i64 0, .int .i64 0, .int .i64 0, .int .i64 0, .int .i64 0, .int .i64 0, .slice none 0 0, .slice none 0 0], .int .i64 12]) (by simp [results, Try.results29, go_sem, e0, e1, e2, e3, e4, e5, e6, e7, e8, e9]) rfl ?_
  exact ⟨rfl, grown_new G2.out (put10_grown _ _ _) (Nat.le_refl _)⟩
end Go.Proofs.Ytlhkfafdioakeaa
