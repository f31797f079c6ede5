/- Proved here: what the document's Decode answers where the length is not right. -/
import Derived.Test.YtlhkfafdioakeaaRwN
namespace Go.Proofs.Ytlhkfafdioakeaa
open Go.RowKit
set_option linter.unusedVariables false
set_option linter.unusedSimpArgs false
set_option maxRecDepth 100000 in
set_option maxHeartbeats 2000000 in
theorem rDecode_short (s : ByteArray) (w : World) (hs : s.size < 3) :
    Calls Try.prog 17 #[.string s] w fun e w' => e = .returned (.tuple #[zeroA, .int .i64 10]) ∧ w.grownBy w' none := by
  have h1 : (s.size : Int) < 3 := by omega
  unfold zeroA
  go_enter Try.func17, Try.ntmps17
  go_wp2
  refine bodyPost_ret (by simp [results, Try.results17, go_sem]; try rfl) rfl ?_
  exact ⟨rfl, World.grownBy_alloc _ _ _⟩
set_option maxRecDepth 100000 in
set_option maxHeartbeats 2000000 in
theorem rDecode_cut (s : ByteArray) (w : World) (hs : 3 ≤ s.size) (hs2 : s.size ≤ 9223372036854775807) (hl : (s.size : Int) < 3 + lenS s) :
    Calls Try.prog 17 #[.string s] w fun e w' => e = .returned (.tuple #[zeroA, .int .i64 10]) ∧ w.grownBy w' none := by
  have h1 : (3 : Int) ≤ s.size := by omega
  have h2 : (s.size : Int) ≤ 9223372036854775807 := by omega
  have i0 : 0 < s.size := by omega
  have i1 : 1 < s.size := by omega
  have i2 : 2 < s.size := by omega
  have j0 : (0 : Int) < s.size := by omega
  have j1 : (1 : Int) < s.size := by omega
  have j2 : (2 : Int) < s.size := by omega
  obtain ⟨L, hL⟩ : ∃ L, L = 3 + lenS s := ⟨_, rfl⟩
  have HL : Hid (L = 3 + (byt s 1 * 256 + byt s 2)) := hL
  rw [← hL] at hl
  clear hL
  unfold zeroA
  obtain ⟨wa, hwa⟩ : ∃ wa, wa = w.alloc (.cells (mA (mz 0)) 45) := ⟨_, rfl⟩
  have RA : mBlk wa w.heap.size (mz 0) := by rw [hwa]; exact mBlk.alloc _ _
  have GA : w.grownBy wa none := by rw [hwa]; exact World.grownBy_alloc _ _ _
  unfold mA mz at hwa
  simp only [if_true, Nat.reduceEqDiff, if_false, Nat.reduceLT] at hwa
  go_enter Try.func17, Try.ntmps17
  go_upto_region 3 with fail
  rw [← hwa]
  clear hwa
  go_cut [4] (fun v4 wx => v4 = .int .i64 L ∧ ∃ n, wx = wa.drewN n)
  case first =>
    go_quiet (fail)
    go_wp2
    go_meet
    refine ⟨?_, _, rfl⟩
    refine congrArg (Value.int .i64) ((rlen_val _ _).trans ?_)
    have := HL.out
    rw [byt_lt s 1 i1, byt_lt s 2 i2] at this
    exact this.symm
  case rest =>
    obtain ⟨rfl, nq, hwc⟩ := hcut
    have R1 : Hid (mBlk wc w.heap.size (mz 0)) := by rw [hwc]; exact RA
    have G1 : Hid (w.grownBy wc none) := by rw [hwc]; exact grown_drewN GA nq
    clear hwc RA GA
    obtain ⟨d0, d1, d2, d3, d4, d5, d6, d7, d8, d9⟩ := R1.out.tenCells
    have f0 := R1.out.frozen
    simp only [mz, if_true, Nat.reduceEqDiff, if_false, Nat.reduceLT] at d0 d1 d2 d3 d4 d5 d6 d7 d8 d9
    go_wp2
    change bodyPost _ _ _ _ _ (put10 wc w.heap.size (mz 0))
    have hp := put10_blk R1.out (mz 0)
    obtain ⟨e0, e1, e2, e3, e4, e5, e6, e7, e8, e9⟩ := hp.tenCells
    simp only [mz, if_true, Nat.reduceEqDiff, if_false, Nat.reduceLT] at e0 e1 e2 e3 e4 e5 e6 e7 e8 e9
    refine bodyPost_ret (v := .tuple #[.agg #[.int .i64 0, .int .i64 0, .int .i64 0, .int .i64 0, .int .i64 0, .int .i64 0, .int .i64 0, .int .i64 0, .slice none 0 0, .slice none 0 0], .int .i64 10]) (by simp [results, Try.results17, go_sem, e0, e1, e2, e3, e4, e5, e6, e7, e8, e9]) rfl ?_
    exact ⟨rfl, grown_new G1.out (put10_grown _ _ _) (Nat.le_refl _)⟩
set_option maxRecDepth 100000 in
set_option maxHeartbeats 2000000 in
theorem rDecode_more (s : ByteArray) (w : World) (hs : 3 ≤ s.size) (hs2 : s.size ≤ 9223372036854775807) (hl : 3 + lenS s < (s.size : Int)) :
    Calls Try.prog 17 #[.string s] w fun e w' => e = .returned (.tuple #[zeroA, .int .i64 12]) ∧ w.grownBy w' none := by
  have h1 : (3 : Int) ≤ s.size := by omega
  have h2 : (s.size : Int) ≤ 9223372036854775807 := by omega
  have i0 : 0 < s.size := by omega
  have i1 : 1 < s.size := by omega
  have i2 : 2 < s.size := by omega
  have j0 : (0 : Int) < s.size := by omega
  have j1 : (1 : Int) < s.size := by omega
  have j2 : (2 : Int) < s.size := by omega
  obtain ⟨L, hL⟩ : ∃ L, L = 3 + lenS s := ⟨_, rfl⟩
  have HL : Hid (L = 3 + (byt s 1 * 256 + byt s 2)) := hL
  rw [← hL] at hl
  clear hL
  unfold zeroA
  obtain ⟨wa, hwa⟩ : ∃ wa, wa = w.alloc (.cells (mA (mz 0)) 45) := ⟨_, rfl⟩
  have RA : mBlk wa w.heap.size (mz 0) := by rw [hwa]; exact mBlk.alloc _ _
  have GA : w.grownBy wa none := by rw [hwa]; exact World.grownBy_alloc _ _ _
  unfold mA mz at hwa
  simp only [if_true, Nat.reduceEqDiff, if_false, Nat.reduceLT] at hwa
  go_enter Try.func17, Try.ntmps17
  go_upto_region 3 with fail
  rw [← hwa]
  clear hwa
  go_cut [4] (fun v4 wx => v4 = .int .i64 L ∧ ∃ n, wx = wa.drewN n)
  case first =>
    go_quiet (fail)
    go_wp2
    go_meet
    refine ⟨?_, _, rfl⟩
    refine congrArg (Value.int .i64) ((rlen_val _ _).trans ?_)
    have := HL.out
    rw [byt_lt s 1 i1, byt_lt s 2 i2] at this
    exact this.symm
  case rest =>
    obtain ⟨rfl, nq, hwc⟩ := hcut
    have R1 : Hid (mBlk wc w.heap.size (mz 0)) := by rw [hwc]; exact RA
    have G1 : Hid (w.grownBy wc none) := by rw [hwc]; exact grown_drewN GA nq
    clear hwc RA GA
    obtain ⟨d0, d1, d2, d3, d4, d5, d6, d7, d8, d9⟩ := R1.out.tenCells
    have f0 := R1.out.frozen
    simp only [mz, if_true, Nat.reduceEqDiff, if_false, Nat.reduceLT] at d0 d1 d2 d3 d4 d5 d6 d7 d8 d9
    go_wp2
    change bodyPost _ _ _ _ _ (put10 wc w.heap.size (mz 0))
    have hp := put10_blk R1.out (mz 0)
    obtain ⟨e0, e1, e2, e3, e4, e5, e6, e7, e8, e9⟩ := hp.tenCells
    simp only [mz, if_true, Nat.reduceEqDiff, if_false, Nat.reduceLT] at e0 e1 e2 e3 e4 e5 e6 e7 e8 e9
    refine bodyPost_ret (v := .tuple #[.agg #[.int .i64 0, .int .i64 0, .int .i64 0, .int .i64 0, .int .i64 0, .int .i64 0, .int .i64 0, .int .i64 0, .slice none 0 0, .slice none 0 0], .int .i64 12]) (by simp [results, Try.results17, go_sem, e0, e1, e2, e3, e4, e5, e6, e7, e8, e9]) rfl ?_
    exact ⟨rfl, grown_new G1.out (put10_grown _ _ _) (Nat.le_refl _)⟩
end Go.Proofs.Ytlhkfafdioakeaa
