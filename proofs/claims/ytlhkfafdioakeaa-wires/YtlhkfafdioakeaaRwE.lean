/- Proved here: how the document writes lists of packets. -/
import Derived.Test.YtlhkfafdioakeaaRwD
namespace Go.Proofs.Ytlhkfafdioakeaa
open Go.RowKit
set_option linter.unusedVariables false
set_option linter.unusedSimpArgs false
set_option maxRecDepth 100000 in
set_option maxHeartbeats 2000000 in
theorem rMany_any (v : Value) (n : Nat) (ps : Nat → Nat → Int) (w : World) (h : PkRow w v n ps) (hn : n ≤ 20000) : Calls Try.prog 33 #[v] w fun e w' => e = .returned (strI (twoB n ++ pksB n ps)) ∧ w.grownBy w' none := by
  obtain ⟨a, cap, rfl⟩ := h.slice
  have HR := hide h
  clear h
  obtain ⟨SS, hSS⟩ : ∃ SS, SS = strI (twoB n ++ pksB n ps) := ⟨_, rfl⟩
  rw [← hSS]
  have HSS := hide hSS
  clear hSS
  have HT : Hid (Calls Try.prog 31 #[.int .i64 n] w fun e w' => e = .returned (.string (strB (twoB n))) ∧ w.grownBy w' none) := rTwo_any n w
  obtain ⟨TB, hTB⟩ : ∃ TB, TB = strB (twoB n) := ⟨_, rfl⟩
  have HNT : Hid (numB TB = twoB n) := by rw [hTB]; exact numB_strB _ (twoB_isB _)
  have hts : TB.size = 2 := by rw [hTB, strB_size]; rfl
  rw [← hTB] at HT
  clear hTB
  go_enter Try.func33, Try.ntmps33
  go_wp2_with fail
  refine HT.out.mono ?_
  rintro e w1 ⟨rfl, hg1⟩
  obtain ⟨cp, hconv, hB, hg2⟩ := BCell.conv w1 TB
  rw [HNT.out] at hB
  rw [hts] at hconv
  have G2 := hide (grown_trans hg1 hg2)
  have hsz2 := hg1.size
  obtain ⟨w2, hw2⟩ : ∃ w2, w2 = Lib.bytesWorld w1 5 TB := ⟨_, rfl⟩
  rw [← hw2] at hconv hB G2
  clear hw2 hg1 hg2
  have HBC := hide hB
  clear hB
  have hlenj : ∀ j, (twoB (n : Int) ++ pksB j ps).length = 2 + 6 * j := fun j => by rw [List.length_append, pksB_len]; rfl
  go_wp2
  go_loopw [3, 4] (fun v3 v4 wr => ∃ (j g cp : Nat), v3 = .slice (some ⟨g, 0, none⟩) (2 + 6 * j) cp ∧ v4 = .int .i64 j ∧ j ≤ n ∧ BCell w.heap.size wr g cp (twoB n ++ pksB j ps) ∧ w.grownBy wr none) (fun _ v4 _ => n - (intOf v4).toNat)
  case atStart =>
    refine ⟨0, w1.heap.size, cp, rfl, rfl, Nat.zero_le _, ?_, G2.out⟩
    have := HBC.out
    rw [show pksB 0 ps = [] from rfl, List.append_nil]
    exact ⟨by have := this.lo; omega, this.lt, this.room, this.cell, this.there, this.free⟩
  case round =>
    obtain ⟨j, g, cp, rfl, rfl, hj, hB, hG⟩ := hrel
    have HB := hide hB
    have HG := hide hG
    clear hB hG HBC G2 hconv
    by_cases hlt : j < n
    · rcases HR.out with ⟨_, h0⟩ | ⟨g2, off, cap', hv, _, hcell⟩
      · omega
      cases hv
      obtain ⟨k, hk⟩ : ∃ k, k = ps j := ⟨_, rfl⟩
      have cc : ∀ i, i < 6 → wr.cell? ⟨g2, off + j * 6 + i, none⟩ = some (.int .i64 (k i)) := fun i hi => by rw [hk]; exact HG.out.cell (hcell j hlt i hi) (by simp)
      have d0 := cc 0 (by omega)
      have d1 := cc 1 (by omega)
      have d2 := cc 2 (by omega)
      have d3 := cc 3 (by omega)
      have d4 := cc 4 (by omega)
      have d5 := cc 5 (by omega)
      rw [Nat.add_zero] at d0
      have HK := hide hk
      clear hk cc hcell
      have HBY : Hid (Calls Try.prog 32 #[pkV k] wr fun e w' => e = .returned (.string (strB (pkB k))) ∧ wr.grownBy w' none) := rBytes_any k wr
      obtain ⟨PB, hPB⟩ : ∃ PB, PB = strB (pkB k) := ⟨_, rfl⟩
      have HNP : Hid (numB PB = pkB k) := by rw [hPB]; exact numB_strB _ (pkB_isB _)
      have hps : PB.size = 6 := by rw [hPB, strB_size]; rfl
      rw [← hPB] at HBY
      clear hPB
      unfold pkV pkA at HBY
      go_wp2_with fail
      refine HBY.out.mono ?_
      rintro e w3 ⟨rfl, hg3⟩
      have B3 := hide (HB.out.grown hg3)
      have G3 := hide (grown_trans HG.out hg3)
      clear hg3
      have hs3 := G3.out.size
      go_wp2_with (at_builtin; refine wpList_appendStr rfl _ _ rfl (2 + 6 * j) (hlenj j).symm rfl B3.out PB rfl ?d1 ?d2 ?_)
      case d1 => exact hs3
      case d2 => rw [hlenj]; omega
      intro g' cp' w4 hB4 hg4
      have hge := B3.out.lo
      rw [HNP.out, HK.out] at hB4
      first | rw [List.append_assoc, ← pksB_succ] at hB4 | rw [← pksB_succ] at hB4
      have B4 := hide hB4
      have G4 := hide (grown_new G3.out hg4 hge)
      clear hB4 hg4 hge
      go_wp2
      go_roundw
      case rel => exact ⟨j + 1, g', cp', by rw [show 2 + 6 * (j + 1) = 2 + 6 * j + 6 by omega], by go_num, by omega, B4.out, G4.out⟩
      case measure => simp [intOf]; omega
    · obtain rfl : j = n := by omega
      have hstr := HB.out.str (2 + 6 * j) (hlenj j).symm
      rw [← HSS.out] at hstr
      go_wp2
      go_ret
      exact ⟨rfl, HG.out⟩
end Go.Proofs.Ytlhkfafdioakeaa
