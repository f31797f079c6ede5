/- Proved here: what the document's Encode answers for a rule that is to be added. -/
import Derived.Test.YtlhkfafdioakeaaRwG
import Derived.Deep.RegionHeld
import Derived.Deep.CutBlock
namespace Go.Proofs.Ytlhkfafdioakeaa
open Go.RowKit
set_option linter.unusedVariables false
set_option linter.unusedSimpArgs false
set_option maxRecDepth 100000 in
set_option maxHeartbeats 8000000 in
theorem rEncode1 (m : Msg) (a b : Option Addr) (ca cb : Nat) (w : World) (hav : PkRow w (.slice a m.na ca) m.na m.acts) (hpv : PkRow w (.slice b m.np cb) m.np m.pks) (hc : canS m) (hk : m.kind = 1) :
    Calls Try.prog 16 #[msgV m (.slice a m.na ca) (.slice b m.np cb)] w fun e w' => e = .returned (.tuple #[.string (strB (encB m)), .int .i64 0]) ∧ w.grownBy w' none := by
  have HF := hide (fun w hav hpv => fine_any m a b ca cb w hav hpv)
  have HAV := hide hav
  have HPV := hide hpv
  have hcan := (can_iff m).1 hc
  have HCAN := hide hc
  clear hav hpv hc
  obtain ⟨Q, hQ⟩ : ∃ Q : Ending → World → Prop, Q = fun e w' => e = .returned (.tuple #[.string (strB (encB m)), .int .i64 0]) ∧ w.grownBy w' none := ⟨_, rfl⟩
  rw [← hQ]
  have HQ : Hid (∀ e w', e = .returned (.tuple #[.string (strB (encB m)), .int .i64 0]) → w.grownBy w' none → Q e w') := fun e w' h1 h2 => by rw [hQ]; exact ⟨h1, h2⟩
  clear hQ
  obtain ⟨M, hM⟩ : ∃ M, M = m := ⟨_, rfl⟩
  rw [← hM] at HQ HF HCAN hcan
  obtain ⟨kind, p, mt, na, acts, np, pks⟩ := m
  have M0 := hide (msgBlk.alloc w kind p mt (.slice a na ca) (.slice b np cb))
  rw [show M.na = na by rw [hM], show M.np = np by rw [hM]] at HF hcan
  rw [show M.acts = acts by rw [hM], show M.pks = pks by rw [hM]] at HF
  have hVM : msgV M (.slice a na ca) (.slice b np cb) = msgV ⟨kind, p, mt, na, acts, np, pks⟩ (.slice a na ca) (.slice b np cb) := by rw [hM]
  rw [hVM] at HF
  clear hVM
  obtain ⟨hmsg, hnp, hna⟩ := hcan
  have HMS := hide hmsg
  clear hmsg
  unfold msgV at *
  simp only at HF HAV HPV hk ⊢
  subst hk
  go_enter Try.func16, Try.ntmps16
  go_wp2_with fail
  obtain ⟨wa, hwa⟩ : ∃ wa, wa = w.alloc (Obj.cells #[.int .i64 1, .int .i64 p, .int .i64 (mt 0), .int .i64 (mt 1), .int .i64 (mt 2), .int .i64 (mt 3), .int .i64 (mt 4), .int .i64 (mt 5), .slice a na ca, .slice b np cb] 45) := ⟨_, rfl⟩
  have hsa : wa.heap.size = w.heap.size + 1 := by rw [hwa]; simp
  have GA : Hid (w.grownBy wa none) := by rw [hwa]; exact World.grownBy_alloc _ _ _
  rw [← hwa] at M0 ⊢
  clear hwa
  refine (HF.out _ (HAV.out.grown GA.out) (HPV.out.grown GA.out)).mono ?_
  rintro e w1 hs
  obtain ⟨hs, hg1⟩ := hs.cases
  have G1 := hide (grown_trans GA.out hg1)
  have M1 := hide (M0.out.below (Below.up (B := w.heap.size + 1) hg1 (by omega)) (by omega))
  have PA1 := hide (HAV.out.grown G1.out)
  have PP1 := hide (HPV.out.grown G1.out)
  clear hg1
  rcases hs with ⟨_, rfl⟩ | ⟨hno, _⟩
  rotate_left
  · exact absurd HMS.out hno
  obtain ⟨c0, c1, c2, c3, c4, c5, c6, c7, c8, c9⟩ := M1.out.cells
  obtain ⟨SA, hSA⟩ : ∃ SA, SA = strB (twoB p) := ⟨_, rfl⟩
  obtain ⟨SC, hSC⟩ : ∃ SC, SC = strB (pkB mt) := ⟨_, rfl⟩
  obtain ⟨SD, hSD⟩ : ∃ SD, SD = strB (twoB (na : Int) ++ pksB na acts) := ⟨_, rfl⟩
  obtain ⟨SB, hSB⟩ : ∃ SB, SB = SA ++ SC ++ SD := ⟨_, rfl⟩
  have hbd : bodyB M = twoB p ++ pkB mt ++ (twoB (na : Int) ++ pksB na acts) := by rw [hM]; show twoB p ++ pkB mt ++ twoB na ++ pksB na acts = _; simp only [List.append_assoc]
  have HBD : Hid (SB = strB (bodyB M)) := by rw [hbd, hSB, hSA, hSC, hSD, strB_append, strB_append]; exact rfl
  have hss : SB.size = 10 + 6 * na := by rw [HBD.out, hbd, strB_size, List.length_append, List.length_append, List.length_append, pksB_len]; show 2 + 6 + (2 + 6 * na) = _; omega
  have hs65 : SB.size ≤ 65535 := by omega
  obtain ⟨TB, hTB⟩ : ∃ TB, TB = strB (twoB (SB.size : Int)) := ⟨_, rfl⟩
  have HTB := hide hTB
  have HTB0 : Hid (TB = strB (twoB ((bodyB M).length : Nat))) := by rw [HBD.out, strB_size] at hTB; exact hTB
  have HT0 : Hid (∀ wx, w1.grownBy wx none → Calls Try.prog 31 #[.int .i64 p] wx fun e w' => e = .returned (.string SA) ∧ w1.grownBy w' none) := fun wx hg => by rw [hSA]; exact (rTwo_any p wx).mono fun e w' h => ⟨h.1, grown_trans hg h.2⟩
  have HB0 : Hid (∀ wx, w1.grownBy wx none → Calls Try.prog 32 #[pkV mt] wx fun e w' => e = .returned (.string SC) ∧ w1.grownBy w' none) := fun wx hg => by rw [hSC]; exact (rBytes_any mt wx).mono fun e w' h => ⟨h.1, grown_trans hg h.2⟩
  have HM0 : Hid (∀ wx, w1.grownBy wx none → Calls Try.prog 33 #[.slice a na ca] wx fun e w' => e = .returned (.string SD) ∧ w1.grownBy w' none) := fun wx hg => by rw [hSD]; exact (rMany_any _ na acts wx (PA1.out.grown hg) (by omega)).mono fun e w' h => ⟨h.1, grown_trans hg h.2⟩
  unfold pkV pkA at HB0
  have hz1 : SA.size = 2 := by rw [hSA, strB_size]; rfl
  have hz2 : SC.size = 6 := by rw [hSC, strB_size]; rfl
  have hz3 : SD.size ≤ 65535 := by rw [hSD, strB_size, List.length_append, pksB_len]; show 2 + 6 * na ≤ 65535; omega
  have hz4 : ¬ (9223372036854775807 : Int) < 8 + (SD.size : Int) := by omega
  have hz5 : ¬ (9223372036854775807 : Int) < 2 + 6 + (SD.size : Int) := by omega
  have HSB := hide hSB
  clear hTB hbd hss hSA hSC hSD hSB
  have HTWO : Hid (∀ w, Calls Try.prog 31 #[.int .i64 (SB.size : Int)] w fun e w' => e = .returned (.string TB) ∧ w.grownBy w' none) := fun w => by rw [HTB.out]; exact rTwo_any SB.size w
  have hts : TB.size = 2 := by rw [HTB.out, strB_size]; rfl
  have HS : Hid (∀ wx, w1.grownBy wx none → (wx.cell? ⟨w.heap.size, 1, none⟩ = some (.int .i64 p) ∧ wx.cell? ⟨w.heap.size, 2, none⟩ = some (.int .i64 (mt 0)) ∧ wx.cell? ⟨w.heap.size, 3, none⟩ = some (.int .i64 (mt 1)) ∧ wx.cell? ⟨w.heap.size, 4, none⟩ = some (.int .i64 (mt 2)) ∧ wx.cell? ⟨w.heap.size, 5, none⟩ = some (.int .i64 (mt 3)) ∧ wx.cell? ⟨w.heap.size, 6, none⟩ = some (.int .i64 (mt 4)) ∧ wx.cell? ⟨w.heap.size, 7, none⟩ = some (.int .i64 (mt 5)) ∧ wx.cell? ⟨w.heap.size, 8, none⟩ = some (.slice a na ca) ∧ Hid (w1.grownBy wx none))) := fun wx hg => ⟨hg.cell c1 (by simp), hg.cell c2 (by simp), hg.cell c3 (by simp), hg.cell c4 (by simp), hg.cell c5 (by simp), hg.cell c6 (by simp), hg.cell c7 (by simp), hg.cell c8 (by simp), hg⟩
  have HG0 : Hid (w1.grownBy w1.drew none) := grown_drew (World.grownBy.refl w1 none)
  go_upto_region 5 with fail
  go_upto_block 0 with fail
  go_cut [5] (fun v5 wx => v5 = .string SB ∧ w1.grownBy wx none)
  case first =>
    go_upto_region 7 with fail
    go_region_held (fun wx => (wx.cell? ⟨w.heap.size, 1, none⟩ = some (.int .i64 p) ∧ wx.cell? ⟨w.heap.size, 2, none⟩ = some (.int .i64 (mt 0)) ∧ wx.cell? ⟨w.heap.size, 3, none⟩ = some (.int .i64 (mt 1)) ∧ wx.cell? ⟨w.heap.size, 4, none⟩ = some (.int .i64 (mt 2)) ∧ wx.cell? ⟨w.heap.size, 5, none⟩ = some (.int .i64 (mt 3)) ∧ wx.cell? ⟨w.heap.size, 6, none⟩ = some (.int .i64 (mt 4)) ∧ wx.cell? ⟨w.heap.size, 7, none⟩ = some (.int .i64 (mt 5)) ∧ wx.cell? ⟨w.heap.size, 8, none⟩ = some (.slice a na ca) ∧ Hid (w1.grownBy wx none))) (first | exact HS.out _ HG0.out | exact HS.out _ hg9) (first | (go_at_call 31; refine (HT0.out _ ?_).mono ?_; (first | exact hg9 | exact HG0.out); rintro e w9 ⟨rfl, hg9⟩) | (go_at_call 32; refine (HB0.out _ ?_).mono ?_; (first | exact hg9 | exact HG0.out); rintro e w9 ⟨rfl, hg9⟩) | (go_at_call 33; refine (HM0.out _ ?_).mono ?_; (first | exact hg9 | exact HG0.out); rintro e w9 ⟨rfl, hg9⟩))
    all_goals (go_wp2_with fail; go_meet; exact ⟨by rw [HSB.out], hg9⟩)
  obtain ⟨rfl, hg2⟩ := hcut
  have MX := hide (M1.out.below (Below.up (B := w.heap.size + 1) hg2 (Array.getElem?_eq_some_iff.1 M1.out).1) (Nat.lt_succ_self _))
  have GX := hide (grown_trans G1.out hg2)
  clear hg2 c0 c1 c2 c3 c4 c5 c6 c7 c8 c9
  have hs65I : (SB.size : Int) ≤ 65535 := by omega
  have HKB0 : Hid (∃ KB, KB = strB [IntKind.u8.wrap 1]) := ⟨_, rfl⟩
  obtain ⟨KB, hKB⟩ := HKB0
  have HKB := hide hKB
  clear hKB
  have hMk : M.kind = 1 := by rw [hM]
  have MXD : Hid (msgBlk wc.drew w.heap.size 1 p mt (.slice a na ca) (.slice b np cb)) := MX.out
  have GXD : Hid (w.grownBy wc.drew none) := grown_drew GX.out
  have hxs : w.heap.size < wc.heap.size := (Array.getElem?_eq_some_iff.1 MX.out).1
  have k0 := MX.out.cells.1
  have hbA : BRow wc.heap.size (wc.alloc (.cells #[.int .u8 (IntKind.u8.wrap 1)] 5)).drew (.slice (some ⟨wc.heap.size, 0, none⟩) 1 1) [IntKind.u8.wrap 1] := BRow.made wc _
  have GAA : w.grownBy (wc.alloc (.cells #[.int .u8 (IntKind.u8.wrap 1)] 5)).drew none := grown_drew (grown_trans GX.out (World.grownBy_alloc _ _ _))
  have hcvA := hbA.str (by simp)
  rw [strI_eq, ← HKB.out] at hcvA
  have HBA := hide hbA
  have HGA := hide GAA
  clear hbA GAA
  have hks : KB.size = 1 := by rw [HKB.out, strB_size]; rfl
  go_wp2_with fail
  go_region_with (go_at_call 31; refine (HTWO.out _).mono ?_; rintro e w3 ⟨rfl, hg3⟩; (try (have hm3 := MXD.out.below (Below.up (B := w.heap.size + 1) hg3 hxs) (Nat.lt_succ_self _); have k3 := hm3.cells.1; have GG3 := hide (grown_trans GXD.out hg3); clear hm3)); (try (have hb3 := HBA.out.kept hg3; have hcvB := hb3.str (by simp); rw [strI_eq, ← HKB.out] at hcvB; have GG3 := hide (grown_trans HGA.out hg3); clear hb3)); have hcvC := strI_one (IntKind.u8.wrap 1) w3; rw [← HKB.out] at hcvC; clear hg3)
  all_goals
    go_wp2
    try go_ret2
    refine HQ.out _ _ ?_ ?_
    · rw [enc_str, hMk, ← HBD.out, ← HTB0.out, ← wrap_u8, ← HKB.out]
      first | rfl | (congr 3; apply bytes_eq; simp [ByteArray.data_append, strB])
    · first | exact GG3.out | exact grown_trans GG3.out (World.grownBy_alloc _ _ _)
end Go.Proofs.Ytlhkfafdioakeaa
