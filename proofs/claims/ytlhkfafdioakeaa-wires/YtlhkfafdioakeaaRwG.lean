/- Proved here: what the document's Encode answers for packets that go out, and for one that no rule matches. -/
import Derived.Test.YtlhkfafdioakeaaRwF
namespace Go.Proofs.Ytlhkfafdioakeaa
open Go.RowKit
set_option linter.unusedVariables false
set_option linter.unusedSimpArgs false
set_option maxRecDepth 100000 in
set_option maxHeartbeats 8000000 in
theorem rEncode5 (m : Msg) (a b : Option Addr) (ca cb : Nat) (w : World) (hav : PkRow w (.slice a m.na ca) m.na m.acts) (hpv : PkRow w (.slice b m.np cb) m.np m.pks) (hc : canS m) (hk : m.kind = 5) :
    Calls Try.prog 16 #[msgV m (.slice a m.na ca) (.slice b m.np cb)] w fun e w' => e = .returned (.tuple #[.string (strB (encB m)), .int .i64 0]) ∧ w.grownBy w' none := by
  have HF := hide (fun w hav hpv => fine_any m a b ca cb w hav hpv)
  have HAV := hide hav
  have HPV := hide hpv
  have hcan := (can_iff m).1 hc
  have HCAN := hide hc
  clear hav hpv hc
  obtain ⟨Q, hQ⟩ : ∃ Q : Ending → World → Prop, Q = fun e w' => e = .returned (.tuple #[.string (strB (encB m)), .int .i64 0]) ∧ w.grownBy w' none := ⟨_, rfl⟩
  rw [← hQ]
  have HQ : Hid (∀ e w', e = .returned (.tuple #[.string (strB (encB m)), .int .i64 0]) → w.grownBy w' none → Q e w') := fun e w' h1 h2 => by rw [hQ]; exact ⟨h1, h2⟩
  clear hQ
  obtain ⟨M, hM⟩ : ∃ M, M = m := ⟨_, rfl⟩
  rw [← hM] at HQ HF HCAN hcan
  obtain ⟨kind, p, mt, na, acts, np, pks⟩ := m
  have M0 := hide (msgBlk.alloc w kind p mt (.slice a na ca) (.slice b np cb))
  rw [show M.na = na by rw [hM], show M.np = np by rw [hM]] at HF hcan
  rw [show M.acts = acts by rw [hM], show M.pks = pks by rw [hM]] at HF
  have hVM : msgV M (.slice a na ca) (.slice b np cb) = msgV ⟨kind, p, mt, na, acts, np, pks⟩ (.slice a na ca) (.slice b np cb) := by rw [hM]
  rw [hVM] at HF
  clear hVM
  obtain ⟨hmsg, hnp, hna⟩ := hcan
  have HMS := hide hmsg
  clear hmsg
  unfold msgV at *
  simp only at HF HAV HPV hk ⊢
  subst hk
  go_enter Try.func16, Try.ntmps16
  go_wp2_with fail
  obtain ⟨wa, hwa⟩ : ∃ wa, wa = w.alloc (Obj.cells #[.int .i64 5, .int .i64 p, .int .i64 (mt 0), .int .i64 (mt 1), .int .i64 (mt 2), .int .i64 (mt 3), .int .i64 (mt 4), .int .i64 (mt 5), .slice a na ca, .slice b np cb] 45) := ⟨_, rfl⟩
  have hsa : wa.heap.size = w.heap.size + 1 := by rw [hwa]; simp
  have GA : Hid (w.grownBy wa none) := by rw [hwa]; exact World.grownBy_alloc _ _ _
  rw [← hwa] at M0 ⊢
  clear hwa
  refine (HF.out _ (HAV.out.grown GA.out) (HPV.out.grown GA.out)).mono ?_
  rintro e w1 hs
  obtain ⟨hs, hg1⟩ := hs.cases
  have G1 := hide (grown_trans GA.out hg1)
  have M1 := hide (M0.out.below (Below.up (B := w.heap.size + 1) hg1 (by omega)) (by omega))
  have PA1 := hide (HAV.out.grown G1.out)
  have PP1 := hide (HPV.out.grown G1.out)
  clear hg1
  rcases hs with ⟨_, rfl⟩ | ⟨hno, _⟩
  rotate_left
  · exact absurd HMS.out hno
  obtain ⟨c0, c1, c2, c3, c4, c5, c6, c7, c8, c9⟩ := M1.out.cells
  obtain ⟨SB, hSB⟩ : ∃ SB, SB = strB (twoB (np : Int) ++ pksB np pks) := ⟨_, rfl⟩
  have hbd : bodyB M = twoB (np : Int) ++ pksB np pks := by rw [hM]; rfl
  have HBD : Hid (SB = strB (bodyB M)) := by rw [hbd]; exact hSB
  have hss : SB.size = 2 + 6 * np := by rw [hSB, strB_size, List.length_append, pksB_len]; rfl
  have hs65 : SB.size ≤ 65535 := by omega
  obtain ⟨TB, hTB⟩ : ∃ TB, TB = strB (twoB (SB.size : Int)) := ⟨_, rfl⟩
  have HTB := hide hTB
  have HTB0 : Hid (TB = strB (twoB ((bodyB M).length : Nat))) := by rw [hbd, List.length_append, pksB_len]; show TB = strB (twoB ((2 + 6 * np : Nat) : Int)); rw [← hss]; exact hTB
  have HMA : Hid (Calls Try.prog 33 #[.slice b np cb] w1 fun e w' => e = .returned (.string SB) ∧ w1.grownBy w' none) := by rw [hSB]; exact rMany_any _ np pks w1 PP1.out (by omega)
  clear hTB hSB hbd hss
  have HTWO : Hid (∀ w, Calls Try.prog 31 #[.int .i64 (SB.size : Int)] w fun e w' => e = .returned (.string TB) ∧ w.grownBy w' none) := fun w => by rw [HTB.out]; exact rTwo_any SB.size w
  have hts : TB.size = 2 := by rw [HTB.out, strB_size]; rfl
  go_wp2_with fail
  refine HMA.out.mono ?_
  rintro e w2 ⟨rfl, hg2⟩
  have MX := hide (M1.out.below (Below.up (B := w.heap.size + 1) hg2 (Array.getElem?_eq_some_iff.1 M1.out).1) (Nat.lt_succ_self _))
  have GX := hide (grown_trans G1.out hg2)
  clear hg2 c0 c1 c2 c3 c4 c5 c6 c7 c8 c9
  have hs65I : (SB.size : Int) ≤ 65535 := by omega
  have HKB0 : Hid (∃ KB, KB = strB [IntKind.u8.wrap 5]) := ⟨_, rfl⟩
  obtain ⟨KB, hKB⟩ := HKB0
  have HKB := hide hKB
  clear hKB
  have hMk : M.kind = 5 := by rw [hM]
  have MXD : Hid (msgBlk w2.drew w.heap.size 5 p mt (.slice a na ca) (.slice b np cb)) := MX.out
  have GXD : Hid (w.grownBy w2.drew none) := grown_drew GX.out
  have hxs : w.heap.size < w2.heap.size := (Array.getElem?_eq_some_iff.1 MX.out).1
  have k0 := MX.out.cells.1
  have hbA : BRow w2.heap.size (w2.alloc (.cells #[.int .u8 (IntKind.u8.wrap 5)] 5)).drew (.slice (some ⟨w2.heap.size, 0, none⟩) 1 1) [IntKind.u8.wrap 5] := BRow.made w2 _
  have GAA : w.grownBy (w2.alloc (.cells #[.int .u8 (IntKind.u8.wrap 5)] 5)).drew none := grown_drew (grown_trans GX.out (World.grownBy_alloc _ _ _))
  have hcvA := hbA.str (by simp)
  rw [strI_eq, ← HKB.out] at hcvA
  have HBA := hide hbA
  have HGA := hide GAA
  clear hbA GAA
  have hks : KB.size = 1 := by rw [HKB.out, strB_size]; rfl
  go_wp2_with fail
  go_region_with (go_at_call 31; refine (HTWO.out _).mono ?_; rintro e w3 ⟨rfl, hg3⟩; (try (have hm3 := MXD.out.below (Below.up (B := w.heap.size + 1) hg3 hxs) (Nat.lt_succ_self _); have k3 := hm3.cells.1; have GG3 := hide (grown_trans GXD.out hg3); clear hm3)); (try (have hb3 := HBA.out.kept hg3; have hcvB := hb3.str (by simp); rw [strI_eq, ← HKB.out] at hcvB; have GG3 := hide (grown_trans HGA.out hg3); clear hb3)); have hcvC := strI_one (IntKind.u8.wrap 5) w3; rw [← HKB.out] at hcvC; clear hg3)
  all_goals
    go_wp2
    try go_ret2
    refine HQ.out _ _ ?_ ?_
    · rw [enc_str, hMk, ← HBD.out, ← HTB0.out, ← wrap_u8, ← HKB.out]
      first | rfl | (congr 3; apply bytes_eq; simp [ByteArray.data_append, strB])
    · first | exact GG3.out | exact grown_trans GG3.out (World.grownBy_alloc _ _ _)
set_option maxRecDepth 100000 in
set_option maxHeartbeats 8000000 in
theorem rEncode4 (m : Msg) (a b : Option Addr) (ca cb : Nat) (w : World) (hav : PkRow w (.slice a m.na ca) m.na m.acts) (hpv : PkRow w (.slice b m.np cb) m.np m.pks) (hc : canS m) (hk : m.kind = 4) :
    Calls Try.prog 16 #[msgV m (.slice a m.na ca) (.slice b m.np cb)] w fun e w' => e = .returned (.tuple #[.string (strB (encB m)), .int .i64 0]) ∧ w.grownBy w' none := by
  have HF := hide (fun w hav hpv => fine_any m a b ca cb w hav hpv)
  have HAV := hide hav
  have HPV := hide hpv
  have hcan := (can_iff m).1 hc
  have HCAN := hide hc
  clear hav hpv hc
  obtain ⟨Q, hQ⟩ : ∃ Q : Ending → World → Prop, Q = fun e w' => e = .returned (.tuple #[.string (strB (encB m)), .int .i64 0]) ∧ w.grownBy w' none := ⟨_, rfl⟩
  rw [← hQ]
  have HQ : Hid (∀ e w', e = .returned (.tuple #[.string (strB (encB m)), .int .i64 0]) → w.grownBy w' none → Q e w') := fun e w' h1 h2 => by rw [hQ]; exact ⟨h1, h2⟩
  clear hQ
  obtain ⟨M, hM⟩ : ∃ M, M = m := ⟨_, rfl⟩
  rw [← hM] at HQ HF HCAN hcan
  obtain ⟨kind, p, mt, na, acts, np, pks⟩ := m
  have M0 := hide (msgBlk.alloc w kind p mt (.slice a na ca) (.slice b np cb))
  rw [show M.na = na by rw [hM], show M.np = np by rw [hM]] at HF hcan
  rw [show M.acts = acts by rw [hM], show M.pks = pks by rw [hM]] at HF
  have hVM : msgV M (.slice a na ca) (.slice b np cb) = msgV ⟨kind, p, mt, na, acts, np, pks⟩ (.slice a na ca) (.slice b np cb) := by rw [hM]
  rw [hVM] at HF
  clear hVM
  obtain ⟨hmsg, hnp, hna⟩ := hcan
  have HMS := hide hmsg
  clear hmsg
  unfold msgV at *
  simp only at HF HAV HPV hk ⊢
  subst hk
  go_enter Try.func16, Try.ntmps16
  go_wp2_with fail
  obtain ⟨wa, hwa⟩ : ∃ wa, wa = w.alloc (Obj.cells #[.int .i64 4, .int .i64 p, .int .i64 (mt 0), .int .i64 (mt 1), .int .i64 (mt 2), .int .i64 (mt 3), .int .i64 (mt 4), .int .i64 (mt 5), .slice a na ca, .slice b np cb] 45) := ⟨_, rfl⟩
  have hsa : wa.heap.size = w.heap.size + 1 := by rw [hwa]; simp
  have GA : Hid (w.grownBy wa none) := by rw [hwa]; exact World.grownBy_alloc _ _ _
  rw [← hwa] at M0 ⊢
  clear hwa
  refine (HF.out _ (HAV.out.grown GA.out) (HPV.out.grown GA.out)).mono ?_
  rintro e w1 hs
  obtain ⟨hs, hg1⟩ := hs.cases
  have G1 := hide (grown_trans GA.out hg1)
  have M1 := hide (M0.out.below (Below.up (B := w.heap.size + 1) hg1 (by omega)) (by omega))
  have PA1 := hide (HAV.out.grown G1.out)
  have PP1 := hide (HPV.out.grown G1.out)
  clear hg1
  rcases hs with ⟨_, rfl⟩ | ⟨hno, _⟩
  rotate_left
  · exact absurd HMS.out hno
  obtain ⟨c0, c1, c2, c3, c4, c5, c6, c7, c8, c9⟩ := M1.out.cells
  have hn1 : np = 1 := by
    have := HMS.out
    rw [hM] at this
    rcases this with ⟨h1, _⟩ | ⟨_, _, h3, _⟩ | ⟨h1, _⟩ | ⟨h1, _⟩
    · exact absurd h1 (by show ¬ (4 : Int) = 1; omega)
    · exact h3
    · exact absurd h1 (by show ¬ (4 : Int) = 5; omega)
    · exact absurd h1 (by show ¬ ((4 : Int) = 2 ∨ (4 : Int) = 3 ∨ (4 : Int) = 6); omega)
  obtain ⟨k, hk0⟩ : ∃ k, pks 0 = k := ⟨_, rfl⟩
  rcases PP1.out with ⟨_, h0⟩ | ⟨g, off, cap', hv, _, hcell⟩
  · omega
  cases hv
  have cc : ∀ i, i < 6 → w1.cell? ⟨g, off + i, none⟩ = some (.int .i64 (k i)) := fun i hi => by rw [← hk0]; have := hcell 0 (by omega) i hi; rw [Nat.zero_mul, Nat.add_zero] at this; exact this
  have d0 := cc 0 (by omega)
  have d1 := cc 1 (by omega)
  have d2 := cc 2 (by omega)
  have d3 := cc 3 (by omega)
  have d4 := cc 4 (by omega)
  have d5 := cc 5 (by omega)
  rw [Nat.add_zero] at d0
  have hnpI : (0 : Int) < np := by omega
  have hnpN : 0 < np := by omega
  obtain ⟨SB, hSB⟩ : ∃ SB, SB = strB (pkB k) := ⟨_, rfl⟩
  have hbd : bodyB M = pkB k := by
    rw [hM]
    show (if (4 : Int) = 1 then _ else if (4 : Int) = 5 then _ else pksB np pks) = pkB k
    rw [if_neg (by omega), if_neg (by omega), hn1]
    simp [pksB, hk0]
  have HBD : Hid (SB = strB (bodyB M)) := by rw [hbd]; exact hSB
  have hss : SB.size = 6 := by rw [hSB, strB_size]; rfl
  have hs65 : SB.size ≤ 65535 := by omega
  obtain ⟨TB, hTB⟩ : ∃ TB, TB = strB (twoB (SB.size : Int)) := ⟨_, rfl⟩
  have HTB := hide hTB
  have HTB0 : Hid (TB = strB (twoB ((bodyB M).length : Nat))) := by rw [hbd]; show TB = strB (twoB ((6 : Nat) : Int)); rw [← hss]; exact hTB
  have HMA : Hid (Calls Try.prog 32 #[pkV k] w1 fun e w' => e = .returned (.string SB) ∧ w1.grownBy w' none) := by rw [hSB]; exact rBytes_any k w1
  unfold pkV pkA at HMA
  clear hTB hSB hbd hss hk0 cc hcell
  have HN1 := hide hn1
  clear hn1
  have HTWO : Hid (∀ w, Calls Try.prog 31 #[.int .i64 (SB.size : Int)] w fun e w' => e = .returned (.string TB) ∧ w.grownBy w' none) := fun w => by rw [HTB.out]; exact rTwo_any SB.size w
  have hts : TB.size = 2 := by rw [HTB.out, strB_size]; rfl
  go_wp2_with fail
  refine HMA.out.mono ?_
  rintro e w2 ⟨rfl, hg2⟩
  have MX := hide (M1.out.below (Below.up (B := w.heap.size + 1) hg2 (Array.getElem?_eq_some_iff.1 M1.out).1) (Nat.lt_succ_self _))
  have GX := hide (grown_trans G1.out hg2)
  clear hg2 c0 c1 c2 c3 c4 c5 c6 c7 c8 c9
  have hs65I : (SB.size : Int) ≤ 65535 := by omega
  have HKB0 : Hid (∃ KB, KB = strB [IntKind.u8.wrap 4]) := ⟨_, rfl⟩
  obtain ⟨KB, hKB⟩ := HKB0
  have HKB := hide hKB
  clear hKB
  have hMk : M.kind = 4 := by rw [hM]
  have MXD : Hid (msgBlk w2.drew w.heap.size 4 p mt (.slice a na ca) (.slice (some ⟨g, off, none⟩) np cb)) := MX.out
  have GXD : Hid (w.grownBy w2.drew none) := grown_drew GX.out
  have hxs : w.heap.size < w2.heap.size := (Array.getElem?_eq_some_iff.1 MX.out).1
  have k0 := MX.out.cells.1
  have hbA : BRow w2.heap.size (w2.alloc (.cells #[.int .u8 (IntKind.u8.wrap 4)] 5)).drew (.slice (some ⟨w2.heap.size, 0, none⟩) 1 1) [IntKind.u8.wrap 4] := BRow.made w2 _
  have GAA : w.grownBy (w2.alloc (.cells #[.int .u8 (IntKind.u8.wrap 4)] 5)).drew none := grown_drew (grown_trans GX.out (World.grownBy_alloc _ _ _))
  have hcvA := hbA.str (by simp)
  rw [strI_eq, ← HKB.out] at hcvA
  have HBA := hide hbA
  have HGA := hide GAA
  clear hbA GAA
  have hks : KB.size = 1 := by rw [HKB.out, strB_size]; rfl
  go_wp2_with fail
  go_region_with (go_at_call 31; refine (HTWO.out _).mono ?_; rintro e w3 ⟨rfl, hg3⟩; (try (have hm3 := MXD.out.below (Below.up (B := w.heap.size + 1) hg3 hxs) (Nat.lt_succ_self _); have k3 := hm3.cells.1; have GG3 := hide (grown_trans GXD.out hg3); clear hm3)); (try (have hb3 := HBA.out.kept hg3; have hcvB := hb3.str (by simp); rw [strI_eq, ← HKB.out] at hcvB; have GG3 := hide (grown_trans HGA.out hg3); clear hb3)); have hcvC := strI_one (IntKind.u8.wrap 4) w3; rw [← HKB.out] at hcvC; clear hg3)
  all_goals
    go_wp2
    try go_ret2
    refine HQ.out _ _ ?_ ?_
    · rw [enc_str, hMk, ← HBD.out, ← HTB0.out, ← wrap_u8, ← HKB.out]
      first | rfl | (congr 3; apply bytes_eq; simp [ByteArray.data_append, strB])
    · first | exact GG3.out | exact grown_trans GG3.out (World.grownBy_alloc _ _ _)
end Go.Proofs.Ytlhkfafdioakeaa
