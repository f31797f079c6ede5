/- Proved here: what the document's Encode answers. -/
import Derived.Test.YtlhkfafdioakeaaRwE
import Derived.Test.YtlhkfafdioakeaaRwB
import Derived.Deep.DeepCutAuto
import Derived.Deep.RegionWith
namespace Go.Proofs.Ytlhkfafdioakeaa
open Go.RowKit
set_option linter.unusedVariables false
set_option linter.unusedSimpArgs false
theorem can_iff (m : Msg) : canS m ↔ (msgS m ∧ m.np ≤ 10922 ∧ m.na ≤ 10920) := by
  constructor
  · rintro ⟨h, hl⟩
    refine ⟨h, ?_⟩
    rcases h with ⟨h1, h2, h3⟩ | ⟨h1, h2, h3, h4⟩ | ⟨h1, h2, h4⟩ | ⟨h1, h2, h3⟩
    · unfold bodyB at hl
      rw [if_pos h1] at hl
      simp [twoB, pkB, pksB_len] at hl
      omega
    · have := h2.2.2
      omega
    · unfold bodyB at hl
      rw [if_neg (by omega), if_pos h1] at hl
      simp [twoB, pksB_len] at hl
      have := h2.2.2
      omega
    · have := h2.2.2
      omega
  · rintro ⟨h, h1, h2⟩
    refine ⟨h, ?_⟩
    unfold bodyB
    split
    · simp [twoB, pkB, pksB_len]; omega
    · split
      · simp [twoB, pksB_len]; omega
      · rw [pksB_len]
        rcases h with ⟨h1, _⟩ | ⟨_, _, h3, _⟩ | ⟨h1, _⟩ | ⟨_, _, h3⟩ <;> omega
theorem strB_append (a b : List Int) : strB a ++ strB b = strB (a ++ b) := by
  apply bytes_eq
  rw [ByteArray.data_append]
  simp [strB]
theorem strI_one (x : Int) (w : World) : (convert 64 9 (.slice (some ⟨w.heap.size, 0, none⟩) 1 1)).run Try.prog (w.alloc (.cells #[.int .u8 x] 5)) = .ok (.string (strB [x])) (w.alloc (.cells #[.int .u8 x] 5)) := (BRow.made w x).str (by simp)
theorem enc_str (m : Msg) : strB (encB m) = strB [m.kind % 256] ++ strB (twoB (bodyB m).length) ++ strB (bodyB m) := by
  rw [strB_append, strB_append]
  rfl
theorem wrap_u8 (x : Int) : IntKind.u8.wrap x = x % 256 := by simp [IntKind.wrap, IntKind.bits, IntKind.signed]
set_option maxRecDepth 100000 in
set_option maxHeartbeats 8000000 in
theorem rEncode0 (m : Msg) (a b : Option Addr) (ca cb : Nat) (w : World) (hav : PkRow w (.slice a m.na ca) m.na m.acts) (hpv : PkRow w (.slice b m.np cb) m.np m.pks) (hc : canS m) (hk : m.kind ≠ 1 ∧ m.kind ≠ 4 ∧ m.kind ≠ 5) :
    Calls Try.prog 16 #[msgV m (.slice a m.na ca) (.slice b m.np cb)] w fun e w' => e = .returned (.tuple #[.string (strB (encB m)), .int .i64 0]) ∧ w.grownBy w' none := by
  have HF := hide (fun w hav hpv => fine_any m a b ca cb w hav hpv)
  have HAV := hide hav
  have HPV := hide hpv
  have hcan := (can_iff m).1 hc
  have HCAN := hide hc
  clear hav hpv hc
  obtain ⟨Q, hQ⟩ : ∃ Q : Ending → World → Prop, Q = fun e w' => e = .returned (.tuple #[.string (strB (encB m)), .int .i64 0]) ∧ w.grownBy w' none := ⟨_, rfl⟩
  rw [← hQ]
  have HQ : Hid (∀ e w', e = .returned (.tuple #[.string (strB (encB m)), .int .i64 0]) → w.grownBy w' none → Q e w') := fun e w' h1 h2 => by rw [hQ]; exact ⟨h1, h2⟩
  clear hQ
  obtain ⟨M, hM⟩ : ∃ M, M = m := ⟨_, rfl⟩
  rw [← hM] at HQ HF HCAN hcan
  obtain ⟨kind, p, mt, na, acts, np, pks⟩ := m
  have M0 := hide (msgBlk.alloc w kind p mt (.slice a na ca) (.slice b np cb))
  rw [show M.na = na by rw [hM], show M.np = np by rw [hM]] at HF hcan
  rw [show M.acts = acts by rw [hM], show M.pks = pks by rw [hM]] at HF
  have hVM : msgV M (.slice a na ca) (.slice b np cb) = msgV ⟨kind, p, mt, na, acts, np, pks⟩ (.slice a na ca) (.slice b np cb) := by rw [hM]
  rw [hVM] at HF
  clear hVM
  obtain ⟨hmsg, hnp, hna⟩ := hcan
  have HMS := hide hmsg
  clear hmsg
  unfold msgV at *
  simp only at HF HAV HPV hk ⊢
  go_enter Try.func16, Try.ntmps16
  go_wp2_with fail
  obtain ⟨wa, hwa⟩ : ∃ wa, wa = w.alloc (Obj.cells #[.int .i64 kind, .int .i64 p, .int .i64 (mt 0), .int .i64 (mt 1), .int .i64 (mt 2), .int .i64 (mt 3), .int .i64 (mt 4), .int .i64 (mt 5), .slice a na ca, .slice b np cb] 45) := ⟨_, rfl⟩
  have hsa : wa.heap.size = w.heap.size + 1 := by rw [hwa]; simp
  have GA : Hid (w.grownBy wa none) := by rw [hwa]; exact World.grownBy_alloc _ _ _
  rw [← hwa] at M0 ⊢
  clear hwa
  refine (HF.out _ (HAV.out.grown GA.out) (HPV.out.grown GA.out)).mono ?_
  rintro e w1 hs
  obtain ⟨hs, hg1⟩ := hs.cases
  have G1 := hide (grown_trans GA.out hg1)
  have M1 := hide (M0.out.below (Below.up (B := w.heap.size + 1) hg1 (by omega)) (by omega))
  have PA1 := hide (HAV.out.grown G1.out)
  have PP1 := hide (HPV.out.grown G1.out)
  clear hg1
  rcases hs with ⟨_, rfl⟩ | ⟨hno, _⟩
  rotate_left
  · exact absurd HMS.out hno
  obtain ⟨c0, c1, c2, c3, c4, c5, c6, c7, c8, c9⟩ := M1.out.cells
  have HBD : Hid (bodyB M = []) := by
    have hnp0 : np = 0 := by
      have := HMS.out
      rw [hM] at this
      rcases this with ⟨h1, _⟩ | ⟨h1, _⟩ | ⟨h1, _⟩ | ⟨_, _, h3⟩
      · exact absurd h1 hk.1
      · exact absurd h1 hk.2.1
      · exact absurd h1 hk.2.2
      · exact h3
    rw [hM]
    show (if kind = 1 then _ else if kind = 5 then _ else pksB np pks) = []
    rw [if_neg hk.1, if_neg hk.2.2, hnp0]
    rfl
  obtain ⟨TB, hTB⟩ : ∃ TB, TB = strB (twoB 0) := ⟨_, rfl⟩
  have HTB := hide hTB
  have HTWO : Hid (∀ w, Calls Try.prog 31 #[.int .i64 0] w fun e w' => e = .returned (.string TB) ∧ w.grownBy w' none) := fun w => by rw [HTB.out]; exact rTwo_any 0 w
  have hts : TB.size = 2 := by rw [HTB.out, strB_size]; rfl
  have HTB0 : Hid (TB = strB (twoB (([] : List Int).length : Nat))) := hTB
  have MX := M1
  have GX := G1
  obtain ⟨k1, k4, k5⟩ := hk
  clear hTB
  have HKB0 : Hid (∃ KB, KB = strB [IntKind.u8.wrap kind]) := ⟨_, rfl⟩
  obtain ⟨KB, hKB⟩ := HKB0
  have HKB := hide hKB
  clear hKB
  have hMk : M.kind = kind := by rw [hM]
  have MXD : Hid (msgBlk w1.drew w.heap.size kind p mt (.slice a na ca) (.slice b np cb)) := MX.out
  have GXD : Hid (w.grownBy w1.drew none) := grown_drew GX.out
  have hxs : w.heap.size < w1.heap.size := (Array.getElem?_eq_some_iff.1 MX.out).1
  have k0 := MX.out.cells.1
  have hbA : BRow w1.heap.size (w1.alloc (.cells #[.int .u8 (IntKind.u8.wrap kind)] 5)).drew (.slice (some ⟨w1.heap.size, 0, none⟩) 1 1) [IntKind.u8.wrap kind] := BRow.made w1 _
  have GAA : w.grownBy (w1.alloc (.cells #[.int .u8 (IntKind.u8.wrap kind)] 5)).drew none := grown_drew (grown_trans GX.out (World.grownBy_alloc _ _ _))
  have hcvA := hbA.str (by simp)
  rw [strI_eq, ← HKB.out] at hcvA
  have HBA := hide hbA
  have HGA := hide GAA
  clear hbA GAA
  have hks : KB.size = 1 := by rw [HKB.out, strB_size]; rfl
  go_wp2_with fail
  go_region_with (go_at_call 31; refine (HTWO.out _).mono ?_; rintro e w3 ⟨rfl, hg3⟩; (try (have hm3 := MXD.out.below (Below.up (B := w.heap.size + 1) hg3 hxs) (Nat.lt_succ_self _); have k3 := hm3.cells.1; have GG3 := hide (grown_trans GXD.out hg3); clear hm3)); (try (have hb3 := HBA.out.kept hg3; have hcvB := hb3.str (by simp); rw [strI_eq, ← HKB.out] at hcvB; have GG3 := hide (grown_trans HGA.out hg3); clear hb3)); have hcvC := strI_one (IntKind.u8.wrap kind) w3; rw [← HKB.out] at hcvC; clear hg3)
  all_goals
    go_wp2
    try go_ret2
    refine HQ.out _ _ ?_ ?_
    · rw [enc_str, hMk, HBD.out, ← HTB0.out, ← wrap_u8, ← HKB.out]
      first | rfl | (congr 3; apply bytes_eq; simp [ByteArray.data_append, strB])
    · first | exact GG3.out | exact grown_trans GG3.out (World.grownBy_alloc _ _ _)
end Go.Proofs.Ytlhkfafdioakeaa
