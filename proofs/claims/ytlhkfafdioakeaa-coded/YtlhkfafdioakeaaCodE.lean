/- Proved here: the walk of the statement Coded, for a packet that no rule matches. -/
import Derived.Test.YtlhkfafdioakeaaCodC
import Derived.Deep.DeepCutAuto
import Derived.Deep.RegionWith
namespace Go.Proofs.Ytlhkfafdioakeaa
open Go.RowKit
set_option linter.unusedVariables false
set_option linter.unusedSimpArgs false
set_option maxRecDepth 100000 in
set_option maxHeartbeats 8000000 in
theorem coded4 (kind prio cut : Int) (rv : Value) (n : Nat) (more : ByteArray) (w : World) (hr : RRow w rv n) (hk1 : -9223372036854775808 ≤ kind) (hk2 : kind ≤ 9223372036854775807) (hp1 : -9223372036854775808 ≤ prio) (hp2 : prio ≤ 9223372036854775807)
    (hc1 : -9223372036854775808 ≤ cut) (hc2 : cut ≤ 9223372036854775807) (hm : more.size ≤ 140737488355328) (hq : pickS kind 6 = 3) :
    Calls Try.prog 5 #[.int .i64 kind, .int .i64 prio, rv, .int .i64 cut, .string more] w fun e w' => e = .returned (.bool true) ∧ w.grownBy w' none := by
  obtain ⟨⟨a, cap, rfl⟩, hn⟩ := hr.slice
  have HR := hide hr
  clear hr
  have HPK := hide (pick_any kind 6 w (by omega) (by omega) hk1 hk2)
  have HCUT := hide (fun (m : Int) (w : World) (h1 : 0 < m) (h2 : m ≤ 9223372036854775807) => pick_any cut m w h1 h2 hc1 hc2)
  obtain ⟨q, hqq⟩ : ∃ q, q = pickS kind 6 := ⟨_, rfl⟩
  rw [← hqq] at HPK hq
  clear hqq
  obtain ⟨wA, hwA⟩ : ∃ wA, wA = w.alloc (.cells (mA (mz 4)) 45) := ⟨_, rfl⟩
  have GA : w.grownBy wA none := by rw [hwA]; exact World.grownBy_alloc _ _ _
  have VA : mBlk wA w.heap.size (mz 4) := by rw [hwA]; exact mBlk.alloc _ _
  have hsA : wA.heap.size = w.heap.size + 1 := by rw [hwA]; simp
  obtain ⟨wB, hwB⟩ : ∃ wB, wB = wA.alloc (.cells #[.int .i64 prio, .int .i64 kind] 3) := ⟨_, rfl⟩
  have GB : wA.grownBy wB none := by rw [hwB]; exact World.grownBy_alloc _ _ _
  have hi2 : IRow wB (.slice (some ⟨w.heap.size + 1, 0, none⟩) 2 2) 2 := by
    refine .inr ⟨w.heap.size + 1, 0, 2, rfl, by omega, fun j hj => ?_⟩
    rw [← hsA, hwB]
    rcases (show j = 0 ∨ j = 1 by omega) with rfl | rfl
    · exact ⟨prio, by simp, hp1, hp2⟩
    · exact ⟨kind, by simp, hk1, hk2⟩
  have HPA := hide (packet_any _ 2 wB hi2)
  have HG0 := hide (grown_trans GA GB)
  have HV0 := hide (VA.grown GB (by simp))
  rw [hwA] at hwB
  unfold mA mz at hwB
  simp only [if_true, Nat.reduceEqDiff, if_false, Nat.reduceLT] at hwB
  clear GA GB VA hwA hi2 hsA
  subst hq
  go_enter Try.func5, Try.ntmps5
  go_wp2_with fail
  refine HPK.out.mono ?_
  rintro e w0 ⟨rfl, hw0⟩
  rw [hw0]
  clear hw0
  go_wp2_with fail
  rw [← hwB]
  clear hwB
  refine HPA.out.mono ?_
  rintro e w1 ⟨k, rfl, hk, hg1⟩
  have HKR := hide hk
  have V1 := HV0.out.grown hg1 (by simp)
  have G1 := hide (grown_trans HG0.out hg1)
  have hlt1 : w.heap.size < w1.heap.size := (Array.getElem?_eq_some_iff.1 V1).1
  clear hk hg1 HV0 HG0
  obtain ⟨wC, hwC⟩ : ∃ wC, wC = w1.setCell ⟨w.heap.size, 9, none⟩ (.slice (some ⟨w1.heap.size, 0, none⟩) 1 1) := ⟨_, rfl⟩
  have hszC : wC.heap.size = w1.heap.size := by rw [hwC]; simp [World.setCell]
  have VC : mBlk wC w.heap.size (upd (mz 4) 9 (.slice (some ⟨w1.heap.size, 0, none⟩) 1 1)) := by rw [hwC]; exact V1.set 9 (by omega) _
  have GC := hide (grown_new G1.out (show w1.grownBy wC (some w.heap.size) by rw [hwC]; exact grown_set _ _ _ _) (Nat.le_refl _))
  obtain ⟨ws, hws⟩ : ∃ ws, ws = wC.alloc (.cells (pkA k) 27) := ⟨_, rfl⟩
  have KB : pkBlk ws w1.heap.size k := by rw [hws, ← hszC]; exact pkBlk.alloc _ _
  have hszs : ws.heap.size = w1.heap.size + 1 := by rw [hws]; simp [hszC]
  obtain ⟨M, hM⟩ : ∃ M : Msg, M = ⟨4, 0, fun _ => 0, 0, fun _ _ => 0, 1, fun _ => k⟩ := ⟨_, rfl⟩
  obtain ⟨aa, haa⟩ : ∃ aa : Option Addr, aa = none := ⟨_, rfl⟩
  obtain ⟨ca, hca⟩ : ∃ ca : Nat, ca = 0 := ⟨_, rfl⟩
  obtain ⟨ab, hab⟩ : ∃ ab : Option Addr, ab = some ⟨w1.heap.size, 0, none⟩ := ⟨_, rfl⟩
  obtain ⟨cb, hcb⟩ : ∃ cb : Nat, cb = 1 := ⟨_, rfl⟩
  have HMB : Hid (mBlk ws w.heap.size (mC M (.slice aa M.na ca) (.slice ab M.np cb))) := by
    rw [hws, hM, haa, hca, hab, hcb]
    have := VC.grown (World.grownBy_alloc wC (.cells (pkA k) 27) none) (by simp)
    unfold mBlk at this ⊢
    rw [this]
    rfl
  have P1 : Hid (PkRow ws (.slice aa M.na ca) M.na M.acts) := by rw [hM, haa, hca]; exact PkRow.nil _ _
  have P2 : Hid (PkRow ws (.slice ab M.np cb) M.np M.pks) := by
    rw [hM, hab, hcb]
    exact PkRow.one KB
  have P3 : Hid (RowIn ws.heap.size (.slice aa M.na ca)) := by rw [haa]; exact fun _ _ _ _ e => by cases e
  have P4 : Hid (RowIn ws.heap.size (.slice ab M.np cb)) := by
    rw [hab]
    intro g off n cap e
    cases e
    omega
  have GS : Hid (w.grownBy ws none) := by rw [hws]; exact grown_trans GC.out (World.grownBy_alloc _ _ _)
  have HCAN : Hid (canS M) := by
    rw [hM]
    refine ⟨.inr (.inl ⟨rfl, ⟨rfl, fun _ _ => rfl, rfl⟩, rfl, fun j hj => HKR.out⟩), ?_⟩
    unfold bodyB
    rw [if_neg (by show ¬ (4 : Int) = 1; omega), if_neg (by show ¬ (4 : Int) = 5; omega), pksB_len]
    show 6 * 1 ≤ 65535
    omega
  have c9 := V1.cell 9 (by omega)
  have f9 := V1.frozen 9
  simp only [mz, Nat.reduceEqDiff, if_false, Nat.reduceLT] at c9
  rw [hwC] at hws
  clear KB VC V1 hM haa hca hab hcb hwC hszs hszC HPA
  unfold pkV
  unfold pkA at hws ⊢
  go_upto_region 20 with fail
  rw [← hws]
  clear hws c9 f9
  have hlenE := enc_len M
  obtain ⟨SB, hSB⟩ : ∃ SB, SB = strB (encB M) := ⟨_, rfl⟩
  have hSz : SB.size = 3 + (bodyB M).length := by rw [hSB, strB_size, hlenE]
  have hs3 : 3 ≤ SB.size := by omega
  have hs4 : SB.size ≤ 65538 := by have := HCAN.out.2; omega
  have HE : Hid (Calls Try.prog 14 #[msgV M (.slice aa M.na ca) (.slice ab M.np cb)] ws fun e w' => e = .returned (.tuple #[.string SB, .int .i64 0]) ∧ ws.grownBy w' none) := by
    refine (wEncode_any M aa ab ca cb ws P1.out P2.out P3.out P4.out).mono ?_
    rintro e w' ⟨hg, ⟨_, h⟩ | ⟨h, _⟩⟩
    · exact ⟨by rw [h, strI_eq, ← hSB], hg⟩
    · exact absurd HCAN.out h
  have HD1 : Hid (∀ w, Calls Try.prog 15 #[.string SB] w fun e w' => ∃ m' v, Same m' M ∧ MsgFrom w.heap.size w' m' v ∧ e = .returned (.tuple #[v, .int .i64 0]) ∧ w.grownBy w' none) := by
    intro w; rw [hSB]; exact decode_same M HCAN.out w
  have HD2 : Hid (∀ (i : Nat) w, i < SB.size → Calls Try.prog 15 #[.string (SB.extract 0 i)] w fun e w' => e = .returned (.tuple #[zeroA, .int .i64 10]) ∧ w.grownBy w' none) := by
    intro i w hi; rw [hSB] at hi ⊢; exact decode_begin M HCAN.out i (by rw [strB_size] at hi; exact hi) w
  have HD3 : Hid (0 < more.size → ∀ w, Calls Try.prog 15 #[.string (SB ++ more)] w fun e w' => e = .returned (.tuple #[zeroA, .int .i64 12]) ∧ w.grownBy w' none) := by
    intro h w; rw [hSB]; exact decode_behind M HCAN.out more h (by omega) w
  clear hSB hSz hlenE
  unfold msgV at HE
  unfold zeroA at HD2 HD3
  obtain ⟨c0, c1, c2, c3, c4, c5, c6, c7, c8, c9⟩ := HMB.out.tenCells
  simp only [mC, if_true, Nat.reduceEqDiff, if_false, Nat.reduceLT, Nat.reduceSub] at c0 c1 c2 c3 c4 c5 c6 c7 c8 c9
  have hs3I : (3 : Int) ≤ SB.size := by omega
  have hs4I : (SB.size : Int) ≤ 65538 := by omega
  go_wp2_with fail
  clear c0 c1 c2 c3 c4 c5 c6 c7 c8 c9
  refine HE.out.mono ?_
  rintro e w1 ⟨rfl, hg1⟩
  have HM1 := hide (HMB.out.grown hg1 (by simp))
  have G1 := hide (grown_trans GS.out hg1)
  have P11 := hide (P1.out.grown hg1)
  have P21 := hide (P2.out.grown hg1)
  clear hg1 HMB GS P1 P2 P3 P4
  go_wp2_with fail
  refine (HD1.out w1).mono ?_
  rintro e w2 ⟨M', v, hsame, ⟨av', pv', rfl, p1', p2', _, _, _, _⟩, rfl, hg2⟩
  rw [hsame.na] at p1'
  rw [hsame.np] at p2'
  have p1'' := p1'.cong hsame.acts
  have p2'' := p2'.cong hsame.pks
  obtain ⟨a1, ca1, rfl⟩ := p1''.slice
  obtain ⟨b1', cb1, rfl⟩ := p2''.slice
  unfold msgV
  rw [hsame.kind, hsame.prio, hsame.mt 0 (by omega), hsame.mt 1 (by omega), hsame.mt 2 (by omega), hsame.mt 3 (by omega), hsame.mt 4 (by omega), hsame.mt 5 (by omega)]
  obtain ⟨w3, hw3⟩ : ∃ w3, w3 = w2.alloc (.cells (mA (mC M (.slice a1 M.na ca1) (.slice b1' M.np cb1))) 45) := ⟨_, rfl⟩
  have hgg : w2.grownBy w3 none := by rw [hw3]; exact World.grownBy_alloc _ _ _
  have HN3 : Hid (mBlk w3 w2.heap.size (mC M (.slice a1 M.na ca1) (.slice b1' M.np cb1))) := by rw [hw3]; exact mBlk.alloc _ _
  unfold mA mC at hw3
  simp only [if_true, Nat.reduceEqDiff, if_false, Nat.reduceLT, Nat.reduceSub] at hw3
  have HM3 := hide (HM1.out.grown (grown_trans hg2 hgg) (by simp))
  have G3 := hide (grown_trans G1.out (grown_trans hg2 hgg))
  have P13 := hide (P11.out.grown (grown_trans hg2 hgg))
  have P23 := hide (P21.out.grown (grown_trans hg2 hgg))
  have Q13 := hide (p1''.grown hgg)
  have Q23 := hide (p2''.grown hgg)
  clear hg2 hgg p1' p2' p1'' p2'' hsame HM1 G1 P11 P21
  go_upto_region 24 with fail
  rw [← hw3]
  clear hw3
  obtain ⟨nb, hnb⟩ : ∃ nb, nb = w2.heap.size := ⟨_, rfl⟩
  rw [← hnb] at HN3 ⊢
  clear hnb
  have m9 := HM3.out.cell 9 (by omega)
  have n9 := HN3.out.cell 9 (by omega)
  simp only [mC, if_true, Nat.reduceEqDiff, if_false, Nat.reduceLT, Nat.reduceSub] at m9 n9
  go_wp2_with fail
  clear m9 n9
  refine (equal_same _ _ M.np M.pks M.pks w3 Q23.out P23.out (fun _ _ _ _ => rfl)).mono ?_
  rintro e w4 ⟨rfl, hg4⟩
  have HN4 := hide (HN3.out.grown hg4 (by simp))
  have HM4 := hide (HM3.out.grown hg4 (by simp))
  have G4 := hide (grown_trans G3.out hg4)
  have P14 := hide (P13.out.grown hg4)
  have Q14 := hide (Q13.out.grown hg4)
  clear hg4 HN3 HM3 G3 P13 Q13 P23 Q23
  have m8 := HM4.out.cell 8 (by omega)
  have n8 := HN4.out.cell 8 (by omega)
  simp only [mC, if_true, Nat.reduceEqDiff, if_false, Nat.reduceLT, Nat.reduceSub] at m8 n8
  go_wp2_with fail
  clear m8 n8
  refine (equal_same _ _ M.na M.acts M.acts w4 Q14.out P14.out (fun _ _ _ _ => rfl)).mono ?_
  rintro e w5 ⟨rfl, hg5⟩
  have HN5 := hide (HN4.out.grown hg5 (by simp))
  have HM5 := hide (HM4.out.grown hg5 (by simp))
  have G5 := hide (grown_trans G4.out hg5)
  clear hg5 HN4 HM4 G4 P14 Q14
  obtain ⟨m0, m1, m2, m3, m4, m5, m6, m7, m8, m9⟩ := HM5.out.tenCells
  obtain ⟨n0, n1, n2, n3, n4, n5, n6, n7, n8, n9⟩ := HN5.out.tenCells
  simp only [mC, if_true, Nat.reduceEqDiff, if_false, Nat.reduceLT, Nat.reduceSub] at m0 m1 m2 m3 m4 m5 m6 m7 m8 m9 n0 n1 n2 n3 n4 n5 n6 n7 n8 n9
  have heq6 := eq6_same (M.mt 0) (M.mt 1) (M.mt 2) (M.mt 3) (M.mt 4) (M.mt 5)
  go_upto_region 28 with fail
  clear m0 m1 m2 m3 m4 m5 m6 m7 m8 m9 n0 n1 n2 n3 n4 n5 n6 n7 n8 n9 heq6 HN5 HM5
  have hpr := pickS_range cut SB.size (by omega)
  have HC1 := hide (HCUT.out SB.size w5 (by omega) (by omega))
  obtain ⟨i, hi⟩ : ∃ i : Nat, pickS cut SB.size = (i : Int) := ⟨(pickS cut SB.size).toNat, by omega⟩
  rw [hi] at HC1 hpr
  have hilt : i < SB.size := by omega
  have hiI : (i : Int) ≤ SB.size := by omega
  clear hi hpr
  go_wp2_with fail
  refine HC1.out.mono ?_
  rintro e w5' ⟨rfl, hw5⟩
  rw [hw5]
  clear hw5
  go_wp2_with fail
  refine (HD2.out i w5 hilt).mono ?_
  rintro e w6 ⟨rfl, hg6⟩
  obtain ⟨w7, hw7⟩ : ∃ w7, w7 = w6.alloc (.cells (mA (mz 0)) 45) := ⟨_, rfl⟩
  have hgg : w6.grownBy w7 none := by rw [hw7]; exact World.grownBy_alloc _ _ _
  have HS7 : Hid (mBlk w7 w6.heap.size (mz 0)) := by rw [hw7]; exact mBlk.alloc _ _
  unfold mA mz at hw7
  simp only [if_true, Nat.reduceEqDiff, if_false, Nat.reduceLT] at hw7
  have G7 := hide (grown_trans G5.out (grown_trans hg6 hgg))
  clear hg6 hgg G5
  go_upto_region 29 with fail
  rw [← hw7]
  clear hw7
  obtain ⟨sb, hsb⟩ : ∃ sb, sb = w6.heap.size := ⟨_, rfl⟩
  rw [← hsb] at HS7 ⊢
  clear hsb
  by_cases hmore : 0 < more.size
  · have HD4 := hide (HD3.out hmore)
    have hmI : (0 : Int) < more.size := by omega
    go_wp2_with fail
    refine (HD4.out w7).mono ?_
    rintro e w8 ⟨rfl, hg8⟩
    obtain ⟨w9, hw9⟩ : ∃ w9, w9 = w8.alloc (.cells (mA (mz 0)) 45) := ⟨_, rfl⟩
    have hgg : w8.grownBy w9 none := by rw [hw9]; exact World.grownBy_alloc _ _ _
    have HL9 : Hid (mBlk w9 w8.heap.size (mz 0)) := by rw [hw9]; exact mBlk.alloc _ _
    unfold mA mz at hw9
    simp only [if_true, Nat.reduceEqDiff, if_false, Nat.reduceLT] at hw9
    have G9 := hide (grown_trans G7.out (grown_trans hg8 hgg))
    have HS9 := hide (HS7.out.grown (grown_trans hg8 hgg) (by simp))
    clear hg8 hgg G7 HS7
    go_upto_region 30 with fail
    rw [← hw9]
    clear hw9
    obtain ⟨lb, hlb⟩ : ∃ lb, lb = w8.heap.size := ⟨_, rfl⟩
    rw [← hlb] at HL9 ⊢
    clear hlb
    have s0 := HS9.out.cell 0 (by omega)
    have l0 := HL9.out.cell 0 (by omega)
    simp only [mz, if_true] at s0 l0
    have hne : (more.toList == []) = false := by
      cases hb : more.toList == [] with
      | false => rfl
      | true =>
        have e := eq_of_beq hb
        rw [Lib.toList_data] at e
        have : more.size = 0 := by rw [Lib.size_eq, e]; rfl
        omega
    go_wp2
    go_ret
    exact ⟨rfl, G9.out⟩
  · have hm0 : more.size = 0 := by omega
    have hcat : SB ++ more = SB := by
      apply bytes_eq
      have e0 : more.data.toList = [] := List.eq_nil_of_length_eq_zero (by rw [← Lib.size_eq]; exact hm0)
      rw [ByteArray.data_append]
      simp [e0]
    have HD5 : Hid (∀ w, Calls Try.prog 15 #[.string (SB ++ more)] w fun e w' => ∃ m' v, Same m' M ∧ MsgFrom w.heap.size w' m' v ∧ e = .returned (.tuple #[v, .int .i64 0]) ∧ w.grownBy w' none) := by
      intro w; rw [hcat]; exact HD1.out w
    have hne : (more.toList == []) = true := by
      rw [Lib.toList_data, List.eq_nil_of_length_eq_zero (l := more.data.toList) (by rw [← Lib.size_eq]; exact hm0)]
      rfl
    have HM0 := hide hm0
    clear hm0 hcat hmore
    go_wp2_with fail
    refine (HD5.out w7).mono ?_
    rintro e w8 ⟨M2, v2, _, ⟨av2, pv2, rfl, p1', p2', _, _, _, _⟩, rfl, hg8⟩
    obtain ⟨a2, ca2, rfl⟩ := p1'.slice
    obtain ⟨b2, cb2, rfl⟩ := p2'.slice
    clear p1' p2'
    unfold msgV
    obtain ⟨w9, hw9⟩ : ∃ w9, w9 = w8.alloc (.cells (mA (mC M2 (.slice a2 M2.na ca2) (.slice b2 M2.np cb2))) 45) := ⟨_, rfl⟩
    have hgg : w8.grownBy w9 none := by rw [hw9]; exact World.grownBy_alloc _ _ _
    unfold mA mC at hw9
    simp only [if_true, Nat.reduceEqDiff, if_false, Nat.reduceLT, Nat.reduceSub] at hw9
    have G9 := hide (grown_trans G7.out (grown_trans hg8 hgg))
    have HS9 := hide (HS7.out.grown (grown_trans hg8 hgg) (by simp))
    clear hg8 hgg G7 HS7
    go_upto_region 30 with fail
    rw [← hw9]
    clear hw9
    have s0 := HS9.out.cell 0 (by omega)
    simp only [mz, if_true] at s0
    go_wp2
    go_ret
    exact ⟨rfl, G9.out⟩
end Go.Proofs.Ytlhkfafdioakeaa
