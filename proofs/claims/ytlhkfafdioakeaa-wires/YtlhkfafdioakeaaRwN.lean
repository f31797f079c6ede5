/- Proved here: what the document's Decode answers. -/
import Derived.Test.YtlhkfafdioakeaaRwM
import Derived.Test.YtlhkfafdioakeaaRwJ
import Derived.Deep.CutBlock
import Derived.Deep.RegionHeld
namespace Go.Proofs.Ytlhkfafdioakeaa
open Go.RowKit
set_option linter.unusedVariables false
set_option linter.unusedSimpArgs false
theorem rlen_val (a b : UInt8) : wrap64 (wrap64 (3 + wrap64 (wrap64 (a.toNat : Int) * 256)) + wrap64 (b.toNat : Int)) = 3 + ((a.toNat : Int) * 256 + (b.toNat : Int)) := by
  have ha := a.toNat_lt
  have hb := b.toNat_lt
  unfold wrap64
  omega
theorem rprio_val (a b : UInt8) : wrap64 (wrap64 (wrap64 (a.toNat : Int) * 256) + wrap64 (b.toNat : Int)) = (a.toNat : Int) * 256 + (b.toNat : Int) := by
  have ha := a.toNat_lt
  have hb := b.toNat_lt
  unfold wrap64
  omega
theorem rk_val (s : ByteArray) (i : Nat) (h : i < s.size) : wrap64 ((s[i]'h).toNat : Int) = byt s i := by
  have ha := (s[i]'h).toNat_lt
  rw [byt_lt s i h]
  unfold wrap64
  omega
/-- Eight cells of a message are laid. -/
def put8 (w : World) (b : Nat) (p : Int) (k : Nat → Int) (v : Value) : World :=
  (((((((w.setCell ⟨b, 1, none⟩ (.int .i64 p)).setCell ⟨b, 2, none⟩ (.int .i64 (k 0))).setCell ⟨b, 3, none⟩ (.int .i64 (k 1))).setCell ⟨b, 4, none⟩ (.int .i64 (k 2))).setCell ⟨b, 5, none⟩ (.int .i64 (k 3))).setCell ⟨b, 6, none⟩ (.int .i64 (k 4))).setCell ⟨b, 7, none⟩ (.int .i64 (k 5))).setCell ⟨b, 8, none⟩ v
theorem put8_blk {w : World} {b : Nat} (h : mBlk w b (mz 1)) (p : Int) (k : Nat → Int) (v : Value) : mBlk (put8 w b p k v) b (upd (addM p k) 8 v) := by
  unfold put8
  unfold mBlk at h
  unfold mBlk
  rw [heap_set (heap_set (heap_set (heap_set (heap_set (heap_set (heap_set (heap_set h 1 _) 2 _) 3 _) 4 _) 5 _) 6 _) 7 _) 8 _]
  simp [mA, upd, mz, addM]
theorem put8_grown (w : World) (b : Nat) (p : Int) (k : Nat → Int) (v : Value) : w.grownBy (put8 w b p k v) (some b) :=
  grown_trans (grown_trans (grown_trans (grown_trans (grown_trans (grown_trans (grown_trans (grown_set _ _ _ _) (grown_set _ _ _ _)) (grown_set _ _ _ _)) (grown_set _ _ _ _)) (grown_set _ _ _ _)) (grown_set _ _ _ _)) (grown_set _ _ _ _)) (grown_set _ _ _ _)
theorem rpk_shift (s : ByteArray) (a n : Nat) (ha : a ≤ s.size) (hn : n = (s.size - a) / 6) : ∀ j, j < n → ∀ i, i < 6 → pkR (s.extract a s.size) j i = rg (byt s (a + 6 * j + i)) := by
  intro j hj i hi
  unfold pkR
  rw [byt_extract s a s.size (6 * j + i) (by omega) (Nat.le_refl _), ← Nat.add_assoc]
set_option maxRecDepth 100000 in
set_option maxHeartbeats 4000000 in
theorem rDecode_other (s : ByteArray) (w : World) (hnA : ¬ (byt s 0 = 1 ∧ 13 ≤ s.size)) (hs : 3 ≤ s.size) (hs2 : s.size ≤ 9223372036854775807) (hl : 3 + lenS s = (s.size : Int)) :
    Calls Try.prog 17 #[.string s] w (WholeQ (looseR (byt s 0) (s.extract 3 s.size)) s w) := by
  have h1 : (3 : Int) ≤ s.size := by omega
  have h2 : (s.size : Int) ≤ 9223372036854775807 := by omega
  have i0 : 0 < s.size := by omega
  have i1 : 1 < s.size := by omega
  have i2 : 2 < s.size := by omega
  have j0 : (0 : Int) < s.size := by omega
  have j1 : (1 : Int) < s.size := by omega
  have j2 : (2 : Int) < s.size := by omega
  have HN : Hid (3 + (byt s 1 * 256 + byt s 2) = (s.size : Int)) := hl
  have hr := lenS_range s
  have hs7 : s.size ≤ 70000 := by omega
  clear hl hr
  have hKw := rk_val s 0 i0
  obtain ⟨K, hK⟩ : ∃ K, K = byt s 0 := ⟨_, rfl⟩
  rw [← hK] at hKw ⊢
  obtain ⟨t, ht⟩ : ∃ t, t = s.extract 3 s.size := ⟨_, rfl⟩
  have htz : t.size = s.size - 3 := by rw [ht, ByteArray.size_extract]; omega
  obtain ⟨M, hM⟩ : ∃ M, M = looseR K t := ⟨_, rfl⟩
  rw [show looseR K (s.extract 3 s.size) = M by rw [hM, ht]]
  have HM := hide hM
  have HNA : Hid (¬ (K = 1 ∧ 10 ≤ t.size)) := fun h => hnA ⟨by rw [← hK]; exact h.1, by omega⟩
  clear hnA
  clear hM
  have HQ : Hid (∀ e w', WholeQ M s w e w' ↔ (w.grownBy w' none ∧ ((¬ (canS M ∧ strI (encB M) = .string s) ∧ e = .returned (.tuple #[zeroA, .int .i64 11])) ∨ ((canS M ∧ strI (encB M) = .string s) ∧ ∃ v, MsgFrom w.heap.size w' M v ∧ e = .returned (.tuple #[v, .int .i64 0]))))) := fun _ _ => Iff.rfl
  generalize WholeQ M s w = Q at HQ ⊢
  clear hK
  obtain ⟨wa, hwa⟩ : ∃ wa, wa = w.alloc (.cells (mA (mz 0)) 45) := ⟨_, rfl⟩
  have RA : mBlk wa w.heap.size (mz 0) := by rw [hwa]; exact mBlk.alloc _ _
  have GA : w.grownBy wa none := by rw [hwa]; exact World.grownBy_alloc _ _ _
  have hza : wa.heap.size = w.heap.size + 1 := by rw [hwa]; simp
  unfold mA mz at hwa
  simp only [if_true, Nat.reduceEqDiff, if_false, Nat.reduceLT] at hwa
  go_enter Try.func17, Try.ntmps17
  go_upto_region 3 with fail
  rw [← hwa]
  clear hwa
  go_cut [4] (fun v4 wx => v4 = .int .i64 (s.size : Int) ∧ ∃ n, wx = wa.drewN n)
  case first =>
    go_quiet (fail)
    go_wp2
    go_meet
    refine ⟨?_, _, rfl⟩
    refine congrArg (Value.int .i64) ((rlen_val _ _).trans ?_)
    have := HN.out
    rw [byt_lt s 1 i1, byt_lt s 2 i2] at this
    exact this
  case rest =>
    obtain ⟨rfl, nq, hwc⟩ := hcut
    have RC : mBlk wc w.heap.size (mz 0) := by rw [hwc]; exact RA
    have GC : w.grownBy wc none := by rw [hwc]; exact grown_drewN GA nq
    have hzc : wc.heap.size = w.heap.size + 1 := by rw [hwc]; exact hza
    clear hwc RA GA hza
    obtain ⟨w0, hw0⟩ : ∃ w0, w0 = wc.alloc (.cells (mA (mz K)) 45) := ⟨_, rfl⟩
    have R0 : Hid (mBlk w0 w.heap.size (mz 0)) := by rw [hw0]; exact RC.grown (World.grownBy_alloc _ _ none) (by simp)
    have V0 : Hid (mBlk w0 (w.heap.size + 1) (mz K)) := by rw [hw0, ← hzc]; exact mBlk.alloc _ _
    have G0 : Hid (w.grownBy w0 none) := by rw [hw0]; exact grown_trans GC (World.grownBy_alloc _ _ _)
    have hz0 : w0.heap.size = w.heap.size + 2 := by rw [hw0]; simp [hzc]
    unfold mA mz at hw0
    simp only [if_true, Nat.reduceEqDiff, if_false, Nat.reduceLT] at hw0
    clear RC GC
    go_upto_block 1 with fail
    try rw [hKw]
    rw [← hw0, ← ht]
    clear hw0
    have HT := hide ht
    clear ht hKw hzc
    have htz7 : t.size ≤ 70000 := by omega
    have HTZ := hide htz
    clear htz
    have hk0 := V0.out.cell 0 (by omega)
    have hf0 := V0.out.frozen
    simp only [mz, if_true] at hk0
    go_cut [5] (fun v5 wx => CutR M w v5 wx)
    case first =>
      have hA : ¬ (K = 1 ∧ 10 ≤ t.size) := HNA.out
      by_cases hB : K = 5 ∧ 2 ≤ t.size
      · obtain ⟨rfl, ht2⟩ := hB
        have hM : M = ⟨5, 0, fun _ => 0, 0, fun _ _ => 0, (t.size - 2) / 6, fun j i => rg (byt t (2 + 6 * j + i))⟩ := by rw [HM.out]; unfold looseR; rw [if_neg (by omega), if_pos ⟨rfl, ht2⟩]
        have hex : (t.extract 2 t.size).size = t.size - 2 := by rw [ByteArray.size_extract]; omega
        have hS := rPackets_any (t.extract 2 t.size) w0 (by omega)
        rw [hex] at hS
        have HS := hide hS
        have HSH := hide (rpk_shift t 2 ((t.size - 2) / 6) ht2 rfl)
        clear hA hS hex
        have h2I : (2 : Int) ≤ t.size := by omega
        have h7I : (t.size : Int) ≤ 70000 := by omega
        obtain ⟨N, hN⟩ : ∃ N, N = (t.size - 2) / 6 := ⟨_, rfl⟩
        rw [← hN] at HS HSH hM
        have hNs : N ≤ 70000 := by omega
        have HMM := hide hM
        clear hN hM
        go_wp2_with fail
        refine HS.out.mono ?_
        rintro e w3 ⟨v, rfl, hP, hg3⟩
        have V3 := V0.out.grown hg3 (by simp)
        have c9 := V3.cell 9 (by omega)
        have f9 := V3.frozen 9
        simp only [mz, if_true, Nat.reduceEqDiff, if_false, Nat.reduceLT] at c9
        have HV3 := hide V3
        have HP := hide hP
        have G3 := hide hg3
        clear V3 hP hg3
        obtain ⟨va, vc, rfl⟩ := HP.out.slice
        go_wp2_with fail
        go_meet
        have hP2 := HP.out.keep (grown_set w3 (w.heap.size + 1) 9 (.slice va N vc)) (by omega)
        rw [HMM.out]
        exact ⟨_, .slice none 0 0, .slice va N vc, rfl, by omega, HV3.out.set 9 (by omega) (.slice va N vc), ((R0.out.grown G3.out (by simp)).grown (grown_set _ _ _ _) (by simp)), PkRow.nil _ _, (hP2.row (by omega)).cong HSH.out, RowIn.nil _, hP2.rowIn, RowFrom.nil _, hP2.from (by omega), grown_new (grown_trans G0.out G3.out) (grown_set _ _ _ _) (by omega)⟩
      by_cases hC : K = 4
      · subst hC
        have hM : M = ⟨4, 0, fun _ => 0, 0, fun _ _ => 0, t.size / 6, pkR t⟩ := by rw [HM.out]; unfold looseR; rw [if_neg (by omega), if_neg (by omega), if_pos rfl]
        have HS := hide (rPackets_any t w0 (by omega))
        clear hA hB
        obtain ⟨N, hN⟩ : ∃ N, N = t.size / 6 := ⟨_, rfl⟩
        rw [← hN] at HS hM
        have hNs : N ≤ 70000 := by omega
        have HMM := hide hM
        clear hN hM
        go_wp2_with fail
        refine HS.out.mono ?_
        rintro e w3 ⟨v, rfl, hP, hg3⟩
        have V3 := V0.out.grown hg3 (by simp)
        have c9 := V3.cell 9 (by omega)
        have f9 := V3.frozen 9
        simp only [mz, if_true, Nat.reduceEqDiff, if_false, Nat.reduceLT] at c9
        have HV3 := hide V3
        have HP := hide hP
        have G3 := hide hg3
        clear V3 hP hg3
        obtain ⟨va, vc, rfl⟩ := HP.out.slice
        go_wp2_with fail
        go_meet
        have hP2 := HP.out.keep (grown_set w3 (w.heap.size + 1) 9 (.slice va N vc)) (by omega)
        rw [HMM.out]
        exact ⟨_, .slice none 0 0, .slice va N vc, rfl, by omega, HV3.out.set 9 (by omega) (.slice va N vc), ((R0.out.grown G3.out (by simp)).grown (grown_set _ _ _ _) (by simp)), PkRow.nil _ _, hP2.row (by omega), RowIn.nil _, hP2.rowIn, RowFrom.nil _, hP2.from (by omega), grown_new (grown_trans G0.out G3.out) (grown_set _ _ _ _) (by omega)⟩
      have hM : M = ⟨K, 0, fun _ => 0, 0, fun _ _ => 0, 0, fun _ _ => 0⟩ := by rw [HM.out]; unfold looseR; rw [if_neg hA, if_neg hB, if_neg hC]
      have HMM := hide hM
      clear hM
      have hend : Hid (CutR M w (.pointer (some ⟨w.heap.size + 1, 0, none⟩)) w0) := by
        rw [HMM.out]
        exact ⟨_, .slice none 0 0, .slice none 0 0, rfl, by omega, V0.out, R0.out, PkRow.nil _ _, PkRow.nil _ _, RowIn.nil _, RowIn.nil _, RowFrom.nil _, RowFrom.nil _, G0.out⟩
      by_cases k1 : K = 1
      · have hlt : ¬ 10 ≤ t.size := fun h => hA ⟨k1, h⟩
        have hltI : (t.size : Int) < 10 := by omega
        subst k1
        clear hA hB hC
        go_wp2_with fail
        go_meet
        exact hend.out
      · by_cases k5 : K = 5
        · have hlt : ¬ 2 ≤ t.size := fun h => hB ⟨k5, h⟩
          have hltI : (t.size : Int) < 2 := by omega
          subst k5
          clear hA hB hC
          go_wp2_with fail
          go_meet
          exact hend.out
        · clear hA hB
          go_wp2_with fail
          go_meet
          exact hend.out
    case rest =>
      obtain ⟨b, av, pv, rfl, hbw, m1, m2, p1, p2, p3, p4, p5, p6, g4⟩ := hcut
      have F1 := hide p5
      have F2 := hide p6
      clear p5 p6
      obtain ⟨c0, c1, c2, c3, c4, c5, c6, c7, c8, c9⟩ := m1.tenCells
      simp only [mC, if_true, Nat.reduceEqDiff, if_false, Nat.reduceLT, Nat.reduceSub] at c0 c1 c2 c3 c4 c5 c6 c7 c8 c9
      have M1 := hide m1
      have M2 := hide m2
      have P1 := hide p1
      have P2 := hide p2
      have P3 := hide p3
      have P4 := hide p4
      have G4 := hide g4
      obtain ⟨aa, ca, hva⟩ := p1.slice
      obtain ⟨ab, cb, hvb⟩ := p2.slice
      subst hva
      subst hvb
      have HE := hide (rEncode_any M aa ab ca cb wc p1 p2)
      unfold msgV at HE
      clear m1 m2 p1 p2 p3 p4 g4
      have hEO : ∀ e w', EncOut M wc e w' ↔ (wc.grownBy w' none ∧ ((canS M ∧ e = .returned (.tuple #[strI (encB M), .int .i64 0])) ∨ (¬ canS M ∧ e = .returned (.tuple #[.string ByteArray.empty, .int .i64 9])))) := fun _ _ => Iff.rfl
      have HEO := hide hEO
      clear hEO
      generalize EncOut M wc = EO at *
      obtain ⟨SB, hSB⟩ : ∃ SB, strI (encB M) = .string SB := ⟨_, rfl⟩
      rw [hSB] at HEO HQ
      clear hSB
      have HBS : Hid ((Value.string SB = Value.string s) ↔ SB = s) := ⟨fun h => by cases h; rfl, fun h => by rw [h]⟩
      go_wp2_with fail
      refine HE.out.mono ?_
      rintro e w5 he
      obtain ⟨g5, he2⟩ := (HEO.out _ _).1 he
      have G5 := hide (grown_trans G4.out g5)
      have M15 := hide (M1.out.grown g5 (by simp))
      have M25 := hide (M2.out.grown g5 (by simp))
      have P15 := hide (P1.out.grown g5)
      have P25 := hide (P2.out.grown g5)
      have P35 := hide (P3.out.mono g5.size)
      have P45 := hide (P4.out.mono g5.size)
      clear g5 M1 M2 P1 P2 P3 P4 G4 c0 c1 c2 c3 c4 c5 c6 c7 c8 c9 he HE HEO
      obtain ⟨d0, d1, d2, d3, d4, d5, d6, d7, d8, d9⟩ := M25.out.tenCells
      have f0 := M25.out.frozen
      simp only [mz, if_true, Nat.reduceEqDiff, if_false, Nat.reduceLT] at d0 d1 d2 d3 d4 d5 d6 d7 d8 d9
      have hp := put10_blk M25.out (mz 0)
      obtain ⟨e0, e1, e2, e3, e4, e5, e6, e7, e8, e9⟩ := hp.tenCells
      simp only [mz, if_true, Nat.reduceEqDiff, if_false, Nat.reduceLT] at e0 e1 e2 e3 e4 e5 e6 e7 e8 e9
      have EE := hide (⟨e0, e1, e2, e3, e4, e5, e6, e7, e8, e9⟩ : _ ∧ _ ∧ _ ∧ _ ∧ _ ∧ _ ∧ _ ∧ _ ∧ _ ∧ _)
      clear e0 e1 e2 e3 e4 e5 e6 e7 e8 e9 hp
      rcases he2 with ⟨hc, rfl⟩ | ⟨hc, rfl⟩
      · have HC := hide hc
        clear hc
        by_cases hEq : SB = s
        · subst hEq
          obtain ⟨c0, c1, c2, c3, c4, c5, c6, c7, c8, c9⟩ := M15.out.tenCells
          simp only [mC, if_true, Nat.reduceEqDiff, if_false, Nat.reduceLT, Nat.reduceSub] at c0 c1 c2 c3 c4 c5 c6 c7 c8 c9
          clear EE
          go_wp2
          change bodyPost _ _ _ _ _ (put10 w5 w.heap.size (mC M (.slice aa M.na ca) (.slice ab M.np cb)))
          have hp := put10_blk M25.out (mC M (.slice aa M.na ca) (.slice ab M.np cb))
          obtain ⟨e0, e1, e2, e3, e4, e5, e6, e7, e8, e9⟩ := hp.tenCells
          simp only [mC, if_true, Nat.reduceEqDiff, if_false, Nat.reduceLT, Nat.reduceSub] at e0 e1 e2 e3 e4 e5 e6 e7 e8 e9
          refine bodyPost_ret (v := .tuple #[msgV M (.slice aa M.na ca) (.slice ab M.np cb), .int .i64 0]) (by unfold msgV; simp [results, Try.results17, go_sem, e0, e1, e2, e3, e4, e5, e6, e7, e8, e9]) rfl ?_
          have hsz6 := (put10_grown w5 w.heap.size (mC M (.slice aa M.na ca) (.slice ab M.np cb))).size
          exact (HQ.out _ _).2 ⟨grown_new G5.out (put10_grown _ _ _) (Nat.le_refl _), .inr ⟨⟨HC.out, (by first | trivial | rfl)⟩, _, ⟨_, _, rfl, P15.out.row (put10_grown _ _ _) F1.out (Nat.lt_succ_self _), P25.out.row (put10_grown _ _ _) F2.out (Nat.lt_succ_self _), P35.out.mono hsz6, P45.out.mono hsz6, F1.out.mono (Nat.le_succ _), F2.out.mono (Nat.le_succ _)⟩, rfl⟩⟩
        · have hne : (SB.toList == s.toList) = false := ne_toList hEq
          have HEQ := hide hEq
          clear hEq
          go_wp2
          change bodyPost _ _ _ _ _ (put10 w5 w.heap.size (mz 0))
          obtain ⟨e0, e1, e2, e3, e4, e5, e6, e7, e8, e9⟩ := EE.out
          refine bodyPost_ret (v := .tuple #[zeroA, .int .i64 11]) (by unfold zeroA; simp [results, Try.results17, go_sem, e0, e1, e2, e3, e4, e5, e6, e7, e8, e9]) rfl ?_
          exact (HQ.out _ _).2 ⟨grown_new G5.out (put10_grown _ _ _) (Nat.le_refl _), .inl ⟨fun h => HEQ.out (HBS.out.1 h.2), rfl⟩⟩
      · have HC := hide hc
        clear hc
        go_wp2
        change bodyPost _ _ _ _ _ (put10 w5 w.heap.size (mz 0))
        obtain ⟨e0, e1, e2, e3, e4, e5, e6, e7, e8, e9⟩ := EE.out
        refine bodyPost_ret (v := .tuple #[zeroA, .int .i64 11]) (by unfold zeroA; simp [results, Try.results17, go_sem, e0, e1, e2, e3, e4, e5, e6, e7, e8, e9]) rfl ?_
        exact (HQ.out _ _).2 ⟨grown_new G5.out (put10_grown _ _ _) (Nat.le_refl _), .inl ⟨fun h => HC.out h.1, rfl⟩⟩
end Go.Proofs.Ytlhkfafdioakeaa
