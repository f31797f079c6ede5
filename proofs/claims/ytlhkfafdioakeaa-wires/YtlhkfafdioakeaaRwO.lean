/- Proved here: what the document's Decode answers where a rule is read. -/
import Derived.Test.YtlhkfafdioakeaaRwN
import Derived.Deep.CutBlock
import Derived.Deep.RegionHeld3
namespace Go.Proofs.Ytlhkfafdioakeaa
open Go.RowKit
set_option linter.unusedVariables false
set_option linter.unusedSimpArgs false
theorem i64_wrap (x : Int) (h1 : -9223372036854775808 ≤ x) (h2 : x ≤ 9223372036854775807) : IntKind.i64.wrap x = x := by
  simp [IntKind.wrap, IntKind.bits, IntKind.signed]
  split <;> omega
theorem rprio_i64 (a b : UInt8) : IntKind.i64.wrap (IntKind.i64.wrap (IntKind.i64.wrap (a.toNat : Int) * 256) + IntKind.i64.wrap (b.toNat : Int)) = (a.toNat : Int) * 256 + (b.toNat : Int) := by
  have ha := a.toNat_lt
  have hb := b.toNat_lt
  rw [i64_wrap (a.toNat : Int) (by omega) (by omega), i64_wrap (b.toNat : Int) (by omega) (by omega), i64_wrap ((a.toNat : Int) * 256) (by omega) (by omega), i64_wrap _ (by omega) (by omega)]
set_option maxRecDepth 100000 in
set_option maxHeartbeats 4000000 in
theorem rDecode_rule (s : ByteArray) (w : World) (hyA : byt s 0 = 1 ∧ 13 ≤ s.size) (hs : 3 ≤ s.size) (hs2 : s.size ≤ 9223372036854775807) (hl : 3 + lenS s = (s.size : Int)) :
    Calls Try.prog 17 #[.string s] w (WholeQ (looseR (byt s 0) (s.extract 3 s.size)) s w) := by
  have h1 : (3 : Int) ≤ s.size := by omega
  have h2 : (s.size : Int) ≤ 9223372036854775807 := by omega
  have i0 : 0 < s.size := by omega
  have i1 : 1 < s.size := by omega
  have i2 : 2 < s.size := by omega
  have j0 : (0 : Int) < s.size := by omega
  have j1 : (1 : Int) < s.size := by omega
  have j2 : (2 : Int) < s.size := by omega
  have HN : Hid (3 + (byt s 1 * 256 + byt s 2) = (s.size : Int)) := hl
  have hr := lenS_range s
  have hs7 : s.size ≤ 70000 := by omega
  clear hl hr
  have hKw := rk_val s 0 i0
  obtain ⟨K, hK⟩ : ∃ K, K = byt s 0 := ⟨_, rfl⟩
  rw [← hK] at hKw ⊢
  obtain ⟨t, ht⟩ : ∃ t, t = s.extract 3 s.size := ⟨_, rfl⟩
  have htz : t.size = s.size - 3 := by rw [ht, ByteArray.size_extract]; omega
  obtain ⟨M, hM⟩ : ∃ M, M = looseR K t := ⟨_, rfl⟩
  rw [show looseR K (s.extract 3 s.size) = M by rw [hM, ht]]
  have HM := hide hM
  have HYA : Hid (K = 1 ∧ 10 ≤ t.size) := ⟨by rw [hK]; exact hyA.1, by omega⟩
  clear hyA
  clear hM
  have HQ : Hid (∀ e w', WholeQ M s w e w' ↔ (w.grownBy w' none ∧ ((¬ (canS M ∧ strI (encB M) = .string s) ∧ e = .returned (.tuple #[zeroA, .int .i64 11])) ∨ ((canS M ∧ strI (encB M) = .string s) ∧ ∃ v, MsgFrom w.heap.size w' M v ∧ e = .returned (.tuple #[v, .int .i64 0]))))) := fun _ _ => Iff.rfl
  generalize WholeQ M s w = Q at HQ ⊢
  clear hK
  obtain ⟨wa, hwa⟩ : ∃ wa, wa = w.alloc (.cells (mA (mz 0)) 45) := ⟨_, rfl⟩
  have RA : mBlk wa w.heap.size (mz 0) := by rw [hwa]; exact mBlk.alloc _ _
  have GA : w.grownBy wa none := by rw [hwa]; exact World.grownBy_alloc _ _ _
  have hza : wa.heap.size = w.heap.size + 1 := by rw [hwa]; simp
  unfold mA mz at hwa
  simp only [if_true, Nat.reduceEqDiff, if_false, Nat.reduceLT] at hwa
  go_enter Try.func17, Try.ntmps17
  go_upto_region 3 with fail
  rw [← hwa]
  clear hwa
  go_cut [4] (fun v4 wx => v4 = .int .i64 (s.size : Int) ∧ ∃ n, wx = wa.drewN n)
  case first =>
    go_quiet (fail)
    go_wp2
    go_meet
    refine ⟨?_, _, rfl⟩
    refine congrArg (Value.int .i64) ((rlen_val _ _).trans ?_)
    have := HN.out
    rw [byt_lt s 1 i1, byt_lt s 2 i2] at this
    exact this
  case rest =>
    obtain ⟨rfl, nq, hwc⟩ := hcut
    have RC : mBlk wc w.heap.size (mz 0) := by rw [hwc]; exact RA
    have GC : w.grownBy wc none := by rw [hwc]; exact grown_drewN GA nq
    have hzc : wc.heap.size = w.heap.size + 1 := by rw [hwc]; exact hza
    clear hwc RA GA hza
    obtain ⟨w0, hw0⟩ : ∃ w0, w0 = wc.alloc (.cells (mA (mz K)) 45) := ⟨_, rfl⟩
    have R0 : Hid (mBlk w0 w.heap.size (mz 0)) := by rw [hw0]; exact RC.grown (World.grownBy_alloc _ _ none) (by simp)
    have V0 : Hid (mBlk w0 (w.heap.size + 1) (mz K)) := by rw [hw0, ← hzc]; exact mBlk.alloc _ _
    have G0 : Hid (w.grownBy w0 none) := by rw [hw0]; exact grown_trans GC (World.grownBy_alloc _ _ _)
    have hz0 : w0.heap.size = w.heap.size + 2 := by rw [hw0]; simp [hzc]
    unfold mA mz at hw0
    simp only [if_true, Nat.reduceEqDiff, if_false, Nat.reduceLT] at hw0
    clear RC GC
    go_upto_block 1 with fail
    try rw [hKw]
    rw [← hw0, ← ht]
    clear hw0
    have HT := hide ht
    clear ht hKw hzc
    have htz7 : t.size ≤ 70000 := by omega
    have HTZ := hide htz
    clear htz
    have hk0 := V0.out.cell 0 (by omega)
    have hf0 := V0.out.frozen
    simp only [mz, if_true] at hk0
    go_cut [5] (fun v5 wx => CutR M w v5 wx)
    case first =>
      · have hA : K = 1 ∧ 10 ≤ t.size := HYA.out
        clear HYA
        obtain ⟨rfl, ht10⟩ := hA
        have hM : M = ⟨1, byt t 0 * 256 + byt t 1, fun i => rg (byt t (2 + i)), (t.size - 10) / 6, fun j i => rg (byt t (10 + 6 * j + i)), 0, fun _ _ => 0⟩ := by rw [HM.out]; unfold looseR; rw [if_pos ⟨rfl, ht10⟩]
        have hex : (t.extract 10 t.size).size = t.size - 10 := by rw [ByteArray.size_extract]; omega
        have hSH := rpk_shift t 10 ((t.size - 10) / 6) ht10 rfl
        have h10I : (10 : Int) ≤ t.size := by omega
        have h7I : (t.size : Int) ≤ 70000 := by omega
        have h8I : (8 : Int) ≤ t.size := by omega
        have h8N : 8 ≤ t.size := by omega
        have q0 : 0 < t.size := by omega
        have q1 : 1 < t.size := by omega
        have q0I : (0 : Int) < t.size := by omega
        have q1I : (1 : Int) < t.size := by omega
        have HPR : Hid (IntKind.i64.wrap (IntKind.i64.wrap (IntKind.i64.wrap ((t[0]'q0).toNat : Int) * 256) + IntKind.i64.wrap ((t[1]'q1).toNat : Int)) = byt t 0 * 256 + byt t 1) := by rw [byt_lt t 0 q0, byt_lt t 1 q1]; exact rprio_i64 _ _
        have hS : ∀ wx, w0.grownBy wx none → Calls Try.prog 35 #[.string (t.extract 10 t.size)] wx fun e w' => ∃ a c, e = .returned (.slice a ((t.size - 10) / 6) c) ∧ PkRow w' (.slice a ((t.size - 10) / 6) c) ((t.size - 10) / 6) (fun j i => rg (byt t (10 + 6 * j + i))) ∧ RowIn w'.heap.size (.slice a ((t.size - 10) / 6) c) ∧ RowFrom (w.heap.size + 2) (.slice a ((t.size - 10) / 6) c) ∧ w0.grownBy w' none := by
          intro wx hg
          refine (rPackets_any (t.extract 10 t.size) wx (by omega)).mono ?_
          rintro e w' ⟨v, rfl, hP, hg2⟩
          rw [hex] at hP
          obtain ⟨a, c, rfl⟩ := hP.slice
          exact ⟨a, c, rfl, (hP.row (by omega)).cong hSH, hP.rowIn, hP.from (by have := hg.size; omega), grown_trans hg hg2⟩
        obtain ⟨N, hN⟩ : ∃ N, N = (t.size - 10) / 6 := ⟨_, rfl⟩
        rw [← hN] at hS hM
        obtain ⟨ps, hps⟩ : ∃ ps : Nat → Nat → Int, ps = fun j i => rg (byt t (10 + 6 * j + i)) := ⟨_, rfl⟩
        rw [← hps] at hS hM
        obtain ⟨k, hk⟩ : ∃ k : Nat → Int, k = fun i => rg (byt t (2 + i)) := ⟨_, rfl⟩
        rw [← hk] at hM
        have hpk : pkV (fun i => rg (byt (t.extract 2 8) i)) = pkV k := by
          have hk6 : ∀ i, i < 6 → rg (byt (t.extract 2 8) i) = k i := fun i hi => by rw [hk, byt_extract t 2 8 i (by omega) (by omega)]
          unfold pkV pkA
          simp only []
          rw [hk6 0 (by omega), hk6 1 (by omega), hk6 2 (by omega), hk6 3 (by omega), hk6 4 (by omega), hk6 5 (by omega)]
        have hO : ∀ wx, w0.grownBy wx none → Calls Try.prog 34 #[.string (t.extract 2 8)] wx fun e w' => e = .returned (pkV k) ∧ wx.grownBy w' none ∧ w0.grownBy w' none := by
          intro wx hg
          refine (rPacket_any (t.extract 2 8) wx (by rw [ByteArray.size_extract]; omega)).mono ?_
          rintro e w' ⟨rfl, hg2⟩
          exact ⟨by rw [hpk], hg2, grown_trans hg hg2⟩
        unfold pkV pkA at hO
        have HS := hide hS
        have HO := hide hO
        have HMM := hide hM
        clear hS hO hM hex hSH hN hps hk hpk
        have HG0 : Hid (w0.grownBy w0.drew none) := grown_drew (World.grownBy.refl w0 none)
        go_upto_region 11 with fail
        go_region_held3 (fun _ => True) (trivial) (first | (go_at_call 34; refine (HO.out _ ?_).mono ?_; (first | exact hg9 | exact HG0.out); rintro e w9 ⟨rfl, hgb, hg9⟩; (try (have PA := hide (PA.out.grown hgb); have PB := hide (PB.out.mono hgb.size))); have hz := V0.out.grown hg9 (by simp); have fz := hz.frozen; have HV := hide hz; obtain ⟨z0, z1, z2, z3, z4, z5, z6, z7, z8, z9⟩ := hz.tenCells; simp only [mz, if_true, Nat.reduceEqDiff, if_false, Nat.reduceLT] at z0 z1 z2 z3 z4 z5 z6 z7 z8 z9; clear hz hgb) | (go_at_call 35; refine (HS.out _ ?_).mono ?_; (first | exact hg9 | exact HG0.out); rintro e w9 ⟨va, vc, rfl, pa, pb, pc, hg9⟩; have PA := hide pa; have PB := hide pb; have PC := hide pc; have hz := V0.out.grown hg9 (by simp); have fz := hz.frozen; have HV := hide hz; obtain ⟨z0, z1, z2, z3, z4, z5, z6, z7, z8, z9⟩ := hz.tenCells; simp only [mz, if_true, Nat.reduceEqDiff, if_false, Nat.reduceLT] at z0 z1 z2 z3 z4 z5 z6 z7 z8 z9; clear hz pa pb pc))
        all_goals
          go_wp2_with fail
          go_meet
          change CutR M w _ (put8 w9 (w.heap.size + 1) _ k (.slice va N vc))
          rw [HPR.out]
          rw [HMM.out]
          exact ⟨_, .slice va N vc, .slice none 0 0, rfl, by omega, put8_blk HV.out _ _ _, (R0.out.grown hg9 (by simp)).grown (put8_grown _ _ _ _ _) (by simp), PA.out.row (put8_grown _ _ _ _ _) PC.out (by omega), PkRow.nil _ _, PB.out.mono (put8_grown _ _ _ _ _).size, RowIn.nil _, PC.out.mono (by omega), RowFrom.nil _, grown_new (grown_trans G0.out hg9) (put8_grown _ _ _ _ _) (by omega)⟩
    case rest =>
      obtain ⟨b, av, pv, rfl, hbw, m1, m2, p1, p2, p3, p4, p5, p6, g4⟩ := hcut
      have F1 := hide p5
      have F2 := hide p6
      clear p5 p6
      obtain ⟨c0, c1, c2, c3, c4, c5, c6, c7, c8, c9⟩ := m1.tenCells
      simp only [mC, if_true, Nat.reduceEqDiff, if_false, Nat.reduceLT, Nat.reduceSub] at c0 c1 c2 c3 c4 c5 c6 c7 c8 c9
      have M1 := hide m1
      have M2 := hide m2
      have P1 := hide p1
      have P2 := hide p2
      have P3 := hide p3
      have P4 := hide p4
      have G4 := hide g4
      obtain ⟨aa, ca, hva⟩ := p1.slice
      obtain ⟨ab, cb, hvb⟩ := p2.slice
      subst hva
      subst hvb
      have HE := hide (rEncode_any M aa ab ca cb wc p1 p2)
      unfold msgV at HE
      clear m1 m2 p1 p2 p3 p4 g4
      have hEO : ∀ e w', EncOut M wc e w' ↔ (wc.grownBy w' none ∧ ((canS M ∧ e = .returned (.tuple #[strI (encB M), .int .i64 0])) ∨ (¬ canS M ∧ e = .returned (.tuple #[.string ByteArray.empty, .int .i64 9])))) := fun _ _ => Iff.rfl
      have HEO := hide hEO
      clear hEO
      generalize EncOut M wc = EO at *
      obtain ⟨SB, hSB⟩ : ∃ SB, strI (encB M) = .string SB := ⟨_, rfl⟩
      rw [hSB] at HEO HQ
      clear hSB
      have HBS : Hid ((Value.string SB = Value.string s) ↔ SB = s) := ⟨fun h => by cases h; rfl, fun h => by rw [h]⟩
      go_wp2_with fail
      refine HE.out.mono ?_
      rintro e w5 he
      obtain ⟨g5, he2⟩ := (HEO.out _ _).1 he
      have G5 := hide (grown_trans G4.out g5)
      have M15 := hide (M1.out.grown g5 (by simp))
      have M25 := hide (M2.out.grown g5 (by simp))
      have P15 := hide (P1.out.grown g5)
      have P25 := hide (P2.out.grown g5)
      have P35 := hide (P3.out.mono g5.size)
      have P45 := hide (P4.out.mono g5.size)
      clear g5 M1 M2 P1 P2 P3 P4 G4 c0 c1 c2 c3 c4 c5 c6 c7 c8 c9 he HE HEO
      obtain ⟨d0, d1, d2, d3, d4, d5, d6, d7, d8, d9⟩ := M25.out.tenCells
      have f0 := M25.out.frozen
      simp only [mz, if_true, Nat.reduceEqDiff, if_false, Nat.reduceLT] at d0 d1 d2 d3 d4 d5 d6 d7 d8 d9
      have hp := put10_blk M25.out (mz 0)
      obtain ⟨e0, e1, e2, e3, e4, e5, e6, e7, e8, e9⟩ := hp.tenCells
      simp only [mz, if_true, Nat.reduceEqDiff, if_false, Nat.reduceLT] at e0 e1 e2 e3 e4 e5 e6 e7 e8 e9
      have EE := hide (⟨e0, e1, e2, e3, e4, e5, e6, e7, e8, e9⟩ : _ ∧ _ ∧ _ ∧ _ ∧ _ ∧ _ ∧ _ ∧ _ ∧ _ ∧ _)
      clear e0 e1 e2 e3 e4 e5 e6 e7 e8 e9 hp
      rcases he2 with ⟨hc, rfl⟩ | ⟨hc, rfl⟩
      · have HC := hide hc
        clear hc
        by_cases hEq : SB = s
        · subst hEq
          obtain ⟨c0, c1, c2, c3, c4, c5, c6, c7, c8, c9⟩ := M15.out.tenCells
          simp only [mC, if_true, Nat.reduceEqDiff, if_false, Nat.reduceLT, Nat.reduceSub] at c0 c1 c2 c3 c4 c5 c6 c7 c8 c9
          clear EE
          go_wp2
          change bodyPost _ _ _ _ _ (put10 w5 w.heap.size (mC M (.slice aa M.na ca) (.slice ab M.np cb)))
          have hp := put10_blk M25.out (mC M (.slice aa M.na ca) (.slice ab M.np cb))
          obtain ⟨e0, e1, e2, e3, e4, e5, e6, e7, e8, e9⟩ := hp.tenCells
          simp only [mC, if_true, Nat.reduceEqDiff, if_false, Nat.reduceLT, Nat.reduceSub] at e0 e1 e2 e3 e4 e5 e6 e7 e8 e9
          refine bodyPost_ret (v := .tuple #[msgV M (.slice aa M.na ca) (.slice ab M.np cb), .int .i64 0]) (by unfold msgV; simp [results, Try.results17, go_sem, e0, e1, e2, e3, e4, e5, e6, e7, e8, e9]) rfl ?_
          have hsz6 := (put10_grown w5 w.heap.size (mC M (.slice aa M.na ca) (.slice ab M.np cb))).size
          exact (HQ.out _ _).2 ⟨grown_new G5.out (put10_grown _ _ _) (Nat.le_refl _), .inr ⟨⟨HC.out, (by first | trivial | rfl)⟩, _, ⟨_, _, rfl, P15.out.row (put10_grown _ _ _) F1.out (Nat.lt_succ_self _), P25.out.row (put10_grown _ _ _) F2.out (Nat.lt_succ_self _), P35.out.mono hsz6, P45.out.mono hsz6, F1.out.mono (Nat.le_succ _), F2.out.mono (Nat.le_succ _)⟩, rfl⟩⟩
        · have hne : (SB.toList == s.toList) = false := ne_toList hEq
          have HEQ := hide hEq
          clear hEq
          go_wp2
          change bodyPost _ _ _ _ _ (put10 w5 w.heap.size (mz 0))
          obtain ⟨e0, e1, e2, e3, e4, e5, e6, e7, e8, e9⟩ := EE.out
          refine bodyPost_ret (v := .tuple #[zeroA, .int .i64 11]) (by unfold zeroA; simp [results, Try.results17, go_sem, e0, e1, e2, e3, e4, e5, e6, e7, e8, e9]) rfl ?_
          exact (HQ.out _ _).2 ⟨grown_new G5.out (put10_grown _ _ _) (Nat.le_refl _), .inl ⟨fun h => HEQ.out (HBS.out.1 h.2), rfl⟩⟩
      · have HC := hide hc
        clear hc
        go_wp2
        change bodyPost _ _ _ _ _ (put10 w5 w.heap.size (mz 0))
        obtain ⟨e0, e1, e2, e3, e4, e5, e6, e7, e8, e9⟩ := EE.out
        refine bodyPost_ret (v := .tuple #[zeroA, .int .i64 11]) (by unfold zeroA; simp [results, Try.results17, go_sem, e0, e1, e2, e3, e4, e5, e6, e7, e8, e9]) rfl ?_
        exact (HQ.out _ _).2 ⟨grown_new G5.out (put10_grown _ _ _) (Nat.le_refl _), .inl ⟨fun h => HC.out h.1, rfl⟩⟩
theorem rDecode_whole (s : ByteArray) (w : World) (hs : 3 ≤ s.size) (hs2 : s.size ≤ 9223372036854775807) (hl : 3 + lenS s = (s.size : Int)) :
    Calls Try.prog 17 #[.string s] w (WholeQ (looseR (byt s 0) (s.extract 3 s.size)) s w) := by
  by_cases h : byt s 0 = 1 ∧ 13 ≤ s.size
  · exact rDecode_rule s w h hs hs2 hl
  · exact rDecode_other s w h hs hs2 hl
end Go.Proofs.Ytlhkfafdioakeaa
