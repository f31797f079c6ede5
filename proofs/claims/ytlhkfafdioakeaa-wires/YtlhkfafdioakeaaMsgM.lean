/- Proved here: what Decode answers. -/
import Derived.Test.YtlhkfafdioakeaaMsgL
import Derived.Deep.DeepCutAuto
import Derived.Deep.RegionWith
import Derived.Lib.Strings
namespace Go.Proofs.Ytlhkfafdioakeaa
open Go.RowKit
set_option linter.unusedVariables false
set_option linter.unusedSimpArgs false

theorem ne_toList {a b : ByteArray} (h : a ≠ b) : (a.toList == b.toList) = false := by
  cases hb : a.toList == b.toList with
  | false => rfl
  | true =>
    exfalso
    apply h
    have e := eq_of_beq hb
    rw [Lib.toList_data, Lib.toList_data] at e
    exact bytes_eq e
/-- The ten cells of a message. -/
def mC (m : Msg) (av pv : Value) : Nat → Value := fun i => if i = 0 then .int .i64 m.kind else if i = 1 then .int .i64 m.prio else if i < 8 then .int .i64 (m.mt (i - 2)) else if i = 8 then av else pv
theorem PkRow.row {w w' : World} {v : Value} {n : Nat} {ps : Nat → Nat → Int} {rb B : Nat} (h : PkRow w v n ps) (hg : w.grownBy w' (some rb)) (hf : RowFrom B v) (hB : rb < B) : PkRow w' v n ps := by
  rcases h with h | ⟨g, off, cap, h1, h2, h3⟩
  · exact .inl h
  · refine .inr ⟨g, off, cap, h1, h2, fun j hj i hi => hg.cell (h3 j hj i hi) ?_⟩
    have := hf _ _ _ _ h1
    simp
    omega
theorem RowFrom.mono {B B' : Nat} {v : Value} (h : RowFrom B v) (hB : B' ≤ B) : RowFrom B' v := fun g off n cap e => Nat.le_trans hB (h g off n cap e)
/-- What holds behind the reading of a message into a variable. -/
def CutR (M : Msg) (w : World) (s4 : Value) (wx : World) : Prop :=
  ∃ b av pv, s4 = .pointer (some ⟨b, 0, none⟩) ∧ w.heap.size < b ∧ mBlk wx b (mC M av pv) ∧ mBlk wx w.heap.size (mz 0) ∧ PkRow wx av M.na M.acts ∧ PkRow wx pv M.np M.pks ∧ RowIn wx.heap.size av ∧ RowIn wx.heap.size pv ∧ RowFrom (w.heap.size + 1) av ∧ RowFrom (w.heap.size + 1) pv ∧ w.grownBy wx none
/-- A message in a world, in memory that a call made. -/
def MsgFrom (B : Nat) (w : World) (m : Msg) (v : Value) : Prop := ∃ av pv, v = msgV m av pv ∧ PkRow w av m.na m.acts ∧ PkRow w pv m.np m.pks ∧ RowIn w.heap.size av ∧ RowIn w.heap.size pv ∧ RowFrom B av ∧ RowFrom B pv
def WholeQ (M : Msg) (s : ByteArray) (w : World) (e : Ending) (w' : World) : Prop :=
  w.grownBy w' none ∧ ((¬ (canS M ∧ strI (encB M) = .string s) ∧ e = .returned (.tuple #[zeroA, .int .i64 11])) ∨ ((canS M ∧ strI (encB M) = .string s) ∧ ∃ v, MsgFrom w.heap.size w' M v ∧ e = .returned (.tuple #[v, .int .i64 0])))
/-- What Decode comes to where the length is right. -/
def WholeOut (s : ByteArray) (w : World) : Ending → World → Prop := WholeQ (looseM (byt s 0) (s.extract 3 s.size)) s w
set_option maxRecDepth 100000 in
set_option maxHeartbeats 4000000 in
theorem decode_whole (s : ByteArray) (w : World) (hs : 3 ≤ s.size) (hs2 : s.size ≤ 9223372036854775807) (hl : 3 + lenS s = (s.size : Int)) :
    Calls Try.prog 29 #[.string s] w (WholeOut s w) := by
  have h1 : (3 : Int) ≤ s.size := by omega
  have h2 : (s.size : Int) ≤ 9223372036854775807 := by omega
  have H := hide (fun w => lens_any s w hs)
  obtain ⟨L, hL⟩ : ∃ L, L = lenS s := ⟨_, rfl⟩
  have hr := lenS_range s
  rw [← hL] at H hl hr
  obtain ⟨hr1, hr2⟩ := hr
  clear hL
  have HLO := hide (fun w => loose_any (byt s 0) (s.extract 3 s.size) w (by rw [ByteArray.size_extract]; omega))
  have h0 : 0 < s.size := by omega
  have hb0 := byt_lt s 0 h0
  unfold WholeOut
  obtain ⟨b0, hb⟩ : ∃ b0, b0 = byt s 0 := ⟨_, rfl⟩
  rw [← hb] at HLO hb0 ⊢
  have HB0 := hide hb0
  clear hb hb0
  obtain ⟨M, hM⟩ : ∃ M, M = looseM b0 (s.extract 3 s.size) := ⟨_, rfl⟩
  rw [← hM] at HLO ⊢
  clear hM
  have HQ : Hid (∀ e w', WholeQ M s w e w' ↔ (w.grownBy w' none ∧ ((¬ (canS M ∧ strI (encB M) = .string s) ∧ e = .returned (.tuple #[zeroA, .int .i64 11])) ∨ ((canS M ∧ strI (encB M) = .string s) ∧ ∃ v, MsgFrom w.heap.size w' M v ∧ e = .returned (.tuple #[v, .int .i64 0]))))) := fun _ _ => Iff.rfl
  generalize WholeQ M s w = Q at HQ ⊢
  have hlA : (s.size : Int) ≤ 3 + L := by omega
  have hlB : 3 + L ≤ (s.size : Int) := by omega
  clear hl
  obtain ⟨wa, hwa⟩ : ∃ wa, wa = w.alloc (.cells (mA (mz 0)) 45) := ⟨_, rfl⟩
  have RA : mBlk wa w.heap.size (mz 0) := by rw [hwa]; exact mBlk.alloc _ _
  have GA : w.grownBy wa none := by rw [hwa]; exact World.grownBy_alloc _ _ _
  unfold mA mz at hwa
  simp only [if_true, Nat.reduceEqDiff, if_false, Nat.reduceLT] at hwa
  go_enter Try.func29, Try.ntmps29
  go_wp2_with fail
  rw [← hwa]
  clear hwa
  refine (H.out wa).mono ?_
  rintro e w1 ⟨rfl, nq, hw1⟩
  have R1 : Hid (mBlk w1 w.heap.size (mz 0)) := by rw [hw1]; exact RA
  have G1 : Hid (w.grownBy w1 none) := by rw [hw1]; exact grown_drewN GA nq
  clear hw1 RA GA
  go_wp2_with fail
  refine (H.out w1).mono ?_
  rintro e w2 ⟨rfl, nq2, hw2⟩
  have R2 : Hid (mBlk w2 w.heap.size (mz 0)) := by rw [hw2]; exact R1.out
  have G2 : Hid (w.grownBy w2 none) := by rw [hw2]; exact grown_drewN G1.out nq2
  have hsz2 : w.heap.size < w2.heap.size := (Array.getElem?_eq_some_iff.1 R2.out).1
  clear hw2 R1 G1
  have HLO2 : Hid (∀ w, Calls Try.prog 43 #[.int .i64 (IntKind.i64.wrap ((s[0]'h0).toNat : Int)), .string (s.extract 3 s.size)] w fun e w' => ∃ av pv, e = .returned (msgV M av pv) ∧ PkRow w' av M.na M.acts ∧ PkRow w' pv M.np M.pks ∧ RowIn w'.heap.size av ∧ RowIn w'.heap.size pv ∧ RowFrom w.heap.size av ∧ RowFrom w.heap.size pv ∧ w.grownBy w' none) := by
    have e : IntKind.i64.wrap ((s[0]'h0).toNat : Int) = b0 := by
      rw [HB0.out]
      have := (s[0]'h0).toNat_lt
      simp [IntKind.wrap, IntKind.bits, IntKind.signed]
      split <;> omega
    rw [e]
    exact HLO.out
  have hszd : w.heap.size + 1 ≤ w2.drew.heap.size := hsz2
  have GD : Hid (w.grownBy w2.drew none) := grown_drew G2.out
  have RD : Hid (mBlk w2.drew w.heap.size (mz 0)) := R2.out
  have HZ : Hid (mBlk (w2.drew.alloc (.cells #[.int .i64 0, .int .i64 0, .int .i64 0, .int .i64 0, .int .i64 0, .int .i64 0, .int .i64 0, .int .i64 0, .slice none 0 0, .slice none 0 0] 45)) w2.heap.size (mz 0)) := mBlk.alloc w2.drew (mz 0)
  have GZ : Hid (w.grownBy (w2.drew.alloc (.cells #[.int .i64 0, .int .i64 0, .int .i64 0, .int .i64 0, .int .i64 0, .int .i64 0, .int .i64 0, .int .i64 0, .slice none 0 0, .slice none 0 0] 45)) none) := grown_trans GD.out (World.grownBy_alloc _ _ _)
  have RZ : Hid (mBlk (w2.drew.alloc (.cells #[.int .i64 0, .int .i64 0, .int .i64 0, .int .i64 0, .int .i64 0, .int .i64 0, .int .i64 0, .int .i64 0, .slice none 0 0, .slice none 0 0] 45)) w.heap.size (mz 0)) := RD.out.grown (World.grownBy_alloc _ _ none) (by simp)
  go_upto_region 5 with fail
  go_cut [4] (fun s4 wx => CutR M w s4 wx)
  case first =>
    go_region_with (go_at_call 43; refine (HLO2.out _).mono ?_; rintro e w3 ⟨av, pv, rfl, p1, p2, p3, p4, p5, p6, hg3⟩; have P1 := hide p1; have P2 := hide p2; have P3 := hide p3; have P4 := hide p4; have P5 := hide p5; have P6 := hide p6; have G3 := hide hg3; (try (have hz := HZ.out.grown hg3 (by simp); have fz := hz.frozen; have HH := hide hz; obtain ⟨z0, z1, z2, z3, z4, z5, z6, z7, z8, z9⟩ := hz.tenCells; simp only [mz, if_true, Nat.reduceEqDiff, if_false, Nat.reduceLT] at z0 z1 z2 z3 z4 z5 z6 z7 z8 z9; clear hz)); obtain ⟨aa, ca, hva⟩ := p1.slice; obtain ⟨ab, cb, hvb⟩ := p2.slice; subst hva; subst hvb; clear p1 p2 p3 p4 p5 p6 hg3; unfold msgV)
    · go_wp2_with fail
      go_meet
      refine ⟨_, _, _, rfl, ?_, mBlk.alloc w3 (mC M (.slice aa M.na ca) (.slice ab M.np cb)), (RD.out.grown G3.out (by simp)).grown (World.grownBy_alloc _ _ none) (by simp), P1.out.grown (World.grownBy_alloc _ _ _), P2.out.grown (World.grownBy_alloc _ _ _), P3.out.mono (World.grownBy_alloc _ _ none).size, P4.out.mono (World.grownBy_alloc _ _ none).size, P5.out.mono hszd, P6.out.mono hszd, grown_trans (grown_trans GD.out G3.out) (World.grownBy_alloc _ _ _)⟩
      have := G3.out.size
      have hd : w2.drew.heap.size = w2.heap.size := rfl
      omega
    all_goals
      go_wp2_with fail
      go_meet
      change CutR M w _ (put10 w3 w2.heap.size (mC M (.slice aa M.na ca) (.slice ab M.np cb)))
      have hza : w2.heap.size < (w2.drew.alloc (.cells #[.int .i64 0, .int .i64 0, .int .i64 0, .int .i64 0, .int .i64 0, .int .i64 0, .int .i64 0, .int .i64 0, .slice none 0 0, .slice none 0 0] 45)).heap.size := by simp
      exact ⟨_, _, _, rfl, hsz2, put10_blk HH.out _, (RZ.out.grown G3.out (by simp)).grown (put10_grown _ _ _) (by simp; omega), P1.out.row (put10_grown _ _ _) P5.out hza, P2.out.row (put10_grown _ _ _) P6.out hza, P3.out.mono (put10_grown _ _ _).size, P4.out.mono (put10_grown _ _ _).size, P5.out.mono (Nat.le_of_lt (Nat.lt_of_le_of_lt hsz2 hza)), P6.out.mono (Nat.le_of_lt (Nat.lt_of_le_of_lt hsz2 hza)), grown_new (grown_trans GZ.out G3.out) (put10_grown _ _ _) (Nat.le_of_lt hsz2)⟩
  case rest =>
    obtain ⟨b, av, pv, rfl, hbw, m1, m2, p1, p2, p3, p4, p5, p6, g4⟩ := hcut
    have F1 := hide p5
    have F2 := hide p6
    clear p5 p6
    obtain ⟨c0, c1, c2, c3, c4, c5, c6, c7, c8, c9⟩ := m1.tenCells
    simp only [mC, if_true, Nat.reduceEqDiff, if_false, Nat.reduceLT, Nat.reduceSub] at c0 c1 c2 c3 c4 c5 c6 c7 c8 c9
    have M1 := hide m1
    have M2 := hide m2
    have P1 := hide p1
    have P2 := hide p2
    have P3 := hide p3
    have P4 := hide p4
    have G4 := hide g4
    obtain ⟨aa, ca, hva⟩ := p1.slice
    obtain ⟨ab, cb, hvb⟩ := p2.slice
    subst hva
    subst hvb
    have HE := hide (encode_any M aa ab ca cb wc p1 p2 p3 p4)
    unfold msgV at HE
    clear m1 m2 p1 p2 p3 p4 g4
    have hEO : ∀ e w', EncOut M wc e w' ↔ (wc.grownBy w' none ∧ ((canS M ∧ e = .returned (.tuple #[strI (encB M), .int .i64 0])) ∨ (¬ canS M ∧ e = .returned (.tuple #[.string ByteArray.empty, .int .i64 9])))) := fun _ _ => Iff.rfl
    have HEO := hide hEO
    clear hEO
    generalize EncOut M wc = EO at *
    obtain ⟨SB, hSB⟩ : ∃ SB, strI (encB M) = .string SB := ⟨_, rfl⟩
    rw [hSB] at HEO HQ
    clear hSB
    have HBS : Hid ((Value.string SB = Value.string s) ↔ SB = s) := ⟨fun h => by cases h; rfl, fun h => by rw [h]⟩
    go_wp2_with fail
    refine HE.out.mono ?_
    rintro e w5 he
    obtain ⟨g5, he2⟩ := (HEO.out _ _).1 he
    have G5 := hide (grown_trans G4.out g5)
    have M15 := hide (M1.out.grown g5 (by simp))
    have M25 := hide (M2.out.grown g5 (by simp))
    have P15 := hide (P1.out.grown g5)
    have P25 := hide (P2.out.grown g5)
    have P35 := hide (P3.out.mono g5.size)
    have P45 := hide (P4.out.mono g5.size)
    clear g5 M1 M2 P1 P2 P3 P4 G4 c0 c1 c2 c3 c4 c5 c6 c7 c8 c9 he HE HEO HLO HLO2 HZ GZ RZ GD RD R2 G2 H
    obtain ⟨d0, d1, d2, d3, d4, d5, d6, d7, d8, d9⟩ := M25.out.tenCells
    have f0 := M25.out.frozen
    simp only [mz, if_true, Nat.reduceEqDiff, if_false, Nat.reduceLT] at d0 d1 d2 d3 d4 d5 d6 d7 d8 d9
    have hp := put10_blk M25.out (mz 0)
    obtain ⟨e0, e1, e2, e3, e4, e5, e6, e7, e8, e9⟩ := hp.tenCells
    simp only [mz, if_true, Nat.reduceEqDiff, if_false, Nat.reduceLT] at e0 e1 e2 e3 e4 e5 e6 e7 e8 e9
    have EE := hide (⟨e0, e1, e2, e3, e4, e5, e6, e7, e8, e9⟩ : _ ∧ _ ∧ _ ∧ _ ∧ _ ∧ _ ∧ _ ∧ _ ∧ _ ∧ _)
    clear e0 e1 e2 e3 e4 e5 e6 e7 e8 e9 hp
    rcases he2 with ⟨hc, rfl⟩ | ⟨hc, rfl⟩
    · have HC := hide hc
      clear hc
      by_cases hEq : SB = s
      · subst hEq
        obtain ⟨c0, c1, c2, c3, c4, c5, c6, c7, c8, c9⟩ := M15.out.tenCells
        simp only [mC, if_true, Nat.reduceEqDiff, if_false, Nat.reduceLT, Nat.reduceSub] at c0 c1 c2 c3 c4 c5 c6 c7 c8 c9
        clear EE
        go_wp2
        change bodyPost _ _ _ _ _ (put10 w5 w.heap.size (mC M (.slice aa M.na ca) (.slice ab M.np cb)))
        have hp := put10_blk M25.out (mC M (.slice aa M.na ca) (.slice ab M.np cb))
        obtain ⟨e0, e1, e2, e3, e4, e5, e6, e7, e8, e9⟩ := hp.tenCells
        simp only [mC, if_true, Nat.reduceEqDiff, if_false, Nat.reduceLT, Nat.reduceSub] at e0 e1 e2 e3 e4 e5 e6 e7 e8 e9
        refine bodyPost_ret (v := .tuple #[msgV M (.slice aa M.na ca) (.slice ab M.np cb), .int .i64 0]) (by unfold msgV; simp [results, Try.results29, go_sem, e0, e1, e2, e3, e4, e5, e6, e7, e8, e9]) rfl ?_
        have hsz6 := (put10_grown w5 w.heap.size (mC M (.slice aa M.na ca) (.slice ab M.np cb))).size
        exact (HQ.out _ _).2 ⟨grown_new G5.out (put10_grown _ _ _) (Nat.le_refl _), .inr ⟨⟨HC.out, (by first | trivial | rfl)⟩, _, ⟨_, _, rfl, P15.out.row (put10_grown _ _ _) F1.out (Nat.lt_succ_self _), P25.out.row (put10_grown _ _ _) F2.out (Nat.lt_succ_self _), P35.out.mono hsz6, P45.out.mono hsz6, F1.out.mono (Nat.le_succ _), F2.out.mono (Nat.le_succ _)⟩, rfl⟩⟩
      · have hne : (SB.toList == s.toList) = false := ne_toList hEq
        have HEQ := hide hEq
        clear hEq
        go_wp2
        change bodyPost _ _ _ _ _ (put10 w5 w.heap.size (mz 0))
        obtain ⟨e0, e1, e2, e3, e4, e5, e6, e7, e8, e9⟩ := EE.out
        refine bodyPost_ret (v := .tuple #[zeroA, .int .i64 11]) (by unfold zeroA; simp [results, Try.results29, go_sem, e0, e1, e2, e3, e4, e5, e6, e7, e8, e9]) rfl ?_
        exact (HQ.out _ _).2 ⟨grown_new G5.out (put10_grown _ _ _) (Nat.le_refl _), .inl ⟨fun h => HEQ.out (HBS.out.1 h.2), rfl⟩⟩
    · have HC := hide hc
      clear hc
      go_wp2
      change bodyPost _ _ _ _ _ (put10 w5 w.heap.size (mz 0))
      obtain ⟨e0, e1, e2, e3, e4, e5, e6, e7, e8, e9⟩ := EE.out
      refine bodyPost_ret (v := .tuple #[zeroA, .int .i64 11]) (by unfold zeroA; simp [results, Try.results29, go_sem, e0, e1, e2, e3, e4, e5, e6, e7, e8, e9]) rfl ?_
      exact (HQ.out _ _).2 ⟨grown_new G5.out (put10_grown _ _ _) (Nat.le_refl _), .inl ⟨fun h => HC.out h.1, rfl⟩⟩
end Go.Proofs.Ytlhkfafdioakeaa
