/- Proved here: what Decode answers, the program's and the document's alike. -/
import Derived.Test.YtlhkfafdioakeaaRwO
import Derived.Test.YtlhkfafdioakeaaRwP
namespace Go.Proofs.Ytlhkfafdioakeaa
open Go.RowKit
set_option linter.unusedVariables false
set_option linter.unusedSimpArgs false
/-- The empty message. -/
def zeroM : Msg := ⟨0, 0, fun _ => 0, 0, fun _ _ => 0, 0, fun _ _ => 0⟩
/-- What Decode tells of these bytes. -/
def DecS (s : ByteArray) (M : Msg) (en : Int) : Prop :=
  ((s.size < 3 ∨ (s.size : Int) < 3 + lenS s) ∧ M = zeroM ∧ en = 10) ∨
  (3 ≤ s.size ∧ 3 + lenS s < (s.size : Int) ∧ M = zeroM ∧ en = 12) ∨
  (3 ≤ s.size ∧ 3 + lenS s = (s.size : Int) ∧ ¬ isOf (looseR (byt s 0) (s.extract 3 s.size)) s ∧ M = zeroM ∧ en = 11) ∨
  (3 ≤ s.size ∧ 3 + lenS s = (s.size : Int) ∧ isOf (looseR (byt s 0) (s.extract 3 s.size)) s ∧ Same M (looseR (byt s 0) (s.extract 3 s.size)) ∧ en = 0)
theorem Same.refl (a : Msg) : Same a a := ⟨rfl, rfl, fun _ _ => rfl, rfl, fun _ _ _ _ => rfl, rfl, fun _ _ _ _ => rfl⟩
theorem Same.trans {a b c : Msg} (h : Same a b) (g : Same b c) : Same a c := ⟨h.kind.trans g.kind, h.prio.trans g.prio, fun i hi => (h.mt i hi).trans (g.mt i hi), h.na.trans g.na, fun j hj i hi => (h.acts j (by rw [g.na]; exact hj) i hi).trans (g.acts j hj i hi), h.np.trans g.np, fun j hj i hi => (h.pks j (by rw [g.np]; exact hj) i hi).trans (g.pks j hj i hi)⟩
theorem DecS.one {s : ByteArray} {M N : Msg} {e f : Int} (h : DecS s M e) (g : DecS s N f) : e = f ∧ Same M N := by
  unfold DecS at h g
  rcases h with ⟨h1, rfl, rfl⟩ | ⟨h1, h2, rfl, rfl⟩ | ⟨h1, h2, h3, rfl, rfl⟩ | ⟨h1, h2, h3, h4, rfl⟩ <;>
    rcases g with ⟨g1, rfl, rfl⟩ | ⟨g1, g2, rfl, rfl⟩ | ⟨g1, g2, g3, rfl, rfl⟩ | ⟨g1, g2, g3, g4, rfl⟩
  all_goals first
    | exact ⟨rfl, Same.refl _⟩
    | exact ⟨rfl, h4.trans g4.symm⟩
    | (exfalso; omega)
    | exact absurd h3 g3
    | exact absurd g3 h3
/-- What Decode comes to. -/
def DecOut (s : ByteArray) (w : World) (e : Ending) (w' : World) : Prop :=
  ∃ M en a b ca cb, DecS s M en ∧ PkRow w' (.slice a M.na ca) M.na M.acts ∧ PkRow w' (.slice b M.np cb) M.np M.pks ∧ RowFrom w.heap.size (.slice a M.na ca) ∧ RowFrom w.heap.size (.slice b M.np cb) ∧ e = .returned (.tuple #[msgV M (.slice a M.na ca) (.slice b M.np cb), .int .i64 en]) ∧ w.grownBy w' none
theorem DecOut.zero {s : ByteArray} {w w' : World} {en : Int} (h : DecS s zeroM en) (hg : w.grownBy w' none) : DecOut s w (.returned (.tuple #[zeroA, .int .i64 en])) w' :=
  ⟨zeroM, en, none, none, 0, 0, h, PkRow.nil _ _, PkRow.nil _ _, RowFrom.nil _, RowFrom.nil _, rfl, hg⟩
theorem isOf_iff (M : Msg) (s : ByteArray) : (canS M ∧ strI (encB M) = .string s) ↔ isOf M s := by
  unfold isOf
  rw [strI_eq]
  exact ⟨fun h => ⟨h.1, by cases h.2; rfl⟩, fun h => ⟨h.1, by rw [h.2]⟩⟩
theorem DecOut.whole {s : ByteArray} {w w' : World} {e : Ending} {M : Msg} (h3 : 3 ≤ s.size) (hl : 3 + lenS s = (s.size : Int)) (hi : isOf M s ↔ isOf (looseR (byt s 0) (s.extract 3 s.size)) s) (hs : isOf M s → Same M (looseR (byt s 0) (s.extract 3 s.size))) (h : WholeQ M s w e w') : DecOut s w e w' := by
  obtain ⟨hg, ⟨hn, rfl⟩ | ⟨hy, v, ⟨av, pv, rfl, p1, p2, p3, p4, p5, p6⟩, rfl⟩⟩ := h
  · rw [isOf_iff, hi] at hn
    exact DecOut.zero (.inr (.inr (.inl ⟨h3, hl, hn, rfl, rfl⟩))) hg
  · rw [isOf_iff] at hy
    obtain ⟨a, ca, rfl⟩ := p1.slice
    obtain ⟨b, cb, rfl⟩ := p2.slice
    exact ⟨M, 0, a, b, ca, cb, .inr (.inr (.inr ⟨h3, hl, hi.1 hy, hs hy, rfl⟩)), p1, p2, p5, p6, rfl, hg⟩
theorem rDecode_out (s : ByteArray) (w : World) (hs2 : s.size ≤ 9223372036854775807) : Calls Try.prog 17 #[.string s] w (DecOut s w) := by
  by_cases h3 : s.size < 3
  · refine (rDecode_short s w h3).mono ?_
    rintro e w' ⟨rfl, hg⟩
    exact DecOut.zero (.inl ⟨.inl h3, rfl, rfl⟩) hg
  have h3' : 3 ≤ s.size := by omega
  rcases (show (s.size : Int) < 3 + lenS s ∨ 3 + lenS s < (s.size : Int) ∨ 3 + lenS s = (s.size : Int) by omega) with h | h | h
  · refine (rDecode_cut s w h3' hs2 h).mono ?_
    rintro e w' ⟨rfl, hg⟩
    exact DecOut.zero (.inl ⟨.inr h, rfl, rfl⟩) hg
  · refine (rDecode_more s w h3' hs2 h).mono ?_
    rintro e w' ⟨rfl, hg⟩
    exact DecOut.zero (.inr (.inl ⟨h3', h, rfl, rfl⟩)) hg
  · exact (rDecode_whole s w h3' hs2 h).mono (fun e w' hq => DecOut.whole h3' h Iff.rfl (fun _ => Same.refl _) hq)
theorem mDecode_out (s : ByteArray) (w : World) (hs2 : s.size ≤ 9223372036854775807) : Calls Try.prog 29 #[.string s] w (DecOut s w) := by
  by_cases h3 : s.size < 3
  · refine (decode_short s w h3).mono ?_
    rintro e w' ⟨rfl, hg⟩
    exact DecOut.zero (.inl ⟨.inl h3, rfl, rfl⟩) hg
  have h3' : 3 ≤ s.size := by omega
  rcases (show (s.size : Int) < 3 + lenS s ∨ 3 + lenS s < (s.size : Int) ∨ 3 + lenS s = (s.size : Int) by omega) with h | h | h
  · refine (decode_cut s w h3' hs2 h).mono ?_
    rintro e w' ⟨rfl, hg⟩
    exact DecOut.zero (.inl ⟨.inr h, rfl, rfl⟩) hg
  · refine (decode_more s w h3' hs2 h).mono ?_
    rintro e w' ⟨rfl, hg⟩
    exact DecOut.zero (.inr (.inl ⟨h3', h, rfl, rfl⟩)) hg
  · exact (decode_whole s w h3' hs2 h).mono (fun e w' hq => DecOut.whole h3' h (loose_iff s).symm (fun hi => loose_same s (.inr hi)) hq)
set_option maxRecDepth 100000 in
set_option maxHeartbeats 2000000 in
theorem wDecode_out (s : ByteArray) (w : World) (hs2 : s.size ≤ 9223372036854775807) : Calls Try.prog 15 #[.string s] w (DecOut s w) := by
  have H := hide (fun w => mDecode_out s w hs2)
  have HQ : Hid (∀ e w', DecOut s w e w' ↔ ∃ M en a b ca cb, DecS s M en ∧ PkRow w' (.slice a M.na ca) M.na M.acts ∧ PkRow w' (.slice b M.np cb) M.np M.pks ∧ RowFrom w.heap.size (.slice a M.na ca) ∧ RowFrom w.heap.size (.slice b M.np cb) ∧ e = .returned (.tuple #[msgV M (.slice a M.na ca) (.slice b M.np cb), .int .i64 en]) ∧ w.grownBy w' none) := fun _ _ => Iff.rfl
  generalize DecOut s w = Q at HQ ⊢
  clear hs2
  obtain ⟨wa, hwa⟩ : ∃ wa, wa = w.alloc (.cells (mA (mz 0)) 45) := ⟨_, rfl⟩
  have RA : mBlk wa w.heap.size (mz 0) := by rw [hwa]; exact mBlk.alloc _ _
  have GA : w.grownBy wa none := by rw [hwa]; exact World.grownBy_alloc _ _ _
  unfold mA mz at hwa
  simp only [if_true, Nat.reduceEqDiff, if_false, Nat.reduceLT] at hwa
  go_enter Try.func15, Try.ntmps15
  go_wp2_with fail
  rw [← hwa]
  clear hwa
  refine (H.out wa).mono ?_
  rintro e w1 ⟨m', en, a, b, ca, cb, hD, p1, p2, p5, p6, rfl, hg⟩
  have R1 := hide (RA.grown hg (by simp))
  have G1 := hide (grown_trans GA hg)
  have hwas : w.heap.size < wa.heap.size := (Array.getElem?_eq_some_iff.1 RA).1
  have HD := hide hD
  have P1 := hide p1
  have P2 := hide p2
  have P5 := hide p5
  have P6 := hide p6
  clear RA GA hg p1 p2 p5 p6 hD
  obtain ⟨d0, d1, d2, d3, d4, d5, d6, d7, d8, d9⟩ := R1.out.tenCells
  have f0 := R1.out.frozen
  simp only [mz, if_true, Nat.reduceEqDiff, if_false, Nat.reduceLT] at d0 d1 d2 d3 d4 d5 d6 d7 d8 d9
  unfold msgV
  go_wp2
  change bodyPost _ _ _ _ _ (put10 w1 w.heap.size (mC m' (.slice a m'.na ca) (.slice b m'.np cb)))
  have hp := put10_blk R1.out (mC m' (.slice a m'.na ca) (.slice b m'.np cb))
  obtain ⟨e0, e1, e2, e3, e4, e5, e6, e7, e8, e9⟩ := hp.tenCells
  simp only [mC, if_true, Nat.reduceEqDiff, if_false, Nat.reduceLT, Nat.reduceSub] at e0 e1 e2 e3 e4 e5 e6 e7 e8 e9
  refine bodyPost_ret (v := .tuple #[msgV m' (.slice a m'.na ca) (.slice b m'.np cb), .int .i64 en]) (by unfold msgV; simp [results, Try.results15, go_sem, e0, e1, e2, e3, e4, e5, e6, e7, e8, e9]) rfl ?_
  exact (HQ.out _ _).2 ⟨m', en, a, b, ca, cb, HD.out, P1.out.row (put10_grown _ _ _) P5.out hwas, P2.out.row (put10_grown _ _ _) P6.out hwas, P5.out.mono (Nat.le_of_lt hwas), P6.out.mono (Nat.le_of_lt hwas), rfl, grown_new G1.out (put10_grown _ _ _) (Nat.le_refl _)⟩
end Go.Proofs.Ytlhkfafdioakeaa
