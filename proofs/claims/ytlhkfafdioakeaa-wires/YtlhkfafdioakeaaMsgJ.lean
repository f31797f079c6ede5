/- Proved here: which rule may be written with some bytes. -/
import Derived.Test.YtlhkfafdioakeaaMsgI
namespace Go.Proofs.Ytlhkfafdioakeaa
open Go.RowKit
set_option linter.unusedVariables false
set_option linter.unusedSimpArgs false
/-- Six cells of a message are laid. -/
def put6m (w : World) (b : Nat) (k : Nat → Int) : World :=
  (((((w.setCell ⟨b, 2, none⟩ (.int .i64 (k 0))).setCell ⟨b, 3, none⟩ (.int .i64 (k 1))).setCell ⟨b, 4, none⟩ (.int .i64 (k 2))).setCell ⟨b, 5, none⟩ (.int .i64 (k 3))).setCell ⟨b, 6, none⟩ (.int .i64 (k 4))).setCell ⟨b, 7, none⟩ (.int .i64 (k 5))
def addM (p : Int) (k : Nat → Int) : Nat → Value := fun i => if i = 0 then .int .i64 1 else if i = 1 then .int .i64 p else if i < 8 then .int .i64 (k (i - 2)) else .slice none 0 0
theorem put6m_blk {w : World} {b : Nat} {p : Int} (h : mBlk w b (upd (mz 1) 1 (.int .i64 p))) (k : Nat → Int) : mBlk (put6m w b k) b (addM p k) := by
  unfold put6m
  unfold mBlk at h
  unfold mBlk
  rw [heap_set (heap_set (heap_set (heap_set (heap_set (heap_set h 2 _) 3 _) 4 _) 5 _) 6 _) 7 _]
  simp [mA, upd, mz, addM]
theorem put6m_grown (w : World) (b : Nat) (k : Nat → Int) : w.grownBy (put6m w b k) (some b) :=
  grown_trans (grown_trans (grown_trans (grown_trans (grown_trans (grown_set _ _ _ _) (grown_set _ _ _ _)) (grown_set _ _ _ _)) (grown_set _ _ _ _)) (grown_set _ _ _ _)) (grown_set _ _ _ _)
set_option maxRecDepth 100000 in
set_option maxHeartbeats 8000000 in
theorem loose1_any (s : ByteArray) (w : World) (hs : s.size ≤ 1000000) (h10 : 10 ≤ s.size) :
    Calls Try.prog 43 #[.int .i64 1, .string s] w fun e w' => ∃ v, e = .returned (.agg (mA (upd (addM (byt s 0 * 256 + byt s 1) (fun i => sg (byt s (2 + i)))) 8 v))) ∧ PkRow w' v ((s.size - 10) / 6) (fun j i => sg (byt s (10 + 6 * j + i))) ∧ RowIn w'.heap.size v ∧ RowFrom w.heap.size v ∧ w.grownBy w' none := by
  have h1 : (10 : Int) ≤ s.size := by omega
  have hs2 : (s.size : Int) ≤ 1000000 := by omega
  obtain ⟨w0, hw0⟩ : ∃ w0, w0 = (w.alloc (.cells (mA (mz 0)) 45)).alloc (.cells (mA (mz 1)) 45) := ⟨_, rfl⟩
  have T0 := hide (twoBlks w (mz 1) hw0)
  unfold mA mz at hw0
  simp only [if_true, Nat.reduceEqDiff, if_false, Nat.reduceLT] at hw0
  have hex : (s.extract 10 s.size).size = s.size - 10 := by rw [ByteArray.size_extract]; omega
  have hsev := fun w0 => several_any (s.extract 10 s.size) w0 (by omega)
  rw [hex] at hsev
  have HS := hide hsev
  clear hsev hex
  have HO := hide (fun w0 => one_any (s.extract 2 8) w0 (by rw [ByteArray.size_extract]; omega))
  have HTW := hide (two_any s w0 (by omega))
  obtain ⟨N, hN⟩ : ∃ N, N = (s.size - 10) / 6 := ⟨_, rfl⟩
  have HSH := hide (pkv_shift s 10 N (by omega) hN)
  rw [← hN] at HS ⊢
  have hNs : N ≤ 1000000 := by omega
  clear hN
  obtain ⟨p, hp⟩ : ∃ p, p = byt s 0 * 256 + byt s 1 := ⟨_, rfl⟩
  rw [← hp] at HTW ⊢
  clear hp
  have hk6 : ∀ i, i < 6 → sg (byt (s.extract 2 8) i) = sg (byt s (2 + i)) := fun i hi => by rw [byt_extract s 2 8 i (by omega) (by omega)]
  obtain ⟨k, hk⟩ : ∃ k : Nat → Int, k = fun i => sg (byt s (2 + i)) := ⟨_, rfl⟩
  rw [show (fun i => sg (byt s (2 + i))) = k from hk.symm]
  have hpk : pkV (fun i => sg (byt (s.extract 2 8) i)) = pkV k := by
    unfold pkV pkA
    simp only []
    rw [hk6 0 (by omega), hk6 1 (by omega), hk6 2 (by omega), hk6 3 (by omega), hk6 4 (by omega), hk6 5 (by omega), hk]
  rw [hpk] at HO
  clear hk hpk hk6
  unfold pkV pkA at HO
  go_enter Try.func43, Try.ntmps43
  go_wp2_with fail
  rw [← hw0]
  clear hw0
  refine HTW.out.mono ?_
  rintro e w1 ⟨rfl, nq, hw1⟩
  obtain ⟨t1, t2, t3, t4⟩ := T0.out
  have t5 : mBlk w1 (w.heap.size + 1) (mz 1) := by rw [hw1]; exact t2
  have G1 : Hid (w.grownBy w1 none) := by rw [hw1]; exact grown_drewN t3 nq
  have R1 : Hid (mBlk w1 w.heap.size (mz 0)) := by rw [hw1]; exact t1
  have hz1 : w1.heap.size = w.heap.size + 2 := by rw [hw1]; exact t4
  clear hw1 t1 t2 t3 t4 T0
  have c1 := t5.cell 1 (by omega)
  have f1 := t5.frozen 1
  simp only [mz, if_true, Nat.reduceEqDiff, if_false, Nat.reduceLT] at c1
  have V2 := hide (t5.set 1 (by omega) (.int .i64 p))
  clear t5
  go_wp2_with fail
  clear c1 f1
  obtain ⟨w2, hw2⟩ : ∃ w2, w2 = w1.setCell ⟨w.heap.size + 1, 1, none⟩ (.int .i64 p) := ⟨_, rfl⟩
  have G2 : Hid (w.grownBy w2 none) := by rw [hw2]; exact grown_new G1.out (grown_set _ _ _ _) (by omega)
  have R2 : Hid (mBlk w2 w.heap.size (mz 0)) := by rw [hw2]; exact R1.out.grown (grown_set _ _ _ _) (by simp)
  have hz2 : w1.heap.size ≤ w2.heap.size := by rw [hw2]; exact (grown_set _ _ _ _).size
  rw [← hw2] at V2 ⊢
  clear hw2 G1 R1
  refine (HO.out w2).mono ?_
  rintro e w3 ⟨rfl, hg3⟩
  have G3 := hide (grown_trans G2.out hg3)
  have R3 := hide (R2.out.grown hg3 (by simp))
  have V3 := V2.out.grown hg3 (by simp)
  have hz3 := hg3.size
  clear hg3 G2 R2 V2
  obtain ⟨c0, c1, c2, c3, c4, c5, c6, c7, c8, c9⟩ := V3.tenCells
  have f1 := V3.frozen
  simp only [upd, mz, if_true, Nat.reduceEqDiff, if_false, Nat.reduceLT] at c0 c1 c2 c3 c4 c5 c6 c7 c8 c9
  have V4 := hide (put6m_blk V3 k)
  clear V3
  go_wp2_with fail
  change Calls _ _ _ (put6m w3 (w.heap.size + 1) k) _
  clear c0 c1 c2 c3 c4 c5 c6 c7 c8 c9 f1
  obtain ⟨w4, hw4⟩ : ∃ w4, w4 = put6m w3 (w.heap.size + 1) k := ⟨_, rfl⟩
  have G4 : Hid (w.grownBy w4 none) := by rw [hw4]; exact grown_new G3.out (put6m_grown _ _ _) (by omega)
  have R4 : Hid (mBlk w4 w.heap.size (mz 0)) := by rw [hw4]; exact R3.out.grown (put6m_grown _ _ _) (by simp)
  have hz4 : w3.heap.size ≤ w4.heap.size := by rw [hw4]; exact (put6m_grown _ _ _).size
  rw [← hw4] at V4 ⊢
  clear hw4 G3 R3
  refine (HS.out w4).mono ?_
  rintro e w5 ⟨v, rfl, hP, hg5⟩
  have G5 := hide (grown_trans G4.out hg5)
  have R5 := hide (R4.out.grown hg5 (by simp))
  have V5 := V4.out.grown hg5 (by simp)
  have HP := hide hP
  clear hP hg5 G4 R4 V4
  obtain ⟨va, vc, rfl⟩ := HP.out.slice
  have f9 := V5.frozen 8
  obtain ⟨c0, c1, c2, c3, c4, c5, c6, c7, c8, c9⟩ := V5.tenCells
  obtain ⟨d0, d1, d2, d3, d4, d5, d6, d7, d8, d9⟩ := R5.out.tenCells
  have f0 := R5.out.frozen
  simp only [addM, mz, if_true, Nat.reduceEqDiff, if_false, Nat.reduceLT, Nat.reduceSub] at c0 c1 c2 c3 c4 c5 c6 c7 c8 c9 d0 d1 d2 d3 d4 d5 d6 d7 d8 d9
  clear V5
  go_wp2
  change bodyPost _ _ _ _ _ (put10 (w5.setCell ⟨w.heap.size + 1, 8, none⟩ (.slice va N vc)) w.heap.size (upd (addM p k) 8 (.slice va N vc)))
  have hp := put10_blk (R5.out.grown (grown_set w5 (w.heap.size + 1) 8 (.slice va N vc)) (by simp)) (upd (addM p k) 8 (.slice va N vc))
  obtain ⟨e0, e1, e2, e3, e4, e5, e6, e7, e8, e9⟩ := hp.tenCells
  refine bodyPost_ret (v := .agg (mA (upd (addM p k) 8 (.slice va N vc)))) (by simp [results, Try.results43, go_sem, e0, e1, e2, e3, e4, e5, e6, e7, e8, e9, mA]) rfl ?_
  obtain ⟨q1, q2, q4, q3⟩ := loose_end G5.out HP.out (by omega) (by omega) 8 (.slice va N vc) (upd (addM p k) 8 (.slice va N vc))
  exact ⟨_, rfl, q1.cong HSH.out, q2, q4, q3⟩
end Go.Proofs.Ytlhkfafdioakeaa
