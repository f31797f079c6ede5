/- Proved here: which message may be written with some bytes. -/
import Derived.Test.YtlhkfafdioakeaaMsgH
namespace Go.Proofs.Ytlhkfafdioakeaa
open Go.RowKit
set_option linter.unusedVariables false
set_option linter.unusedSimpArgs false
def mA (c : Nat → Value) : Array Value := #[c 0, c 1, c 2, c 3, c 4, c 5, c 6, c 7, c 8, c 9]
/-- A block that holds a message, cell by cell. -/
def mBlk (w : World) (b : Nat) (c : Nat → Value) : Prop := w.heap[b]? = some (.cells (mA c) 45 (0, 0))
def upd (c : Nat → Value) (i : Nat) (x : Value) : Nat → Value := fun j => if j = i then x else c j
theorem ten {p : Nat → Prop} (h0 : p 0) (h1 : p 1) (h2 : p 2) (h3 : p 3) (h4 : p 4) (h5 : p 5) (h6 : p 6) (h7 : p 7) (h8 : p 8) (h9 : p 9) (i : Nat) (hi : i < 10) : p i := by
  rcases (show i = 0 ∨ i = 1 ∨ i = 2 ∨ i = 3 ∨ i = 4 ∨ i = 5 ∨ i = 6 ∨ i = 7 ∨ i = 8 ∨ i = 9 by omega) with rfl | rfl | rfl | rfl | rfl | rfl | rfl | rfl | rfl | rfl <;> assumption
theorem mA_get (c : Nat → Value) (i : Nat) (h : i < 10) : (mA c)[i]? = some (c i) :=
  ten (p := fun i => (mA c)[i]? = some (c i)) rfl rfl rfl rfl rfl rfl rfl rfl rfl rfl i h
theorem mBlk.cell {w : World} {b : Nat} {c : Nat → Value} (h : mBlk w b c) (i : Nat) (hi : i < 10) : w.cell? ⟨b, i, none⟩ = some (c i) := by
  unfold mBlk at h
  have := mA_get c i hi
  simp only [World.cell?, h]
  simpa using this
theorem mBlk.frozen {w : World} {b : Nat} {c : Nat → Value} (h : mBlk w b c) (i : Nat) : w.frozen? ⟨b, i, none⟩ = false := by
  unfold mBlk at h
  simp [World.frozen?, h]
theorem mBlk.grown {w w' : World} {b : Nat} {c : Nat → Value} {row : Option Nat} (h : mBlk w b c) (hg : w.grownBy w' row) (hr : row ≠ some b) : mBlk w' b c := by
  unfold mBlk at *
  rw [hg.block b (Array.getElem?_eq_some_iff.1 h).1 hr.symm, h]
theorem mBlk.alloc (w : World) (c : Nat → Value) : mBlk (w.alloc (.cells (mA c) 45)) w.heap.size c := heap_alloc_new w _
theorem mBlk.set {w : World} {b : Nat} {c : Nat → Value} (h : mBlk w b c) (i : Nat) (hi : i < 10) (x : Value) : mBlk (w.setCell ⟨b, i, none⟩ x) b (upd c i x) := by
  unfold mBlk at *
  rw [heap_set h]
  congr 2
  exact ten (p := fun i => (mA c).setIfInBounds i x = mA (upd c i x)) (by simp [mA, upd]) (by simp [mA, upd]) (by simp [mA, upd]) (by simp [mA, upd]) (by simp [mA, upd]) (by simp [mA, upd]) (by simp [mA, upd]) (by simp [mA, upd]) (by simp [mA, upd]) (by simp [mA, upd]) i hi
theorem mBlk.drewN {w : World} {b : Nat} {c : Nat → Value} (h : mBlk w b c) (n : Nat) : mBlk (w.drewN n) b c := h
def mz (k : Int) : Nat → Value := fun i => if i = 0 then .int .i64 k else if i < 8 then .int .i64 0 else .slice none 0 0
/-- The ten cells of a message are laid into a block. -/
def put10 (w : World) (b : Nat) (c : Nat → Value) : World :=
  (((((((((w.setCell ⟨b, 0, none⟩ (c 0)).setCell ⟨b, 1, none⟩ (c 1)).setCell ⟨b, 2, none⟩ (c 2)).setCell ⟨b, 3, none⟩ (c 3)).setCell ⟨b, 4, none⟩ (c 4)).setCell ⟨b, 5, none⟩ (c 5)).setCell ⟨b, 6, none⟩ (c 6)).setCell ⟨b, 7, none⟩ (c 7)).setCell ⟨b, 8, none⟩ (c 8)).setCell ⟨b, 9, none⟩ (c 9)
theorem put10_blk {w : World} {b : Nat} {c0 : Nat → Value} (h : mBlk w b c0) (c : Nat → Value) : mBlk (put10 w b c) b c := by
  unfold put10
  unfold mBlk at h
  unfold mBlk
  rw [heap_set (heap_set (heap_set (heap_set (heap_set (heap_set (heap_set (heap_set (heap_set (heap_set h 0 _) 1 _) 2 _) 3 _) 4 _) 5 _) 6 _) 7 _) 8 _) 9 _]
  simp [mA]
theorem put10_grown (w : World) (b : Nat) (c : Nat → Value) : w.grownBy (put10 w b c) (some b) :=
  grown_trans (grown_trans (grown_trans (grown_trans (grown_trans (grown_trans (grown_trans (grown_trans (grown_trans (grown_set _ _ _ _) (grown_set _ _ _ _)) (grown_set _ _ _ _)) (grown_set _ _ _ _)) (grown_set _ _ _ _)) (grown_set _ _ _ _)) (grown_set _ _ _ _)) (grown_set _ _ _ _)) (grown_set _ _ _ _)) (grown_set _ _ _ _)
theorem mBlk.tenCells {w : World} {b : Nat} {c : Nat → Value} (h : mBlk w b c) : w.cell? ⟨b, 0, none⟩ = some (c 0) ∧ w.cell? ⟨b, 1, none⟩ = some (c 1) ∧ w.cell? ⟨b, 2, none⟩ = some (c 2) ∧ w.cell? ⟨b, 3, none⟩ = some (c 3) ∧ w.cell? ⟨b, 4, none⟩ = some (c 4) ∧ w.cell? ⟨b, 5, none⟩ = some (c 5) ∧ w.cell? ⟨b, 6, none⟩ = some (c 6) ∧ w.cell? ⟨b, 7, none⟩ = some (c 7) ∧ w.cell? ⟨b, 8, none⟩ = some (c 8) ∧ w.cell? ⟨b, 9, none⟩ = some (c 9) :=
  ⟨h.cell 0 (by omega), h.cell 1 (by omega), h.cell 2 (by omega), h.cell 3 (by omega), h.cell 4 (by omega), h.cell 5 (by omega), h.cell 6 (by omega), h.cell 7 (by omega), h.cell 8 (by omega), h.cell 9 (by omega)⟩

set_option maxRecDepth 100000 in
set_option maxHeartbeats 2000000 in
theorem loose0_any (k : Int) (s : ByteArray) (w : World) (hs : s.size ≤ 1000000) (h1 : ¬ (k = 1 ∧ 10 ≤ s.size)) (h5 : ¬ (k = 5 ∧ 2 ≤ s.size)) (h4 : k ≠ 4) :
    Calls Try.prog 43 #[.int .i64 k, .string s] w fun e w' => e = .returned (.agg (mA (mz k))) ∧ w.grownBy w' none := by
  have hs2 : (s.size : Int) ≤ 1000000 := by omega
  unfold mA mz
  simp only [if_true, Nat.reduceEqDiff, if_false, Nat.reduceLT]
  by_cases k1 : k = 1
  · have hlt : ¬ 10 ≤ s.size := fun h => h1 ⟨k1, h⟩
    subst k1
    clear h1 h5 h4
    go_enter Try.func43, Try.ntmps43
    go_wp2
    refine bodyPost_ret (by simp [results, Try.results43, go_sem]; try rfl) rfl ?_
    exact ⟨rfl, grown_trans (World.grownBy_alloc _ _ _) (World.grownBy_alloc _ _ _)⟩
  · by_cases k5 : k = 5
    · have hlt : ¬ 2 ≤ s.size := fun h => h5 ⟨k5, h⟩
      subst k5
      clear h1 h5 h4
      go_enter Try.func43, Try.ntmps43
      go_wp2
      refine bodyPost_ret (by simp [results, Try.results43, go_sem]; try rfl) rfl ?_
      exact ⟨rfl, grown_trans (World.grownBy_alloc _ _ _) (World.grownBy_alloc _ _ _)⟩
    · clear h1 h5
      go_enter Try.func43, Try.ntmps43
      go_wp2
      refine bodyPost_ret (by simp [results, Try.results43, go_sem]; try rfl) rfl ?_
      exact ⟨rfl, grown_trans (World.grownBy_alloc _ _ _) (World.grownBy_alloc _ _ _)⟩
theorem PRow.slice {base : Nat} {w : World} {v : Value} {n : Nat} {ps : Nat → Nat → Int} (h : PRow base w v n ps) : ∃ a cap, v = .slice a n cap := by
  rcases h.2 with ⟨h2, h3⟩ | ⟨g, cap, cur, hv, _⟩
  · exact ⟨none, 0, by rw [h2, h3]⟩
  · exact ⟨_, _, hv⟩
/-- The two blocks that a message is made in. -/
theorem twoBlks (w : World) (c : Nat → Value) {w0 : World} (h : w0 = (w.alloc (.cells (mA (mz 0)) 45)).alloc (.cells (mA c) 45)) :
    mBlk w0 w.heap.size (mz 0) ∧ mBlk w0 (w.heap.size + 1) c ∧ w.grownBy w0 none ∧ w0.heap.size = w.heap.size + 2 := by
  subst h
  refine ⟨(mBlk.alloc w (mz 0)).grown (World.grownBy_alloc _ _ none) (by simp), ?_, grown_trans (World.grownBy_alloc _ _ _) (World.grownBy_alloc _ _ _), by simp⟩
  have := mBlk.alloc (w.alloc (.cells (mA (mz 0)) 45)) c
  simpa using this
theorem pkv_shift (s : ByteArray) (a n : Nat) (ha : a ≤ s.size) (hn : n = (s.size - a) / 6) : ∀ j, j < n → ∀ i, i < 6 → pkS (s.extract a s.size) j i = sg (byt s (a + 6 * j + i)) := by
  intro j hj i hi
  unfold pkS
  rw [byt_extract s a s.size (6 * j + i) (by omega) (Nat.le_refl _), ← Nat.add_assoc]
theorem PkRow.cong {w : World} {v : Value} {n : Nat} {ps qs : Nat → Nat → Int} (h : PkRow w v n ps) (hq : ∀ j, j < n → ∀ i, i < 6 → ps j i = qs j i) : PkRow w v n qs := by
  rcases h with h | ⟨g, off, cap, h1, h2, h3⟩
  · exact .inl h
  · exact .inr ⟨g, off, cap, h1, h2, fun j hj i hi => by rw [← hq j hj i hi]; exact h3 j hj i hi⟩
/-- A row that a call made. -/
def RowFrom (B : Nat) (v : Value) : Prop := ∀ g off n cap, v = .slice (some ⟨g, off, none⟩) n cap → B ≤ g
theorem PRow.from {base : Nat} {w : World} {v : Value} {n : Nat} {ps : Nat → Nat → Int} (h : PRow base w v n ps) {B : Nat} (hB : B ≤ base) : RowFrom B v := by
  intro g off m cap e
  exact Nat.le_trans hB (World.ownsRow.lt h g (by rw [e]; rfl)).1
theorem PRow.keep {base : Nat} {w w' : World} {v : Value} {n : Nat} {ps : Nat → Nat → Int} {rb : Nat} (h : PRow base w v n ps) (hg : w.grownBy w' (some rb)) (hr : rb < base) : PRow base w' v n ps := by
  refine World.ownsRow.kept h hg ?_
  cases hv : v.ownBlock with
  | none => exact .inl rfl
  | some k => exact .inr (by have := (World.ownsRow.lt h k hv).1; intro e; cases e; omega)
theorem loose_end {w w3 : World} {v : Value} {n : Nat} {ps : Nat → Nat → Int} {base : Nat} (G3 : w.grownBy w3 none) (hP : PRow base w3 v n ps) (hb : w.heap.size + 2 ≤ base) (hn : n ≤ 3000000000000) (i : Nat) (x : Value) (c : Nat → Value) :
    PkRow (put10 (w3.setCell ⟨w.heap.size + 1, i, none⟩ x) w.heap.size c) v n ps ∧ RowIn (put10 (w3.setCell ⟨w.heap.size + 1, i, none⟩ x) w.heap.size c).heap.size v ∧ RowFrom w.heap.size v ∧ w.grownBy (put10 (w3.setCell ⟨w.heap.size + 1, i, none⟩ x) w.heap.size c) none := by
  have h1 := (hP.keep (grown_set w3 (w.heap.size + 1) i x) (by omega)).keep (put10_grown _ w.heap.size c) (by omega)
  exact ⟨h1.row hn, h1.rowIn, h1.from (by omega), grown_new (grown_new G3 (grown_set _ _ _ _) (by omega)) (put10_grown _ _ _) (by omega)⟩
set_option maxRecDepth 100000 in
set_option maxHeartbeats 4000000 in
theorem loose4_any (s : ByteArray) (w : World) (hs : s.size ≤ 1000000) :
    Calls Try.prog 43 #[.int .i64 4, .string s] w fun e w' => ∃ v, e = .returned (.agg (mA (upd (mz 4) 9 v))) ∧ PkRow w' v (s.size / 6) (pkS s) ∧ RowIn w'.heap.size v ∧ RowFrom w.heap.size v ∧ w.grownBy w' none := by
  have hs2 : (s.size : Int) ≤ 1000000 := by omega
  obtain ⟨w0, hw0⟩ : ∃ w0, w0 = (w.alloc (.cells (mA (mz 0)) 45)).alloc (.cells (mA (mz 4)) 45) := ⟨_, rfl⟩
  have T0 := hide (twoBlks w (mz 4) hw0)
  unfold mA mz at hw0
  simp only [if_true, Nat.reduceEqDiff, if_false, Nat.reduceLT] at hw0
  have HS := hide (several_any s w0 hs)
  go_enter Try.func43, Try.ntmps43
  go_wp2_with fail
  rw [← hw0]
  clear hw0
  refine HS.out.mono ?_
  rintro e w3 ⟨v, rfl, hP, hg3⟩
  obtain ⟨t1, t2, t3, t4⟩ := T0.out
  have G3 := hide (grown_trans t3 hg3)
  have R3 := hide (t1.grown hg3 (by simp))
  have V3 := t2.grown hg3 (by simp)
  have HP := hide hP
  have HPi := hide hP.rowIn
  have hsz := hg3.size
  clear hP hg3 t1 t2 t3
  obtain ⟨va, vc, rfl⟩ := HP.out.slice
  have f9 := V3.frozen 9
  have V4 := hide (V3.set 9 (by omega) (.slice va (s.size / 6) vc))
  obtain ⟨c0, c1, c2, c3, c4, c5, c6, c7, c8, c9⟩ := V3.tenCells
  obtain ⟨d0, d1, d2, d3, d4, d5, d6, d7, d8, d9⟩ := R3.out.tenCells
  have f0 := R3.out.frozen
  simp only [mz, if_true, Nat.reduceEqDiff, if_false, Nat.reduceLT] at c0 c1 c2 c3 c4 c5 c6 c7 c8 c9 d0 d1 d2 d3 d4 d5 d6 d7 d8 d9
  clear V3
  go_wp2
  change bodyPost _ _ _ _ _ (put10 (w3.setCell ⟨w.heap.size + 1, 9, none⟩ (.slice va (s.size / 6) vc)) w.heap.size (upd (mz 4) 9 (.slice va (s.size / 6) vc)))
  have hp := put10_blk (R3.out.grown (grown_set w3 (w.heap.size + 1) 9 (.slice va (s.size / 6) vc)) (by simp)) (upd (mz 4) 9 (.slice va (s.size / 6) vc))
  obtain ⟨e0, e1, e2, e3, e4, e5, e6, e7, e8, e9⟩ := hp.tenCells
  refine bodyPost_ret (v := .agg (mA (upd (mz 4) 9 (.slice va (s.size / 6) vc)))) (by simp [results, Try.results43, go_sem, e0, e1, e2, e3, e4, e5, e6, e7, e8, e9, mA]) rfl ?_
  obtain ⟨q1, q2, q4, q3⟩ := loose_end G3.out HP.out (by omega) (by omega) 9 (.slice va (s.size / 6) vc) (upd (mz 4) 9 (.slice va (s.size / 6) vc))
  exact ⟨_, rfl, q1, q2, q4, q3⟩
set_option maxRecDepth 100000 in
set_option maxHeartbeats 4000000 in
theorem loose5_any (s : ByteArray) (w : World) (hs : s.size ≤ 1000000) (h2 : 2 ≤ s.size) :
    Calls Try.prog 43 #[.int .i64 5, .string s] w fun e w' => ∃ v, e = .returned (.agg (mA (upd (mz 5) 9 v))) ∧ PkRow w' v ((s.size - 2) / 6) (fun j i => sg (byt s (2 + 6 * j + i))) ∧ RowIn w'.heap.size v ∧ RowFrom w.heap.size v ∧ w.grownBy w' none := by
  have hs2 : (s.size : Int) ≤ 1000000 := by omega
  have h3 : (2 : Int) ≤ s.size := by omega
  obtain ⟨w0, hw0⟩ : ∃ w0, w0 = (w.alloc (.cells (mA (mz 0)) 45)).alloc (.cells (mA (mz 5)) 45) := ⟨_, rfl⟩
  have T0 := hide (twoBlks w (mz 5) hw0)
  unfold mA mz at hw0
  simp only [if_true, Nat.reduceEqDiff, if_false, Nat.reduceLT] at hw0
  have hex : (s.extract 2 s.size).size = s.size - 2 := by rw [ByteArray.size_extract]; omega
  have hsev := several_any (s.extract 2 s.size) w0 (by omega)
  rw [hex] at hsev
  have HS := hide hsev
  clear hsev hex
  obtain ⟨N, hN⟩ : ∃ N, N = (s.size - 2) / 6 := ⟨_, rfl⟩
  have HSH := hide (pkv_shift s 2 N h2 hN)
  rw [← hN] at HS ⊢
  have hNs : N ≤ 1000000 := by omega
  clear hN
  go_enter Try.func43, Try.ntmps43
  go_wp2_with fail
  rw [← hw0]
  clear hw0
  refine HS.out.mono ?_
  rintro e w3 ⟨v, rfl, hP, hg3⟩
  obtain ⟨t1, t2, t3, t4⟩ := T0.out
  have G3 := hide (grown_trans t3 hg3)
  have R3 := hide (t1.grown hg3 (by simp))
  have V3 := t2.grown hg3 (by simp)
  have HP := hide hP
  have hsz := hg3.size
  clear hP hg3 t1 t2 t3
  obtain ⟨va, vc, rfl⟩ := HP.out.slice
  have f9 := V3.frozen 9
  obtain ⟨c0, c1, c2, c3, c4, c5, c6, c7, c8, c9⟩ := V3.tenCells
  obtain ⟨d0, d1, d2, d3, d4, d5, d6, d7, d8, d9⟩ := R3.out.tenCells
  have f0 := R3.out.frozen
  simp only [mz, if_true, Nat.reduceEqDiff, if_false, Nat.reduceLT] at c0 c1 c2 c3 c4 c5 c6 c7 c8 c9 d0 d1 d2 d3 d4 d5 d6 d7 d8 d9
  clear V3
  go_wp2
  change bodyPost _ _ _ _ _ (put10 (w3.setCell ⟨w.heap.size + 1, 9, none⟩ (.slice va N vc)) w.heap.size (upd (mz 5) 9 (.slice va N vc)))
  have hp := put10_blk (R3.out.grown (grown_set w3 (w.heap.size + 1) 9 (.slice va N vc)) (by simp)) (upd (mz 5) 9 (.slice va N vc))
  obtain ⟨e0, e1, e2, e3, e4, e5, e6, e7, e8, e9⟩ := hp.tenCells
  refine bodyPost_ret (v := .agg (mA (upd (mz 5) 9 (.slice va N vc)))) (by simp [results, Try.results43, go_sem, e0, e1, e2, e3, e4, e5, e6, e7, e8, e9, mA]) rfl ?_
  obtain ⟨q1, q2, q4, q3⟩ := loose_end G3.out HP.out (by omega) (by omega) 9 (.slice va N vc) (upd (mz 5) 9 (.slice va N vc))
  exact ⟨_, rfl, q1.cong HSH.out, q2, q4, q3⟩
end Go.Proofs.Ytlhkfafdioakeaa
