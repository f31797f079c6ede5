/- Proved here: which packets a match matches, what an action makes of one, which of two packets comes first: the program's answers and the document's. -/
import Derived.Test.YtlhkfafdioakeaaLkC
namespace Go.Proofs.Ytlhkfafdioakeaa
open Go.RowKit
set_option linter.unusedVariables false
set_option linter.unusedSimpArgs false
/-- A match matches a packet. -/
def matchS (m k : Nat → Int) : Prop := ∀ i, 1 ≤ i → i < 6 → m i = -1 ∨ m i = k i
/-- What an action makes of a packet. -/
def actS (a k : Nat → Int) : Nat → Int := fun i => if 1 ≤ i ∧ i < 6 ∧ a i ≠ -1 then a i else k i
theorem actS_nm {a k : Nat → Int} (h : Nm k) : Nm (actS a k) := fun i hi => by
  unfold actS
  rw [if_neg (by omega)]
  exact h i hi
/-- So far as it is done. -/
def actN (a k : Nat → Int) (j : Nat) : Nat → Int := fun i => if 1 ≤ i ∧ i < j ∧ a i ≠ -1 then a i else k i
theorem actN_one (a k : Nat → Int) : actN a k 1 = k := by
  funext i
  unfold actN
  rw [if_neg (by omega)]
theorem actN_six (a k : Nat → Int) : actN a k 6 = actS a k := rfl
theorem actN_yes {a k : Nat → Int} {j : Nat} (hj : 1 ≤ j) (h : a j ≠ -1) : (fun i => if i = j then a j else actN a k j i) = actN a k (j + 1) := by
  funext i
  by_cases e : i = j
  · subst e; simp [actN, h, hj]
  · simp only [if_neg e, actN]
    by_cases e2 : i < j
    · simp [e2, show i < j + 1 by omega]
    · simp [e2, show ¬ i < j + 1 by omega]
theorem actN_no {a k : Nat → Int} {j : Nat} (h : a j = -1) : actN a k j = actN a k (j + 1) := by
  funext i
  by_cases e : i = j
  · subst e; simp [actN, h]
  · simp only [actN]
    by_cases e2 : i < j
    · simp [e2, show i < j + 1 by omega]
    · simp [e2, show ¬ i < j + 1 by omega]
theorem pkBlk.lay {w : World} {b : Nat} {k : Nat → Int} (h : pkBlk w b k) (x : Nat → Int) : pkBlk (lay6 w b 0 x) b x := by
  unfold pkBlk at *
  rw [lay6_heap h x]
  rfl
set_option maxRecDepth 100000 in
set_option maxHeartbeats 1000000 in
theorem matches_any (m k : Nat → Int) (w : World) : Calls Try.prog 36 #[pkV m, pkV k] w (Says (matchS m k) w) := by
  obtain ⟨w1, hw1⟩ : ∃ w1, w1 = w.alloc (.cells (pkA m) 27) := ⟨_, rfl⟩
  obtain ⟨w2, hw2⟩ : ∃ w2, w2 = w1.alloc (.cells (pkA k) 27) := ⟨_, rfl⟩
  have B1 : Hid (pkBlk w2 w.heap.size m) := by rw [hw2, hw1]; exact (pkBlk.alloc w m).grown (World.grownBy_alloc _ _ none) (by simp)
  have B2 : Hid (pkBlk w2 (w.heap.size + 1) k) := by
    have z : w1.heap.size = w.heap.size + 1 := by rw [hw1]; simp
    rw [hw2, ← z]; exact pkBlk.alloc w1 k
  have G2 : Hid (w.grownBy w2 none) := by rw [hw2, hw1]; exact grown_trans (World.grownBy_alloc _ _ _) (World.grownBy_alloc _ _ _)
  rw [hw1] at hw2
  clear hw1
  unfold pkA at hw2
  unfold pkV pkA
  go_enter Try.func36, Try.ntmps36
  go_wp2
  rw [← hw2]
  clear hw2
  go_loopw [5] (fun i wr => ∃ j : Nat, 1 ≤ j ∧ j ≤ 6 ∧ i = .int .i64 j ∧ (∀ i, 1 ≤ i → i < j → m i = -1 ∨ m i = k i) ∧ pkBlk wr w.heap.size m ∧ pkBlk wr (w.heap.size + 1) k ∧ w.grownBy wr none) (fun i _ => 6 - (intOf i).toNat)
  case atStart => exact ⟨1, by omega, by omega, rfl, fun i h1 h2 => by omega, B1.out, B2.out, G2.out⟩
  case round =>
    obtain ⟨j, hj1, hj, rfl, hok, b1, b2, hg⟩ := hrel
    have HOK := hide hok
    clear hok B1 B2 G2
    have B1 := hide b1
    have B2 := hide b2
    have G2 := hide hg
    clear b1 b2 hg
    by_cases hlt : j < 6
    · obtain ⟨x, hx⟩ : ∃ x, x = m j := ⟨_, rfl⟩
      obtain ⟨y, hy⟩ : ∃ y, y = k j := ⟨_, rfl⟩
      have c1 : wr.cell? ⟨w.heap.size, j, none⟩ = some (.int .i64 x) := by rw [hx]; exact B1.out.cell j hlt
      have c2 : wr.cell? ⟨w.heap.size + 1, j, none⟩ = some (.int .i64 y) := by rw [hy]; exact B2.out.cell j hlt
      have HX := hide hx
      have HY := hide hy
      clear hx hy
      have hltI : (j : Int) < 6 := by omega
      by_cases h1 : x = -1
      · have hn : (x == -1) = true := beq_iff_eq.2 h1
        have hn2 : (x != -1) = false := by simp [h1]
        have H1 := hide h1
        clear h1
        go_wp2_with fail
        go_quiet (fail)
        go_wp2
        go_roundw
        case rel => exact ⟨j + 1, by omega, by omega, by go_num, fun i h1 h2 => by
          by_cases e : i = j
          · subst e; left; rw [← HX.out]; exact H1.out
          · exact HOK.out i h1 (by omega), B1.out, B2.out, grown_drewN G2.out _⟩
        case measure => simp [intOf]; omega
      · have hn2 : (x != -1) = true := by rw [bne_iff_ne]; exact h1
        by_cases h2 : x = y
        · subst h2
          go_wp2_with fail
          go_quiet (fail)
          go_wp2
          go_roundw
          case rel => exact ⟨j + 1, by omega, by omega, by go_num, fun i h1 h2 => by
            by_cases e : i = j
            · subst e; right; rw [← HX.out, ← HY.out]
            · exact HOK.out i h1 (by omega), B1.out, B2.out, grown_drewN G2.out _⟩
          case measure => simp [intOf]; omega
        · have hn3 : (x != y) = true := by rw [bne_iff_ne]; exact h2
          go_wp2_with fail
          go_quiet (fail)
          go_wp2
          go_ret
          exact ⟨⟨false, rfl, by
            simp only [Bool.false_eq_true, false_iff]
            intro hh
            rcases hh j hj1 hlt with e | e
            · exact h1 (by rw [HX.out]; exact e)
            · exact h2 (by rw [HX.out, HY.out]; exact e)⟩, grown_drewN G2.out _⟩
    · go_wp2
      go_ret
      exact ⟨⟨true, rfl, by
        simp only [true_iff]
        exact fun i h1 h2 => HOK.out i h1 (by omega)⟩, G2.out⟩
set_option maxRecDepth 100000 in
set_option maxHeartbeats 1000000 in
theorem act_any (a k : Nat → Int) (w : World) : Calls Try.prog 46 #[pkV a, pkV k] w fun e w' => e = .returned (pkV (actS a k)) ∧ w.grownBy w' none := by
  obtain ⟨w1, hw1⟩ : ∃ w1, w1 = w.alloc (.cells (pkA a) 27) := ⟨_, rfl⟩
  obtain ⟨w2, hw2⟩ : ∃ w2, w2 = w1.alloc (.cells (pkA k) 27) := ⟨_, rfl⟩
  obtain ⟨w3, hw3⟩ : ∃ w3, w3 = w2.alloc (.cells (pkA (fun _ => 0)) 27) := ⟨_, rfl⟩
  have z1 : w1.heap.size = w.heap.size + 1 := by rw [hw1]; simp
  have z2 : w2.heap.size = w.heap.size + 2 := by rw [hw2]; simp [z1]
  have B1 : Hid (pkBlk w3 w.heap.size a) := by rw [hw3, hw2, hw1]; exact ((pkBlk.alloc w a).grown (World.grownBy_alloc _ _ none) (by simp)).grown (World.grownBy_alloc _ _ none) (by simp)
  have B2 : Hid (pkBlk w3 (w.heap.size + 1) k) := by rw [hw3, ← z1]; refine pkBlk.grown ?_ (World.grownBy_alloc _ _ none) (by simp); rw [hw2]; exact pkBlk.alloc w1 k
  have B3 : Hid (pkBlk w3 (w.heap.size + 2) (fun _ => 0)) := by rw [hw3, ← z2]; exact pkBlk.alloc w2 _
  have G3 : Hid (w.grownBy w3 none) := by rw [hw3, hw2, hw1]; exact grown_trans (grown_trans (World.grownBy_alloc _ _ _) (World.grownBy_alloc _ _ _)) (World.grownBy_alloc _ _ _)
  rw [hw1] at hw2
  rw [hw2] at hw3
  clear hw1 hw2 z1 z2
  unfold pkA at hw3
  unfold pkV pkA
  go_enter Try.func46, Try.ntmps46
  go_wp2
  rw [← hw3]
  clear hw3
  go_loopw [5] (fun i wr => ∃ j : Nat, 1 ≤ j ∧ j ≤ 6 ∧ i = .int .i64 j ∧ pkBlk wr w.heap.size a ∧ pkBlk wr (w.heap.size + 1) (actN a k j) ∧ pkBlk wr (w.heap.size + 2) (fun _ => 0) ∧ w.grownBy wr none) (fun i _ => 6 - (intOf i).toNat)
  case atStart => exact ⟨1, by omega, by omega, rfl, B1.out, by rw [actN_one]; exact B2.out, B3.out, G3.out⟩
  case round =>
    obtain ⟨j, hj1, hj, rfl, b1, b2, b3, hg⟩ := hrel
    clear B1 B2 B3 G3
    have B1 := hide b1
    have B2 := hide b2
    have B3 := hide b3
    have HG := hide hg
    clear b1 b2 b3 hg
    by_cases hlt : j < 6
    · obtain ⟨x, hx⟩ : ∃ x, x = a j := ⟨_, rfl⟩
      have c1 := B1.out.cell j hlt
      rw [← hx] at c1
      have HX := hide hx
      clear hx
      have hltI : (j : Int) < 6 := by omega
      by_cases h1 : x = -1
      · have hn2 : (x == -1) = true := beq_iff_eq.2 h1
        have H1 := hide h1
        clear h1
        go_wp2
        go_roundw
        case rel => exact ⟨j + 1, by omega, by omega, by go_num, B1.out, by rw [← actN_no (by rw [← HX.out]; exact H1.out)]; exact B2.out, B3.out, HG.out⟩
        case measure => simp [intOf]; omega
      · have hn2 : (x == -1) = false := beq_eq_false_iff_ne.2 h1
        have c2 := B2.out.cell j hlt
        have f2 := B2.out.frozen
        go_wp2
        go_roundw
        case rel =>
          have := B2.out.set j hlt x
          rw [HX.out, actN_yes hj1 (by rw [← HX.out]; exact h1)] at this
          exact ⟨j + 1, by omega, by omega, by go_num, B1.out.grown (grown_set _ _ _ _) (by simp), by rw [HX.out]; exact this, B3.out.grown (grown_set _ _ _ _) (by simp), grown_new HG.out (grown_set _ _ _ _) (by omega)⟩
        case measure => simp [intOf]; omega
    · obtain rfl : j = 6 := by omega
      rw [actN_six] at B2
      obtain ⟨r, hr⟩ : ∃ r, r = actS a k := ⟨_, rfl⟩
      rw [← hr] at B2
      have HR := hide hr
      clear hr
      have c0 := B2.out.cell 0 (by omega)
      have c1 := B2.out.cell 1 (by omega)
      have c2 := B2.out.cell 2 (by omega)
      have c3 := B2.out.cell 3 (by omega)
      have c4 := B2.out.cell 4 (by omega)
      have c5 := B2.out.cell 5 (by omega)
      have d0 := B3.out.cell 0 (by omega)
      have d1 := B3.out.cell 1 (by omega)
      have d2 := B3.out.cell 2 (by omega)
      have d3 := B3.out.cell 3 (by omega)
      have d4 := B3.out.cell 4 (by omega)
      have d5 := B3.out.cell 5 (by omega)
      have f3 := B3.out.frozen
      go_wp2
      change bodyPost _ _ _ _ _ (lay6 wr (w.heap.size + 2) 0 r)
      have hp := B3.out.lay r
      have e0 := hp.cell 0 (by omega)
      have e1 := hp.cell 1 (by omega)
      have e2 := hp.cell 2 (by omega)
      have e3 := hp.cell 3 (by omega)
      have e4 := hp.cell 4 (by omega)
      have e5 := hp.cell 5 (by omega)
      refine bodyPost_ret (v := pkV r) (by unfold pkV pkA; simp [results, Try.results46, go_sem, e0, e1, e2, e3, e4, e5]) rfl ?_
      exact ⟨by rw [HR.out]; rfl, grown_new HG.out (lay6_grown _ _ _ _) (by omega)⟩
set_option maxRecDepth 100000 in
set_option maxHeartbeats 1000000 in
theorem does_any (a k : Nat → Int) (w : World) : Calls Try.prog 25 #[pkV a, pkV k] w fun e w' => e = .returned (pkV (actS a k)) ∧ w.grownBy w' none := by
  obtain ⟨w1, hw1⟩ : ∃ w1, w1 = w.alloc (.cells (pkA a) 27) := ⟨_, rfl⟩
  obtain ⟨w2, hw2⟩ : ∃ w2, w2 = w1.alloc (.cells (pkA k) 27) := ⟨_, rfl⟩
  obtain ⟨w3, hw3⟩ : ∃ w3, w3 = w2.alloc (.cells (pkA (fun _ => 0)) 27) := ⟨_, rfl⟩
  have z1 : w1.heap.size = w.heap.size + 1 := by rw [hw1]; simp
  have z2 : w2.heap.size = w.heap.size + 2 := by rw [hw2]; simp [z1]
  have B1 : Hid (pkBlk w3 w.heap.size a) := by rw [hw3, hw2, hw1]; exact ((pkBlk.alloc w a).grown (World.grownBy_alloc _ _ none) (by simp)).grown (World.grownBy_alloc _ _ none) (by simp)
  have B2 : Hid (pkBlk w3 (w.heap.size + 1) k) := by rw [hw3, ← z1]; refine pkBlk.grown ?_ (World.grownBy_alloc _ _ none) (by simp); rw [hw2]; exact pkBlk.alloc w1 k
  have B3 : Hid (pkBlk w3 (w.heap.size + 2) (fun _ => 0)) := by rw [hw3, ← z2]; exact pkBlk.alloc w2 _
  have G3 : Hid (w.grownBy w3 none) := by rw [hw3, hw2, hw1]; exact grown_trans (grown_trans (World.grownBy_alloc _ _ _) (World.grownBy_alloc _ _ _)) (World.grownBy_alloc _ _ _)
  rw [hw1] at hw2
  rw [hw2] at hw3
  clear hw1 hw2 z1 z2
  unfold pkA at hw3
  unfold pkV pkA
  go_enter Try.func25, Try.ntmps25
  go_wp2
  rw [← hw3]
  clear hw3
  go_loopw [5] (fun i wr => ∃ j : Nat, 1 ≤ j ∧ j ≤ 6 ∧ i = .int .i64 j ∧ pkBlk wr w.heap.size a ∧ pkBlk wr (w.heap.size + 1) (actN a k j) ∧ pkBlk wr (w.heap.size + 2) (fun _ => 0) ∧ w.grownBy wr none) (fun i _ => 6 - (intOf i).toNat)
  case atStart => exact ⟨1, by omega, by omega, rfl, B1.out, by rw [actN_one]; exact B2.out, B3.out, G3.out⟩
  case round =>
    obtain ⟨j, hj1, hj, rfl, b1, b2, b3, hg⟩ := hrel
    clear B1 B2 B3 G3
    have B1 := hide b1
    have B2 := hide b2
    have B3 := hide b3
    have HG := hide hg
    clear b1 b2 b3 hg
    by_cases hlt : j < 6
    · obtain ⟨x, hx⟩ : ∃ x, x = a j := ⟨_, rfl⟩
      have c1 := B1.out.cell j hlt
      rw [← hx] at c1
      have HX := hide hx
      clear hx
      have hltI : (j : Int) < 6 := by omega
      by_cases h1 : x = -1
      · have hn2 : (x == -1) = true := beq_iff_eq.2 h1
        have H1 := hide h1
        clear h1
        go_wp2
        go_roundw
        case rel => exact ⟨j + 1, by omega, by omega, by go_num, B1.out, by rw [← actN_no (by rw [← HX.out]; exact H1.out)]; exact B2.out, B3.out, HG.out⟩
        case measure => simp [intOf]; omega
      · have hn2 : (x == -1) = false := beq_eq_false_iff_ne.2 h1
        have c2 := B2.out.cell j hlt
        have f2 := B2.out.frozen
        go_wp2
        go_roundw
        case rel =>
          have := B2.out.set j hlt x
          rw [HX.out, actN_yes hj1 (by rw [← HX.out]; exact h1)] at this
          exact ⟨j + 1, by omega, by omega, by go_num, B1.out.grown (grown_set _ _ _ _) (by simp), by rw [HX.out]; exact this, B3.out.grown (grown_set _ _ _ _) (by simp), grown_new HG.out (grown_set _ _ _ _) (by omega)⟩
        case measure => simp [intOf]; omega
    · obtain rfl : j = 6 := by omega
      rw [actN_six] at B2
      obtain ⟨r, hr⟩ : ∃ r, r = actS a k := ⟨_, rfl⟩
      rw [← hr] at B2
      have HR := hide hr
      clear hr
      have c0 := B2.out.cell 0 (by omega)
      have c1 := B2.out.cell 1 (by omega)
      have c2 := B2.out.cell 2 (by omega)
      have c3 := B2.out.cell 3 (by omega)
      have c4 := B2.out.cell 4 (by omega)
      have c5 := B2.out.cell 5 (by omega)
      have d0 := B3.out.cell 0 (by omega)
      have d1 := B3.out.cell 1 (by omega)
      have d2 := B3.out.cell 2 (by omega)
      have d3 := B3.out.cell 3 (by omega)
      have d4 := B3.out.cell 4 (by omega)
      have d5 := B3.out.cell 5 (by omega)
      have f3 := B3.out.frozen
      go_wp2
      change bodyPost _ _ _ _ _ (lay6 wr (w.heap.size + 2) 0 r)
      have hp := B3.out.lay r
      have e0 := hp.cell 0 (by omega)
      have e1 := hp.cell 1 (by omega)
      have e2 := hp.cell 2 (by omega)
      have e3 := hp.cell 3 (by omega)
      have e4 := hp.cell 4 (by omega)
      have e5 := hp.cell 5 (by omega)
      refine bodyPost_ret (v := pkV r) (by unfold pkV pkA; simp [results, Try.results25, go_sem, e0, e1, e2, e3, e4, e5]) rfl ?_
      exact ⟨by rw [HR.out]; rfl, grown_new HG.out (lay6_grown _ _ _ _) (by omega)⟩
end Go.Proofs.Ytlhkfafdioakeaa
