/- Pk02: several parts, each with what it proves in plain words at its head. -/
import Derived.Test.YtlhkfafdioakeaaGreatDoorPk01
import Derived.Shelf.SlSortCmp.WholeK
import Derived.Test.YtlhkfafdioakeaaGreatDoorProg
import Derived.Laws.AppendOwnNone
import Derived.Deep.RegionWith
/- Proved here: which packets a match matches, what an action makes of one, which of two packets comes first: the program's answers and the document's. -/
namespace Go.Proofs.YtlhkfafdioakeaaGreatDoor
open Go.RowKit
set_option linter.unusedVariables false
set_option linter.unusedSimpArgs false
/-- A match matches a packet. -/
def matchS (m k : Nat → Int) : Prop := ∀ i, 1 ≤ i → i < 6 → m i = -1 ∨ m i = k i
/-- What an action makes of a packet. -/
def actS (a k : Nat → Int) : Nat → Int := fun i => if 1 ≤ i ∧ i < 6 ∧ a i ≠ -1 then a i else k i
theorem actS_nm {a k : Nat → Int} (h : Nm k) : Nm (actS a k) := fun i hi => by
  unfold actS
  rw [if_neg (by omega)]
  exact h i hi
/-- So far as it is done. -/
def actN (a k : Nat → Int) (j : Nat) : Nat → Int := fun i => if 1 ≤ i ∧ i < j ∧ a i ≠ -1 then a i else k i
theorem actN_one (a k : Nat → Int) : actN a k 1 = k := by
  funext i
  unfold actN
  rw [if_neg (by omega)]
theorem actN_six (a k : Nat → Int) : actN a k 6 = actS a k := rfl
theorem actN_yes {a k : Nat → Int} {j : Nat} (hj : 1 ≤ j) (h : a j ≠ -1) : (fun i => if i = j then a j else actN a k j i) = actN a k (j + 1) := by
  funext i
  by_cases e : i = j
  · subst e; simp [actN, h, hj]
  · simp only [if_neg e, actN]
    by_cases e2 : i < j
    · simp [e2, show i < j + 1 by omega]
    · simp [e2, show ¬ i < j + 1 by omega]
theorem actN_no {a k : Nat → Int} {j : Nat} (h : a j = -1) : actN a k j = actN a k (j + 1) := by
  funext i
  by_cases e : i = j
  · subst e; simp [actN, h]
  · simp only [actN]
    by_cases e2 : i < j
    · simp [e2, show i < j + 1 by omega]
    · simp [e2, show ¬ i < j + 1 by omega]
theorem pkBlk.lay {w : World} {b : Nat} {k : Nat → Int} (h : pkBlk w b k) (x : Nat → Int) : pkBlk (lay6 w b 0 x) b x := by
  unfold pkBlk at *
  rw [lay6_heap h x]
  rfl
set_option maxRecDepth 100000 in
set_option maxHeartbeats 1000000 in
theorem matches_any (m k : Nat → Int) (w : World) : Calls Tryz.prog 106 #[pkV m, pkV k] w (Says (matchS m k) w) := by
  obtain ⟨w1, hw1⟩ : ∃ w1, w1 = w.alloc (.cells (pkA m) 46) := ⟨_, rfl⟩
  obtain ⟨w2, hw2⟩ : ∃ w2, w2 = w1.alloc (.cells (pkA k) 46) := ⟨_, rfl⟩
  have B1 : Hid (pkBlk w2 w.heap.size m) := by rw [hw2, hw1]; exact (pkBlk.alloc w m).grown (World.grownBy_alloc _ _ none) (by simp)
  have B2 : Hid (pkBlk w2 (w.heap.size + 1) k) := by
    have z : w1.heap.size = w.heap.size + 1 := by rw [hw1]; simp
    rw [hw2, ← z]; exact pkBlk.alloc w1 k
  have G2 : Hid (w.grownBy w2 none) := by rw [hw2, hw1]; exact grown_trans (World.grownBy_alloc _ _ _) (World.grownBy_alloc _ _ _)
  rw [hw1] at hw2
  clear hw1
  unfold pkA at hw2
  unfold pkV pkA
  go_enter Tryz.func106, Tryz.ntmps106
  go_wp2
  rw [← hw2]
  clear hw2
  go_loopw [5] (fun i wr => ∃ j : Nat, 1 ≤ j ∧ j ≤ 6 ∧ i = .int .i64 j ∧ (∀ i, 1 ≤ i → i < j → m i = -1 ∨ m i = k i) ∧ pkBlk wr w.heap.size m ∧ pkBlk wr (w.heap.size + 1) k ∧ w.grownBy wr none) (fun i _ => 6 - (intOf i).toNat)
  case atStart => exact ⟨1, by omega, by omega, rfl, fun i h1 h2 => by omega, B1.out, B2.out, G2.out⟩
  case round =>
    obtain ⟨j, hj1, hj, rfl, hok, b1, b2, hg⟩ := hrel
    have HOK := hide hok
    clear hok B1 B2 G2
    have B1 := hide b1
    have B2 := hide b2
    have G2 := hide hg
    clear b1 b2 hg
    by_cases hlt : j < 6
    · obtain ⟨x, hx⟩ : ∃ x, x = m j := ⟨_, rfl⟩
      obtain ⟨y, hy⟩ : ∃ y, y = k j := ⟨_, rfl⟩
      have c1 : wr.cell? ⟨w.heap.size, j, none⟩ = some (.int .i64 x) := by rw [hx]; exact B1.out.cell j hlt
      have c2 : wr.cell? ⟨w.heap.size + 1, j, none⟩ = some (.int .i64 y) := by rw [hy]; exact B2.out.cell j hlt
      have HX := hide hx
      have HY := hide hy
      clear hx hy
      have hltI : (j : Int) < 6 := by omega
      by_cases h1 : x = -1
      · have hn : (x == -1) = true := beq_iff_eq.2 h1
        have hn2 : (x != -1) = false := by simp [h1]
        have H1 := hide h1
        clear h1
        go_wp2_with fail
        go_quiet (fail)
        go_wp2
        go_roundw
        case rel => exact ⟨j + 1, by omega, by omega, by go_num, fun i h1 h2 => by
          by_cases e : i = j
          · subst e; left; rw [← HX.out]; exact H1.out
          · exact HOK.out i h1 (by omega), B1.out, B2.out, grown_drewN G2.out _⟩
        case measure => simp [intOf]; omega
      · have hn2 : (x != -1) = true := by rw [bne_iff_ne]; exact h1
        by_cases h2 : x = y
        · subst h2
          go_wp2_with fail
          go_quiet (fail)
          go_wp2
          go_roundw
          case rel => exact ⟨j + 1, by omega, by omega, by go_num, fun i h1 h2 => by
            by_cases e : i = j
            · subst e; right; rw [← HX.out, ← HY.out]
            · exact HOK.out i h1 (by omega), B1.out, B2.out, grown_drewN G2.out _⟩
          case measure => simp [intOf]; omega
        · have hn3 : (x != y) = true := by rw [bne_iff_ne]; exact h2
          go_wp2_with fail
          go_quiet (fail)
          go_wp2
          go_ret
          exact ⟨⟨false, rfl, by
            simp only [Bool.false_eq_true, false_iff]
            intro hh
            rcases hh j hj1 hlt with e | e
            · exact h1 (by rw [HX.out]; exact e)
            · exact h2 (by rw [HX.out, HY.out]; exact e)⟩, grown_drewN G2.out _⟩
    · go_wp2
      go_ret
      exact ⟨⟨true, rfl, by
        simp only [true_iff]
        exact fun i h1 h2 => HOK.out i h1 (by omega)⟩, G2.out⟩
set_option maxRecDepth 100000 in
set_option maxHeartbeats 1000000 in
theorem act_any (a k : Nat → Int) (w : World) : Calls Tryz.prog 159 #[pkV a, pkV k] w fun e w' => e = .returned (pkV (actS a k)) ∧ w.grownBy w' none := by
  obtain ⟨w1, hw1⟩ : ∃ w1, w1 = w.alloc (.cells (pkA a) 46) := ⟨_, rfl⟩
  obtain ⟨w2, hw2⟩ : ∃ w2, w2 = w1.alloc (.cells (pkA k) 46) := ⟨_, rfl⟩
  obtain ⟨w3, hw3⟩ : ∃ w3, w3 = w2.alloc (.cells (pkA (fun _ => 0)) 46) := ⟨_, rfl⟩
  have z1 : w1.heap.size = w.heap.size + 1 := by rw [hw1]; simp
  have z2 : w2.heap.size = w.heap.size + 2 := by rw [hw2]; simp [z1]
  have B1 : Hid (pkBlk w3 w.heap.size a) := by rw [hw3, hw2, hw1]; exact ((pkBlk.alloc w a).grown (World.grownBy_alloc _ _ none) (by simp)).grown (World.grownBy_alloc _ _ none) (by simp)
  have B2 : Hid (pkBlk w3 (w.heap.size + 1) k) := by rw [hw3, ← z1]; refine pkBlk.grown ?_ (World.grownBy_alloc _ _ none) (by simp); rw [hw2]; exact pkBlk.alloc w1 k
  have B3 : Hid (pkBlk w3 (w.heap.size + 2) (fun _ => 0)) := by rw [hw3, ← z2]; exact pkBlk.alloc w2 _
  have G3 : Hid (w.grownBy w3 none) := by rw [hw3, hw2, hw1]; exact grown_trans (grown_trans (World.grownBy_alloc _ _ _) (World.grownBy_alloc _ _ _)) (World.grownBy_alloc _ _ _)
  rw [hw1] at hw2
  rw [hw2] at hw3
  clear hw1 hw2 z1 z2
  unfold pkA at hw3
  unfold pkV pkA
  go_enter Tryz.func159, Tryz.ntmps159
  go_wp2
  rw [← hw3]
  clear hw3
  go_loopw [5] (fun i wr => ∃ j : Nat, 1 ≤ j ∧ j ≤ 6 ∧ i = .int .i64 j ∧ pkBlk wr w.heap.size a ∧ pkBlk wr (w.heap.size + 1) (actN a k j) ∧ pkBlk wr (w.heap.size + 2) (fun _ => 0) ∧ w.grownBy wr none) (fun i _ => 6 - (intOf i).toNat)
  case atStart => exact ⟨1, by omega, by omega, rfl, B1.out, by rw [actN_one]; exact B2.out, B3.out, G3.out⟩
  case round =>
    obtain ⟨j, hj1, hj, rfl, b1, b2, b3, hg⟩ := hrel
    clear B1 B2 B3 G3
    have B1 := hide b1
    have B2 := hide b2
    have B3 := hide b3
    have HG := hide hg
    clear b1 b2 b3 hg
    by_cases hlt : j < 6
    · obtain ⟨x, hx⟩ : ∃ x, x = a j := ⟨_, rfl⟩
      have c1 := B1.out.cell j hlt
      rw [← hx] at c1
      have HX := hide hx
      clear hx
      have hltI : (j : Int) < 6 := by omega
      by_cases h1 : x = -1
      · have hn2 : (x == -1) = true := beq_iff_eq.2 h1
        have H1 := hide h1
        clear h1
        go_wp2
        go_roundw
        case rel => exact ⟨j + 1, by omega, by omega, by go_num, B1.out, by rw [← actN_no (by rw [← HX.out]; exact H1.out)]; exact B2.out, B3.out, HG.out⟩
        case measure => simp [intOf]; omega
      · have hn2 : (x == -1) = false := beq_eq_false_iff_ne.2 h1
        have c2 := B2.out.cell j hlt
        have f2 := B2.out.frozen
        go_wp2
        go_roundw
        case rel =>
          have := B2.out.set j hlt x
          rw [HX.out, actN_yes hj1 (by rw [← HX.out]; exact h1)] at this
          exact ⟨j + 1, by omega, by omega, by go_num, B1.out.grown (grown_set _ _ _ _) (by simp), by rw [HX.out]; exact this, B3.out.grown (grown_set _ _ _ _) (by simp), grown_new HG.out (grown_set _ _ _ _) (by omega)⟩
        case measure => simp [intOf]; omega
    · obtain rfl : j = 6 := by omega
      rw [actN_six] at B2
      obtain ⟨r, hr⟩ : ∃ r, r = actS a k := ⟨_, rfl⟩
      rw [← hr] at B2
      have HR := hide hr
      clear hr
      have c0 := B2.out.cell 0 (by omega)
      have c1 := B2.out.cell 1 (by omega)
      have c2 := B2.out.cell 2 (by omega)
      have c3 := B2.out.cell 3 (by omega)
      have c4 := B2.out.cell 4 (by omega)
      have c5 := B2.out.cell 5 (by omega)
      have d0 := B3.out.cell 0 (by omega)
      have d1 := B3.out.cell 1 (by omega)
      have d2 := B3.out.cell 2 (by omega)
      have d3 := B3.out.cell 3 (by omega)
      have d4 := B3.out.cell 4 (by omega)
      have d5 := B3.out.cell 5 (by omega)
      have f3 := B3.out.frozen
      go_wp2
      change bodyPost _ _ _ _ _ (lay6 wr (w.heap.size + 2) 0 r)
      have hp := B3.out.lay r
      have e0 := hp.cell 0 (by omega)
      have e1 := hp.cell 1 (by omega)
      have e2 := hp.cell 2 (by omega)
      have e3 := hp.cell 3 (by omega)
      have e4 := hp.cell 4 (by omega)
      have e5 := hp.cell 5 (by omega)
      refine bodyPost_ret (v := pkV r) (by unfold pkV pkA; simp [results, Tryz.results159, go_sem, e0, e1, e2, e3, e4, e5]) rfl ?_
      exact ⟨by rw [HR.out]; rfl, grown_new HG.out (lay6_grown _ _ _ _) (by omega)⟩
set_option maxRecDepth 100000 in
set_option maxHeartbeats 1000000 in
theorem does_any (a k : Nat → Int) (w : World) : Calls Tryz.prog 177 #[pkV a, pkV k] w fun e w' => e = .returned (pkV (actS a k)) ∧ w.grownBy w' none := by
  obtain ⟨w1, hw1⟩ : ∃ w1, w1 = w.alloc (.cells (pkA a) 46) := ⟨_, rfl⟩
  obtain ⟨w2, hw2⟩ : ∃ w2, w2 = w1.alloc (.cells (pkA k) 46) := ⟨_, rfl⟩
  obtain ⟨w3, hw3⟩ : ∃ w3, w3 = w2.alloc (.cells (pkA (fun _ => 0)) 46) := ⟨_, rfl⟩
  have z1 : w1.heap.size = w.heap.size + 1 := by rw [hw1]; simp
  have z2 : w2.heap.size = w.heap.size + 2 := by rw [hw2]; simp [z1]
  have B1 : Hid (pkBlk w3 w.heap.size a) := by rw [hw3, hw2, hw1]; exact ((pkBlk.alloc w a).grown (World.grownBy_alloc _ _ none) (by simp)).grown (World.grownBy_alloc _ _ none) (by simp)
  have B2 : Hid (pkBlk w3 (w.heap.size + 1) k) := by rw [hw3, ← z1]; refine pkBlk.grown ?_ (World.grownBy_alloc _ _ none) (by simp); rw [hw2]; exact pkBlk.alloc w1 k
  have B3 : Hid (pkBlk w3 (w.heap.size + 2) (fun _ => 0)) := by rw [hw3, ← z2]; exact pkBlk.alloc w2 _
  have G3 : Hid (w.grownBy w3 none) := by rw [hw3, hw2, hw1]; exact grown_trans (grown_trans (World.grownBy_alloc _ _ _) (World.grownBy_alloc _ _ _)) (World.grownBy_alloc _ _ _)
  rw [hw1] at hw2
  rw [hw2] at hw3
  clear hw1 hw2 z1 z2
  unfold pkA at hw3
  unfold pkV pkA
  go_enter Tryz.func177, Tryz.ntmps177
  go_wp2
  rw [← hw3]
  clear hw3
  go_loopw [5] (fun i wr => ∃ j : Nat, 1 ≤ j ∧ j ≤ 6 ∧ i = .int .i64 j ∧ pkBlk wr w.heap.size a ∧ pkBlk wr (w.heap.size + 1) (actN a k j) ∧ pkBlk wr (w.heap.size + 2) (fun _ => 0) ∧ w.grownBy wr none) (fun i _ => 6 - (intOf i).toNat)
  case atStart => exact ⟨1, by omega, by omega, rfl, B1.out, by rw [actN_one]; exact B2.out, B3.out, G3.out⟩
  case round =>
    obtain ⟨j, hj1, hj, rfl, b1, b2, b3, hg⟩ := hrel
    clear B1 B2 B3 G3
    have B1 := hide b1
    have B2 := hide b2
    have B3 := hide b3
    have HG := hide hg
    clear b1 b2 b3 hg
    by_cases hlt : j < 6
    · obtain ⟨x, hx⟩ : ∃ x, x = a j := ⟨_, rfl⟩
      have c1 := B1.out.cell j hlt
      rw [← hx] at c1
      have HX := hide hx
      clear hx
      have hltI : (j : Int) < 6 := by omega
      by_cases h1 : x = -1
      · have hn2 : (x == -1) = true := beq_iff_eq.2 h1
        have H1 := hide h1
        clear h1
        go_wp2
        go_roundw
        case rel => exact ⟨j + 1, by omega, by omega, by go_num, B1.out, by rw [← actN_no (by rw [← HX.out]; exact H1.out)]; exact B2.out, B3.out, HG.out⟩
        case measure => simp [intOf]; omega
      · have hn2 : (x == -1) = false := beq_eq_false_iff_ne.2 h1
        have c2 := B2.out.cell j hlt
        have f2 := B2.out.frozen
        go_wp2
        go_roundw
        case rel =>
          have := B2.out.set j hlt x
          rw [HX.out, actN_yes hj1 (by rw [← HX.out]; exact h1)] at this
          exact ⟨j + 1, by omega, by omega, by go_num, B1.out.grown (grown_set _ _ _ _) (by simp), by rw [HX.out]; exact this, B3.out.grown (grown_set _ _ _ _) (by simp), grown_new HG.out (grown_set _ _ _ _) (by omega)⟩
        case measure => simp [intOf]; omega
    · obtain rfl : j = 6 := by omega
      rw [actN_six] at B2
      obtain ⟨r, hr⟩ : ∃ r, r = actS a k := ⟨_, rfl⟩
      rw [← hr] at B2
      have HR := hide hr
      clear hr
      have c0 := B2.out.cell 0 (by omega)
      have c1 := B2.out.cell 1 (by omega)
      have c2 := B2.out.cell 2 (by omega)
      have c3 := B2.out.cell 3 (by omega)
      have c4 := B2.out.cell 4 (by omega)
      have c5 := B2.out.cell 5 (by omega)
      have d0 := B3.out.cell 0 (by omega)
      have d1 := B3.out.cell 1 (by omega)
      have d2 := B3.out.cell 2 (by omega)
      have d3 := B3.out.cell 3 (by omega)
      have d4 := B3.out.cell 4 (by omega)
      have d5 := B3.out.cell 5 (by omega)
      have f3 := B3.out.frozen
      go_wp2
      change bodyPost _ _ _ _ _ (lay6 wr (w.heap.size + 2) 0 r)
      have hp := B3.out.lay r
      have e0 := hp.cell 0 (by omega)
      have e1 := hp.cell 1 (by omega)
      have e2 := hp.cell 2 (by omega)
      have e3 := hp.cell 3 (by omega)
      have e4 := hp.cell 4 (by omega)
      have e5 := hp.cell 5 (by omega)
      refine bodyPost_ret (v := pkV r) (by unfold pkV pkA; simp [results, Tryz.results177, go_sem, e0, e1, e2, e3, e4, e5]) rfl ?_
      exact ⟨by rw [HR.out]; rfl, grown_new HG.out (lay6_grown _ _ _ _) (by omega)⟩
end Go.Proofs.YtlhkfafdioakeaaGreatDoor
/- Layings of the library for this program, in plain words. -/
namespace Go.Proofs.YtlhkfafdioakeaaGreatDoor
open Go.Shelf
def sortPk_ren : Go.Shelf.Ren := ⟨fun | 6 => 98 | 15 => 147 | 14 => 151 | 28 => 200 | 29 => 201 | 20 => 206 | 21 => 207 | 22 => 208 | 23 => 209 | 24 => 210 | 25 => 211 | 26 => 212 | 27 => 213 | 46 => 248 | 47 => 237 | 48 => 238 | 49 => 249 | 50 => 250 | 57 => 265 | n => n, fun | 22 => 29 | 24 => 46 | 25 => 192 | 3 => 3 | 39 => 238 | 0 => 0 | 53 => 132 | 55 => 285 | 4 => 4 | 46 => 277 | 45 => 276 | 50 => 281 | 5 => 5 | 9 => 9 | 66 => 308 | 70 => 153 | 76 => 324 | 77 => 325 | n => n, fun | n => n⟩
theorem sortPk : Go.Proofs.SlLaysF0.n6 Tryz.prog sortPk_ren := {
  mixed := by kernel_rfl,
  f6 := ⟨Tryz.f98.name, by decide, Tryz.func98.trans (congrArg some (by kernel_rfl))⟩,
  f14 := ⟨Tryz.f151.name, by decide, Tryz.func151.trans (congrArg some (by kernel_rfl))⟩,
  f15 := Tryz.func147.trans (congrArg some (by kernel_rfl)),
  f20 := ⟨Tryz.f206.name, by decide, Tryz.func206.trans (congrArg some (by kernel_rfl))⟩,
  f21 := ⟨Tryz.f207.name, by decide, Tryz.func207.trans (congrArg some (by kernel_rfl))⟩,
  f22 := ⟨Tryz.f208.name, by decide, Tryz.func208.trans (congrArg some (by kernel_rfl))⟩,
  f23 := ⟨Tryz.f209.name, by decide, Tryz.func209.trans (congrArg some (by kernel_rfl))⟩,
  f24 := ⟨Tryz.f210.name, by decide, Tryz.func210.trans (congrArg some (by kernel_rfl))⟩,
  f25 := ⟨Tryz.f211.name, by decide, Tryz.func211.trans (congrArg some (by kernel_rfl))⟩,
  f26 := ⟨Tryz.f212.name, by decide, Tryz.func212.trans (congrArg some (by kernel_rfl))⟩,
  f27 := ⟨Tryz.f213.name, by decide, Tryz.func213.trans (congrArg some (by kernel_rfl))⟩,
  f28 := Tryz.func200.trans (congrArg some (by kernel_rfl)),
  f29 := Tryz.func201.trans (congrArg some (by kernel_rfl)),
  f46 := ⟨Tryz.f248.name, by decide, Tryz.func248.trans (congrArg some (by kernel_rfl))⟩,
  f47 := Tryz.func237.trans (congrArg some (by kernel_rfl)),
  f48 := Tryz.func238.trans (congrArg some (by kernel_rfl)),
  f49 := ⟨Tryz.f249.name, by decide, Tryz.func249.trans (congrArg some (by kernel_rfl))⟩,
  f50 := ⟨Tryz.f250.name, by decide, Tryz.func250.trans (congrArg some (by kernel_rfl))⟩,
  f57 := ⟨Tryz.f265.name, by decide, Tryz.func265.trans (congrArg some (by kernel_rfl))⟩,
  t0 := Tryz.underlying0,
  a0 := Tryz.isAgg0,
  z0 := Tryz.sizeOf0,
  v0 := Tryz.zeroValue0,
  t3 := Tryz.underlying3,
  a3 := Tryz.isAgg3,
  z3 := Tryz.sizeOf3,
  v3 := Tryz.zeroValue3,
  t4 := Tryz.underlying4,
  a4 := Tryz.isAgg4,
  z4 := Tryz.sizeOf4,
  v4 := Tryz.zeroValue4,
  t5 := Tryz.underlying5,
  a5 := Tryz.isAgg5,
  z5 := Tryz.sizeOf5,
  v5 := Tryz.zeroValue5,
  t9 := Tryz.underlying9,
  a9 := Tryz.isAgg9,
  z9 := Tryz.sizeOf9,
  v9 := Tryz.zeroValue9,
  t22 := Tryz.underlying29,
  a22 := Tryz.isAgg29,
  z22 := Tryz.sizeOf29,
  v22 := Tryz.zeroValue29,
  t25 := Tryz.underlying192,
  a25 := Tryz.isAgg192,
  z25 := Tryz.sizeOf192,
  v25 := Tryz.zeroValue192,
  t39 := Tryz.underlying238,
  a39 := Tryz.isAgg238,
  z39 := Tryz.sizeOf238,
  v39 := Tryz.zeroValue238,
  t45 := Tryz.underlying276,
  a45 := Tryz.isAgg276,
  z45 := Tryz.sizeOf276,
  v45 := Tryz.zeroValue276,
  t46 := Tryz.underlying277,
  a46 := Tryz.isAgg277,
  z46 := Tryz.sizeOf277,
  v46 := Tryz.zeroValue277,
  t50 := Tryz.underlying281,
  a50 := Tryz.isAgg281,
  z50 := Tryz.sizeOf281,
  v50 := Tryz.zeroValue281,
  t53 := Tryz.underlying132,
  a53 := Tryz.isAgg132,
  z53 := Tryz.sizeOf132,
  v53 := Tryz.zeroValue132,
  t55 := Tryz.underlying285,
  a55 := Tryz.isAgg285,
  z55 := Tryz.sizeOf285,
  v55 := Tryz.zeroValue285,
  t66 := Tryz.underlying308,
  a66 := Tryz.isAgg308,
  z66 := Tryz.sizeOf308,
  v66 := Tryz.zeroValue308,
  t70 := Tryz.underlying153,
  a70 := Tryz.isAgg153,
  z70 := Tryz.sizeOf153,
  v70 := Tryz.zeroValue153,
  t76 := Tryz.underlying324,
  a76 := Tryz.isAgg324,
  z76 := Tryz.sizeOf324,
  v76 := Tryz.zeroValue324,
  t77 := Tryz.underlying325,
  a77 := Tryz.isAgg325,
  z77 := Tryz.sizeOf325,
  v77 := Tryz.zeroValue325 }
end Go.Proofs.YtlhkfafdioakeaaGreatDoor
/- Proved here: packet.Set makes a list into its set. -/
namespace Go.Proofs.YtlhkfafdioakeaaGreatDoor
open Go.RowKit
set_option linter.unusedVariables false
set_option linter.unusedSimpArgs false
/-- A packet's cells, as a list. -/
def pkCs (k : Nat → Int) : List Value := [.int .i64 (k 0), .int .i64 (k 1), .int .i64 (k 2), .int .i64 (k 3), .int .i64 (k 4), .int .i64 (k 5)]
theorem pkCs_get (k : Nat → Int) (i : Nat) (h : i < 6) : (pkCs k)[i]! = .int .i64 (k i) := by
  rcases (show i = 0 ∨ i = 1 ∨ i = 2 ∨ i = 3 ∨ i = 4 ∨ i = 5 by omega) with rfl | rfl | rfl | rfl | rfl | rfl <;> rfl
theorem cmp_swo : Sort.SWO (ltOf cmpP) where
  irrefl x := by simp [ltOf, cmpP_neg]; exact ltP.irrefl x
  trans x y z h1 h2 := by
    simp only [ltOf, decide_eq_true_eq, cmpP_neg] at *
    exact h1.trans h2
  ntrans x y z h1 h2 := by
    simp only [ltOf, decide_eq_false_iff_not, cmpP_neg] at *
    exact ltP.ntrans h1 h2
theorem cmp_lays (blk off size : Nat) (w : World) : CmpLays Tryz.prog 99 #[] pkCs 6 cmpP blk off size w := fun _ _ _ _ x y => compare_any x y _
/-- The row as an array. -/
def arr (n : Nat) (d : Nat → Nat → Int) : Array (Nat → Int) := (Array.range n).map d
theorem arr_size (n : Nat) (d : Nat → Nat → Int) : (arr n d).size = n := by simp [arr]
theorem arr_get (n : Nat) (d : Nat → Nat → Int) (j : Nat) (h : j < n) : (arr n d)[j]! = d j := by simp [arr, h]
theorem Own.holds {w : World} {g n cap : Nat} {d : Nat → Nat → Int} (h : Own w g n cap d) : Sort.HoldsK pkCs 6 w g 0 (arr n d) := by
  intro t ht
  rw [Sort.size_flatK, arr_size] at ht
  rw [Sort.get_flatK _ _ _ _ (by rw [arr_size]; exact ht), arr_get _ _ _ (by omega), pkCs_get _ _ (by omega), Nat.zero_add]
  refine ⟨?_, h.frozen _⟩
  have := h.cell (t / 6) (by omega) (t % 6) (by omega)
  rw [show t / 6 * 6 + t % 6 = t by omega] at this
  exact this
theorem Own.sorted {w : World} {g n cap : Nat} {d : Nat → Nat → Int} (h : Own w g n cap d) (m : Nat) (D : Array (Nat → Int)) (os : Array Obj) (hD : D.size = n) :
    Own (sortWorldK pkCs 6 w g 0 m D os) g n cap (fun j => D[j]!) ∧ w.grownBy (sortWorldK pkCs 6 w g 0 m D os) (some g) := by
  have hh := holdsK_sortWorldK_c pkCs 6 w g 0 (arr n d) D m os h.holds h.lt (by rw [arr_size]; exact hD)
  have hlt := h.lt
  constructor
  · obtain ⟨cur, h1, h2, h3, h4, h5⟩ := h
    have hb : (sortWorldK pkCs 6 w g 0 m D os).heap[g]? = some (.cells (Sort.putCells id 0 (Sort.flatK pkCs 6 D) cur) 46 (0, 0)) := by
      unfold sortWorldK Sort.putRowK
      show (((Sort.putRow id (Sort.ahead w m) g 0 (Sort.flatK pkCs 6 D)).heap) ++ os)[g]? = _
      rw [Array.getElem?_append_left (by simpa [Sort.ahead] using hlt)]
      simp [Sort.putRow, Sort.mapBlock, Sort.ahead, Array.getElem?_modify, h1, Sort.onCells]
    refine ⟨_, hb, by simp [Sort.putCells, h2], h3, h4, fun j hj i hi => ?_⟩
    have hc := (hh.cell (i := j) (c := i) (by omega) hi).1
    rw [pkCs_get _ _ hi, Nat.zero_add] at hc
    simp only [World.cell?, hb] at hc
    simpa using hc
  · refine ⟨rfl, rfl, rfl, by unfold sortWorldK Sort.putRowK; simp [Sort.ahead], fun k hk hne => ?_⟩
    unfold sortWorldK Sort.putRowK
    show (((Sort.putRow id (Sort.ahead w m) g 0 (Sort.flatK pkCs 6 D)).heap) ++ os)[k]? = _
    rw [Array.getElem?_append_left (by simpa [Sort.ahead] using hk)]
    have : g ≠ k := fun e => hne (by rw [e])
    simp [Sort.putRow, Sort.mapBlock, Sort.ahead, Array.getElem?_modify, this]
theorem sort_any (w : World) (g n cap : Nat) (d : Nat → Nat → Int) (h : Own w g n cap d) :
    Calls Tryz.prog 98 #[.slice (some ⟨g, 0, none⟩) n cap, .func (.func 99) #[] #[]] w fun e w' => e = .returned (.tuple #[]) ∧ ∃ D : Array (Nat → Int), D.size = n ∧ D.toList.Perm ((List.range n).map d) ∧ (∀ i j, i < j → j < n → ¬ ltP D[j]! D[i]!) ∧ Own w' g n cap (fun j => D[j]!) ∧ w.grownBy w' (some g) := by
  have eg : ∀ args w, (callFunc 99 args).run Tryz.prog w = .ok (.enter 99 args) w := enters_of Tryz.func99 (by kernel_rfl) rfl
  have hcap := h.cap
  have hcon := AnyQ.slices_SortFunc sortPk 6 Tryz.isAgg46 Tryz.sizeOf46 pkCs (fun _ => rfl) (fun x v hv => by
    simp [pkCs] at hv
    rcases hv with rfl | rfl | rfl | rfl | rfl | rfl <;> rfl) cmpP cmp_swo 99 #[] g 0 cap (arr n d) w eg (cmp_lays g 0 _ w) h.holds h.lt (by rw [arr_size]; omega)
  rw [arr_size] at hcon
  refine Calls.mono hcon ?_
  rintro e w' ⟨rfl, D, m, os, hp, hs, rfl⟩
  have hD : D.size = n := by rw [hp.1, arr_size]
  obtain ⟨o1, o2⟩ := h.sorted m D os hD
  refine ⟨rfl, D, hD, ?_, fun i j h1 h2 hl => ?_, o1, o2⟩
  · have := hp.2.2
    rw [show D.extract 0 n = D by rw [← hD]; simp, show (arr n d).extract 0 n = arr n d by apply Array.extract_eq_self_of_le; rw [arr_size]; exact Nat.le_refl _] at this
    simpa [arr] using this
  · have := hs i j (Nat.zero_le _) h1 h2
    simp only [ltOf, decide_eq_false_iff_not, cmpP_neg] at this
    exact this hl
/-- A row holds a list. -/
structure Is (l : List (Nat → Int)) (n : Nat) (d : Nat → Nat → Int) : Prop where
  len : l.length = n
  get : ∀ j, j < n → l[j]? = some (d j)
set_option maxRecDepth 100000 in
set_option maxHeartbeats 1000000 in
theorem set_any (w : World) (g n cap : Nat) (d : Nat → Nat → Int) (h : Own w g n cap d) (hn : ∀ j, j < n → Nm (d j)) :
    Calls Tryz.prog 160 #[.slice (some ⟨g, 0, none⟩) n cap] w fun e w' => ∃ m e', Is (setS ((List.range n).map d)) m e' ∧ e = .returned (.slice (some ⟨g, 0, none⟩) m cap) ∧ Own w' g m cap e' ∧ w.grownBy w' (some g) := by
  have HS := hide (sort_any w g n cap d h)
  have HN := hide hn
  clear h hn
  go_enter Tryz.func160, Tryz.ntmps160
  go_wp2_with fail
  refine HS.out.mono ?_
  rintro e w1 ⟨rfl, D, hD, hp, hs, ho, hg⟩
  have HD := hide hD
  have HP := hide hp
  have HSS := hide hs
  have HG := hide hg
  have HC := hide (compact_any w1 g n cap (fun j => D[j]!) ho)
  clear hD hp hs hg ho HS
  go_wp2_with fail
  refine HC.out.mono ?_
  rintro e w2 ⟨m, e', hI, rfl, ho2, hg2⟩
  have HI := hide hI
  have HO2 := hide ho2
  have HG2 := hide hg2
  clear hI ho2 hg2 HC
  go_wp2
  go_ret
  have hmem : ∀ x, x ∈ (List.range n).map d ↔ ∃ j, j < n ∧ x = D[j]! := by
    intro x
    rw [← HP.out.mem_iff]
    constructor
    · intro hx
      obtain ⟨j, hj, e⟩ := List.getElem_of_mem hx
      have hj' : j < D.size := by simpa using hj
      refine ⟨j, by rw [← HD.out]; exact hj', ?_⟩
      rw [← e, getElem!_pos D j hj']
      simp
    · rintro ⟨j, hj, rfl⟩
      have hj' : j < D.size := by rw [HD.out]; exact hj
      rw [getElem!_pos D j hj']
      exact Array.getElem_mem_toList hj'
  have hnm : ∀ x ∈ (List.range n).map d, Nm x := by
    intro x hx
    simp only [List.mem_map, List.mem_range] at hx
    obtain ⟨j, hj, rfl⟩ := hx
    exact HN.out j hj
  have hset := compN_set (d := fun j => D[j]!) (n := n) (l := (List.range n).map d) (fun j hj => hnm _ ((hmem _).2 ⟨j, hj, rfl⟩)) HSS.out hnm hmem
  exact ⟨m, e', ⟨by rw [← hset]; exact HI.out.len, fun j hj => by rw [← hset]; exact HI.out.low j hj⟩, rfl, HO2.out, grown_trans HG.out HG2.out⟩
end Go.Proofs.YtlhkfafdioakeaaGreatDoor
/- Proved here: what the program's Lookup answers: of the first rule that matches, the set of what its actions make. -/
namespace Go.Proofs.YtlhkfafdioakeaaGreatDoor
open Go.RowKit
set_option linter.unusedVariables false
set_option linter.unusedSimpArgs false
/-- A list of packets in a world, wherever an empty one may lie. -/
def PkR (w : World) (v : Value) (n : Nat) (ps : Nat → Nat → Int) : Prop :=
  (∃ a c, v = .slice a 0 c ∧ n = 0 ∧ (a = none → c = 0)) ∨ ∃ g off cap, v = .slice (some ⟨g, off, none⟩) n cap ∧ n ≤ 3000000000000 ∧ ∀ j, j < n → ∀ i, i < 6 → w.cell? ⟨g, off + j * 6 + i, none⟩ = some (.int .i64 (ps j i))
theorem PkR.slice {w : World} {v : Value} {n : Nat} {ps : Nat → Nat → Int} (h : PkR w v n ps) : ∃ a cap, v = .slice a n cap := by
  rcases h with ⟨a, c, rfl, rfl, _⟩ | ⟨g, off, cap, rfl, _⟩
  · exact ⟨_, _, rfl⟩
  · exact ⟨_, _, rfl⟩
theorem PkR.few {w : World} {v : Value} {n : Nat} {ps : Nat → Nat → Int} (h : PkR w v n ps) : n ≤ 3000000000000 := by
  rcases h with ⟨a, c, rfl, rfl, _⟩ | ⟨g, off, cap, rfl, h, _⟩ <;> omega
theorem PkR.grown {w w' : World} {v : Value} {n : Nat} {ps : Nat → Nat → Int} (h : PkR w v n ps) (hg : w.grownBy w' none) : PkR w' v n ps := by
  rcases h with h | ⟨g, off, cap, h1, h2, h3⟩
  · exact .inl h
  · exact .inr ⟨g, off, cap, h1, h2, fun j hj i hi => hg.cell (h3 j hj i hi) (by simp)⟩
theorem PkRow.any {w : World} {v : Value} {n : Nat} {ps : Nat → Nat → Int} (h : PkRow w v n ps) : PkR w v n ps := by
  rcases h with ⟨h1, h2⟩ | h
  · exact .inl ⟨none, 0, h1, h2, fun _ => rfl⟩
  · exact .inr h
theorem PkR.cong {w : World} {v : Value} {n : Nat} {ps qs : Nat → Nat → Int} (h : PkR w v n ps) (he : ∀ j, j < n → ∀ i, i < 6 → ps j i = qs j i) : PkR w v n qs := by
  rcases h with h | ⟨g, off, cap, h1, h2, h3⟩
  · exact .inl h
  · exact .inr ⟨g, off, cap, h1, h2, fun j hj i hi => by rw [← he j hj i hi]; exact h3 j hj i hi⟩
theorem Tryz.infoPk6 : (Tryz.prog.info? 46).map (fun i => (i.zero, i.size, i.bytes)) = some (some (pkV fun _ => 0), 6, 48) := by kernel_rfl
theorem madePk (n : Nat) (j i : Nat) (hj : j < n) (hi : i < 6) : (madeCells (pkA fun _ => 0) (n * 6))[j * 6 + i]? = some (.int .i64 0) := by
  unfold madeCells
  rw [Array.getElem?_map, Array.getElem?_range, if_pos (by omega)]
  simp only [Option.map_some]
  rw [show (pkA fun _ => 0).size = 6 from rfl, show (j * 6 + i) % 6 = i by omega]
  rcases (show i = 0 ∨ i = 1 ∨ i = 2 ∨ i = 3 ∨ i = 4 ∨ i = 5 by omega) with rfl | rfl | rfl | rfl | rfl | rfl <;> rfl
theorem Own.made (w : World) (n : Nat) (hn : n ≤ 3000000000000) : Own (w.alloc (.cells (madeCells (pkA fun _ => 0) (n * 6)) 46)) w.heap.size n n (fun _ _ => 0) :=
  ⟨_, heap_alloc_new w _, size_madeCells _ _, Nat.le_refl _, ⟨by omega, hn⟩, fun j hj i hi => madePk n j i hj hi⟩
theorem run_makePk (u : World) (n : Nat) (hn : n ≤ 3000000000000) : (Instr.makeSlice 29 (.int .i64 (n : Int)) (.int .i64 (n : Int))).run Tryz.prog u = .ok (.slice (some ⟨u.heap.size, 0, none⟩) n n) (u.alloc (.cells (madeCells (pkA fun _ => 0) (n * 6)) 46)) := by
  obtain ⟨i0, hi, hz0, hz1, hz2⟩ := info_parts Tryz.infoPk6
  have h := run_make (P := Tryz.prog) u 29 46 i0 (pkV fun _ => 0) Tryz.underlying29 hi hz0 .i64 .i64 (n : Int) (n : Int) (by omega) (Int.le_refl _) (by rw [hz2]; omega) (by omega)
  rw [Int.toNat_natCast, hz1] at h
  exact h
theorem pkA_eq (k : Nat → Int) : pkA k = #[.int .i64 (k 0), .int .i64 (k 1), .int .i64 (k 2), .int .i64 (k 3), .int .i64 (k 4), .int .i64 (k 5)] := rfl
set_option maxRecDepth 100000 in
set_option maxHeartbeats 2000000 in
theorem made_any (v : Value) (n : Nat) (ps : Nat → Nat → Int) (k : Nat → Int) (w : World) (h : PkR w v n ps) (hk : Nm k) :
    Calls Tryz.prog 107 #[v, pkV k] w fun e w' => ∃ g m cap e', w.heap.size ≤ g ∧ Is (setS ((List.range n).map fun j => actS (ps j) k)) m e' ∧ e = .returned (.slice (some ⟨g, 0, none⟩) m cap) ∧ Own w' g m cap e' ∧ w.grownBy w' none := by
  obtain ⟨a, ca, rfl⟩ := h.slice
  have hn := h.few
  have HP := hide h
  have HK := hide hk
  clear h hk
  obtain ⟨w1, hw1⟩ : ∃ w1, w1 = w.alloc (.cells (pkA k) 46) := ⟨_, rfl⟩
  have B1 : pkBlk w1 w.heap.size k := by rw [hw1]; exact pkBlk.alloc w k
  have G1 : w.grownBy w1 none := by rw [hw1]; exact World.grownBy_alloc _ _ _
  have z1 : w1.heap.size = w.heap.size + 1 := by rw [hw1]; simp
  obtain ⟨w2, hw2⟩ : ∃ w2, w2 = w1.alloc (.cells (madeCells (pkA fun _ => 0) (n * 6)) 46) := ⟨_, rfl⟩
  have B2 : Hid (pkBlk w2 w.heap.size k) := by rw [hw2]; exact B1.grown (World.grownBy_alloc _ _ none) (by simp)
  have O2 : Hid (Own w2 (w.heap.size + 1) n n (fun _ _ => 0)) := by rw [hw2, ← z1]; exact Own.made w1 n hn
  have G2 : Hid (w.grownBy w2 none) := by rw [hw2]; exact grown_trans G1 (World.grownBy_alloc _ _ _)
  have hmk : ∀ ww, (Instr.makeSlice 29 (.int .i64 (n : Int)) (.int .i64 (n : Int))).run Tryz.prog ww = .ok (.slice (some ⟨ww.heap.size, 0, none⟩) n n) (ww.alloc (.cells (madeCells (pkA fun _ => 0) (n * 6)) 46)) := fun ww => run_makePk ww n hn
  obtain ⟨mc, hmc⟩ : ∃ mc, mc = madeCells (pkA fun _ => 0) (n * 6) := ⟨_, rfl⟩
  rw [← hmc] at hw2
  simp only [← hmc] at hmk
  clear hmc B1 G1
  unfold pkA at hw1
  unfold pkV pkA
  go_enter Tryz.func107, Tryz.ntmps107
  go_wp2
  rw [← hw1, ← hw2]
  clear hw1 hw2 hmk
  have hzz : w.heap.size + 1 = w1.heap.size := z1.symm
  try rw [← hzz]
  clear hzz z1
  go_loopw [13] (fun i wr => ∃ j : Nat, j ≤ n ∧ i = .int .i64 j ∧ pkBlk wr w.heap.size k ∧ Own wr (w.heap.size + 1) n n (fun t => if t < j then actS (ps t) k else fun _ => 0) ∧ w.grownBy wr none) (fun i _ => n - (intOf i).toNat)
  case atStart => exact ⟨0, by omega, rfl, B2.out, O2.out, G2.out⟩
  case round =>
    obtain ⟨j, hj, rfl, hb, ho, hg⟩ := hrel
    clear B2 O2 G2
    obtain ⟨E, hE⟩ : ∃ E : Nat → Nat → Int, E = fun t => if t < j then actS (ps t) k else fun _ => 0 := ⟨_, rfl⟩
    rw [← hE] at ho
    have HE := hide hE
    clear hE
    have HB := hide hb
    have HO := hide ho
    have HG := hide hg
    clear hb ho hg
    by_cases hlt : j < n
    · rcases HP.out with ⟨_, _, _, h0, _⟩ | ⟨g, off, cap', hv, _, hcell⟩
      · omega
      cases hv
      obtain ⟨x, hx⟩ : ∃ x, x = ps j := ⟨_, rfl⟩
      have cc : ∀ i, i < 6 → wr.cell? ⟨g, off + j * 6 + i, none⟩ = some (.int .i64 (x i)) := fun i hi => by rw [hx]; exact HG.out.cell (hcell j hlt i hi) (by simp)
      have c0 := cc 0 (by omega)
      have c1 := cc 1 (by omega)
      have c2 := cc 2 (by omega)
      have c3 := cc 3 (by omega)
      have c4 := cc 4 (by omega)
      have c5 := cc 5 (by omega)
      rw [Nat.add_zero] at c0
      have d0 := HB.out.cell 0 (by omega)
      have d1 := HB.out.cell 1 (by omega)
      have d2 := HB.out.cell 2 (by omega)
      have d3 := HB.out.cell 3 (by omega)
      have d4 := HB.out.cell 4 (by omega)
      have d5 := HB.out.cell 5 (by omega)
      have hzz : w.heap.size < wr.heap.size := (Array.getElem?_eq_some_iff.1 HB.out).1
      have HX := hide hx
      clear cc hcell hx
      have hltI : (j : Int) < n := by omega
      obtain ⟨wa, hwa⟩ : ∃ wa, wa = wr.alloc (.cells (pkA x) 46) := ⟨_, rfl⟩
      have GA : wr.grownBy wa none := by rw [hwa]; exact World.grownBy_alloc _ _ _
      have HA := hide (act_any x k wa)
      unfold pkA at hwa
      unfold pkV pkA at HA
      go_wp2_with fail
      rw [← hwa]
      clear hwa c0 c1 c2 c3 c4 c5 d0 d1 d2 d3 d4 d5 hzz
      refine HA.out.mono ?_
      rintro e w3 ⟨rfl, hg3⟩
      have B3 := hide (HB.out.grown (grown_trans GA hg3) (by simp))
      have O3 := hide (HO.out.grown (grown_trans GA hg3) (by simp))
      have G3 := hide (grown_trans HG.out (grown_trans GA hg3))
      clear GA hg3 HA HB HO HG
      obtain ⟨y, hy⟩ : ∃ y, y = actS x k := ⟨_, rfl⟩
      rw [← hy]
      have HY := hide hy
      clear hy
      have f0 : w3.cell? ⟨w.heap.size + 1, j * 6, none⟩ = some (.int .i64 (E j 0)) := O3.out.cell j hlt 0 (by omega)
      have f1 := O3.out.cell j hlt 1 (by omega)
      have f2 := O3.out.cell j hlt 2 (by omega)
      have f3 := O3.out.cell j hlt 3 (by omega)
      have f4 := O3.out.cell j hlt 4 (by omega)
      have f5 := O3.out.cell j hlt 5 (by omega)
      have fz := O3.out.frozen
      go_wp2_with fail
      have hop := O3.out.put j hlt y
      have hop2 : Own (lay6 w3 (w.heap.size + 1) (j * 6) y) (w.heap.size + 1) n n (fun t => if t < j + 1 then actS (ps t) k else fun _ => 0) := hop.cong (fun t ht i hi => by
        by_cases e : t = j
        · subst e; rw [if_pos rfl, if_pos (by omega), HY.out, HX.out]
        · rw [if_neg e, HE.out]
          show (if t < j then actS (ps t) k else fun _ => 0) i = (if t < j + 1 then actS (ps t) k else fun _ => 0) i
          by_cases e2 : t < j
          · rw [if_pos e2, if_pos (by omega)]
          · rw [if_neg e2, if_neg (by omega)])
      exact ⟨⟨j + 1, by omega, by go_num, B3.out.grown (lay6_grown _ _ _ _) (by simp), hop2, grown_new G3.out (lay6_grown _ _ _ _) (by omega)⟩, by simp [intOf]; omega⟩
    · obtain rfl : j = n := by omega
      have HS := hide (set_any wr (w.heap.size + 1) j j E HO.out (fun t ht => by
        rw [HE.out]
        show Nm (if t < j then actS (ps t) k else fun _ => 0)
        rw [if_pos ht]
        exact actS_nm HK.out))
      go_wp2_with fail
      refine HS.out.mono ?_
      rintro e w4 ⟨m, e', hI, rfl, ho, hg⟩
      have HI := hide hI
      have HO4 := hide ho
      have HG4 := hide hg
      clear hI ho hg HS
      go_wp2
      go_ret
      refine ⟨w.heap.size + 1, m, j, e', by omega, ?_, rfl, HO4.out, grown_new HG.out HG4.out (by omega)⟩
      have hm : (List.range j).map E = (List.range j).map fun t => actS (ps t) k := by
        apply List.map_congr_left
        intro t ht
        rw [HE.out]
        show (if t < j then actS (ps t) k else fun _ => 0) = actS (ps t) k
        rw [if_pos (List.mem_range.1 ht)]
      have := HI.out
      rw [hm] at this
      exact this
end Go.Proofs.YtlhkfafdioakeaaGreatDoor
/- Proved here: what the program's Lookup answers, in any rules. -/
namespace Go.Proofs.YtlhkfafdioakeaaGreatDoor
open Go.RowKit
set_option linter.unusedVariables false
set_option linter.unusedSimpArgs false
theorem says_cases {p : Prop} {w w' : World} {e : Ending} (h : Says p w e w') : ((p ∧ e = .returned (.bool true)) ∨ (¬ p ∧ e = .returned (.bool false))) ∧ w.grownBy w' none := by
  obtain ⟨⟨b, rfl, hb⟩, hg⟩ := h
  refine ⟨?_, hg⟩
  cases b
  · exact .inr ⟨fun hp => by simpa using hb.2 hp, rfl⟩
  · exact .inl ⟨hb.1 rfl, rfl⟩
/-- A rule: its priority, its match, its actions, and where these lie. -/
structure Rl where
  prio : Int
  mt : Nat → Int
  na : Nat
  acts : Nat → Nat → Int
  av : Value
/-- A list of rules in a world. -/
def RlRow (w : World) (v : Value) (n : Nat) (rs : Nat → Rl) : Prop :=
  (∃ a c, v = .slice a 0 c ∧ n = 0) ∨ ∃ g off cap, v = .slice (some ⟨g, off, none⟩) n cap ∧ n ≤ 3000000000000 ∧ ∀ j, j < n → w.cell? ⟨g, off + j * 8, none⟩ = some (.int .i64 (rs j).prio) ∧ (∀ i, i < 6 → w.cell? ⟨g, off + j * 8 + (1 + i), none⟩ = some (.int .i64 ((rs j).mt i))) ∧ w.cell? ⟨g, off + j * 8 + 7, none⟩ = some (rs j).av ∧ PkR w (rs j).av (rs j).na (rs j).acts
theorem RlRow.slice {w : World} {v : Value} {n : Nat} {rs : Nat → Rl} (h : RlRow w v n rs) : ∃ a cap, v = .slice a n cap := by
  rcases h with ⟨a, c, rfl, rfl⟩ | ⟨g, off, cap, rfl, _⟩
  · exact ⟨_, _, rfl⟩
  · exact ⟨_, _, rfl⟩
theorem RlRow.few {w : World} {v : Value} {n : Nat} {rs : Nat → Rl} (h : RlRow w v n rs) : n ≤ 3000000000000 := by
  rcases h with ⟨a, c, rfl, rfl⟩ | ⟨g, off, cap, rfl, h, _⟩ <;> omega
theorem RlRow.grown {w w' : World} {v : Value} {n : Nat} {rs : Nat → Rl} (h : RlRow w v n rs) (hg : w.grownBy w' none) : RlRow w' v n rs := by
  rcases h with h | ⟨g, off, cap, h1, h2, h3⟩
  · exact .inl h
  · exact .inr ⟨g, off, cap, h1, h2, fun j hj => ⟨hg.cell (h3 j hj).1 (by simp), fun i hi => hg.cell ((h3 j hj).2.1 i hi) (by simp), hg.cell (h3 j hj).2.2.1 (by simp), (h3 j hj).2.2.2.grown hg⟩⟩
/-- What a Lookup answers. -/
def LkS (rs : Nat → Rl) (n : Nat) (k : Nat → Int) (L : List (Nat → Int)) (b : Bool) : Prop :=
  (∃ j, j < n ∧ (∀ t, t < j → ¬ matchS (rs t).mt k) ∧ matchS (rs j).mt k ∧ L = setS ((List.range (rs j).na).map fun t => actS ((rs j).acts t) k) ∧ b = true) ∨ ((∀ t, t < n → ¬ matchS (rs t).mt k) ∧ L = [] ∧ b = false)
theorem LkS.one {rs : Nat → Rl} {n : Nat} {k : Nat → Int} {L M : List (Nat → Int)} {b c : Bool} (h : LkS rs n k L b) (g : LkS rs n k M c) : L = M ∧ b = c := by
  rcases h with ⟨j, h1, h2, h3, h4, h5⟩ | ⟨h1, h2, h3⟩ <;> rcases g with ⟨i, g1, g2, g3, g4, g5⟩ | ⟨g1, g2, g3⟩
  · have e : j = i := by
      rcases Nat.lt_trichotomy j i with e | e | e
      · exact absurd h3 (g2 j e)
      · exact e
      · exact absurd g3 (h2 i e)
    subst e
    exact ⟨by rw [h4, g4], by rw [h5, g5]⟩
  · exact absurd h3 (g1 j h1)
  · exact absurd g3 (h1 i g1)
  · exact ⟨by rw [h2, g2], by rw [h3, g3]⟩
/-- A list in new memory of its own. -/
def OwnV (B : Nat) (w : World) (v : Value) (n : Nat) (d : Nat → Nat → Int) : Prop :=
  (v = .slice none 0 0 ∧ n = 0) ∨ ∃ g cap, B ≤ g ∧ v = .slice (some ⟨g, 0, none⟩) n cap ∧ Own w g n cap d
/-- What Lookup comes to. -/
def LkOut (rs : Nat → Rl) (n : Nat) (k : Nat → Int) (w : World) (e : Ending) (w' : World) : Prop :=
  ∃ L b v m d, LkS rs n k L b ∧ Is L m d ∧ OwnV w.heap.size w' v m d ∧ e = .returned (.tuple #[v, .bool b]) ∧ w.grownBy w' none
/-- A block that holds a rule. -/
def rlA (p : Int) (mt : Nat → Int) (v : Value) : Array Value := #[.int .i64 p, .int .i64 (mt 0), .int .i64 (mt 1), .int .i64 (mt 2), .int .i64 (mt 3), .int .i64 (mt 4), .int .i64 (mt 5), v]
set_option maxRecDepth 100000 in
set_option maxHeartbeats 2000000 in
theorem tLookup_any (v : Value) (n : Nat) (rs : Nat → Rl) (k : Nat → Int) (w : World) (h : RlRow w v n rs) (hk : Nm k) :
    Calls Tryz.prog 65 #[v, pkV k] w (LkOut rs n k w) := by
  obtain ⟨a, ca, rfl⟩ := h.slice
  have hn := h.few
  have HP := hide h
  have HK := hide hk
  clear h hk
  have HQ : Hid (∀ e w', LkOut rs n k w e w' ↔ ∃ L b v m d, LkS rs n k L b ∧ Is L m d ∧ OwnV w.heap.size w' v m d ∧ e = .returned (.tuple #[v, .bool b]) ∧ w.grownBy w' none) := fun _ _ => Iff.rfl
  generalize LkOut rs n k w = Q at HQ ⊢
  obtain ⟨w1, hw1⟩ : ∃ w1, w1 = w.alloc (.cells (pkA k) 46) := ⟨_, rfl⟩
  have B1 : Hid (pkBlk w1 w.heap.size k) := by rw [hw1]; exact pkBlk.alloc w k
  have G1 : Hid (w.grownBy w1 none) := by rw [hw1]; exact World.grownBy_alloc _ _ _
  unfold pkA at hw1
  unfold pkV pkA
  go_enter Tryz.func65, Tryz.ntmps65
  go_wp2
  rw [← hw1]
  clear hw1
  go_loopw [10] (fun i wr => ∃ j : Nat, j ≤ n ∧ i = .int .i64 j ∧ (∀ t, t < j → ¬ matchS (rs t).mt k) ∧ pkBlk wr w.heap.size k ∧ w.grownBy wr none) (fun i _ => n - (intOf i).toNat)
  case atStart => exact ⟨0, by omega, rfl, fun t ht => by omega, B1.out, G1.out⟩
  case round =>
    obtain ⟨j, hj, rfl, hno, hb, hg⟩ := hrel
    clear B1 G1
    have HNO := hide hno
    have HB := hide hb
    have HG := hide hg
    clear hno hb hg
    by_cases hlt : j < n
    · rcases HP.out with ⟨_, _, _, h0⟩ | ⟨g, off, cap', hv, _, hcell⟩
      · omega
      cases hv
      obtain ⟨cp, cm, cv, cr⟩ := hcell j hlt
      obtain ⟨p, hp⟩ : ∃ p, p = (rs j).prio := ⟨_, rfl⟩
      obtain ⟨x, hx⟩ : ∃ x, x = (rs j).mt := ⟨_, rfl⟩
      obtain ⟨av, hav⟩ : ∃ av, av = (rs j).av := ⟨_, rfl⟩
      rw [← hp] at cp
      rw [← hx] at cm
      rw [← hav] at cv cr
      obtain ⟨aa, ac, haa⟩ := cr.slice
      rw [haa] at cv cr
      have c0 : wr.cell? ⟨g, off + j * 8, none⟩ = some (.int .i64 p) := HG.out.cell cp (by simp)
      have cc : ∀ i, i < 6 → wr.cell? ⟨g, off + j * 8 + (1 + i), none⟩ = some (.int .i64 (x i)) := fun i hi => HG.out.cell (cm i hi) (by simp)
      have c1 : wr.cell? ⟨g, off + j * 8 + 1, none⟩ = some (.int .i64 (x 0)) := cc 0 (by omega)
      have c2 : wr.cell? ⟨g, off + j * 8 + 2, none⟩ = some (.int .i64 (x 1)) := cc 1 (by omega)
      have c3 : wr.cell? ⟨g, off + j * 8 + 3, none⟩ = some (.int .i64 (x 2)) := cc 2 (by omega)
      have c4 : wr.cell? ⟨g, off + j * 8 + 4, none⟩ = some (.int .i64 (x 3)) := cc 3 (by omega)
      have c5 : wr.cell? ⟨g, off + j * 8 + 5, none⟩ = some (.int .i64 (x 4)) := cc 4 (by omega)
      have c6 : wr.cell? ⟨g, off + j * 8 + 6, none⟩ = some (.int .i64 (x 5)) := cc 5 (by omega)
      obtain ⟨N, hN⟩ : ∃ N, N = (rs j).na := ⟨_, rfl⟩
      rw [← hN] at cv cr
      have c7 : wr.cell? ⟨g, off + j * 8 + 7, none⟩ = some (.slice aa N ac) := HG.out.cell cv (by simp)
      have HCR := hide cr
      have HE : Hid (x = (rs j).mt ∧ N = (rs j).na) := ⟨hx, hN⟩
      clear cp cm cv cr cc hcell hp hx hav haa hN
      have d0 := HB.out.cell 0 (by omega)
      have d1 := HB.out.cell 1 (by omega)
      have d2 := HB.out.cell 2 (by omega)
      have d3 := HB.out.cell 3 (by omega)
      have d4 := HB.out.cell 4 (by omega)
      have d5 := HB.out.cell 5 (by omega)
      have hzz : w.heap.size < wr.heap.size := (Array.getElem?_eq_some_iff.1 HB.out).1
      have hltI : (j : Int) < n := by omega
      obtain ⟨wa, hwa⟩ : ∃ wa, wa = wr.alloc (.cells (rlA p x (.slice aa N ac)) 68) := ⟨_, rfl⟩
      have GA : wr.grownBy wa none := by rw [hwa]; exact World.grownBy_alloc _ _ _
      have RA : wa.heap[wr.heap.size]? = some (.cells (rlA p x (.slice aa N ac)) 68 (0, 0)) := by rw [hwa]; exact heap_alloc_new _ _
      have HA := hide (matches_any x k wa)
      unfold rlA at hwa
      unfold pkV pkA at HA
      go_wp2_with fail
      rw [← hwa]
      clear hwa c0 c1 c2 c3 c4 c5 c6 c7 d0 d1 d2 d3 d4 d5 hzz
      refine HA.out.mono ?_
      rintro e w3 hsay
      obtain ⟨hs, hg3⟩ := says_cases hsay
      clear hsay HA
      have B3 := hide (HB.out.grown (grown_trans GA hg3) (by simp))
      have G3 := hide (grown_trans HG.out (grown_trans GA hg3))
      have R3 : w3.cell? ⟨wr.heap.size, 7, none⟩ = some (.slice aa N ac) := by
        refine hg3.cell ?_ (by simp)
        simp only [World.cell?, RA]
        rfl
      have C3 := hide ((HCR.out.grown HG.out).grown (grown_trans GA hg3))
      clear GA RA hg3 HB HG HCR
      rcases hs with ⟨hm, rfl⟩ | ⟨hm, rfl⟩
      · have HM := hide hm
        clear hm
        have d0 := B3.out.cell 0 (by omega)
        have d1 := B3.out.cell 1 (by omega)
        have d2 := B3.out.cell 2 (by omega)
        have d3 := B3.out.cell 3 (by omega)
        have d4 := B3.out.cell 4 (by omega)
        have d5 := B3.out.cell 5 (by omega)
        have HMA := hide (made_any _ N _ k w3 C3.out HK.out)
        unfold pkV pkA at HMA
        go_wp2_with fail
        clear d0 d1 d2 d3 d4 d5 R3
        refine HMA.out.mono ?_
        rintro e w4 ⟨gg, m, cap, e', hgg, hI, rfl, ho, hg4⟩
        have HI := hide hI
        have HO := hide ho
        have HG4 := hide hg4
        have HGG := hide hgg
        clear hI ho hg4 hgg HMA
        go_wp2
        have hsz := G3.out.size
        refine (HQ.out _ _).2 ⟨_, true, _, m, e', .inl ⟨j, hlt, HNO.out, ?_, rfl, rfl⟩, ?_, .inr ⟨gg, cap, ?_, rfl, HO.out⟩, rfl, grown_trans G3.out HG4.out⟩
        · rw [← HE.out.1]; exact HM.out
        · rw [← HE.out.2]; exact HI.out
        · have := HGG.out; omega
      · have HM := hide hm
        clear hm
        go_wp2
        go_roundw
        case rel => exact ⟨j + 1, by omega, by go_num, fun t ht => by
          by_cases e : t = j
          · subst e; rw [← HE.out.1]; exact HM.out
          · exact HNO.out t (by omega), B3.out, G3.out⟩
        case measure => simp [intOf]; omega
    · obtain rfl : j = n := by omega
      go_wp2
      exact (HQ.out _ _).2 ⟨[], false, .slice none 0 0, 0, fun _ _ => 0, .inr ⟨HNO.out, rfl, rfl⟩, ⟨rfl, fun j hj => by omega⟩, .inl ⟨rfl, rfl⟩, rfl, HG.out⟩
set_option maxRecDepth 100000 in
set_option maxHeartbeats 1000000 in
theorem wLookup_any (v : Value) (n : Nat) (rs : Nat → Rl) (k : Nat → Int) (w : World) (h : RlRow w v n rs) (hk : Nm k) :
    Calls Tryz.prog 37 #[v, pkV k] w (LkOut rs n k w) := by
  obtain ⟨a, ca, rfl⟩ := h.slice
  have HL : Hid (∀ wx, w.grownBy wx none → Calls Tryz.prog 65 #[.slice a n ca, pkV k] wx (LkOut rs n k wx)) := fun wx hg => tLookup_any _ n rs k wx (h.grown hg) hk
  clear h hk
  have HQ : Hid (∀ e w', LkOut rs n k w e w' ↔ ∃ L b v m d, LkS rs n k L b ∧ Is L m d ∧ OwnV w.heap.size w' v m d ∧ e = .returned (.tuple #[v, .bool b]) ∧ w.grownBy w' none) := fun _ _ => Iff.rfl
  generalize LkOut rs n k w = Q at HQ ⊢
  unfold pkV pkA at *
  go_enter Tryz.func37, Tryz.ntmps37
  go_wp2_with fail
  refine (HL.out _ (World.grownBy_alloc _ _ _)).mono ?_
  rintro e w1 ⟨L, b, v, m, d, hS, hI, hO, rfl, hg⟩
  have HS := hide hS
  have HI := hide hI
  have HG := hide hg
  have HO : Hid (OwnV w.heap.size w1 v m d) := by
    rcases hO with h | ⟨g, cap, h1, h2, h3⟩
    · exact .inl h
    · refine .inr ⟨g, cap, ?_, h2, h3⟩
      have : w.heap.size ≤ (w.alloc (.cells #[.int .i64 (k 0), .int .i64 (k 1), .int .i64 (k 2), .int .i64 (k 3), .int .i64 (k 4), .int .i64 (k 5)] 46)).heap.size := by simp
      omega
  clear hS hI hO hg
  go_wp2
  exact (HQ.out _ _).2 ⟨L, b, v, m, d, HS.out, HI.out, HO.out, rfl, grown_trans (World.grownBy_alloc _ _ _) HG.out⟩
end Go.Proofs.YtlhkfafdioakeaaGreatDoor
/- Proved here: appending packets; which of two packets is less, what a rule matches, a set with a packet more: the document's. -/
namespace Go.Proofs.YtlhkfafdioakeaaGreatDoor
open Go.RowKit
set_option linter.unusedVariables false
set_option linter.unusedSimpArgs false
/-- The cells of so many packets. -/
def fl (ps : Nat → Nat → Int) : Nat → List Value
  | 0 => []
  | n + 1 => fl ps n ++ pkCs (ps n)
theorem fl_len (ps : Nat → Nat → Int) : ∀ n, (fl ps n).length = n * 6
  | 0 => rfl
  | n + 1 => by rw [fl, List.length_append, fl_len ps n]; simp [pkCs]; omega
theorem pkCs_get? (k : Nat → Int) (i : Nat) (h : i < 6) : (pkCs k)[i]? = some (.int .i64 (k i)) := by
  rcases (show i = 0 ∨ i = 1 ∨ i = 2 ∨ i = 3 ∨ i = 4 ∨ i = 5 by omega) with rfl | rfl | rfl | rfl | rfl | rfl <;> rfl
theorem fl_get (ps : Nat → Nat → Int) : ∀ n j i, j < n → i < 6 → (fl ps n)[j * 6 + i]? = some (.int .i64 (ps j i))
  | 0, _, _, h, _ => by omega
  | n + 1, j, i, h, hi => by
    rw [fl]
    by_cases e : j = n
    · subst e
      rw [List.getElem?_append_right (by rw [fl_len]; omega), fl_len, show j * 6 + i - j * 6 = i by omega, pkCs_get? _ _ hi]
    · rw [List.getElem?_append_left (by rw [fl_len]; omega)]
      exact fl_get ps n j i (by omega) hi
theorem fl_one (ps : Nat → Nat → Int) (n : Nat) : ∀ v ∈ fl ps n, v.oneCell' = true := by
  induction n with
  | zero => intro v hv; simp [fl] at hv
  | succ n ih =>
    intro v hv
    rw [fl, List.mem_append] at hv
    rcases hv with h | h
    · exact ih v h
    · simp [pkCs] at h
      rcases h with rfl | rfl | rfl | rfl | rfl | rfl <;> rfl
theorem fl_cong {ps qs : Nat → Nat → Int} : ∀ {n : Nat}, (∀ j, j < n → ∀ i, i < 6 → ps j i = qs j i) → fl ps n = fl qs n
  | 0, _ => rfl
  | n + 1, h => by
    rw [fl, fl, fl_cong (n := n) (fun j hj => h j (by omega))]
    unfold pkCs
    rw [h n (by omega) 0 (by omega), h n (by omega) 1 (by omega), h n (by omega) 2 (by omega), h n (by omega) 3 (by omega), h n (by omega) 4 (by omega), h n (by omega) 5 (by omega)]
/-- Two rows, one behind the other. -/
def cat (n : Nat) (ps qs : Nat → Nat → Int) : Nat → Nat → Int := fun j => if j < n then ps j else qs (j - n)
theorem fl_cat (ps qs : Nat → Nat → Int) (n : Nat) : ∀ m, fl (cat n ps qs) (n + m) = fl ps n ++ fl qs m
  | 0 => by
    rw [Nat.add_zero, fl, List.append_nil]
    exact fl_cong (fun j hj i hi => by unfold cat; rw [if_pos hj])
  | m + 1 => by
    rw [← Nat.add_assoc, fl, fl_cat ps qs n m, fl, List.append_assoc]
    unfold cat
    rw [if_neg (by omega), Nat.add_sub_cancel_left]
theorem OwnV.owns {B : Nat} {w : World} {v : Value} {n : Nat} {d : Nat → Nat → Int} (h : OwnV B w v n d) : w.ownsRow B 46 6 v n (fl d n) := by
  rcases h with ⟨rfl, rfl⟩ | ⟨g, cap, h1, rfl, cur, g1, g2, g3, g4, g5⟩
  · exact ⟨rfl, .inl ⟨rfl, rfl⟩⟩
  · refine ⟨fl_len d n, .inr ⟨g, cap, cur, rfl, h1, g1, g3, by unfold maxLen; omega, g2, ?_⟩⟩
    apply List.ext_getElem?
    intro t
    by_cases ht : t < n * 6
    · rw [List.getElem?_take_of_lt ht, Array.getElem?_toList]
      have h1 := g5 (t / 6) (by omega) (t % 6) (by omega)
      have h2 := fl_get d n (t / 6) (t % 6) (by omega) (by omega)
      rw [show t / 6 * 6 + t % 6 = t by omega] at h1 h2
      rw [h1, h2]
    · rw [List.getElem?_eq_none (by rw [List.length_take]; omega), List.getElem?_eq_none (by rw [fl_len]; omega)]
theorem OwnV.of {B : Nat} {w : World} {v : Value} {n : Nat} {d : Nat → Nat → Int} (h : w.ownsRow B 46 6 v n (fl d n)) (hn : n ≤ 3000000000000) : OwnV B w v n d := by
  rcases h.2 with ⟨h1, h2⟩ | ⟨g, cap, cur, h1, h2, h3, h4, h5, h6, h7⟩
  · exact .inl ⟨h1, h2⟩
  · refine .inr ⟨g, cap, h2, h1, cur, h3, h6, h4, ⟨by unfold maxLen at h5; omega, hn⟩, fun j hj i hi => ?_⟩
    have := fl_get d n j i hj hi
    rw [← h7, List.getElem?_take_of_lt (by omega), Array.getElem?_toList] at this
    exact this
theorem OwnV.row {B : Nat} {w : World} {v : Value} {n : Nat} {d : Nat → Nat → Int} (h : OwnV B w v n d) : PkRow w v n d := by
  rcases h with h | ⟨g, cap, _, rfl, h⟩
  · exact .inl h
  · exact h.row
theorem OwnV.slice {B : Nat} {w : World} {v : Value} {n : Nat} {d : Nat → Nat → Int} (h : OwnV B w v n d) : ∃ a c, v = .slice a n c := by
  rcases h with ⟨rfl, rfl⟩ | ⟨g, cap, _, rfl, h⟩
  · exact ⟨_, _, rfl⟩
  · exact ⟨_, _, rfl⟩
theorem OwnV.grown {B : Nat} {w w' : World} {v : Value} {n : Nat} {d : Nat → Nat → Int} {row : Option Nat} (h : OwnV B w v n d) (hg : w.grownBy w' row) (hr : ∀ b, row = some b → v.ownBlock ≠ some b) : OwnV B w' v n d := by
  rcases h with h | ⟨g, cap, h1, h2, h3⟩
  · exact .inl h
  · refine .inr ⟨g, cap, h1, h2, h3.grown hg (fun e => hr g e (by rw [h2]; rfl))⟩
theorem OwnV.mono {B C : Nat} {w : World} {v : Value} {n : Nat} {d : Nat → Nat → Int} (h : OwnV B w v n d) (hc : C ≤ B) : OwnV C w v n d := by
  rcases h with h | ⟨g, cap, h1, h2, h3⟩
  · exact .inl h
  · exact .inr ⟨g, cap, by omega, h2, h3⟩
theorem OwnV.cong {B : Nat} {w : World} {v : Value} {n : Nat} {d e : Nat → Nat → Int} (h : OwnV B w v n d) (he : ∀ j, j < n → ∀ i, i < 6 → d j i = e j i) : OwnV B w v n e := by
  rcases h with h | ⟨g, cap, h1, h2, h3⟩
  · exact .inl h
  · exact .inr ⟨g, cap, h1, h2, h3.cong he⟩
theorem OwnV.nil (B : Nat) (w : World) (d : Nat → Nat → Int) : OwnV B w (.slice none 0 0) 0 d := .inl ⟨rfl, rfl⟩
theorem OwnV.lt {B : Nat} {w : World} {v : Value} {n : Nat} {d : Nat → Nat → Int} (h : OwnV B w v n d) : ∀ b, v.ownBlock = some b → B ≤ b ∧ b < w.heap.size := by
  intro b hb
  rcases h with ⟨rfl, _⟩ | ⟨g, cap, h1, rfl, h3⟩
  · cases hb
  · cases hb
    exact ⟨h1, h3.lt⟩
/-- append(s, x...) of packets: onto a row of the call's own, from anywhere. -/
theorem wpList_append_pk {ops : Array Oper} {rest : List Oper} {o : Oper} {a : Act} {Q : Exit → Act → World → Prop} (w : World) (hgd : o.guard = none) (s x : Operand)
    (ho : o.op = .call { callee := .builtin .append, args := #[s, x], argTypes := #[29, 29] })
    (B : Nat) (v : Value) (n : Nat) (d : Nat → Nat → Int) (hs : a.eval s = v) (hown : OwnV B w v n d) (u : Value) (m : Nat) (qs : Nat → Nat → Int) (hx : a.eval x = u) (hsrc : PkR w u m qs) (hb : n + m ≤ 2000000000000) (hB : B ≤ w.heap.size)
    (h : ∀ v' w', OwnV B w' v' (n + m) (cat n d qs) → w.grownBy w' v.ownBlock → (v'.ownBlock = v.ownBlock ∨ v'.ownBlock = some w.heap.size) → wpList Tryz.prog ops Q rest (a.put o.dst v') w') :
    wpList Tryz.prog ops Q (o :: rest) a w := by
  obtain ⟨i0, hi, hz0, hz1, hz2⟩ := info_parts Tryz.infoPk6
  have key : ∀ ad c, u = .slice (some ad) m c → (∀ j t, (fl qs m)[j]? = some t → w.cell? (ad.add j) = some t) → wpList Tryz.prog ops Q (o :: rest) a w := by
    intro ad c hu hc
    refine wpList_append_own_at w hgd s x 29 ho B 46 i0 _ 6 48 Tryz.underlying29 hi hz0 hz1 hz2 rfl (by decide) v n (fl d n) hs hown.owns ad m c (fl qs m) (by rw [hx, hu]) (fl_len qs m) hc (fl_one qs m) (by unfold maxLen; omega) (by omega) hB ?_
    intro v' w' h1 h2 _ h4
    rw [← fl_cat] at h1
    exact h v' w' (OwnV.of h1 (by omega)) h2 h4
  rcases hsrc with ⟨ao, c, hu, hm, hnone⟩ | ⟨g, off, cap, hu, hm, hc⟩
  · subst hm
    cases ao with
    | none =>
      obtain rfl := hnone rfl
      refine wpList_append_own_none hgd s x 29 ho B 46 i0 6 Tryz.underlying29 hi v n (fl d n) hs hown.owns (by rw [hx, hu]) ?_
      exact h v w (hown.cong (fun j hj i hi => by unfold cat; rw [if_pos hj])) (grown_refl _ _) (.inl rfl)
    | some ad => exact key ad c hu (fun j t hj => by simp [fl] at hj)
  · refine key ⟨g, off, none⟩ cap hu (fun j t hj => ?_)
    have hlt : j < m * 6 := by
      rcases Nat.lt_or_ge j (m * 6) with e | e
      · exact e
      · rw [List.getElem?_eq_none (by rw [fl_len]; exact e)] at hj
        cases hj
    have h2 := fl_get qs m (j / 6) (j % 6) (by omega) (by omega)
    rw [show j / 6 * 6 + j % 6 = j by omega, hj] at h2
    rw [h2, show (⟨g, off, none⟩ : Addr).add j = ⟨g, off + j, none⟩ by unfold Addr.add; split <;> simp_all]
    have := hc (j / 6) (by omega) (j % 6) (by omega)
    rw [show off + j / 6 * 6 + j % 6 = off + j by omega] at this
    exact this
theorem ltP_at {x y : Nat → Int} {j : Nat} (hj : j < 6) (h : ∀ t, t < j → x t = y t) (hne : x j ≠ y j) : ltP x y ↔ x j < y j := by
  constructor
  · rintro ⟨i, h1, h2, h3⟩
    rcases Nat.lt_trichotomy i j with e | e | e
    · rw [h i e] at h3; omega
    · subst e; exact h3
    · exact absurd (h2 j e) hne
  · intro g
    exact ⟨j, hj, h, g⟩
set_option maxRecDepth 100000 in
set_option maxHeartbeats 1000000 in
theorem less_any (m k : Nat → Int) (w : World) : Calls Tryz.prog 153 #[pkV m, pkV k] w (Says (ltP m k) w) := by
  obtain ⟨w1, hw1⟩ : ∃ w1, w1 = w.alloc (.cells (pkA m) 46) := ⟨_, rfl⟩
  obtain ⟨w2, hw2⟩ : ∃ w2, w2 = w1.alloc (.cells (pkA k) 46) := ⟨_, rfl⟩
  have B1 : Hid (pkBlk w2 w.heap.size m) := by rw [hw2, hw1]; exact (pkBlk.alloc w m).grown (World.grownBy_alloc _ _ none) (by simp)
  have B2 : Hid (pkBlk w2 (w.heap.size + 1) k) := by
    have z : w1.heap.size = w.heap.size + 1 := by rw [hw1]; simp
    rw [hw2, ← z]; exact pkBlk.alloc w1 k
  have G2 : Hid (w.grownBy w2 none) := by rw [hw2, hw1]; exact grown_trans (World.grownBy_alloc _ _ _) (World.grownBy_alloc _ _ _)
  rw [hw1] at hw2
  clear hw1
  unfold pkA at hw2
  unfold pkV pkA
  go_enter Tryz.func153, Tryz.ntmps153
  go_wp2
  rw [← hw2]
  clear hw2
  go_loopw [5] (fun i wr => ∃ j : Nat, j ≤ 6 ∧ i = .int .i64 j ∧ (∀ i, i < j → m i = k i) ∧ pkBlk wr w.heap.size m ∧ pkBlk wr (w.heap.size + 1) k ∧ w.grownBy wr none) (fun i _ => 6 - (intOf i).toNat)
  case atStart => exact ⟨0, by omega, rfl, fun i h2 => by omega, B1.out, B2.out, G2.out⟩
  case round =>
    obtain ⟨j, hj, rfl, hok, b1, b2, hg⟩ := hrel
    have HOK := hide hok
    clear hok B1 B2 G2
    have B1 := hide b1
    have B2 := hide b2
    have G2 := hide hg
    clear b1 b2 hg
    by_cases hlt : j < 6
    · obtain ⟨x, hx⟩ : ∃ x, x = m j := ⟨_, rfl⟩
      obtain ⟨y, hy⟩ : ∃ y, y = k j := ⟨_, rfl⟩
      have c1 : wr.cell? ⟨w.heap.size, j, none⟩ = some (.int .i64 x) := by rw [hx]; exact B1.out.cell j hlt
      have c2 : wr.cell? ⟨w.heap.size + 1, j, none⟩ = some (.int .i64 y) := by rw [hy]; exact B2.out.cell j hlt
      have HX := hide hx
      have HY := hide hy
      clear hx hy
      have hltI : (j : Int) < 6 := by omega
      by_cases h2 : x = y
      · subst h2
        go_wp2_with fail
        go_quiet (fail)
        go_wp2
        go_roundw
        case rel => exact ⟨j + 1, by omega, by go_num, fun i h2 => by
          by_cases e : i = j
          · subst e; rw [← HX.out, ← HY.out]
          · exact HOK.out i (by omega), B1.out, B2.out, grown_drewN G2.out _⟩
        case measure => simp [intOf]; omega
      · have hn3 : (x != y) = true := by rw [bne_iff_ne]; exact h2
        have hat : Hid (ltP m k ↔ x < y) := by rw [HX.out, HY.out]; exact ltP_at hlt HOK.out (by rw [← HX.out, ← HY.out]; exact h2)
        go_wp2_with fail
        go_quiet (fail)
        go_wp2_with fail
        go_quiet (fail)
        go_wp2
        go_ret
        exact ⟨⟨decide (x < y), rfl, by rw [hat.out]; simp⟩, grown_drewN (grown_drewN G2.out _) _⟩
    · go_wp2
      go_ret
      exact ⟨⟨false, rfl, by
        simp only [Bool.false_eq_true, false_iff]
        rintro ⟨i, h1, _, h3⟩
        rw [HOK.out i (by omega)] at h3
        omega⟩, G2.out⟩
theorem insS_at {k : Nat → Int} : ∀ {L : List (Nat → Int)} {i : Nat}, i ≤ L.length → (∀ t x, t < i → L[t]? = some x → ltP x k) → (∀ x, L[i]? = some x → ¬ ltP x k) → ((∃ x, L[i]? = some x ∧ cmpP x k = 0) ∧ insS k L = L) ∨ ((∀ x, L[i]? = some x → cmpP x k ≠ 0) ∧ insS k L = L.take i ++ k :: L.drop i)
  | [], i, hi, _, _ => by
    obtain rfl : i = 0 := by simpa using hi
    exact .inr ⟨fun x h => by simp at h, rfl⟩
  | y :: r, 0, _, _, h2 => by
    have hn := h2 y rfl
    unfold insS
    rw [if_neg (fun h => hn ((cmpP_neg _ _).1 h))]
    by_cases e : cmpP y k = 0
    · rw [if_pos e]
      exact .inl ⟨⟨y, rfl, e⟩, rfl⟩
    · rw [if_neg e]
      exact .inr ⟨fun x h => by cases h; exact e, rfl⟩
  | y :: r, i + 1, hi, h1, h2 => by
    have hy := h1 0 y (by omega) rfl
    unfold insS
    rw [if_pos ((cmpP_neg _ _).2 hy)]
    rcases insS_at (k := k) (L := r) (i := i) (by simpa using hi) (fun t x ht hx => h1 (t + 1) x (by omega) (by simpa using hx)) (fun x hx => h2 x (by simpa using hx)) with ⟨⟨x, a, b⟩, c⟩ | ⟨a, c⟩
    · exact .inl ⟨⟨x, by simpa using a, b⟩, by rw [c]⟩
    · exact .inr ⟨fun x hx => a x (by simpa using hx), by rw [c]; rfl⟩
end Go.Proofs.YtlhkfafdioakeaaGreatDoor
