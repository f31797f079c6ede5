/- Proved here: whether a match covers another one; whether a match may be such; what is refused. -/
import Derived.Test.YtlhkfafdioakeaaGreatDoorTbK
import Derived.Test.YtlhkfafdioakeaaGreatDoorGKq
namespace Go.Proofs.YtlhkfafdioakeaaGreatDoor
open Go.RowKit Go.Weft
set_option linter.unusedVariables false
set_option linter.unusedSimpArgs false
set_option maxRecDepth 100000 in
set_option maxHeartbeats 1000000 in
theorem covers_any (m k : Nat → Int) (w : World) : Calls Tryz.prog 35 #[pkV m, pkV k] w (Says (matchS m k) w) := by
  obtain ⟨w1, hw1⟩ : ∃ w1, w1 = w.alloc (.cells (pkA m) 46) := ⟨_, rfl⟩
  obtain ⟨w2, hw2⟩ : ∃ w2, w2 = w1.alloc (.cells (pkA k) 46) := ⟨_, rfl⟩
  have B1 : Hid (pkBlk w2 w.heap.size m) := by rw [hw2, hw1]; exact (pkBlk.alloc w m).grown (World.grownBy_alloc _ _ none) (by simp)
  have B2 : Hid (pkBlk w2 (w.heap.size + 1) k) := by
    have z : w1.heap.size = w.heap.size + 1 := by rw [hw1]; simp
    rw [hw2, ← z]; exact pkBlk.alloc w1 k
  have G2 : Hid (w.grownBy w2 none) := by rw [hw2, hw1]; exact grown_trans (World.grownBy_alloc _ _ _) (World.grownBy_alloc _ _ _)
  rw [hw1] at hw2
  clear hw1
  unfold pkA at hw2
  unfold pkV pkA
  go_enter Tryz.func35, Tryz.ntmps35
  go_wp2
  rw [← hw2]
  clear hw2
  go_loopw [5] (fun i wr => ∃ j : Nat, 1 ≤ j ∧ j ≤ 6 ∧ i = .int .i64 j ∧ (∀ i, 1 ≤ i → i < j → m i = -1 ∨ m i = k i) ∧ pkBlk wr w.heap.size m ∧ pkBlk wr (w.heap.size + 1) k ∧ w.grownBy wr none) (fun i _ => 6 - (intOf i).toNat)
  case atStart => exact ⟨1, by omega, by omega, rfl, fun i h1 h2 => by omega, B1.out, B2.out, G2.out⟩
  case round =>
    obtain ⟨j, hj1, hj, rfl, hok, b1, b2, hg⟩ := hrel
    have HOK := hide hok
    clear hok B1 B2 G2
    have B1 := hide b1
    have B2 := hide b2
    have G2 := hide hg
    clear b1 b2 hg
    by_cases hlt : j < 6
    · obtain ⟨x, hx⟩ : ∃ x, x = m j := ⟨_, rfl⟩
      obtain ⟨y, hy⟩ : ∃ y, y = k j := ⟨_, rfl⟩
      have c1 : wr.cell? ⟨w.heap.size, j, none⟩ = some (.int .i64 x) := by rw [hx]; exact B1.out.cell j hlt
      have c2 : wr.cell? ⟨w.heap.size + 1, j, none⟩ = some (.int .i64 y) := by rw [hy]; exact B2.out.cell j hlt
      have HX := hide hx
      have HY := hide hy
      clear hx hy
      have hltI : (j : Int) < 6 := by omega
      by_cases h1 : x = -1
      · have hn : (x == -1) = true := beq_iff_eq.2 h1
        have hn2 : (x != -1) = false := by simp [h1]
        have H1 := hide h1
        clear h1
        go_wp2_with fail
        go_quiet (fail)
        go_wp2
        go_roundw
        case rel => exact ⟨j + 1, by omega, by omega, by go_num, fun i h1 h2 => by
          by_cases e : i = j
          · subst e; left; rw [← HX.out]; exact H1.out
          · exact HOK.out i h1 (by omega), B1.out, B2.out, grown_drewN G2.out _⟩
        case measure => simp [intOf]; omega
      · have hn2 : (x != -1) = true := by rw [bne_iff_ne]; exact h1
        by_cases h2 : x = y
        · subst h2
          go_wp2_with fail
          go_quiet (fail)
          go_wp2
          go_roundw
          case rel => exact ⟨j + 1, by omega, by omega, by go_num, fun i h1 h2 => by
            by_cases e : i = j
            · subst e; right; rw [← HX.out, ← HY.out]
            · exact HOK.out i h1 (by omega), B1.out, B2.out, grown_drewN G2.out _⟩
          case measure => simp [intOf]; omega
        · have hn3 : (x != y) = true := by rw [bne_iff_ne]; exact h2
          go_wp2_with fail
          go_quiet (fail)
          go_wp2
          go_ret
          exact ⟨⟨false, rfl, by
            simp only [Bool.false_eq_true, false_iff]
            intro hh
            rcases hh j hj1 hlt with e | e
            · exact h1 (by rw [HX.out]; exact e)
            · exact h2 (by rw [HX.out, HY.out]; exact e)⟩, grown_drewN G2.out _⟩
    · go_wp2
      go_ret
      exact ⟨⟨true, rfl, by
        simp only [true_iff]
        exact fun i h1 h2 => HOK.out i h1 (by omega)⟩, G2.out⟩
set_option maxRecDepth 100000 in
set_option maxHeartbeats 1000000 in
theorem open_any (k : Nat → Int) (w : World) (h0 : k 0 = -1) (hk : ∀ i, 1 ≤ i → i < 6 → -1 ≤ k i ∧ k i ≤ 31) : Calls Tryz.prog 34 #[pkV k] w fun e w' => e = .returned (.bool true) ∧ w.grownBy w' none := by
  obtain ⟨w1, hw1⟩ : ∃ w1, w1 = w.alloc (.cells (pkA k) 46) := ⟨_, rfl⟩
  have B1 : Hid (pkBlk w1 w.heap.size k) := by rw [hw1]; exact pkBlk.alloc w k
  have G1 : Hid (w.grownBy w1 none) := by rw [hw1]; exact World.grownBy_alloc _ _ _
  have H0 := hide h0
  have HK := hide hk
  clear h0 hk
  unfold pkA at hw1
  unfold pkV pkA
  go_enter Tryz.func34, Tryz.ntmps34
  go_wp2
  rw [← hw1]
  clear hw1
  go_loopw [3] (fun i wr => ∃ j : Nat, 1 ≤ j ∧ j ≤ 6 ∧ i = .int .i64 j ∧ pkBlk wr w.heap.size k ∧ w.grownBy wr none) (fun i _ => 6 - (intOf i).toNat)
  case atStart => exact ⟨1, by omega, by omega, rfl, B1.out, G1.out⟩
  case round =>
    obtain ⟨j, hj1, hj, rfl, b1, hg⟩ := hrel
    clear B1 G1
    have B1 := hide b1
    have G2 := hide hg
    clear b1 hg
    by_cases hlt : j < 6
    · obtain ⟨x, hx⟩ : ∃ x, x = k j := ⟨_, rfl⟩
      have c1 : wr.cell? ⟨w.heap.size, j, none⟩ = some (.int .i64 x) := by rw [hx]; exact B1.out.cell j hlt
      have hr := HK.out j hj1 hlt
      rw [← hx] at hr
      have hx1 : ¬ x < -1 := by omega
      have hx2 : ¬ 31 < x := by omega
      clear hx hr
      have hltI : (j : Int) < 6 := by omega
      go_wp2_with fail
      go_roundw
      case rel => exact ⟨j + 1, by omega, by omega, by go_num, B1.out, G2.out⟩
      case measure => simp [intOf]; omega
    · obtain rfl : j = 6 := by omega
      have c0 : wr.cell? ⟨w.heap.size, 0, none⟩ = some (.int .i64 (-1)) := by rw [← H0.out]; exact B1.out.cell 0 (by omega)
      go_wp2
      go_ret
      exact ⟨rfl, G2.out⟩
set_option maxRecDepth 100000 in
set_option maxHeartbeats 4000000 in
theorem new_nil (w : World) : Calls Tryz.prog 63 #[.pointer none, .agg #[.int .i64 1, .slice none 0 0, .int .i64 0]] w fun e w' => e = .returned (.tuple #[.pointer none, .int .i64 1]) ∧ w.grownBy w' none := by
  go_enter Tryz.func63, Tryz.ntmps63
  go_wp2
  go_ret2
  exact ⟨rfl, World.grownBy_alloc _ _ _⟩
set_option maxRecDepth 100000 in
set_option maxHeartbeats 4000000 in
theorem refusals_any {s : ByteArray} {w : World} {b : Nat} {t : Code} (h : PolAt w b t) (hr : readS s = .ok t) (he : Evy w) (z : Int) :
    Calls Tryz.prog 31 #[.pointer (some ⟨b, 0, none⟩), .int .i64 z] w fun e w' => e = .returned (.bool true) ∧ w.grownBy w' none := by
  have HN : Hid (∀ z ww, Calls Tryz.prog 62 #[.pointer none, .int .i64 z] ww fun e w' => e = .returned (.tuple #[.slice none 0 0, .int .i64 1]) ∧ w' = ww) := fun z ww => table_nil z ww
  have HW : Hid (∀ ww, Calls Tryz.prog 63 #[.pointer none, .agg #[.int .i64 1, .slice none 0 0, .int .i64 0]] ww fun e w' => e = .returned (.tuple #[.pointer none, .int .i64 1]) ∧ ww.grownBy w' none) := fun ww => new_nil ww
  have HE : Hid (∀ ww, Calls Tryz.prog 16 #[.pointer none, .agg #[.int .i64 0, .int .i64 0, .int .i64 0, .int .i64 0, .int .i64 0, .int .i64 0]] ww fun e w' => e = .returned (.tuple #[.slice none 0 0, .int .i64 1]) ∧ ww.grownBy w' none) := fun ww => eval_nil (fun _ => 0) ww
  by_cases hz : z < 0 ∨ 31 < z
  · have HT := hide (table_far b z hz w)
    clear h hr he
    rcases (show z < 0 ∨ (¬ z < 0 ∧ 31 < z) by omega) with hz0 | ⟨hz0, hz1⟩
    · clear hz
      go_enter Tryz.func31, Tryz.ntmps31
      go_wp2_with fail
      refine HT.out.mono ?_
      rintro e w2 ⟨rfl, g2⟩
      have G2 := hide g2
      clear g2 HT
      go_wp2_with fail
      refine (HN.out _ _).mono ?_
      rintro e w3 ⟨rfl, rfl⟩
      go_wp2_with fail
      refine (HW.out _).mono ?_
      rintro e w4 ⟨rfl, g4⟩
      have G4 := hide (grown_trans G2.out g4)
      clear g4 G2
      go_wp2_with fail
      refine (HE.out _).mono ?_
      rintro e w5 ⟨rfl, g5⟩
      have G5 := hide (grown_trans G4.out g5)
      clear g5 G4
      go_wp2
      go_ret
      exact ⟨rfl, G5.out⟩
    · clear hz
      go_enter Tryz.func31, Tryz.ntmps31
      go_wp2_with fail
      refine HT.out.mono ?_
      rintro e w2 ⟨rfl, g2⟩
      have G2 := hide g2
      clear g2 HT
      go_wp2_with fail
      refine (HN.out _ _).mono ?_
      rintro e w3 ⟨rfl, rfl⟩
      go_wp2_with fail
      refine (HW.out _).mono ?_
      rintro e w4 ⟨rfl, g4⟩
      have G4 := hide (grown_trans G2.out g4)
      clear g4 G2
      go_wp2_with fail
      refine (HE.out _).mono ?_
      rintro e w5 ⟨rfl, g5⟩
      have G5 := hide (grown_trans G4.out g5)
      clear g5 G4
      go_wp2
      go_ret
      exact ⟨rfl, G5.out⟩
  · have hz0 : ¬ z < 0 := fun e => hz (.inl e)
    have hz1 : ¬ 31 < z := fun e => hz (.inr e)
    have HT := hide (table_any h hr he z hz0 hz1)
    · clear hz h hr he
      go_enter Tryz.func31, Tryz.ntmps31
      go_wp2_with fail
      refine HT.out.mono ?_
      rintro e w2 ⟨v, rfl, _, g2⟩
      have G2 := hide g2
      clear g2 HT
      go_wp2_with fail
      refine (HN.out _ _).mono ?_
      rintro e w3 ⟨rfl, rfl⟩
      go_wp2_with fail
      refine (HW.out _).mono ?_
      rintro e w4 ⟨rfl, g4⟩
      have G4 := hide (grown_trans G2.out g4)
      clear g4 G2
      go_wp2_with fail
      refine (HE.out _).mono ?_
      rintro e w5 ⟨rfl, g5⟩
      have G5 := hide (grown_trans G4.out g5)
      clear g5 G4
      go_wp2
      go_ret
      exact ⟨rfl, G5.out⟩
end Go.Proofs.YtlhkfafdioakeaaGreatDoor
