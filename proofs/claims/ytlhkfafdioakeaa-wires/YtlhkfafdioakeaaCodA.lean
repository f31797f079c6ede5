/- Proved here: what the small functions of the statement Coded answer. -/
import Derived.Test.YtlhkfafdioakeaaMsgM
namespace Go.Proofs.Ytlhkfafdioakeaa
open Go.RowKit
set_option linter.unusedVariables false
set_option linter.unusedSimpArgs false
/-- Which of n things a raw number speaks of. -/
def pickS (c n : Int) : Int := (if c < 0 then -(c + 1) else c) % n
theorem pickS_range (c n : Int) (hn : 0 < n) : 0 ≤ pickS c n ∧ pickS c n < n := by
  unfold pickS
  exact ⟨Int.emod_nonneg _ (by omega), Int.emod_lt_of_pos _ hn⟩
theorem pick_neg (c n : Int) (hc : c < 0) : -(c + 1).tmod n = -(c + 1) % n := by
  rw [← Int.neg_tmod]
  exact Int.tmod_eq_emod_of_nonneg (by omega)
set_option maxRecDepth 100000 in
set_option maxHeartbeats 1000000 in
theorem pick_any (c n : Int) (w : World) (hn : 0 < n) (hn2 : n ≤ 9223372036854775807) (h1 : -9223372036854775808 ≤ c) (h2 : c ≤ 9223372036854775807) :
    Calls Try.prog 19 #[.int .i64 c, .int .i64 n] w fun e w' => e = .returned (.int .i64 (pickS c n)) ∧ w' = w := by
  have hn0 : n ≠ 0 := by omega
  by_cases hc : c < 0
  · unfold pickS
    rw [if_pos hc, ← pick_neg c n hc]
    go_enter Try.func19, Try.ntmps19
    go_wp2
    go_ret
    exact ⟨rfl, rfl⟩
  · unfold pickS
    rw [if_neg hc]
    go_enter Try.func19, Try.ntmps19
    go_wp2
    go_ret
    exact ⟨rfl, rfl⟩
/-- A list of numbers in a world. -/
def IRow (w : World) (v : Value) (n : Nat) : Prop :=
  (∃ a cap, v = .slice a n cap ∧ n = 0) ∨ ∃ g off cap, v = .slice (some ⟨g, off, none⟩) n cap ∧ n ≤ 9223372036854775807 ∧ ∀ j, j < n → ∃ z : Int, w.cell? ⟨g, off + j, none⟩ = some (.int .i64 z) ∧ -9223372036854775808 ≤ z ∧ z ≤ 9223372036854775807
theorem IRow.slice {w : World} {v : Value} {n : Nat} (h : IRow w v n) : (∃ a cap, v = .slice a n cap) ∧ n ≤ 9223372036854775807 := by
  rcases h with ⟨a, cap, rfl, h⟩ | ⟨g, off, cap, rfl, h, _⟩
  · exact ⟨⟨_, _, rfl⟩, by omega⟩
  · exact ⟨⟨_, _, rfl⟩, h⟩
theorem IRow.grown {w w' : World} {v : Value} {n : Nat} (h : IRow w v n) (hg : w.grownBy w' none) : IRow w' v n := by
  rcases h with h | ⟨g, off, cap, h1, h2, h3⟩
  · exact .inl h
  · exact .inr ⟨g, off, cap, h1, h2, fun j hj => by
      obtain ⟨z, hz, hr⟩ := h3 j hj
      exact ⟨z, hg.cell hz (by simp), hr⟩⟩
/-- A list of lists of numbers in a world. -/
def RRow (w : World) (v : Value) (n : Nat) : Prop :=
  (∃ a cap, v = .slice a n cap ∧ n = 0) ∨ ∃ g off cap, v = .slice (some ⟨g, off, none⟩) n cap ∧ n ≤ 9223372036854775807 ∧ ∀ j, j < n → ∃ u l, w.cell? ⟨g, off + j, none⟩ = some u ∧ IRow w u l
theorem RRow.slice {w : World} {v : Value} {n : Nat} (h : RRow w v n) : (∃ a cap, v = .slice a n cap) ∧ n ≤ 9223372036854775807 := by
  rcases h with ⟨a, cap, rfl, h⟩ | ⟨g, off, cap, rfl, h, _⟩
  · exact ⟨⟨_, _, rfl⟩, by omega⟩
  · exact ⟨⟨_, _, rfl⟩, h⟩
theorem RRow.grown {w w' : World} {v : Value} {n : Nat} (h : RRow w v n) (hg : w.grownBy w' none) : RRow w' v n := by
  rcases h with h | ⟨g, off, cap, h1, h2, h3⟩
  · exact .inl h
  · exact .inr ⟨g, off, cap, h1, h2, fun j hj => by
      obtain ⟨u, l, hu, hi⟩ := h3 j hj
      exact ⟨u, l, hg.cell hu (by simp), hi.grown hg⟩⟩
theorem right_set {k : Nat → Int} (h : rightS k) (j : Nat) (x : Int) (hx : okF x) : rightS (fun i => if i = j then x else k i) := by
  intro i hi
  show okF (if i = j then x else k i)
  split
  · exact hx
  · exact h i hi
set_option maxRecDepth 100000 in
set_option maxHeartbeats 2000000 in
theorem packet_any (v : Value) (n : Nat) (w : World) (h : IRow w v n) :
    Calls Try.prog 20 #[v] w fun e w' => ∃ k, e = .returned (pkV k) ∧ rightS k ∧ w.grownBy w' none := by
  obtain ⟨⟨a, cap, rfl⟩, hn⟩ := h.slice
  have HI := hide h
  clear h
  have T1 := hide (pkBlk.alloc w (fun _ => 0))
  have T2 := hide (pkBlk.alloc (w.alloc (.cells (pkA (fun _ => 0)) 27)) (fun _ => 0))
  unfold pkA at T1 T2
  go_enter Try.func20, Try.ntmps20
  go_wp2
  go_loopw [4] (fun v4 wr => ∃ (j : Nat) (k : Nat → Int), v4 = .int .i64 j ∧ j ≤ 6 ∧ rightS k ∧ pkBlk wr (w.heap.size + 1) k ∧ pkBlk wr w.heap.size (fun _ => 0) ∧ w.grownBy wr none) (fun v4 _ => 6 - (intOf v4).toNat)
  case atStart =>
    refine ⟨0, fun _ => 0, rfl, by omega, fun i hi => ⟨Int.le_refl 0, by show (0 : Int) ≤ 31; omega⟩, ?_, T1.out.grown (World.grownBy_alloc _ _ none) (by simp), grown_trans (World.grownBy_alloc _ _ _) (World.grownBy_alloc _ _ _)⟩
    have := T2.out
    simpa using this
  case round =>
    obtain ⟨j, k, rfl, hj, hk, hb, hb0, hg⟩ := hrel
    have HK := hide hk
    have HB := hide hb
    have HB0 := hide hb0
    have HG := hide hg
    clear hk hb hb0 hg
    by_cases h6 : j < 6
    · by_cases hlt : j < n
      · rcases HI.out with ⟨_, _, _, h0⟩ | ⟨g, off, cap', hv, _, hcell⟩
        · omega
        cases hv
        obtain ⟨z, hz, hz1, hz2⟩ := hcell j hlt
        have cz : wr.cell? ⟨g, off + j, none⟩ = some (.int .i64 z) := HG.out.cell hz (by simp)
        clear hcell hz
        have HPK := hide (pick_any z 320 wr (by omega) (by omega) hz1 hz2)
        obtain ⟨q, hq⟩ : ∃ q, q = pickS z 320 := ⟨_, rfl⟩
        have hqr := pickS_range z 320 (by omega)
        rw [← hq] at HPK hqr
        obtain ⟨hq1, hq2⟩ := hqr
        clear hq
        have c1 := HB.out.cell j h6
        have f1 := HB.out.frozen
        have hm5 : 0 ≤ q % 5 ∧ q % 5 < 5 := ⟨Int.emod_nonneg _ (by omega), Int.emod_lt_of_pos _ (by omega)⟩
        have hm32 : 0 ≤ q % 32 ∧ q % 32 < 32 := ⟨Int.emod_nonneg _ (by omega), Int.emod_lt_of_pos _ (by omega)⟩
        have B2 := hide (HB.out.set j h6 (q % 5))
        have R2 := hide (right_set HK.out j (q % 5) ⟨by omega, by omega⟩)
        have B02 := hide (HB0.out.grown (grown_set wr (w.heap.size + 1) j (.int .i64 (q % 5))) (by simp))
        have G2 := hide (grown_new HG.out (grown_set wr (w.heap.size + 1) j (.int .i64 (q % 5))) (by omega))
        by_cases h280 : 280 < q
        · go_wp2_with fail
          refine HPK.out.mono ?_
          rintro e w2 ⟨rfl, hw2⟩
          rw [hw2]
          clear hw2
          have B3 := hide (B2.out.set j h6 (q % 32))
          have R3 := hide (right_set R2.out j (q % 32) ⟨by omega, by omega⟩)
          go_wp2
          go_roundw
          case rel => exact ⟨j + 1, _, by go_num, by omega, R3.out, B3.out, B02.out.grown (grown_set _ _ _ _) (by simp), grown_new G2.out (grown_set _ _ _ _) (by omega)⟩
          case measure => simp [intOf]; omega
        · go_wp2_with fail
          refine HPK.out.mono ?_
          rintro e w2 ⟨rfl, hw2⟩
          rw [hw2]
          clear hw2
          go_wp2
          go_roundw
          case rel => exact ⟨j + 1, _, by go_num, by omega, R2.out, B2.out, B02.out, G2.out⟩
          case measure => simp [intOf]; omega
      · skip
        obtain ⟨c0, c1, c2, c3, c4, c5⟩ : _ ∧ _ ∧ _ ∧ _ ∧ _ ∧ _ := ⟨HB.out.cell 0 (by omega), HB.out.cell 1 (by omega), HB.out.cell 2 (by omega), HB.out.cell 3 (by omega), HB.out.cell 4 (by omega), HB.out.cell 5 (by omega)⟩
        obtain ⟨d0, d1, d2, d3, d4, d5⟩ : _ ∧ _ ∧ _ ∧ _ ∧ _ ∧ _ := ⟨HB0.out.cell 0 (by omega), HB0.out.cell 1 (by omega), HB0.out.cell 2 (by omega), HB0.out.cell 3 (by omega), HB0.out.cell 4 (by omega), HB0.out.cell 5 (by omega)⟩
        have f0 := HB0.out.frozen
        go_wp2
        change bodyPost _ _ _ _ _ (put6 wr w.heap.size k)
        have hp := put6_blk HB0.out k
        have e0 := hp.cell 0 (by omega)
        have e1 := hp.cell 1 (by omega)
        have e2 := hp.cell 2 (by omega)
        have e3 := hp.cell 3 (by omega)
        have e4 := hp.cell 4 (by omega)
        have e5 := hp.cell 5 (by omega)
        refine bodyPost_ret (v := .agg #[.int .i64 (k 0), .int .i64 (k 1), .int .i64 (k 2), .int .i64 (k 3), .int .i64 (k 4), .int .i64 (k 5)]) (by simp [results, Try.results20, go_sem, e0, e1, e2, e3, e4, e5]) rfl ?_
        exact ⟨k, rfl, HK.out, grown_new HG.out (put6_grown _ _ _) (Nat.le_refl _)⟩
    · skip
      obtain ⟨c0, c1, c2, c3, c4, c5⟩ : _ ∧ _ ∧ _ ∧ _ ∧ _ ∧ _ := ⟨HB.out.cell 0 (by omega), HB.out.cell 1 (by omega), HB.out.cell 2 (by omega), HB.out.cell 3 (by omega), HB.out.cell 4 (by omega), HB.out.cell 5 (by omega)⟩
      obtain ⟨d0, d1, d2, d3, d4, d5⟩ : _ ∧ _ ∧ _ ∧ _ ∧ _ ∧ _ := ⟨HB0.out.cell 0 (by omega), HB0.out.cell 1 (by omega), HB0.out.cell 2 (by omega), HB0.out.cell 3 (by omega), HB0.out.cell 4 (by omega), HB0.out.cell 5 (by omega)⟩
      have f0 := HB0.out.frozen
      go_wp2
      change bodyPost _ _ _ _ _ (put6 wr w.heap.size k)
      have hp := put6_blk HB0.out k
      have e0 := hp.cell 0 (by omega)
      have e1 := hp.cell 1 (by omega)
      have e2 := hp.cell 2 (by omega)
      have e3 := hp.cell 3 (by omega)
      have e4 := hp.cell 4 (by omega)
      have e5 := hp.cell 5 (by omega)
      refine bodyPost_ret (v := .agg #[.int .i64 (k 0), .int .i64 (k 1), .int .i64 (k 2), .int .i64 (k 3), .int .i64 (k 4), .int .i64 (k 5)]) (by simp [results, Try.results20, go_sem, e0, e1, e2, e3, e4, e5]) rfl ?_
      exact ⟨k, rfl, HK.out, grown_new HG.out (put6_grown _ _ _) (Nat.le_refl _)⟩

theorem eq6_same (a0 a1 a2 a3 a4 a5 : Int) : eq6 a0 a1 a2 a3 a4 a5 a0 a1 a2 a3 a4 a5 = true := by simp [eq6]
set_option maxRecDepth 100000 in
set_option maxHeartbeats 2000000 in
theorem equal_same (va vb : Value) (n : Nat) (ps qs : Nat → Nat → Int) (w : World) (ha : PkRow w va n ps) (hb : PkRow w vb n qs) (hpq : ∀ j, j < n → ∀ i, i < 6 → ps j i = qs j i) :
    Calls Try.prog 21 #[va, vb] w fun e w' => e = .returned (.bool true) ∧ w.grownBy w' none := by
  obtain ⟨a, ca, rfl⟩ := ha.slice
  obtain ⟨b, cb, rfl⟩ := hb.slice
  have HA := hide ha
  have HB := hide (hb.cong (fun j hj i hi => (hpq j hj i hi).symm))
  have hfew := ha.few
  clear ha hb hpq
  go_enter Try.func21, Try.ntmps21
  go_wp2
  go_loopw [5] (fun v5 wr => ∃ (j : Nat), v5 = .int .i64 j ∧ j ≤ n ∧ w.grownBy wr none) (fun v5 _ => n - (intOf v5).toNat)
  case atStart => exact ⟨0, rfl, Nat.zero_le _, grown_refl _ _⟩
  case round =>
    obtain ⟨j, rfl, hj, hg⟩ := hrel
    have HG := hide hg
    clear hg
    by_cases hlt : j < n
    · rcases HA.out with ⟨_, h0⟩ | ⟨g, off, cap', hv, _, hcell⟩
      · omega
      rcases HB.out with ⟨_, h0⟩ | ⟨g2, off2, cap2, hv2, _, hcell2⟩
      · omega
      cases hv
      cases hv2
      obtain ⟨k, hk⟩ : ∃ k, k = ps j := ⟨_, rfl⟩
      have cc : ∀ i, i < 6 → wr.cell? ⟨g, off + j * 6 + i, none⟩ = some (.int .i64 (k i)) := fun i hi => by rw [hk]; exact HG.out.cell (hcell j hlt i hi) (by simp)
      have dd : ∀ i, i < 6 → wr.cell? ⟨g2, off2 + j * 6 + i, none⟩ = some (.int .i64 (k i)) := fun i hi => by rw [hk]; exact HG.out.cell (hcell2 j hlt i hi) (by simp)
      have c0 := cc 0 (by omega)
      have c1 := cc 1 (by omega)
      have c2 := cc 2 (by omega)
      have c3 := cc 3 (by omega)
      have c4 := cc 4 (by omega)
      have c5 := cc 5 (by omega)
      have d0 := dd 0 (by omega)
      have d1 := dd 1 (by omega)
      have d2 := dd 2 (by omega)
      have d3 := dd 3 (by omega)
      have d4 := dd 4 (by omega)
      have d5 := dd 5 (by omega)
      rw [Nat.add_zero] at c0 d0
      clear cc dd hcell hcell2 hk
      have he := eq6_same (k 0) (k 1) (k 2) (k 3) (k 4) (k 5)
      have hltI : (j : Int) < n := by omega
      go_wp2_with fail
      go_quiet (fail)
      go_wp2
      go_roundw
      case rel => exact ⟨j + 1, by go_num, by omega, grown_drewN HG.out _⟩
      case measure => simp [intOf]; omega
    · go_wp2
      go_ret
      exact ⟨rfl, HG.out⟩
end Go.Proofs.Ytlhkfafdioakeaa
