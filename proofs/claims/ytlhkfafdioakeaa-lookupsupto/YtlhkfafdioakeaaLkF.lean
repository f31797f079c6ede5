/- Proved here: what the program's Lookup answers: of the first rule that matches, the set of what its actions make. -/
import Derived.Test.YtlhkfafdioakeaaLkD
import Derived.Test.YtlhkfafdioakeaaLkE
namespace Go.Proofs.Ytlhkfafdioakeaa
open Go.RowKit
set_option linter.unusedVariables false
set_option linter.unusedSimpArgs false
/-- A list of packets in a world, wherever an empty one may lie. -/
def PkR (w : World) (v : Value) (n : Nat) (ps : Nat → Nat → Int) : Prop :=
  (∃ a c, v = .slice a 0 c ∧ n = 0 ∧ (a = none → c = 0)) ∨ ∃ g off cap, v = .slice (some ⟨g, off, none⟩) n cap ∧ n ≤ 3000000000000 ∧ ∀ j, j < n → ∀ i, i < 6 → w.cell? ⟨g, off + j * 6 + i, none⟩ = some (.int .i64 (ps j i))
theorem PkR.slice {w : World} {v : Value} {n : Nat} {ps : Nat → Nat → Int} (h : PkR w v n ps) : ∃ a cap, v = .slice a n cap := by
  rcases h with ⟨a, c, rfl, rfl, _⟩ | ⟨g, off, cap, rfl, _⟩
  · exact ⟨_, _, rfl⟩
  · exact ⟨_, _, rfl⟩
theorem PkR.few {w : World} {v : Value} {n : Nat} {ps : Nat → Nat → Int} (h : PkR w v n ps) : n ≤ 3000000000000 := by
  rcases h with ⟨a, c, rfl, rfl, _⟩ | ⟨g, off, cap, rfl, h, _⟩ <;> omega
theorem PkR.grown {w w' : World} {v : Value} {n : Nat} {ps : Nat → Nat → Int} (h : PkR w v n ps) (hg : w.grownBy w' none) : PkR w' v n ps := by
  rcases h with h | ⟨g, off, cap, h1, h2, h3⟩
  · exact .inl h
  · exact .inr ⟨g, off, cap, h1, h2, fun j hj i hi => hg.cell (h3 j hj i hi) (by simp)⟩
theorem PkRow.any {w : World} {v : Value} {n : Nat} {ps : Nat → Nat → Int} (h : PkRow w v n ps) : PkR w v n ps := by
  rcases h with ⟨h1, h2⟩ | h
  · exact .inl ⟨none, 0, h1, h2, fun _ => rfl⟩
  · exact .inr h
theorem PkR.cong {w : World} {v : Value} {n : Nat} {ps qs : Nat → Nat → Int} (h : PkR w v n ps) (he : ∀ j, j < n → ∀ i, i < 6 → ps j i = qs j i) : PkR w v n qs := by
  rcases h with h | ⟨g, off, cap, h1, h2, h3⟩
  · exact .inl h
  · exact .inr ⟨g, off, cap, h1, h2, fun j hj i hi => by rw [← he j hj i hi]; exact h3 j hj i hi⟩
theorem Try.infoPk6 : (Try.prog.info? 27).map (fun i => (i.zero, i.size, i.bytes)) = some (some (pkV fun _ => 0), 6, 48) := by kernel_rfl
theorem madePk (n : Nat) (j i : Nat) (hj : j < n) (hi : i < 6) : (madeCells (pkA fun _ => 0) (n * 6))[j * 6 + i]? = some (.int .i64 0) := by
  unfold madeCells
  rw [Array.getElem?_map, Array.getElem?_range, if_pos (by omega)]
  simp only [Option.map_some]
  rw [show (pkA fun _ => 0).size = 6 from rfl, show (j * 6 + i) % 6 = i by omega]
  rcases (show i = 0 ∨ i = 1 ∨ i = 2 ∨ i = 3 ∨ i = 4 ∨ i = 5 by omega) with rfl | rfl | rfl | rfl | rfl | rfl <;> rfl
theorem Own.made (w : World) (n : Nat) (hn : n ≤ 3000000000000) : Own (w.alloc (.cells (madeCells (pkA fun _ => 0) (n * 6)) 27)) w.heap.size n n (fun _ _ => 0) :=
  ⟨_, heap_alloc_new w _, size_madeCells _ _, Nat.le_refl _, ⟨by omega, hn⟩, fun j hj i hi => madePk n j i hj hi⟩
theorem run_makePk (u : World) (n : Nat) (hn : n ≤ 3000000000000) : (Instr.makeSlice 23 (.int .i64 (n : Int)) (.int .i64 (n : Int))).run Try.prog u = .ok (.slice (some ⟨u.heap.size, 0, none⟩) n n) (u.alloc (.cells (madeCells (pkA fun _ => 0) (n * 6)) 27)) := by
  obtain ⟨i0, hi, hz0, hz1, hz2⟩ := info_parts Try.infoPk6
  have h := run_make (P := Try.prog) u 23 27 i0 (pkV fun _ => 0) Try.underlying23 hi hz0 .i64 .i64 (n : Int) (n : Int) (by omega) (Int.le_refl _) (by rw [hz2]; omega) (by omega)
  rw [Int.toNat_natCast, hz1] at h
  exact h
theorem pkA_eq (k : Nat → Int) : pkA k = #[.int .i64 (k 0), .int .i64 (k 1), .int .i64 (k 2), .int .i64 (k 3), .int .i64 (k 4), .int .i64 (k 5)] := rfl
set_option maxRecDepth 100000 in
set_option maxHeartbeats 2000000 in
theorem made_any (v : Value) (n : Nat) (ps : Nat → Nat → Int) (k : Nat → Int) (w : World) (h : PkR w v n ps) (hk : Nm k) :
    Calls Try.prog 37 #[v, pkV k] w fun e w' => ∃ g m cap e', w.heap.size ≤ g ∧ Is (setS ((List.range n).map fun j => actS (ps j) k)) m e' ∧ e = .returned (.slice (some ⟨g, 0, none⟩) m cap) ∧ Own w' g m cap e' ∧ w.grownBy w' none := by
  obtain ⟨a, ca, rfl⟩ := h.slice
  have hn := h.few
  have HP := hide h
  have HK := hide hk
  clear h hk
  obtain ⟨w1, hw1⟩ : ∃ w1, w1 = w.alloc (.cells (pkA k) 27) := ⟨_, rfl⟩
  have B1 : pkBlk w1 w.heap.size k := by rw [hw1]; exact pkBlk.alloc w k
  have G1 : w.grownBy w1 none := by rw [hw1]; exact World.grownBy_alloc _ _ _
  have z1 : w1.heap.size = w.heap.size + 1 := by rw [hw1]; simp
  obtain ⟨w2, hw2⟩ : ∃ w2, w2 = w1.alloc (.cells (madeCells (pkA fun _ => 0) (n * 6)) 27) := ⟨_, rfl⟩
  have B2 : Hid (pkBlk w2 w.heap.size k) := by rw [hw2]; exact B1.grown (World.grownBy_alloc _ _ none) (by simp)
  have O2 : Hid (Own w2 (w.heap.size + 1) n n (fun _ _ => 0)) := by rw [hw2, ← z1]; exact Own.made w1 n hn
  have G2 : Hid (w.grownBy w2 none) := by rw [hw2]; exact grown_trans G1 (World.grownBy_alloc _ _ _)
  have hmk : ∀ ww, (Instr.makeSlice 23 (.int .i64 (n : Int)) (.int .i64 (n : Int))).run Try.prog ww = .ok (.slice (some ⟨ww.heap.size, 0, none⟩) n n) (ww.alloc (.cells (madeCells (pkA fun _ => 0) (n * 6)) 27)) := fun ww => run_makePk ww n hn
  obtain ⟨mc, hmc⟩ : ∃ mc, mc = madeCells (pkA fun _ => 0) (n * 6) := ⟨_, rfl⟩
  rw [← hmc] at hw2
  simp only [← hmc] at hmk
  clear hmc B1 G1
  unfold pkA at hw1
  unfold pkV pkA
  go_enter Try.func37, Try.ntmps37
  go_wp2
  rw [← hw1, ← hw2]
  clear hw1 hw2 hmk
  have hzz : w.heap.size + 1 = w1.heap.size := z1.symm
  try rw [← hzz]
  clear hzz z1
  go_loopw [13] (fun i wr => ∃ j : Nat, j ≤ n ∧ i = .int .i64 j ∧ pkBlk wr w.heap.size k ∧ Own wr (w.heap.size + 1) n n (fun t => if t < j then actS (ps t) k else fun _ => 0) ∧ w.grownBy wr none) (fun i _ => n - (intOf i).toNat)
  case atStart => exact ⟨0, by omega, rfl, B2.out, O2.out, G2.out⟩
  case round =>
    obtain ⟨j, hj, rfl, hb, ho, hg⟩ := hrel
    clear B2 O2 G2
    obtain ⟨E, hE⟩ : ∃ E : Nat → Nat → Int, E = fun t => if t < j then actS (ps t) k else fun _ => 0 := ⟨_, rfl⟩
    rw [← hE] at ho
    have HE := hide hE
    clear hE
    have HB := hide hb
    have HO := hide ho
    have HG := hide hg
    clear hb ho hg
    by_cases hlt : j < n
    · rcases HP.out with ⟨_, _, _, h0, _⟩ | ⟨g, off, cap', hv, _, hcell⟩
      · omega
      cases hv
      obtain ⟨x, hx⟩ : ∃ x, x = ps j := ⟨_, rfl⟩
      have cc : ∀ i, i < 6 → wr.cell? ⟨g, off + j * 6 + i, none⟩ = some (.int .i64 (x i)) := fun i hi => by rw [hx]; exact HG.out.cell (hcell j hlt i hi) (by simp)
      have c0 := cc 0 (by omega)
      have c1 := cc 1 (by omega)
      have c2 := cc 2 (by omega)
      have c3 := cc 3 (by omega)
      have c4 := cc 4 (by omega)
      have c5 := cc 5 (by omega)
      rw [Nat.add_zero] at c0
      have d0 := HB.out.cell 0 (by omega)
      have d1 := HB.out.cell 1 (by omega)
      have d2 := HB.out.cell 2 (by omega)
      have d3 := HB.out.cell 3 (by omega)
      have d4 := HB.out.cell 4 (by omega)
      have d5 := HB.out.cell 5 (by omega)
      have hzz : w.heap.size < wr.heap.size := (Array.getElem?_eq_some_iff.1 HB.out).1
      have HX := hide hx
      clear cc hcell hx
      have hltI : (j : Int) < n := by omega
      obtain ⟨wa, hwa⟩ : ∃ wa, wa = wr.alloc (.cells (pkA x) 27) := ⟨_, rfl⟩
      have GA : wr.grownBy wa none := by rw [hwa]; exact World.grownBy_alloc _ _ _
      have HA := hide (act_any x k wa)
      unfold pkA at hwa
      unfold pkV pkA at HA
      go_wp2_with fail
      rw [← hwa]
      clear hwa c0 c1 c2 c3 c4 c5 d0 d1 d2 d3 d4 d5 hzz
      refine HA.out.mono ?_
      rintro e w3 ⟨rfl, hg3⟩
      have B3 := hide (HB.out.grown (grown_trans GA hg3) (by simp))
      have O3 := hide (HO.out.grown (grown_trans GA hg3) (by simp))
      have G3 := hide (grown_trans HG.out (grown_trans GA hg3))
      clear GA hg3 HA HB HO HG
      obtain ⟨y, hy⟩ : ∃ y, y = actS x k := ⟨_, rfl⟩
      rw [← hy]
      have HY := hide hy
      clear hy
      have f0 : w3.cell? ⟨w.heap.size + 1, j * 6, none⟩ = some (.int .i64 (E j 0)) := O3.out.cell j hlt 0 (by omega)
      have f1 := O3.out.cell j hlt 1 (by omega)
      have f2 := O3.out.cell j hlt 2 (by omega)
      have f3 := O3.out.cell j hlt 3 (by omega)
      have f4 := O3.out.cell j hlt 4 (by omega)
      have f5 := O3.out.cell j hlt 5 (by omega)
      have fz := O3.out.frozen
      go_wp2_with fail
      have hop := O3.out.put j hlt y
      have hop2 : Own (lay6 w3 (w.heap.size + 1) (j * 6) y) (w.heap.size + 1) n n (fun t => if t < j + 1 then actS (ps t) k else fun _ => 0) := hop.cong (fun t ht i hi => by
        by_cases e : t = j
        · subst e; rw [if_pos rfl, if_pos (by omega), HY.out, HX.out]
        · rw [if_neg e, HE.out]
          show (if t < j then actS (ps t) k else fun _ => 0) i = (if t < j + 1 then actS (ps t) k else fun _ => 0) i
          by_cases e2 : t < j
          · rw [if_pos e2, if_pos (by omega)]
          · rw [if_neg e2, if_neg (by omega)])
      exact ⟨⟨j + 1, by omega, by go_num, B3.out.grown (lay6_grown _ _ _ _) (by simp), hop2, grown_new G3.out (lay6_grown _ _ _ _) (by omega)⟩, by simp [intOf]; omega⟩
    · obtain rfl : j = n := by omega
      have HS := hide (set_any wr (w.heap.size + 1) j j E HO.out (fun t ht => by
        rw [HE.out]
        show Nm (if t < j then actS (ps t) k else fun _ => 0)
        rw [if_pos ht]
        exact actS_nm HK.out))
      go_wp2_with fail
      refine HS.out.mono ?_
      rintro e w4 ⟨m, e', hI, rfl, ho, hg⟩
      have HI := hide hI
      have HO4 := hide ho
      have HG4 := hide hg
      clear hI ho hg HS
      go_wp2
      go_ret
      refine ⟨w.heap.size + 1, m, j, e', by omega, ?_, rfl, HO4.out, grown_new HG.out HG4.out (by omega)⟩
      have hm : (List.range j).map E = (List.range j).map fun t => actS (ps t) k := by
        apply List.map_congr_left
        intro t ht
        rw [HE.out]
        show (if t < j then actS (ps t) k else fun _ => 0) = actS (ps t) k
        rw [if_pos (List.mem_range.1 ht)]
      have := HI.out
      rw [hm] at this
      exact this
end Go.Proofs.Ytlhkfafdioakeaa
