/- Proved here: rows of packets in blocks of their own; slices.Compact on them. -/
import Derived.Test.YtlhkfafdioakeaaLkB
import Derived.Lib.SliceRun
import Derived.Laws.OwnMore
namespace Go.Proofs.Ytlhkfafdioakeaa
open Go.RowKit
set_option linter.unusedVariables false
set_option linter.unusedSimpArgs false
/-- A row of packets in a block of its own: so many, with room for so many. -/
def Own (w : World) (g n cap : Nat) (d : Nat → Nat → Int) : Prop :=
  ∃ cur : Array Value, w.heap[g]? = some (.cells cur 27 (0, 0)) ∧ cur.size = cap * 6 ∧ n ≤ cap ∧ (cap ≤ 9223372036854775807 ∧ n ≤ 3000000000000) ∧ ∀ j, j < n → ∀ i, i < 6 → cur[j * 6 + i]? = some (.int .i64 (d j i))
theorem Own.cell {w : World} {g n cap : Nat} {d : Nat → Nat → Int} (h : Own w g n cap d) (j : Nat) (hj : j < n) (i : Nat) (hi : i < 6) : w.cell? ⟨g, j * 6 + i, none⟩ = some (.int .i64 (d j i)) := by
  obtain ⟨cur, h1, _, _, _, h4⟩ := h
  simp only [World.cell?, h1]
  simpa using h4 j hj i hi
theorem Own.frozen {w : World} {g n cap : Nat} {d : Nat → Nat → Int} (h : Own w g n cap d) (o : Nat) : w.frozen? ⟨g, o, none⟩ = false := by
  obtain ⟨cur, h1, _⟩ := h
  simp [World.frozen?, h1]
theorem Own.any {w : World} {g n cap : Nat} {d : Nat → Nat → Int} (h : Own w g n cap d) (o : Nat) (ho : o < cap * 6) : (w.cell? ⟨g, o, none⟩).isSome = true := by
  obtain ⟨cur, h1, h2, _⟩ := h
  simp only [World.cell?, h1]
  simp [h2, ho]
theorem Own.lt {w : World} {g n cap : Nat} {d : Nat → Nat → Int} (h : Own w g n cap d) : g < w.heap.size := by
  obtain ⟨cur, h1, _⟩ := h
  exact (Array.getElem?_eq_some_iff.1 h1).1
theorem Own.cap {w : World} {g n cap : Nat} {d : Nat → Nat → Int} (h : Own w g n cap d) : n ≤ cap ∧ cap ≤ 9223372036854775807 ∧ n ≤ 3000000000000 := by
  obtain ⟨cur, _, _, h1, h2, _⟩ := h
  exact ⟨h1, h2⟩
theorem Own.grown {w w' : World} {g n cap : Nat} {d : Nat → Nat → Int} {row : Option Nat} (h : Own w g n cap d) (hg : w.grownBy w' row) (hr : row ≠ some g) : Own w' g n cap d := by
  obtain ⟨cur, h1, h2⟩ := h
  exact ⟨cur, by rw [hg.block g (Array.getElem?_eq_some_iff.1 h1).1 hr.symm, h1], h2⟩
theorem Own.cong {w : World} {g n cap : Nat} {d e : Nat → Nat → Int} (h : Own w g n cap d) (he : ∀ j, j < n → ∀ i, i < 6 → d j i = e j i) : Own w g n cap e := by
  obtain ⟨cur, h1, h2, h3, h4, h5⟩ := h
  exact ⟨cur, h1, h2, h3, h4, fun j hj i hi => by rw [← he j hj i hi]; exact h5 j hj i hi⟩
theorem Own.less {w : World} {g n cap m : Nat} {d : Nat → Nat → Int} (h : Own w g n cap d) (hm : m ≤ n) : Own w g m cap d := by
  obtain ⟨cur, h1, h2, h3, h4, h5⟩ := h
  exact ⟨cur, h1, h2, by omega, ⟨h4.1, by omega⟩, fun j hj => h5 j (by omega)⟩
theorem Own.row {w : World} {g n cap : Nat} {d : Nat → Nat → Int} (h : Own w g n cap d) : PkRow w (.slice (some ⟨g, 0, none⟩) n cap) n d :=
  .inr ⟨g, 0, cap, rfl, by have := h.cap; omega, fun j hj i hi => by rw [Nat.zero_add]; exact h.cell j hj i hi⟩
/-- A packet laid over six cells. -/
def lay6 (w : World) (g o : Nat) (x : Nat → Int) : World :=
  (((((w.setCell ⟨g, o, none⟩ (.int .i64 (x 0))).setCell ⟨g, o + 1, none⟩ (.int .i64 (x 1))).setCell ⟨g, o + 2, none⟩ (.int .i64 (x 2))).setCell ⟨g, o + 3, none⟩ (.int .i64 (x 3))).setCell ⟨g, o + 4, none⟩ (.int .i64 (x 4))).setCell ⟨g, o + 5, none⟩ (.int .i64 (x 5))
theorem lay6_heap {w : World} {g o : Nat} {cur : Array Value} {T : TypeId} (h : w.heap[g]? = some (.cells cur T (0, 0))) (x : Nat → Int) :
    (lay6 w g o x).heap[g]? = some (.cells ((((((cur.setIfInBounds o (.int .i64 (x 0))).setIfInBounds (o + 1) (.int .i64 (x 1))).setIfInBounds (o + 2) (.int .i64 (x 2))).setIfInBounds (o + 3) (.int .i64 (x 3))).setIfInBounds (o + 4) (.int .i64 (x 4))).setIfInBounds (o + 5) (.int .i64 (x 5))) T (0, 0)) :=
  heap_set (heap_set (heap_set (heap_set (heap_set (heap_set h _ _) _ _) _ _) _ _) _ _) _ _
theorem lay6_grown (w : World) (g o : Nat) (x : Nat → Int) : w.grownBy (lay6 w g o x) (some g) :=
  grown_trans (grown_trans (grown_trans (grown_trans (grown_trans (grown_set _ _ _ _) (grown_set _ _ _ _)) (grown_set _ _ _ _)) (grown_set _ _ _ _)) (grown_set _ _ _ _)) (grown_set _ _ _ _)
theorem Own.put {w : World} {g n cap : Nat} {d : Nat → Nat → Int} (h : Own w g n cap d) (j : Nat) (hj : j < n) (x : Nat → Int) : Own (lay6 w g (j * 6) x) g n cap (fun t => if t = j then x else d t) := by
  obtain ⟨cur, h1, h2, h3, h4, h5⟩ := h
  refine ⟨_, lay6_heap h1 x, by simp [h2], h3, h4, fun t ht i hi => ?_⟩
  have hlt : j * 6 + 5 < cur.size := by rw [h2]; omega
  simp only [Array.getElem?_setIfInBounds, Array.size_setIfInBounds]
  by_cases e : t = j
  · subst e
    rw [if_pos rfl]
    rcases (show i = 0 ∨ i = 1 ∨ i = 2 ∨ i = 3 ∨ i = 4 ∨ i = 5 by omega) with rfl | rfl | rfl | rfl | rfl | rfl
    all_goals (repeat' split) <;> first | omega | rfl
  · rw [if_neg e, if_neg (by omega), if_neg (by omega), if_neg (by omega), if_neg (by omega), if_neg (by omega), if_neg (by omega)]
    exact h5 t ht i hi
theorem eq6_true {x y : Nat → Int} (h : cmpP x y = 0) : eq6 (x 0) (x 1) (x 2) (x 3) (x 4) (x 5) (y 0) (y 1) (y 2) (y 3) (y 4) (y 5) = true := by
  have e := (cmpP_zero _ _).1 h
  unfold eq6
  rw [e 0 (by omega), e 1 (by omega), e 2 (by omega), e 3 (by omega), e 4 (by omega), e 5 (by omega)]
  simp
theorem eq6_false {x y : Nat → Int} (h : cmpP x y ≠ 0) : eq6 (x 0) (x 1) (x 2) (x 3) (x 4) (x 5) (y 0) (y 1) (y 2) (y 3) (y 4) (y 5) = false := by
  cases hb : eq6 (x 0) (x 1) (x 2) (x 3) (x 4) (x 5) (y 0) (y 1) (y 2) (y 3) (y 4) (y 5) with
  | false => rfl
  | true =>
    unfold eq6 at hb
    simp only [Bool.and_eq_true, beq_iff_eq] at hb
    obtain ⟨h0, h1, h2, h3, h4, h5⟩ := hb
    refine absurd ((cmpP_zero _ _).2 (fun t ht => ?_)) h
    rcases (show t = 0 ∨ t = 1 ∨ t = 2 ∨ t = 3 ∨ t = 4 ∨ t = 5 by omega) with rfl | rfl | rfl | rfl | rfl | rfl <;> assumption
/-- How far the compacting of a row has come: of the first p there are k left, which e has at its front; behind them e is as the row was. -/
structure CompI (d : Nat → Nat → Int) (p k : Nat) (e : Nat → Nat → Int) : Prop where
  len : (compN d p).length = k
  low : ∀ j, j < k → (compN d p)[j]? = some (e j)
  high : ∀ j, k ≤ j → e j = d j
theorem CompI.one (d : Nat → Nat → Int) : CompI d 1 1 d := ⟨rfl, fun j (hj : j < 1) => by
  obtain rfl : j = 0 := by omega
  rfl, fun _ _ => rfl⟩
theorem CompI.skip {d e : Nat → Nat → Int} {p k : Nat} (h : CompI d p k e) (hp : 1 ≤ p) (hs : cmpP (d p) (d (p - 1)) = 0) : CompI d (p + 1) k e := by
  have e1 : compN d (p + 1) = compN d p := by
    conv => lhs; unfold compN
    rw [if_pos ⟨by omega, hs⟩]
  exact ⟨by rw [e1]; exact h.len, by rw [e1]; exact h.low, h.high⟩
theorem CompI.keep {d e : Nat → Nat → Int} {p k : Nat} (h : CompI d p k e) (hs : cmpP (d p) (d (p - 1)) ≠ 0) : CompI d (p + 1) (k + 1) (fun t => if t = k then d p else e t) := by
  have e1 : compN d (p + 1) = compN d p ++ [d p] := by
    conv => lhs; unfold compN
    rw [if_neg (fun c => hs c.2)]
  refine ⟨by rw [e1, List.length_append, h.len]; rfl, fun j hj => ?_, fun j hj => ?_⟩
  · rw [e1]
    by_cases c : j = k
    · subst c
      rw [List.getElem?_append_right (by rw [h.len]; exact Nat.le_refl _), h.len]
      simp
    · rw [List.getElem?_append_left (by rw [h.len]; omega), h.low j (by omega)]
      simp [c]
  · show (if j = k then d p else e j) = d j
    rw [if_neg (by omega)]
    exact h.high j (by omega)
theorem CompI.same {d : Nat → Nat → Int} {p : Nat} (h : CompI d p p d) (hs : cmpP (d p) (d (p - 1)) ≠ 0) : CompI d (p + 1) (p + 1) d := by
  have := h.keep hs
  have e : (fun t => if t = p then d p else d t) = d := by
    funext t
    split
    · rename_i c; rw [c]
    · rfl
  rw [e] at this
  exact this
theorem setCells_heap {g : Nat} {T : TypeId} : ∀ (vs : List Value) (o : Nat) (w : World) (cur : Array Value), w.heap[g]? = some (.cells cur T (0, 0)) → ∃ cur', (w.setCells g o vs).heap[g]? = some (.cells cur' T (0, 0)) ∧ cur'.size = cur.size ∧ ∀ t, t < o → cur'[t]? = cur[t]?
  | [], o, w, cur, h => ⟨cur, h, rfl, fun _ _ => rfl⟩
  | v :: vs, o, w, cur, h => by
    obtain ⟨cur', h1, h2, h3⟩ := setCells_heap vs (o + 1) (w.setCell ⟨g, o, none⟩ v) _ (heap_set h o v)
    refine ⟨cur', h1, by rw [h2]; simp, fun t ht => ?_⟩
    rw [h3 t (by omega), Array.getElem?_setIfInBounds_ne (by omega)]
theorem setCells_grownP (g : Nat) : ∀ (vs : List Value) (o : Nat) (w : World), w.grownBy (w.setCells g o vs) (some g)
  | [], o, w => grown_refl _ _
  | v :: vs, o, w => grown_trans (grown_set w g o v) (setCells_grownP g vs (o + 1) _)
theorem Own.cleared {w : World} {g n cap m : Nat} {d : Nat → Nat → Int} (h : Own w g n cap d) (hm : m ≤ n) (vs : List Value) : Own (w.setCells g (m * 6) vs) g m cap d := by
  obtain ⟨cur, h1, h2, h3, h4, h5⟩ := h
  obtain ⟨cur', g1, g2, g3⟩ := setCells_heap vs (m * 6) w cur h1
  exact ⟨cur', g1, by omega, by omega, ⟨h4.1, by omega⟩, fun j hj i hi => by rw [g3 _ (by omega)]; exact h5 j (by omega) i hi⟩
theorem run_clear_pk (w : World) (g o m c : Nat) (ty : TypeId) (hm : 0 < m) (hc : ∀ j, j < m * 6 → (w.cell? ⟨g, o + j, none⟩).isSome = true) (hf : ∀ j, j < m * 6 → w.frozen? ⟨g, o + j, none⟩ = false) :
    (Builtin.clear_ #[23] ty #[.slice (some ⟨g, o, none⟩) m c]).run Try.prog w = .ok (.tuple #[]) (w.setCells g o (Builtin.zeroCells (pkA fun _ => 0) m).toList) := by
  have ht : Try.prog.underlying 23 = some (.slice 27) := by kernel_rfl
  have hv : ∀ w, (zeroValue 27).run Try.prog w = .ok (pkV fun _ => 0) w := Try.zeroValue27
  have hz : (pkV fun _ => 0).cells = pkA fun _ => 0 := rfl
  have hst := run_storeCells_cells (P := Try.prog) g o (Builtin.zeroCells (pkA fun _ => 0) m).toList 0 w (by simpa [Builtin.zeroCells, pkA] using hc) (by simpa [Builtin.zeroCells, pkA] using hf) (by
    intro v hv'
    simp only [Builtin.zeroCells, Array.toList_map, List.mem_map] at hv'
    obtain ⟨i, _, rfl⟩ := hv'
    have : i % (pkA fun _ => 0).size < 6 := Nat.mod_lt _ (by simp [pkA])
    rcases (show i % (pkA fun _ => 0).size = 0 ∨ i % (pkA fun _ => 0).size = 1 ∨ i % (pkA fun _ => 0).size = 2 ∨ i % (pkA fun _ => 0).size = 3 ∨ i % (pkA fun _ => 0).size = 4 ∨ i % (pkA fun _ => 0).size = 5 by omega) with e | e | e | e | e | e <;> rw [e] <;> rfl)
  simp only [Nat.add_zero] at hst
  obtain ⟨k, rfl⟩ : ∃ k, m = k + 1 := ⟨m - 1, by omega⟩
  simp [Builtin.clear_, run_underlying ht, hv, hz, hst]
set_option maxRecDepth 100000 in
set_option maxHeartbeats 2000000 in
theorem compact_any (w : World) (g n cap : Nat) (d : Nat → Nat → Int) (h : Own w g n cap d) :
    Calls Try.prog 57 #[.slice (some ⟨g, 0, none⟩) n cap] w fun e w' => ∃ m e', CompI d n m e' ∧ e = .returned (.slice (some ⟨g, 0, none⟩) m cap) ∧ Own w' g m cap e' ∧ w.grownBy w' (some g) := by
  have hcap := h.cap
  obtain ⟨hc1, hc2, hc3⟩ := hcap
  have HO := hide h
  clear h
  by_cases h2 : n < 2
  · go_enter Try.func57, Try.ntmps57
    have h2I : (n : Int) < 2 := by omega
    go_wp2
    go_ret
    rcases (show n = 0 ∨ n = 1 by omega) with e | e
    · subst e
      exact ⟨0, d, ⟨rfl, fun j hj => by omega, fun _ _ => rfl⟩, rfl, HO.out, grown_refl _ _⟩
    · subst e
      exact ⟨1, d, CompI.one d, rfl, HO.out, grown_refl _ _⟩
  · have h2I : ¬ (n : Int) < 2 := by omega
    go_enter Try.func57, Try.ntmps57
    go_wp2
    go_loopw [3] (fun s3 wr => ∃ k : Nat, 1 ≤ k ∧ k ≤ n ∧ s3 = .int .i64 k ∧ CompI d k k d ∧ Own wr g n cap d ∧ w.grownBy wr (some g)) (fun s3 _ => n - (intOf s3).toNat)
    case atStart => exact ⟨1, by omega, by omega, rfl, CompI.one d, HO.out, grown_refl _ _⟩
    case round =>
      obtain ⟨k, hk1, hk, rfl, hI, hO, hg⟩ := hrel
      have HI := hide hI
      have HOO := hide hO
      have HG := hide hg
      clear hI hO hg
      by_cases hlt : k < n
      · have hltI : (k : Int) < n := by omega
        have hk1I : (1 : Int) ≤ k := by omega
        obtain ⟨x, hx⟩ : ∃ x, x = d k := ⟨_, rfl⟩
        obtain ⟨y, hy⟩ : ∃ y, y = d (k - 1) := ⟨_, rfl⟩
        have c0 := HOO.out.cell k hlt 0 (by omega)
        have c1 := HOO.out.cell k hlt 1 (by omega)
        have c2 := HOO.out.cell k hlt 2 (by omega)
        have c3 := HOO.out.cell k hlt 3 (by omega)
        have c4 := HOO.out.cell k hlt 4 (by omega)
        have c5 := HOO.out.cell k hlt 5 (by omega)
        have d0 := HOO.out.cell (k - 1) (by omega) 0 (by omega)
        have d1 := HOO.out.cell (k - 1) (by omega) 1 (by omega)
        have d2 := HOO.out.cell (k - 1) (by omega) 2 (by omega)
        have d3 := HOO.out.cell (k - 1) (by omega) 3 (by omega)
        have d4 := HOO.out.cell (k - 1) (by omega) 4 (by omega)
        have d5 := HOO.out.cell (k - 1) (by omega) 5 (by omega)
        rw [← hx] at c0 c1 c2 c3 c4 c5
        rw [← hy] at d0 d1 d2 d3 d4 d5
        rw [Nat.add_zero] at c0 d0
        by_cases hs : cmpP x y = 0
        · have he := eq6_true hs
          have HS : Hid (cmpP (d k) (d (k - 1)) = 0) := by rw [← hx, ← hy]; exact hs
          clear hs hx hy
          go_wp2_with fail
          go_quiet (fail)
          go_wp2
          clear c0 c1 c2 c3 c4 c5 d0 d1 d2 d3 d4 d5 he
          have HI2 := hide (HI.out.skip hk1 HS.out)
          clear HI HS
          go_loopw [3, 5] (fun s3 s5 wq => ∃ (kk k2 : Nat) (e' : Nat → Nat → Int), 1 ≤ k2 ∧ k + k2 ≤ n ∧ kk + 1 ≤ k + k2 ∧ s3 = .int .i64 kk ∧ s5 = .int .i64 k2 ∧ CompI d (k + k2) kk e' ∧ Own wq g n cap e' ∧ w.grownBy wq (some g)) (fun _ s5 _ => n - (intOf s5).toNat)
          case atStart => exact ⟨k, 1, d, by omega, by omega, by omega, rfl, rfl, HI2.out, HOO.out.grown (grown_drewN (grown_refl _ none) _) (by simp), grown_drewN HG.out _⟩
          case round =>
            obtain ⟨kk, k2, e', hk2, hkk, hlow, rfl, rfl, hI, hO, hg⟩ := hrel
            clear HI2 HOO HG
            have HI := hide hI
            have HOO := hide hO
            have HG := hide hg
            clear hI hO hg
            by_cases hlt2 : k + k2 < n
            · have hlt2I : (k2 : Int) < n - k := by omega
              have hk2I : (1 : Int) ≤ k2 := by omega
              have hkkI : (kk : Int) < n := by omega
              obtain ⟨x, hx⟩ : ∃ x, x = d (k + k2) := ⟨_, rfl⟩
              obtain ⟨y, hy⟩ : ∃ y, y = d (k + k2 - 1) := ⟨_, rfl⟩
              have ex : e' (k + k2) = x := by rw [hx]; exact HI.out.high _ (by omega)
              have ey : e' (k + k2 - 1) = y := by rw [hy]; exact HI.out.high _ (by omega)
              have cx : ∀ i, i < 6 → wr.cell? ⟨g, k * 6 + k2 * 6 + i, none⟩ = some (.int .i64 (x i)) := fun i hi => by
                rw [← ex, ← HOO.out.cell (k + k2) hlt2 i hi]; congr 2; omega
              have cy : ∀ i, i < 6 → wr.cell? ⟨g, k * 6 + (k2 - 1) * 6 + i, none⟩ = some (.int .i64 (y i)) := fun i hi => by
                rw [← ey, ← HOO.out.cell (k + k2 - 1) (by omega) i hi]; congr 2; omega
              have c0 := cx 0 (by omega)
              have c1 := cx 1 (by omega)
              have c2 := cx 2 (by omega)
              have c3 := cx 3 (by omega)
              have c4 := cx 4 (by omega)
              have c5 := cx 5 (by omega)
              have d0 := cy 0 (by omega)
              have d1 := cy 1 (by omega)
              have d2 := cy 2 (by omega)
              have d3 := cy 3 (by omega)
              have d4 := cy 4 (by omega)
              have d5 := cy 5 (by omega)
              rw [Nat.add_zero] at c0 d0
              clear cx cy ex ey
              by_cases hs : cmpP x y = 0
              · have he := eq6_true hs
                have HS : Hid (cmpP (d (k + k2)) (d (k + k2 - 1)) = 0) := by rw [← hx, ← hy]; exact hs
                clear hs hx hy
                go_wp2_with fail
                go_quiet (fail)
                go_wp2
                go_roundw
                case rel => exact ⟨kk, k2 + 1, e', by omega, by omega, by omega, rfl, by go_num, HI.out.skip (by omega) HS.out, HOO.out.grown (grown_drewN (grown_refl _ none) _) (by simp), grown_drewN HG.out _⟩
                case measure => simp [intOf]; omega
              · have he := eq6_false hs
                have HS : Hid (cmpP (d (k + k2)) (d (k + k2 - 1)) ≠ 0) := by rw [← hx, ← hy]; exact hs
                have HX := hide hx
                clear hs hx hy
                have f0 := HOO.out.cell kk (by omega) 0 (by omega)
                have f1 := HOO.out.cell kk (by omega) 1 (by omega)
                have f2 := HOO.out.cell kk (by omega) 2 (by omega)
                have f3 := HOO.out.cell kk (by omega) 3 (by omega)
                have f4 := HOO.out.cell kk (by omega) 4 (by omega)
                have f5 := HOO.out.cell kk (by omega) 5 (by omega)
                rw [Nat.add_zero] at f0
                have fz := HOO.out.frozen
                go_wp2_with fail
                go_quiet (fail)
                go_wp2_with fail
                have hkp := HI.out.keep HS.out
                rw [← HX.out] at hkp
                have hop := (HOO.out.grown (grown_drewN (grown_refl wr none) nq) (by simp)).put kk (by omega) x
                exact ⟨⟨kk + 1, k2 + 1, _, by omega, by omega, by omega, by go_num, by go_num, hkp, hop, grown_trans (grown_drewN HG.out _) (lay6_grown _ _ _ _)⟩, by simp [intOf]; omega⟩
            · have hend : k + k2 = n := by omega
              have hlt2I : ¬ (k2 : Int) < n - k := by omega
              have hcl : ∀ ty, (Builtin.clear_ #[23] ty #[.slice (some ⟨g, kk * 6, none⟩) (n - kk) (cap - kk)]).run Try.prog wr = .ok (.tuple #[]) (wr.setCells g (kk * 6) (Builtin.zeroCells (pkA fun _ => 0) (n - kk)).toList) :=
                fun ty => run_clear_pk wr g (kk * 6) (n - kk) (cap - kk) ty (by omega) (fun j hj => HOO.out.any _ (by omega)) (fun j hj => HOO.out.frozen _)
              generalize (Builtin.zeroCells (pkA fun _ => 0) (n - kk)).toList = vs at hcl
              go_wp2
              go_ret
              exact ⟨kk, e', by rw [← hend]; exact HI.out, rfl, HOO.out.cleared (by omega) _, grown_trans HG.out (setCells_grownP _ _ _ _)⟩
        · have he := eq6_false hs
          have HS : Hid (cmpP (d k) (d (k - 1)) ≠ 0) := by rw [← hx, ← hy]; exact hs
          clear hs hx hy
          go_wp2_with fail
          go_quiet (fail)
          go_wp2
          go_roundw
          case rel => exact ⟨k + 1, by omega, by omega, by go_num, HI.out.same HS.out, HOO.out.grown (grown_drewN (grown_refl _ none) _) (by simp), grown_drewN HG.out _⟩
          case measure => simp [intOf]; omega
      · obtain rfl : k = n := by omega
        go_wp2
        go_ret
        exact ⟨k, d, HI.out, rfl, HOO.out, HG.out⟩
end Go.Proofs.Ytlhkfafdioakeaa
