/- Proved here: rows of rules in blocks of their own; copies; rules that are lent. -/
import Derived.Test.YtlhkfafdioakeaaGreatDoorGLh
namespace Go.Proofs.YtlhkfafdioakeaaGreatDoor
open Go.RowKit
set_option linter.unusedVariables false
set_option linter.unusedSimpArgs false
section
variable {P : Program}
/-- copy(dst, src) of elements of so many cells: all is read ahead of all that is written. -/
theorem run_copy_many (w : World) (dT sT ty elem : TypeId) (i : TypeInfo) (b dLen dCap : Nat) (a : Addr) (sLen sCap : Nat) (cs : List Value)
    (hu : P.underlying dT = some (.slice elem)) (hi : P.info? elem = some i) (hle : sLen ≤ dLen) (hn : cs.length = sLen * i.size)
    (hsrc : ∀ j v, cs[j]? = some v → w.cell? (a.add j) = some v) (hc : ∀ j, j < cs.length → (w.cell? ⟨b, 0 + j, none⟩).isSome = true) (hf : ∀ j, j < cs.length → w.frozen? ⟨b, 0 + j, none⟩ = false) (h1 : ∀ v ∈ cs, v.oneCell' = true) :
    (Builtin.copy_ #[dT, sT] ty #[.slice (some ⟨b, 0, none⟩) dLen dCap, .slice (some a) sLen sCap]).run P w = .ok (goInt sLen) (w.setCells b 0 cs) := by
  have hl := run_loadCells_list (P := P) w a cs hsrc
  have hst := run_storeCells_cells (P := P) b 0 cs 0 w (by simpa using hc) (by simpa using hf) h1
  have hmin : Nat.min sLen dLen = sLen := Nat.min_eq_left hle
  rw [hn] at hl
  simp only [Nat.add_zero] at hst
  simp [Builtin.copy_, run_underlying hu, Builtin.lenOf, Builtin.firstCells, sizeOf, typeInfo, hi, hmin, hl, hst]
theorem run_copy_zero (w : World) (dT sT ty elem : TypeId) (i : TypeInfo) (b dLen dCap : Nat) (a : Option Addr) (sCap : Nat) (hu : P.underlying dT = some (.slice elem)) (hi : P.info? elem = some i) :
    (Builtin.copy_ #[dT, sT] ty #[.slice (some ⟨b, 0, none⟩) dLen dCap, .slice a 0 sCap]).run P w = .ok (goInt 0) w := by
  have hl : ∀ (x : Addr), (loadCells x 0).run P w = .ok #[] w := fun x => by simpa using run_loadCells_list (P := P) w x [] (by simp)
  have hmin : Nat.min 0 dLen = 0 := Nat.min_eq_left (Nat.zero_le _)
  cases a <;> simp [Builtin.copy_, run_underlying hu, Builtin.lenOf, Builtin.firstCells, sizeOf, typeInfo, hi, hmin, storeCells, hl]
end
theorem setCells_all {g : Nat} {T : TypeId} : ∀ (vs : List Value) (o : Nat) (w : World) (cur : Array Value), w.heap[g]? = some (.cells cur T (0, 0)) → o + vs.length ≤ cur.size → ∃ cur', (w.setCells g o vs).heap[g]? = some (.cells cur' T (0, 0)) ∧ cur'.size = cur.size ∧ (∀ t, t < vs.length → cur'[o + t]? = vs[t]?) ∧ ∀ t, t < o ∨ o + vs.length ≤ t → cur'[t]? = cur[t]?
  | [], o, w, cur, h, _ => ⟨cur, h, rfl, fun t ht => by simp at ht, fun _ _ => rfl⟩
  | v :: vs, o, w, cur, h, hl => by
    simp only [List.length_cons] at hl
    obtain ⟨cur', h1, h2, h3, h4⟩ := setCells_all vs (o + 1) (w.setCell ⟨g, o, none⟩ v) _ (heap_set h o v) (by simp; omega)
    refine ⟨cur', h1, by rw [h2]; simp, fun t ht => ?_, fun t ht => ?_⟩
    · by_cases e : t = 0
      · subst e
        rw [Nat.add_zero, h4 o (by omega), Array.getElem?_setIfInBounds_self_of_lt (by omega)]
        rfl
      · obtain ⟨s, rfl⟩ : ∃ s, t = s + 1 := ⟨t - 1, by omega⟩
        rw [show o + (s + 1) = o + 1 + s by omega, h3 s (by simp at ht; omega)]
        simp
    · simp only [List.length_cons] at ht
      rw [h4 t (by omega), Array.getElem?_setIfInBounds_ne (by omega)]
/-- A row of rules in a block of its own, told cell by cell. -/
def RB (w : World) (g N : Nat) (f : Nat → Nat → Value) : Prop :=
  ∃ cur : Array Value, w.heap[g]? = some (.cells cur 68 (0, 0)) ∧ cur.size = N * 8 ∧ ∀ j, j < N → ∀ i, i < 8 → cur[j * 8 + i]? = some (f j i)
theorem RB.cell {w : World} {g N : Nat} {f : Nat → Nat → Value} (h : RB w g N f) (j : Nat) (hj : j < N) (i : Nat) (hi : i < 8) : w.cell? ⟨g, j * 8 + i, none⟩ = some (f j i) := by
  obtain ⟨cur, h1, _, h4⟩ := h
  simp only [World.cell?, h1]
  simpa using h4 j hj i hi
theorem RB.frozen {w : World} {g N : Nat} {f : Nat → Nat → Value} (h : RB w g N f) (o : Nat) : w.frozen? ⟨g, o, none⟩ = false := by
  obtain ⟨cur, h1, _⟩ := h
  simp [World.frozen?, h1]
theorem RB.lt {w : World} {g N : Nat} {f : Nat → Nat → Value} (h : RB w g N f) : g < w.heap.size := by
  obtain ⟨cur, h1, _⟩ := h
  exact (Array.getElem?_eq_some_iff.1 h1).1
theorem RB.grown {w w' : World} {g N : Nat} {f : Nat → Nat → Value} {row : Option Nat} (h : RB w g N f) (hg : w.grownBy w' row) (hr : row ≠ some g) : RB w' g N f := by
  obtain ⟨cur, h1, h2⟩ := h
  exact ⟨cur, by rw [hg.block g (Array.getElem?_eq_some_iff.1 h1).1 hr.symm, h1], h2⟩
theorem RB.cong {w : World} {g N : Nat} {f e : Nat → Nat → Value} (h : RB w g N f) (he : ∀ j, j < N → ∀ i, i < 8 → f j i = e j i) : RB w g N e := by
  obtain ⟨cur, h1, h2, h5⟩ := h
  exact ⟨cur, h1, h2, fun j hj i hi => by rw [← he j hj i hi]; exact h5 j hj i hi⟩
theorem RB.set {w : World} {g N : Nat} {f : Nat → Nat → Value} (h : RB w g N f) (j : Nat) (hj : j < N) (i : Nat) (hi : i < 8) (x : Value) : RB (w.setCell ⟨g, j * 8 + i, none⟩ x) g N (fun t u => if t = j ∧ u = i then x else f t u) := by
  obtain ⟨cur, h1, h2, h5⟩ := h
  refine ⟨_, heap_set h1 _ _, by simp [h2], fun t ht u hu => ?_⟩
  show _ = some (if t = j ∧ u = i then x else f t u)
  by_cases e : t = j ∧ u = i
  · obtain ⟨rfl, rfl⟩ := e
    rw [if_pos ⟨rfl, rfl⟩, Array.getElem?_setIfInBounds_self_of_lt (by rw [h2]; omega)]
  · rw [if_neg e, Array.getElem?_setIfInBounds_ne (by omega)]
    exact h5 t ht u hu
/-- A rule's cells, one by one. -/
def rlC (p : Int) (mt : Nat → Int) (v : Value) : Nat → Value := fun i => if i = 0 then .int .i64 p else if i < 7 then .int .i64 (mt (i - 1)) else v
def rlL (p : Int) (mt : Nat → Int) (v : Value) : List Value := [.int .i64 p, .int .i64 (mt 0), .int .i64 (mt 1), .int .i64 (mt 2), .int .i64 (mt 3), .int .i64 (mt 4), .int .i64 (mt 5), v]
theorem rlL_get (p : Int) (mt : Nat → Int) (v : Value) (i : Nat) (hi : i < 8) : (rlL p mt v)[i]? = some (rlC p mt v i) := by
  rcases (show i = 0 ∨ i = 1 ∨ i = 2 ∨ i = 3 ∨ i = 4 ∨ i = 5 ∨ i = 6 ∨ i = 7 by omega) with rfl | rfl | rfl | rfl | rfl | rfl | rfl | rfl <;> rfl
/-- The cells of so many rules. -/
def flR (rs : Nat → Rl) : Nat → List Value
  | 0 => []
  | n + 1 => flR rs n ++ rlL (rs n).prio (rs n).mt (rs n).av
theorem flR_len (rs : Nat → Rl) : ∀ n, (flR rs n).length = n * 8
  | 0 => rfl
  | n + 1 => by rw [flR, List.length_append, flR_len rs n]; simp [rlL]; omega
theorem flR_get (rs : Nat → Rl) : ∀ n j i, j < n → i < 8 → (flR rs n)[j * 8 + i]? = some (rlC (rs j).prio (rs j).mt (rs j).av i)
  | 0, _, _, h, _ => by omega
  | n + 1, j, i, h, hi => by
    rw [flR]
    by_cases e : j = n
    · subst e
      rw [List.getElem?_append_right (by rw [flR_len]; omega), flR_len, show j * 8 + i - j * 8 = i by omega, rlL_get _ _ _ _ hi]
    · rw [List.getElem?_append_left (by rw [flR_len]; omega)]
      exact flR_get rs n j i (by omega) hi
theorem flR_one (rs : Nat → Rl) (n : Nat) (h : ∀ j, j < n → ∃ a l c, (rs j).av = .slice a l c) : ∀ v ∈ flR rs n, v.oneCell' = true := by
  induction n with
  | zero => intro v hv; simp [flR] at hv
  | succ n ih =>
    intro v hv
    rw [flR, List.mem_append] at hv
    rcases hv with g | g
    · exact ih (fun j hj => h j (by omega)) v g
    · obtain ⟨a, l, c, e⟩ := h n (by omega)
      simp [rlL, e] at g
      rcases g with rfl | rfl | rfl | rfl | rfl | rfl | rfl | rfl <;> rfl
theorem RlRow.cellAt {w : World} {g off n cap : Nat} {rs : Nat → Rl} (h : RlRow w (.slice (some ⟨g, off, none⟩) n cap) n rs) (hn : 0 < n) : ∀ j t, (flR rs n)[j]? = some t → w.cell? ((⟨g, off, none⟩ : Addr).add j) = some t := by
  intro j t hj
  rcases h with ⟨_, _, _, h0⟩ | ⟨g', off', cap', hv, _, hc⟩
  · omega
  · cases hv
    have hlt : j < n * 8 := by
      rcases Nat.lt_or_ge j (n * 8) with e | e
      · exact e
      · rw [List.getElem?_eq_none (by rw [flR_len]; exact e)] at hj
        cases hj
    have h2 := flR_get rs n (j / 8) (j % 8) (by omega) (by omega)
    rw [show j / 8 * 8 + j % 8 = j by omega, hj] at h2
    rw [h2, show (⟨g, off, none⟩ : Addr).add j = ⟨g, off + j, none⟩ by unfold Addr.add; split <;> simp_all]
    obtain ⟨c1, c2, c3, _⟩ := hc (j / 8) (by omega)
    unfold rlC
    by_cases e0 : j % 8 = 0
    · rw [if_pos e0, show off + j = off + j / 8 * 8 by omega]
      exact c1
    · rw [if_neg e0]
      by_cases e7 : j % 8 < 7
      · rw [if_pos e7, show off + j = off + j / 8 * 8 + (1 + (j % 8 - 1)) by omega]
        exact c2 _ (by omega)
      · rw [if_neg e7, show off + j = off + j / 8 * 8 + 7 by omega]
        exact c3
/-- A row of rules out of a block. -/
theorem RB.row {w : World} {g N : Nat} {f : Nat → Nat → Value} (h : RB w g N f) (n : Nat) (hn : n ≤ N) (hn2 : n ≤ 3000000000000) (cap : Nat) (rs : Nat → Rl) (hf : ∀ j, j < n → ∀ i, i < 8 → f j i = rlC (rs j).prio (rs j).mt (rs j).av i) (ha : ∀ j, j < n → PkR w (rs j).av (rs j).na (rs j).acts) : RlRow w (.slice (some ⟨g, 0, none⟩) n cap) n rs := by
  refine .inr ⟨g, 0, cap, rfl, hn2, fun j hj => ⟨?_, fun i hi => ?_, ?_, ha j hj⟩⟩
  · have := h.cell j (by omega) 0 (by omega)
    rw [hf j hj 0 (by omega)] at this
    rw [Nat.zero_add]
    exact this
  · have := h.cell j (by omega) (1 + i) (by omega)
    rw [hf j hj (1 + i) (by omega)] at this
    rw [Nat.zero_add, this]
    unfold rlC
    rw [if_neg (by omega), if_pos (by omega), show 1 + i - 1 = i by omega]
  · have := h.cell j (by omega) 7 (by omega)
    rw [hf j hj 7 (by omega)] at this
    rw [Nat.zero_add]
    exact this
theorem Tryz.infoRl : (Tryz.prog.info? 68).map (fun i => (i.zero, i.size, i.bytes)) = some (some (.agg (rlA 0 (fun _ => 0) (.slice none 0 0))), 8, 80) := by kernel_rfl
theorem madeRl (N : Nat) (j i : Nat) (hj : j < N) (hi : i < 8) : (madeCells (rlA 0 (fun _ => 0) (.slice none 0 0)) (N * 8))[j * 8 + i]? = some (rlC 0 (fun _ => 0) (.slice none 0 0) i) := by
  unfold madeCells
  rw [Array.getElem?_map, Array.getElem?_range, if_pos (by omega)]
  simp only [Option.map_some]
  rw [show (rlA 0 (fun _ => 0) (.slice none 0 0)).size = 8 from rfl, show (j * 8 + i) % 8 = i by omega]
  rcases (show i = 0 ∨ i = 1 ∨ i = 2 ∨ i = 3 ∨ i = 4 ∨ i = 5 ∨ i = 6 ∨ i = 7 by omega) with rfl | rfl | rfl | rfl | rfl | rfl | rfl | rfl <;> rfl
theorem RB.made (w : World) (N : Nat) : RB (w.alloc (.cells (madeCells (rlA 0 (fun _ => 0) (.slice none 0 0)) (N * 8)) 68)) w.heap.size N (fun _ => rlC 0 (fun _ => 0) (.slice none 0 0)) :=
  ⟨_, heap_alloc_new w _, size_madeCells _ _, fun j hj i hi => madeRl N j i hj hi⟩
theorem run_makeRl (u : World) (n : Nat) (hn : n ≤ 1000000000000) : (Instr.makeSlice 36 (.int .i64 (n : Int)) (.int .i64 (n : Int))).run Tryz.prog u = .ok (.slice (some ⟨u.heap.size, 0, none⟩) n n) (u.alloc (.cells (madeCells (rlA 0 (fun _ => 0) (.slice none 0 0)) (n * 8)) 68)) := by
  obtain ⟨i0, hi, hz0, hz1, hz2⟩ := info_parts Tryz.infoRl
  have h := run_make (P := Tryz.prog) u 36 68 i0 _ Tryz.underlying36 hi hz0 .i64 .i64 (n : Int) (n : Int) (by omega) (Int.le_refl _) (by rw [hz2]; omega) (by omega)
  rw [Int.toNat_natCast, hz1] at h
  exact h
/-- Rules copied into a block. -/
theorem RB.copied {w : World} {g N n : Nat} {f : Nat → Nat → Value} (h : RB w g N f) (hn : n ≤ N) (rs : Nat → Rl) : RB (w.setCells g 0 (flR rs n)) g N (fun j i => if j < n then rlC (rs j).prio (rs j).mt (rs j).av i else f j i) ∧ w.grownBy (w.setCells g 0 (flR rs n)) (some g) := by
  obtain ⟨cur, h1, h2, h5⟩ := h
  obtain ⟨cur', g1, g2, g3, g4⟩ := setCells_all (flR rs n) 0 w cur h1 (by rw [flR_len, h2]; omega)
  refine ⟨⟨cur', g1, by omega, fun j hj i hi => ?_⟩, setCells_grownP g _ 0 w⟩
  rw [flR_len] at g3 g4
  show _ = some (if j < n then rlC (rs j).prio (rs j).mt (rs j).av i else f j i)
  by_cases e : j < n
  · rw [if_pos e]
    have := g3 (j * 8 + i) (by omega)
    rw [Nat.zero_add] at this
    rw [this, flR_get rs n j i e hi]
  · rw [if_neg e, g4 (j * 8 + i) (by omega)]
    exact h5 j hj i hi
theorem Own.copied {w : World} {g N n : Nat} {d : Nat → Nat → Int} (h : Own w g N N d) (hn : n ≤ N) (ps : Nat → Nat → Int) : Own (w.setCells g 0 (fl ps n)) g N N (fun j => if j < n then ps j else d j) ∧ w.grownBy (w.setCells g 0 (fl ps n)) (some g) := by
  obtain ⟨cur, h1, h2, h3, h4, h5⟩ := h
  obtain ⟨cur', g1, g2, g3, g4⟩ := setCells_all (fl ps n) 0 w cur h1 (by rw [fl_len, h2]; omega)
  refine ⟨⟨cur', g1, by omega, h3, h4, fun j hj i hi => ?_⟩, setCells_grownP g _ 0 w⟩
  rw [fl_len] at g3 g4
  show _ = some (Value.int .i64 ((if j < n then ps j else d j) i))
  by_cases e : j < n
  · rw [if_pos e]
    have := g3 (j * 6 + i) (by omega)
    rw [Nat.zero_add] at this
    rw [this, fl_get ps n j i e hi]
  · rw [if_neg e, g4 (j * 6 + i) (by omega)]
    exact h5 j hj i hi
end Go.Proofs.YtlhkfafdioakeaaGreatDoor
