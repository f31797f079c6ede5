/- Proved here: packet.Set makes a list into its set. -/
import Derived.Test.YtlhkfafdioakeaaLkC
import Derived.Test.YtlhkfafdioakeaaSortL
namespace Go.Proofs.Ytlhkfafdioakeaa
open Go.RowKit
set_option linter.unusedVariables false
set_option linter.unusedSimpArgs false
/-- A packet's cells, as a list. -/
def pkCs (k : Nat → Int) : List Value := [.int .i64 (k 0), .int .i64 (k 1), .int .i64 (k 2), .int .i64 (k 3), .int .i64 (k 4), .int .i64 (k 5)]
theorem pkCs_get (k : Nat → Int) (i : Nat) (h : i < 6) : (pkCs k)[i]! = .int .i64 (k i) := by
  rcases (show i = 0 ∨ i = 1 ∨ i = 2 ∨ i = 3 ∨ i = 4 ∨ i = 5 by omega) with rfl | rfl | rfl | rfl | rfl | rfl <;> rfl
theorem cmp_swo : Sort.SWO (ltOf cmpP) where
  irrefl x := by simp [ltOf, cmpP_neg]; exact ltP.irrefl x
  trans x y z h1 h2 := by
    simp only [ltOf, decide_eq_true_eq, cmpP_neg] at *
    exact h1.trans h2
  ntrans x y z h1 h2 := by
    simp only [ltOf, decide_eq_false_iff_not, cmpP_neg] at *
    exact ltP.ntrans h1 h2
theorem cmp_lays (blk off size : Nat) (w : World) : CmpLays Try.prog 56 #[] pkCs 6 cmpP blk off size w := fun _ _ _ _ x y => compare_any x y _
/-- The row as an array. -/
def arr (n : Nat) (d : Nat → Nat → Int) : Array (Nat → Int) := (Array.range n).map d
theorem arr_size (n : Nat) (d : Nat → Nat → Int) : (arr n d).size = n := by simp [arr]
theorem arr_get (n : Nat) (d : Nat → Nat → Int) (j : Nat) (h : j < n) : (arr n d)[j]! = d j := by simp [arr, h]
theorem Own.holds {w : World} {g n cap : Nat} {d : Nat → Nat → Int} (h : Own w g n cap d) : Sort.HoldsK pkCs 6 w g 0 (arr n d) := by
  intro t ht
  rw [Sort.size_flatK, arr_size] at ht
  rw [Sort.get_flatK _ _ _ _ (by rw [arr_size]; exact ht), arr_get _ _ _ (by omega), pkCs_get _ _ (by omega), Nat.zero_add]
  refine ⟨?_, h.frozen _⟩
  have := h.cell (t / 6) (by omega) (t % 6) (by omega)
  rw [show t / 6 * 6 + t % 6 = t by omega] at this
  exact this
theorem Own.sorted {w : World} {g n cap : Nat} {d : Nat → Nat → Int} (h : Own w g n cap d) (m : Nat) (D : Array (Nat → Int)) (os : Array Obj) (hD : D.size = n) :
    Own (sortWorldK pkCs 6 w g 0 m D os) g n cap (fun j => D[j]!) ∧ w.grownBy (sortWorldK pkCs 6 w g 0 m D os) (some g) := by
  have hh := holdsK_sortWorldK_c pkCs 6 w g 0 (arr n d) D m os h.holds h.lt (by rw [arr_size]; exact hD)
  have hlt := h.lt
  constructor
  · obtain ⟨cur, h1, h2, h3, h4, h5⟩ := h
    have hb : (sortWorldK pkCs 6 w g 0 m D os).heap[g]? = some (.cells (Sort.putCells id 0 (Sort.flatK pkCs 6 D) cur) 27 (0, 0)) := by
      unfold sortWorldK Sort.putRowK
      show (((Sort.putRow id (Sort.ahead w m) g 0 (Sort.flatK pkCs 6 D)).heap) ++ os)[g]? = _
      rw [Array.getElem?_append_left (by simpa [Sort.ahead] using hlt)]
      simp [Sort.putRow, Sort.mapBlock, Sort.ahead, Array.getElem?_modify, h1, Sort.onCells]
    refine ⟨_, hb, by simp [Sort.putCells, h2], h3, h4, fun j hj i hi => ?_⟩
    have hc := (hh.cell (i := j) (c := i) (by omega) hi).1
    rw [pkCs_get _ _ hi, Nat.zero_add] at hc
    simp only [World.cell?, hb] at hc
    simpa using hc
  · refine ⟨rfl, rfl, rfl, by unfold sortWorldK Sort.putRowK; simp [Sort.ahead], fun k hk hne => ?_⟩
    unfold sortWorldK Sort.putRowK
    show (((Sort.putRow id (Sort.ahead w m) g 0 (Sort.flatK pkCs 6 D)).heap) ++ os)[k]? = _
    rw [Array.getElem?_append_left (by simpa [Sort.ahead] using hk)]
    have : g ≠ k := fun e => hne (by rw [e])
    simp [Sort.putRow, Sort.mapBlock, Sort.ahead, Array.getElem?_modify, this]
theorem sort_any (w : World) (g n cap : Nat) (d : Nat → Nat → Int) (h : Own w g n cap d) :
    Calls Try.prog 55 #[.slice (some ⟨g, 0, none⟩) n cap, .func (.func 56) #[] #[]] w fun e w' => e = .returned (.tuple #[]) ∧ ∃ D : Array (Nat → Int), D.size = n ∧ D.toList.Perm ((List.range n).map d) ∧ (∀ i j, i < j → j < n → ¬ ltP D[j]! D[i]!) ∧ Own w' g n cap (fun j => D[j]!) ∧ w.grownBy w' (some g) := by
  have eg : ∀ args w, (callFunc 56 args).run Try.prog w = .ok (.enter 56 args) w := enters_of Try.func56 (by kernel_rfl) rfl
  have hcap := h.cap
  have hcon := AnyQ.slices_SortFunc sortPk 6 Try.isAgg27 Try.sizeOf27 pkCs (fun _ => rfl) (fun x v hv => by
    simp [pkCs] at hv
    rcases hv with rfl | rfl | rfl | rfl | rfl | rfl <;> rfl) cmpP cmp_swo 56 #[] g 0 cap (arr n d) w eg (cmp_lays g 0 _ w) h.holds h.lt (by rw [arr_size]; omega)
  rw [arr_size] at hcon
  refine Calls.mono hcon ?_
  rintro e w' ⟨rfl, D, m, os, hp, hs, rfl⟩
  have hD : D.size = n := by rw [hp.1, arr_size]
  obtain ⟨o1, o2⟩ := h.sorted m D os hD
  refine ⟨rfl, D, hD, ?_, fun i j h1 h2 hl => ?_, o1, o2⟩
  · have := hp.2.2
    rw [show D.extract 0 n = D by rw [← hD]; simp, show (arr n d).extract 0 n = arr n d by apply Array.extract_eq_self_of_le; rw [arr_size]; exact Nat.le_refl _] at this
    simpa [arr] using this
  · have := hs i j (Nat.zero_le _) h1 h2
    simp only [ltOf, decide_eq_false_iff_not, cmpP_neg] at this
    exact this hl
/-- A row holds a list. -/
structure Is (l : List (Nat → Int)) (n : Nat) (d : Nat → Nat → Int) : Prop where
  len : l.length = n
  get : ∀ j, j < n → l[j]? = some (d j)
set_option maxRecDepth 100000 in
set_option maxHeartbeats 1000000 in
theorem set_any (w : World) (g n cap : Nat) (d : Nat → Nat → Int) (h : Own w g n cap d) (hn : ∀ j, j < n → Nm (d j)) :
    Calls Try.prog 47 #[.slice (some ⟨g, 0, none⟩) n cap] w fun e w' => ∃ m e', Is (setS ((List.range n).map d)) m e' ∧ e = .returned (.slice (some ⟨g, 0, none⟩) m cap) ∧ Own w' g m cap e' ∧ w.grownBy w' (some g) := by
  have HS := hide (sort_any w g n cap d h)
  have HN := hide hn
  clear h hn
  go_enter Try.func47, Try.ntmps47
  go_wp2_with fail
  refine HS.out.mono ?_
  rintro e w1 ⟨rfl, D, hD, hp, hs, ho, hg⟩
  have HD := hide hD
  have HP := hide hp
  have HSS := hide hs
  have HG := hide hg
  have HC := hide (compact_any w1 g n cap (fun j => D[j]!) ho)
  clear hD hp hs hg ho HS
  go_wp2_with fail
  refine HC.out.mono ?_
  rintro e w2 ⟨m, e', hI, rfl, ho2, hg2⟩
  have HI := hide hI
  have HO2 := hide ho2
  have HG2 := hide hg2
  clear hI ho2 hg2 HC
  go_wp2
  go_ret
  have hmem : ∀ x, x ∈ (List.range n).map d ↔ ∃ j, j < n ∧ x = D[j]! := by
    intro x
    rw [← HP.out.mem_iff]
    constructor
    · intro hx
      obtain ⟨j, hj, e⟩ := List.getElem_of_mem hx
      have hj' : j < D.size := by simpa using hj
      refine ⟨j, by rw [← HD.out]; exact hj', ?_⟩
      rw [← e, getElem!_pos D j hj']
      simp
    · rintro ⟨j, hj, rfl⟩
      have hj' : j < D.size := by rw [HD.out]; exact hj
      rw [getElem!_pos D j hj']
      exact Array.getElem_mem_toList hj'
  have hnm : ∀ x ∈ (List.range n).map d, Nm x := by
    intro x hx
    simp only [List.mem_map, List.mem_range] at hx
    obtain ⟨j, hj, rfl⟩ := hx
    exact HN.out j hj
  have hset := compN_set (d := fun j => D[j]!) (n := n) (l := (List.range n).map d) (fun j hj => hnm _ ((hmem _).2 ⟨j, hj, rfl⟩)) HSS.out hnm hmem
  exact ⟨m, e', ⟨by rw [← hset]; exact HI.out.len, fun j hj => by rw [← hset]; exact HI.out.low j hj⟩, rfl, HO2.out, grown_trans HG.out HG2.out⟩
end Go.Proofs.Ytlhkfafdioakeaa
