/- Proved here: two lists laid behind the same one; the marks put on the list of marked lists; what is read of them. -/
import Derived.Test.YtlhkfafdioakeaaGreatDoorTbV
namespace Go.Proofs.YtlhkfafdioakeaaGreatDoor
open Go.RowKit Go.Weft
set_option linter.unusedVariables false
set_option linter.unusedSimpArgs false
theorem two_owns {w3 w5 : World} {sl : Value} {S g1 g2 n cap1 cap2 : Nat} {d e : Nat → Nat → Int} (h1 : Own w3 g1 (n + 1) cap1 d) (hg : sl = .slice (some ⟨g1, 0, none⟩) n cap1 ∨ S < g1) (hs : ∀ b, sl.ownBlock = some b → b < S) (o2 : Own w5 g2 (n + 2) cap2 e)
    (d2 : (sl = .slice (some ⟨g2, 0, none⟩) n cap2 ∧ w3.grownBy w5 (some g2)) ∨ (w3.heap.size ≤ g2 ∧ w3.grownBy w5 none)) : ((g1 = g2 ∧ cap1 = cap2) ∨ g1 ≠ g2) ∧ ∃ d', Own w5 g1 (n + 1) cap1 d' := by
  rcases d2 with ⟨e2, h2⟩ | ⟨e2, h2⟩
  · rcases hg with e1 | e1
    · rw [e1] at e2
      cases e2
      exact ⟨.inl ⟨rfl, rfl⟩, _, o2.less (by omega)⟩
    · have : g2 < S := hs g2 (by rw [e2]; rfl)
      exact ⟨.inr (by omega), _, h1.grown h2 (fun k => by cases k; omega)⟩
  · have := h1.lt
    exact ⟨.inr (by omega), _, h1.grown h2 (by simp)⟩
theorem mark_row {u u' : World} {sl : Value} {S g n cap : Nat} (D : (sl = .slice (some ⟨g, 0, none⟩) n cap ∧ u.grownBy u' (some g)) ∨ (u.heap.size ≤ g ∧ u.grownBy u' none)) (hS : S < u.heap.size) : ∃ row, u.grownBy u' row ∧ (∀ b, row = some b → sl.ownBlock = some b ∨ S ≤ b) ∧ (sl = .slice (some ⟨g, 0, none⟩) n cap ∨ S < g) := by
  rcases D with ⟨e, h⟩ | ⟨e, h⟩
  · exact ⟨_, h, fun b k => by cases k; exact .inl (by rw [e]; rfl), .inl e⟩
  · exact ⟨_, h, fun b k => (by cases k), .inr (by omega)⟩
/-- A mark put into the one: the other one is a row as before. -/
theorem put_other {w : World} {g1 g2 n2 cap1 cap2 : Nat} {d2 : Nat → Nat → Int} (hr : (g1 = g2 ∧ cap1 = cap2) ∨ g1 ≠ g2) (h2 : Own w g2 n2 cap2 d2) (k : Nat) (hk : k < n2) (x : Nat → Int) : ∃ d', Own (lay6 w g1 (k * 6) x) g2 n2 cap2 d' := by
  rcases hr with ⟨rfl, rfl⟩ | hr
  · exact ⟨_, h2.put k hk x⟩
  · exact ⟨_, h2.grown (lay6_grown _ _ _ _) (fun e => by cases e; exact hr rfl)⟩
theorem own_all {w : World} {g n cap : Nat} {d : Nat → Nat → Int} {x : Nat → Int} (h : Own w g n cap d) (k : Nat) (hk : ∀ j, j < k → d j = x) (hn : k < n) : ∃ d', Own (lay6 w g (k * 6) x) g n cap d' ∧ ∀ j, j < k + 1 → d' j = x :=
  ⟨_, h.put k hn x, fun j hj => by
    by_cases e : j = k
    · rw [if_pos e]
    · rw [if_neg e]; exact hk j (by omega)⟩
theorem mr_cell {w : World} {B gm mc E : Nat} {vm : Nat → Value} (h : w.ownsRow B 29 1 (.slice (some ⟨gm, 0, none⟩) E mc) E ((List.range E).map vm)) (e : Nat) (he : e < E) : w.cell? ⟨gm, e, none⟩ = some (vm e) := by
  rcases h.2 with ⟨k, _⟩ | ⟨g', cap, cur, k, _, h1, _, _, _, h5⟩
  · cases k
  · cases k
    have h6 : (cur.toList.take (E * 1))[e]? = some (vm e) := by
      rw [h5]
      simp [he]
    rw [List.getElem?_take_of_lt (by omega)] at h6
    simp only [World.cell?, h1]
    simpa using h6
theorem cell_two_new (w : World) (u v : Value) (T : TypeId) : ∀ j x, [u, v][j]? = some x → (w.alloc (.cells #[u, v] T)).cell? ((⟨w.heap.size, 0, none⟩ : Addr).add j) = some x := by
  intro j x hj
  rw [show (⟨w.heap.size, 0, none⟩ : Addr).add j = ⟨w.heap.size, j, none⟩ by unfold Addr.add; split <;> simp_all]
  simp only [World.cell?, heap_alloc_new]
  simpa using hj
/-- Three lists. -/
def vm2 (i : Nat) (vm : Nat → Value) (v1 v2 : Value) : Nat → Value := fun e => if e < 2 * i then vm e else if e = 2 * i then v1 else v2
theorem vm2_map (i : Nat) (vm : Nat → Value) (v1 v2 : Value) : (List.range (2 * (i + 1))).map (vm2 i vm v1 v2) = (List.range (2 * i)).map vm ++ [v1, v2] := by
  rw [show 2 * (i + 1) = 2 * i + 1 + 1 by omega, List.range_succ, List.range_succ, List.map_append, List.map_append, List.append_assoc]
  congr 1
  · refine List.map_congr_left (fun e he => ?_)
    rw [List.mem_range] at he
    unfold vm2
    rw [if_pos he]
  · unfold vm2
    simp
    omega
theorem own_keptT {w w' : World} {U : TypeId} {g n c : Nat} {d : Nat → Nat → Int} {row : Option Nat} (h : Own w g n c d) (hg : w.grownBy w' row) (ht : ∀ b, row = some b → blkT w b U) (hU : U ≠ 46) : Own w' g n c d :=
  h.grown hg (fun e => (ht g e).ne ⟨_, h.choose_spec.1⟩ hU rfl)
/-- The two marked lists of rule i are put on the list. -/
theorem MS.push {w0 B1 B2 : Nat} {rs : Nat → Rl} {AL : Nat → List (Nat → Int)} {xs : Nat → Value} {N gl cl : Nat} {ov : Value} {i : Nat} {vm : Nat → Value} {mv mv' : Value} {w w' : World} (hc : MC w0 B1 B2 rs xs N gl ov) (h : MS w0 B1 B2 rs AL xs N gl cl ov (i + 1) (2 * i) vm mv w) {g1 n1 c1 g2 n2 c2 : Nat} (O1 : Own w g1 n1 c1 (fun _ => mkQ i)) (O2 : Own w g2 n2 c2 (fun _ => mkQ i)) (b1 : (rs i).av.ownBlock = some g1 ∨ B2 ≤ g1) (b2 : (rs i).av.ownBlock = some g2 ∨ B2 ≤ g2)
    (hv : w'.ownsRow B2 29 1 mv' (2 * i + 2) ((List.range (2 * i)).map vm ++ [.slice (some ⟨g1, 0, none⟩) n1 c1, .slice (some ⟨g2, 0, none⟩) n2 c2])) (hg : w.grownBy w' mv.ownBlock) :
    MS w0 B1 B2 rs AL xs N gl cl ov (i + 1) (2 * (i + 1)) (vm2 i vm (.slice (some ⟨g1, 0, none⟩) n1 c1) (.slice (some ⟨g2, 0, none⟩) n2 c2)) mv' w' := by
  have ht : ∀ b, mv.ownBlock = some b → blkT w b 29 := fun b hb => owns_tagged h.mr b hb
  have k1 := hc.b1
  have k2 := hc.b2
  refine ⟨owns_keptT h.lr hg ht (by decide), fun j hj hjN => ownV_keptT (h.av j hj hjN) hg ht (by decide), h.ou.kept hg (fun b e => ⟨fun k => ?_, fun j hj k => ?_⟩), ?_, fun e he => ?_⟩
  · have := hc.ob.1 b k
    have := (h.mr.lt b e).1
    omega
  · have := hc.ob.2 j hj b k
    have := (h.mr.lt b e).1
    omega
  · rw [vm2_map]; exact hv
  · unfold vm2
    by_cases e1 : e < 2 * i
    · rw [if_pos e1]
      obtain ⟨g, n, c, m1, m2, m3⟩ := h.mks e e1
      exact ⟨g, n, c, m1, own_keptT m2 hg ht (by decide), m3⟩
    · rw [if_neg e1, show e / 2 = i by omega]
      by_cases e2 : e = 2 * i
      · rw [if_pos e2]
        exact ⟨_, _, _, rfl, own_keptT O1 hg ht (by decide), b1⟩
      · rw [if_neg e2]
        exact ⟨_, _, _, rfl, own_keptT O2 hg ht (by decide), b2⟩
/-- A block of rules. -/
def RBk (w : World) (g n : Nat) : Prop := ∃ cur : Array Value, w.heap[g]? = some (.cells cur 68 (0, 0)) ∧ n * 8 ≤ cur.size
theorem RBk.any {w : World} {g n : Nat} (h : RBk w g n) (o : Nat) (ho : o < n * 8) : (w.cell? ⟨g, o, none⟩).isSome = true := by
  obtain ⟨cur, h1, h2⟩ := h
  simp only [World.cell?, h1]
  simp
  omega
theorem RBk.frozen {w : World} {g n : Nat} (h : RBk w g n) (o : Nat) : w.frozen? ⟨g, o, none⟩ = false := by
  obtain ⟨cur, h1, h2⟩ := h
  simp [World.frozen?, h1]
theorem RBk.set {w : World} {g n : Nat} (h : RBk w g n) (o : Nat) (v : Value) : RBk (w.setCell ⟨g, o, none⟩ v) g n := by
  obtain ⟨cur, h1, h2⟩ := h
  exact ⟨_, heap_set h1 o v, by simpa using h2⟩
theorem RBk.of {w : World} {B g n c : Nat} {cs : List Value} (h : w.ownsRow B 68 8 (.slice (some ⟨g, 0, none⟩) n c) n cs) : RBk w g n := by
  rcases h.2 with ⟨k, _⟩ | ⟨g', cap, cur, k, _, h1, h2, _, h4, _⟩
  · cases k
  · cases k
    exact ⟨cur, h1, by omega⟩
theorem RBk.grown {w w' : World} {g n : Nat} {row : Option Nat} (h : RBk w g n) (hg : w.grownBy w' row) (hr : row ≠ some g) : RBk w' g n := by
  obtain ⟨cur, h1, h2⟩ := h
  exact ⟨cur, by rw [hg.block g (Array.getElem?_eq_some_iff.1 h1).1 hr.symm, h1], h2⟩
/-- Eight cells laid over. -/
def lay8 (w : World) (g o : Nat) (v0 v1 v2 v3 v4 v5 v6 v7 : Value) : World :=
  (((((((w.setCell ⟨g, o, none⟩ v0).setCell ⟨g, o + 1, none⟩ v1).setCell ⟨g, o + 2, none⟩ v2).setCell ⟨g, o + 3, none⟩ v3).setCell ⟨g, o + 4, none⟩ v4).setCell ⟨g, o + 5, none⟩ v5).setCell ⟨g, o + 6, none⟩ v6).setCell ⟨g, o + 7, none⟩ v7
theorem lay8_grown (w : World) (g o : Nat) (v0 v1 v2 v3 v4 v5 v6 v7 : Value) : w.grownBy (lay8 w g o v0 v1 v2 v3 v4 v5 v6 v7) (some g) :=
  grown_trans (grown_trans (grown_trans (grown_trans (grown_trans (grown_trans (grown_trans (grown_set _ _ _ _) (grown_set _ _ _ _)) (grown_set _ _ _ _)) (grown_set _ _ _ _)) (grown_set _ _ _ _)) (grown_set _ _ _ _)) (grown_set _ _ _ _)) (grown_set _ _ _ _)
theorem RBk.lay {w : World} {g n : Nat} (h : RBk w g n) (o : Nat) (v0 v1 v2 v3 v4 v5 v6 v7 : Value) : RBk (lay8 w g o v0 v1 v2 v3 v4 v5 v6 v7) g n :=
  (((((((h.set _ _).set _ _).set _ _).set _ _).set _ _).set _ _).set _ _).set _ _
theorem RBk.some {w : World} {g n : Nat} (h : RBk w g n) (o : Nat) (ho : o < n * 8) : ∃ v, w.cell? ⟨g, o, Option.none⟩ = Option.some v := Option.isSome_iff_exists.1 (h.any o ho)
theorem cell_list_new (w : World) (l : List Value) (T : TypeId) : ∀ j x, l[j]? = some x → (w.alloc (.cells l.toArray T)).cell? ((⟨w.heap.size, 0, none⟩ : Addr).add j) = some x := by
  intro j x hj
  rw [show (⟨w.heap.size, 0, none⟩ : Addr).add j = ⟨w.heap.size, j, none⟩ by unfold Addr.add; split <;> simp_all]
  simp only [World.cell?, heap_alloc_new]
  simpa using hj
theorem RdR.seven {w : World} {g N c : Nat} {rs : Nat → Rl} {AL : Nat → List (Nat → Int)} (h : RdR w (.slice (Option.some ⟨g, 0, Option.none⟩) N c) N rs AL) (j : Nat) (hj : j < N) (p : Int) (y : Nat → Int) (hp : (rs j).prio = p) (hy : (rs j).mt = y) : w.cell? ⟨g, j * 8, Option.none⟩ = Option.some (.int .i64 p) ∧ w.cell? ⟨g, j * 8 + 1, Option.none⟩ = Option.some (.int .i64 (y 0)) ∧ w.cell? ⟨g, j * 8 + 2, Option.none⟩ = Option.some (.int .i64 (y 1)) ∧ w.cell? ⟨g, j * 8 + 3, Option.none⟩ = Option.some (.int .i64 (y 2)) ∧ w.cell? ⟨g, j * 8 + 4, Option.none⟩ = Option.some (.int .i64 (y 3)) ∧ w.cell? ⟨g, j * 8 + 5, Option.none⟩ = Option.some (.int .i64 (y 4)) ∧ w.cell? ⟨g, j * 8 + 6, Option.none⟩ = Option.some (.int .i64 (y 5)) := by
  subst hp
  subst hy
  obtain ⟨k1, k2, k3, k4⟩ := h.cells j hj
  exact ⟨k1, k2 0 (by omega), k2 1 (by omega), k2 2 (by omega), k2 3 (by omega), k2 4 (by omega), k2 5 (by omega)⟩
theorem eq6_same (a b c d e f : Int) : eq6 a b c d e f a b c d e f = true := by simp [eq6]
theorem mkQ_0 (e : Nat) : mkQ e 0 = 100 + (e : Int) := rfl
theorem mkQ_1 (e : Nat) : mkQ e 1 = 0 := rfl
theorem mkQ_2 (e : Nat) : mkQ e 2 = 0 := rfl
theorem mkQ_3 (e : Nat) : mkQ e 3 = 0 := rfl
theorem mkQ_4 (e : Nat) : mkQ e 4 = 0 := rfl
theorem mkQ_5 (e : Nat) : mkQ e 5 = 0 := rfl
end Go.Proofs.YtlhkfafdioakeaaGreatDoor
