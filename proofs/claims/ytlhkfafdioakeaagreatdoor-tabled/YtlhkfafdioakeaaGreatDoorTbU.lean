/- Proved here: packets laid behind a list: in its own block where there is room, else in a fresh one. -/
import Derived.Test.YtlhkfafdioakeaaGreatDoorTbS
import Derived.ArgAppend
import Derived.OwnWalk
namespace Go.Proofs.YtlhkfafdioakeaaGreatDoor
open Go.RowKit Go.Weft
set_option linter.unusedVariables false
set_option linter.unusedSimpArgs false
theorem wpList_append_two {ops : Array Oper} {rest : List Oper} {o : Oper} {a : Act} {Q : Exit → Act → World → Prop} (w : World) (hgd : o.guard = none) (s x : Operand)
    (ho : o.op = .call { callee := .builtin .append, args := #[s, x], argTypes := #[29, 29] })
    (B : Nat) (v : Value) (n : Nat) (d : Nat → Nat → Int) (hs : a.eval s = v) (hown : OwnV B w v n d) (g2 m c2 : Nat) (qs : Nat → Nat → Int) (hx : a.eval x = .slice (some ⟨g2, 0, none⟩) m c2) (hsrc : Own w g2 m c2 qs) (hm : 0 < m) (hb : n + m ≤ 2000000000000)
    (hin : ∀ g cap w', v = .slice (some ⟨g, 0, none⟩) n cap → B ≤ g → Own w' g (n + m) cap (cat n d qs) → w.grownBy w' (some g) → wpList Tryz.prog ops Q rest (a.put o.dst (.slice (some ⟨g, 0, none⟩) (n + m) cap)) w')
    (hnew : ∀ g cap w', w.heap.size ≤ g → Own w' g (n + m) cap (cat n d qs) → w.grownBy w' none → wpList Tryz.prog ops Q rest (a.put o.dst (.slice (some ⟨g, 0, none⟩) (n + m) cap)) w') :
    wpList Tryz.prog ops Q (o :: rest) a w := by
  obtain ⟨i0, hi, hz0, hz1, hz2⟩ := info_parts Tryz.infoPk6
  have hsrc2 : OwnV 0 w (.slice (some ⟨g2, 0, none⟩) m c2) m qs := .inr ⟨g2, c2, Nat.zero_le _, rfl, hsrc⟩
  have hcell : ∀ j u, (fl qs m)[j]? = some u → w.cell? ((⟨g2, 0, none⟩ : Addr).add j) = some u := by
    intro j u hj
    rw [show (⟨g2, 0, none⟩ : Addr).add j = ⟨g2, j, none⟩ by unfold Addr.add; split <;> simp_all]
    have hl : j < m * 6 := by
      rcases Nat.lt_or_ge j (m * 6) with e | e
      · exact e
      · rw [List.getElem?_eq_none (by rw [fl_len]; exact e)] at hj; cases hj
    have h1 := hsrc.cell (j / 6) (by omega) (j % 6) (by omega)
    have h2 := fl_get qs m (j / 6) (j % 6) (by omega) (by omega)
    rw [show j / 6 * 6 + j % 6 = j by omega] at h1 h2
    rw [h2] at hj
    rw [h1]
    exact hj
  have grow : ∀ ao cap, v = .slice ao n cap → (ao = none → n = 0 ∧ cap = 0) → (∀ b, ao = some b → ∀ j u, (fl d n)[j]? = some u → w.cell? (b.add j) = some u) → cap < n + m → wpList Tryz.prog ops Q (o :: rest) a w := by
    intro ao cap hv hn0 hold hfull
    refine wpList_append_grows w hgd s x 29 ho 46 i0 _ 6 48 Tryz.underlying29 hi hz0 hz1 hz2 rfl (by decide) ao n cap (fl d n) (by rw [hs, hv]) hn0 (fl_len d n) hold ⟨g2, 0, none⟩ m c2 (fl qs m) hx (fl_len qs m) hcell (fl_one qs m) hfull (by unfold maxLen; omega) (by omega) ?_
    intro v' w' h1 h2
    rw [← fl_cat] at h1
    rcases OwnV.of h1 (by omega) with ⟨_, e⟩ | ⟨g, cap', hg, rfl, hO⟩
    · omega
    · exact hnew g cap' w' hg hO h2
  rcases hown with ⟨rfl, rfl⟩ | ⟨g, cap, hg, rfl, hO⟩
  · exact grow none 0 rfl (fun _ => ⟨rfl, rfl⟩) (fun b e => by cases e) (by omega)
  · by_cases hr : n + m ≤ cap
    · have hov : OwnV B w (.slice (some ⟨g, 0, none⟩) n cap) n d := .inr ⟨g, cap, hg, rfl, hO⟩
      refine wpList_append_fits w hgd s x 29 ho B 46 i0 6 Tryz.underlying29 hi hz1 g n cap (fl d n) hs hov.owns ⟨g2, 0, none⟩ m c2 (fl qs m) hx (fl_len qs m) hcell (fl_one qs m) hr ?_
      intro w' h1 h2
      rw [← fl_cat] at h1
      rcases OwnV.of h1 (by omega) with ⟨e, _⟩ | ⟨g', cap', hg', e, hO'⟩
      · cases e
      · cases e
        exact hin g cap w' rfl hg hO' h2
    · refine grow (some ⟨g, 0, none⟩) cap rfl (fun e => by cases e) (fun b e j u hj => ?_) (by omega)
      cases e
      rw [show (⟨g, 0, none⟩ : Addr).add j = ⟨g, j, none⟩ by unfold Addr.add; split <;> simp_all]
      have hl : j < n * 6 := by
        rcases Nat.lt_or_ge j (n * 6) with e | e
        · exact e
        · rw [List.getElem?_eq_none (by rw [fl_len]; exact e)] at hj; cases hj
      have h1 := hO.cell (j / 6) (by omega) (j % 6) (by omega)
      have h2 := fl_get d n (j / 6) (j % 6) (by omega) (by omega)
      rw [show j / 6 * 6 + j % 6 = j by omega] at h1 h2
      rw [h2] at hj
      rw [h1]
      exact hj
theorem grown_row {w w' : World} (h : w.grownBy w' none) (r : Option Nat) : w.grownBy w' r := ⟨h.os, h.tape, h.output, h.size, fun k hk _ => h.block k hk (by simp)⟩
/-- The same, told as one: the list that it was laid behind is still the owner's. -/
theorem wpList_append_mark {ops : Array Oper} {rest : List Oper} {o : Oper} {a : Act} {Q : Exit → Act → World → Prop} (w : World) (hgd : o.guard = none) (s x : Operand)
    (ho : o.op = .call { callee := .builtin .append, args := #[s, x], argTypes := #[29, 29] })
    (B : Nat) (v : Value) (n : Nat) (d : Nat → Nat → Int) (hs : a.eval s = v) (hown : OwnV B w v n d) (g2 m c2 : Nat) (qs : Nat → Nat → Int) (hx : a.eval x = .slice (some ⟨g2, 0, none⟩) m c2) (hsrc : Own w g2 m c2 qs) (hm : 0 < m) (hb : n + m ≤ 2000000000000)
    (h : ∀ g cap w', Own w' g (n + m) cap (cat n d qs) → OwnV B w' v n d → ((v = .slice (some ⟨g, 0, none⟩) n cap ∧ w.grownBy w' (some g)) ∨ (w.heap.size ≤ g ∧ w.grownBy w' none)) → wpList Tryz.prog ops Q rest (a.put o.dst (.slice (some ⟨g, 0, none⟩) (n + m) cap)) w') :
    wpList Tryz.prog ops Q (o :: rest) a w := by
  refine wpList_append_two w hgd s x ho B v n d hs hown g2 m c2 qs hx hsrc hm hb ?_ ?_
  · intro g cap w' hv hg hO hgr
    subst hv
    exact h g cap w' hO (.inr ⟨g, cap, hg, rfl, (hO.less (Nat.le_add_right n m)).cong (fun j hj i hi => by unfold cat; rw [if_pos hj])⟩) (.inl ⟨rfl, hgr⟩)
  · intro g cap w' hg hO hgr
    exact h g cap w' hO (hown.grown hgr (fun b e => by cases e)) (.inr ⟨hg, hgr⟩)
end Go.Proofs.YtlhkfafdioakeaaGreatDoor
