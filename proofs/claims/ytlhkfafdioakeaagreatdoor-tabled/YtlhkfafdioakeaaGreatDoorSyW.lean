/- Plain facts: what is read from a text: how much a tree weighs, that errors are no OK, and that a tree from a text without error is nice: leaves are in range, negations are of tests, groups have two parts or more. -/
import Derived.Test.YtlhkfafdioakeaaGreatDoorGRead
import Derived.Test.YtlhkfafdioakeaaGreatDoorGRefA
namespace Go.Proofs.YtlhkfafdioakeaaGreatDoor
open Go.RowKit Go.Weft
set_option linter.unusedVariables false
set_option linter.unusedSimpArgs false
/-- More than a tree's print is long. -/
def wt : Code → Nat
  | .exit _ => 12
  | .loop t => wt t + 4
  | .scope t => wt t + 4
  | .block _ l => wt l
  | .seq a l => wt a + wt l + 6
  | _ => 0
theorem wt_elems {t l : Code} (h : t ∈ elems l) : wt t ≤ wt l := by
  induction l with
  | seq a b _ ih =>
    simp only [elems, List.mem_cons] at h
    rcases h with rfl | h
    · simp only [wt]; omega
    · have := ih h
      simp only [wt]; omega
  | _ => simp [elems] at h
theorem Names.kept {w w' : World} (h : Names w) (hg : w.grownBy w' none) : Names w' := h.other hg (B := w.heap.size) (by simp) (World.block_lt_of_cell? w _ (h 0 (by decide)))
def Wt (ts : List Tok) (p : St → Except (Int × Nat) (Code × St)) : Prop := ∀ st t st', p st = .ok (t, st') → st.i ≤ st'.i ∧ wt t + 6 + 18 * st.i ≤ 18 * st'.i
section
variable {s : ByteArray} {ts : List Tok}
theorem wt_leafC (k : Int) (f n : Nat) : wt (leafC k f n) = 12 := by unfold leafC; split <;> rfl
theorem wt_pair (f : Nat) : Wt ts (pairP s ts f) := by
  intro st t st' h
  unfold pairP at h
  by_cases b1 : f = 0 ∧ (tk ts (st.i + 1)).kind = 11
  · rw [if_pos b1] at h; cases h
  rw [if_neg b1] at h
  by_cases b2 : st.atoms = 16
  · rw [if_pos b2] at h; cases h
  rw [if_neg b2] at h
  by_cases b3 : ¬ (tk ts (st.i + 1)).kind = 10 ∧ ¬ (tk ts (st.i + 1)).kind = 11
  · rw [if_pos b3] at h; cases h
  rw [if_neg b3] at h
  by_cases b4 : ¬ (tk ts (st.i + 2)).kind = 3
  · rw [if_pos b4] at h; cases h
  rw [if_neg b4] at h
  by_cases b5 : 31 < numVal (txt s (tk ts (st.i + 2)))
  · rw [if_pos b5] at h; cases h
  rw [if_neg b5] at h
  cases h
  rw [wt_leafC]
  exact ⟨by simp, by simp; omega⟩
theorem wt_word : Wt ts (wordP s ts) := by
  intro st t st' h
  unfold wordP at h
  split at h
  · cases h; exact ⟨by simp, by simp [wt]; omega⟩
  · split at h
    · cases h; exact ⟨by simp, by simp [wt]; omega⟩
    · split at h
      · cases h
      · exact wt_pair _ st t st' h
theorem wt_stars : ∀ (f : Nat) (t : Code) (i : Nat), i ≤ (starLoop ts f t i).2 ∧ wt (starLoop ts f t i).1 + 18 * i ≤ wt t + 18 * (starLoop ts f t i).2
  | 0, t, i => ⟨Nat.le_refl _, Nat.le_refl _⟩
  | f + 1, t, i => by
    unfold starLoop
    split
    · have := wt_stars f (.loop t) (i + 1)
      simp only [wt] at this
      omega
    · exact ⟨Nat.le_refl _, Nat.le_refl _⟩
theorem wt_part {p : St → Except (Int × Nat) (Code × St)} (hp : Wt ts p) : Wt ts (partP ts p) := by
  intro st t st' h
  unfold partP at h
  split at h
  · cases h
  · rename_i t1 st1 h1
    cases h
    have g1 := hp st t1 st1 h1
    have g2 := wt_stars (ts := ts) ts.length t1 st1.i
    exact ⟨by simp; omega, by simp; omega⟩
theorem wt_list {p : St → Except (Int × Nat) (Code × St)} (hp : Wt ts p) (sep : Int) : ∀ (f : Nat) (st : St) (l : List Code) (st' : St), listP ts sep p f st = .ok (l, st') →
    st.i ≤ st'.i ∧ (l.map fun t => wt t + 6).sum + 18 * st.i + 18 * (l.length - 1) ≤ 18 * st'.i := by
  intro f
  induction f with
  | zero => intro st l st' h; unfold listP at h; cases h; exact ⟨Nat.le_refl _, by simp⟩
  | succ f ih =>
    intro st l st' h
    unfold listP at h
    split at h
    · cases h
    · rename_i t1 st1 e1
      have g1 := hp st t1 st1 e1
      split at h
      · split at h
        · cases h
        · rename_i l2 st2 e2
          cases h
          have g2 := ih _ l2 _ e2
          simp only [List.map_cons, List.sum_cons, List.length_cons] at g2 ⊢
          omega
      · cases h
        simp only [List.map_cons, List.sum_cons, List.length_cons, List.map_nil, List.sum_nil, List.length_nil]
        omega
theorem wt_chain : ∀ l : List Code, wt (chain l) = (l.map fun t => wt t + 6).sum
  | [] => rfl
  | t :: l => by simp only [chain, wt, List.map_cons, List.sum_cons, wt_chain l]; omega
theorem wt_join {k : Nat} {l : List Code} (hl : l ≠ []) : wt (joinC k l) + 6 ≤ (l.map fun t => wt t + 6).sum + 18 * (l.length - 1) := by
  match l, hl with
  | [t], _ => simp [joinC]
  | t :: u :: r, _ =>
    have : wt (joinC k (t :: u :: r)) = wt (chain (t :: u :: r)) := rfl
    rw [this, wt_chain]
    simp
    omega
theorem list_ne {p : St → Except (Int × Nat) (Code × St)} {sep : Int} {f : Nat} {st st' : St} {l : List Code} (hf : 0 < f) (h : listP ts sep p f st = .ok (l, st')) : l ≠ [] := by
  obtain ⟨f, rfl⟩ : ∃ f', f = f' + 1 := ⟨f - 1, by omega⟩
  unfold listP at h
  split at h
  · cases h
  · split at h
    · split at h
      · cases h
      · cases h; simp
    · cases h; simp
theorem wt_joinP {k : Nat} {p : St → Except (Int × Nat) (Code × St)} (hp : Wt ts p) (sep : Int) (h0 : 0 < ts.length) : Wt ts (fun st => joinP k (listP ts sep p ts.length st)) := by
  intro st t st' h
  obtain ⟨l, hl, rfl⟩ := goes_join h
  have g := wt_list hp sep _ st l st' hl
  have := wt_join (k := k) (list_ne h0 hl)
  exact ⟨g.1, by omega⟩
theorem wt_atom (h0 : 0 < ts.length) : ∀ d, Wt ts (atomP s ts d) := by
  intro d
  induction d with
  | zero =>
    intro st t st' h
    unfold atomP at h
    split at h
    · exact wt_word st t st' h
    · repeat' split at h
      all_goals cases h
  | succ d ih =>
    intro st t st' h
    unfold atomP at h
    split at h
    · exact wt_word st t st' h
    · split at h
      · unfold notP at h
        split at h
        · cases h
        · rename_i t1 st1 e1
          cases h
          have g := ih _ t1 st1 e1
          simp only [wt] at g ⊢
          exact ⟨by omega, by omega⟩
      · split at h
        · unfold brackP at h
          split at h
          · cases h
          · rename_i t1 st1 e1
            have g := (wt_joinP (k := 0) (wt_joinP (k := 1) (wt_part ih) 5 h0) 4 h0) _ t1 st1 e1
            split at h
            · cases h
              simp only at g ⊢
              exact ⟨by omega, by omega⟩
            · cases h
        · cases h
end
theorem readS_wt {s : ByteArray} {t : Code} (h : readS s = .ok t) : wt t ≤ 90000 := by
  unfold readS at h
  split at h
  · cases h
  · rename_i hs
    have hcl := toks_closed s 0
    have hlen := toks_len s true
    unfold readP at h
    split at h
    · cases h
    · rename_i t1 st1 e1
      have g := (wt_joinP (k := 0) (wt_joinP (k := 1) (wt_part (wt_atom (s := s) hcl.1 12)) 5 hcl.1) 4 hcl.1) _ t1 st1 e1
      have g2 := goes_sum hcl (goes_atom (s := s) hcl 12) _ t1 st1 hcl.1 (by simp) e1
      split at h
      · split at h
        · cases h
          simp at g
          omega
        · cases h
      · cases h
/-- Errors are no OK. -/
def Er (p : St → Except (Int × Nat) (Code × St)) : Prop := ∀ st e, p st = .error e → e.1 ≠ 0
section
variable {s : ByteArray} {ts : List Tok}
theorem er_pair (f : Nat) : Er (pairP s ts f) := by
  intro st e h
  unfold pairP at h
  repeat' split at h
  all_goals first | (cases h; simp; done) | cases h
theorem er_word : Er (wordP s ts) := by
  intro st e h
  unfold wordP at h
  split at h
  · cases h
  · split at h
    · cases h
    · split at h
      · cases h; simp
      · exact er_pair _ st e h
theorem er_part {p : St → Except (Int × Nat) (Code × St)} (hp : Er p) : Er (partP ts p) := by
  intro st e h
  unfold partP at h
  split at h
  · rename_i e1 h1
    cases h
    exact hp st _ h1
  · cases h
theorem er_list {p : St → Except (Int × Nat) (Code × St)} (hp : Er p) (sep : Int) : ∀ (f : Nat) (st : St) (e : Int × Nat), listP ts sep p f st = .error e → e.1 ≠ 0 := by
  intro f
  induction f with
  | zero => intro st e h; unfold listP at h; cases h
  | succ f ih =>
    intro st e h
    unfold listP at h
    split at h
    · rename_i e1 h1
      cases h
      exact hp st _ h1
    · split at h
      · split at h
        · rename_i e2 h2
          cases h
          exact ih _ _ h2
        · cases h
      · cases h
theorem er_join {k : Nat} {p : St → Except (Int × Nat) (Code × St)} (hp : Er p) (sep : Int) (n : Nat) : Er (fun st => joinP k (listP ts sep p n st)) := by
  intro st e h
  unfold joinP at h
  simp only at h
  split at h
  · rename_i e1 h1
    cases h
    exact er_list hp sep _ st _ h1
  · cases h
theorem er_atom : ∀ d, Er (atomP s ts d) := by
  intro d
  induction d with
  | zero =>
    intro st e h
    unfold atomP at h
    split at h
    · exact er_word st e h
    · repeat' split at h
      all_goals (cases h; simp)
  | succ d ih =>
    intro st e h
    unfold atomP at h
    split at h
    · exact er_word st e h
    · split at h
      · unfold notP at h
        split at h
        · rename_i e1 h1
          cases h
          exact ih _ _ h1
        · cases h
      · split at h
        · unfold brackP at h
          split at h
          · rename_i e1 h1
            cases h
            exact (er_join (k := 0) (er_join (k := 1) (er_part ih) 5 ts.length) 4 ts.length) _ _ h1
          · split at h
            · cases h
            · cases h; simp
        · cases h; simp
end
theorem read_errno {s : ByteArray} {en : Int} {pl : Nat} (h : readS s = .error (en, pl)) : (en != 0) = true := by
  rw [bne_iff_ne]
  unfold readS at h
  split at h
  · cases h; simp
  · unfold readP at h
    split at h
    · rename_i e1 h1
      cases h
      exact (er_join (k := 0) (er_join (k := 1) (er_part (er_atom 12)) 5 _) 4 _) _ _ h1
    · split at h
      · split at h
        · cases h
        · cases h; simp
      · cases h; simp
/-- Trees as they come from a text without errors; and their chains. -/
def niceP : Code → Bool × Bool
  | .exit n => (decide (n < 2 + 2 * 192), false)
  | .loop t => ((niceP t).1, false)
  | .scope t => (isT t && (niceP t).1, false)
  | .block k l => (decide (k ≤ 1) && (decide (2 ≤ (elems l).length) && (niceP l).2), false)
  | .seq a l => (false, (niceP a).1 && (niceP l).2)
  | .skip => (false, true)
  | _ => (false, false)
def nice (t : Code) : Bool := (niceP t).1
theorem nice_elems : ∀ l : Code, (niceP l).2 = true → ∀ t, t ∈ elems l → nice t = true
  | .skip, _, t, ht => by cases ht
  | .seq a b, h, t, ht => by
    have h' : ((niceP a).1 && (niceP b).2) = true := h
    rw [Bool.and_eq_true] at h'
    rcases List.mem_cons.1 (show t ∈ a :: elems b from ht) with rfl | ht
    · exact h'.1
    · exact nice_elems b h'.2 t ht
theorem nice_wf : ∀ t : Code, ((niceP t).1 = true → (wfC t).1 = true) ∧ ((niceP t).2 = true → (wfC t).2 = true) := by
  intro t
  induction t with
  | exit n => exact ⟨fun _ => rfl, fun h => by cases h⟩
  | skip => exact ⟨fun h => (by cases h), fun _ => rfl⟩
  | loop t ih => exact ⟨fun h => ih.1 h, fun h => by cases h⟩
  | scope t ih => exact ⟨fun h => ih.1 ((Bool.and_eq_true _ _ ▸ (show (isT t && (niceP t).1) = true from h)).2), fun h => by cases h⟩
  | block k l ih =>
    refine ⟨fun h => ?_, fun h => by cases h⟩
    have h' : (decide (k ≤ 1) && (decide (2 ≤ (elems l).length) && (niceP l).2)) = true := h
    rw [Bool.and_eq_true, Bool.and_eq_true] at h'
    exact ih.2 h'.2.2
  | seq a b iha ihb =>
    refine ⟨fun h => (by cases h), fun h => ?_⟩
    have h' : ((niceP a).1 && (niceP b).2) = true := h
    rw [Bool.and_eq_true] at h'
    show ((wfC a).1 && (wfC b).2) = true
    rw [iha.1 h'.1, ihb.2 h'.2]
    rfl
  | _ => exact ⟨fun h => (by cases h), fun h => by cases h⟩
theorem flatP_elems : ∀ l : Code, (niceP l).2 = true → (flatP l).2 = (elems l).map flat
  | .skip, _ => rfl
  | .seq a b, h => by
    have h' : ((niceP a).1 && (niceP b).2) = true := h
    rw [Bool.and_eq_true] at h'
    show (flatP a).1 :: (flatP b).2 = flat a :: (elems b).map flat
    rw [flatP_elems b h'.2]
    rfl
theorem elems_chain : ∀ l : List Code, elems (chain l) = l
  | [] => rfl
  | t :: l => by show t :: elems (chain l) = _; rw [elems_chain l]
theorem kind_pos (t : Code) : 0 ≤ kindC t := by
  cases t <;> simp only [kindC] <;> (repeat' split) <;> omega
def Ni (p : St → Except (Int × Nat) (Code × St)) : Prop := ∀ st t st', p st = .ok (t, st') → st'.bad = 401 → st.bad = 401 ∧ nice t = true
theorem nice_chain : ∀ l : List Code, (∀ t, t ∈ l → nice t = true) → (niceP (chain l)).2 = true
  | [], _ => rfl
  | t :: l, h => by
    show ((niceP t).1 && (niceP (chain l)).2) = true
    rw [show (niceP t).1 = true from h t (by simp), nice_chain l (fun x hx => h x (by simp [hx]))]
    rfl
theorem nice_join (k : Nat) (hk : k ≤ 1) (l : List Code) (hl : l ≠ []) (h : ∀ t, t ∈ l → nice t = true) : nice (joinC k l) = true := by
  match l, hl with
  | [t], _ => exact h t (by simp)
  | a :: b :: l, _ =>
    show (decide (k ≤ 1) && (decide (2 ≤ (elems (chain (a :: b :: l))).length) && (niceP (chain (a :: b :: l))).2)) = true
    rw [elems_chain, nice_chain _ h, decide_eq_true hk, decide_eq_true (by simp)]
    rfl
theorem fieldNo_lt {b : List UInt8} {f : Nat} (h : fieldNo b = some f) : f < 6 := by
  unfold fieldNo at h
  repeat' split at h
  all_goals first | (cases h; done) | (simp only [Option.some.injEq] at h; omega)
section
variable {s : ByteArray} {ts : List Tok}
theorem ni_pair (f : Nat) (hf : f < 6) : Ni (pairP s ts f) := by
  intro st t st' h hb
  unfold pairP at h
  by_cases b1 : f = 0 ∧ (tk ts (st.i + 1)).kind = 11
  · rw [if_pos b1] at h; cases h
  rw [if_neg b1] at h
  by_cases b2 : st.atoms = 16
  · rw [if_pos b2] at h; cases h
  rw [if_neg b2] at h
  by_cases b3 : ¬ (tk ts (st.i + 1)).kind = 10 ∧ ¬ (tk ts (st.i + 1)).kind = 11
  · rw [if_pos b3] at h; cases h
  rw [if_neg b3] at h
  by_cases b4 : ¬ (tk ts (st.i + 2)).kind = 3
  · rw [if_pos b4] at h; cases h
  rw [if_neg b4] at h
  by_cases b5 : 31 < numVal (txt s (tk ts (st.i + 2)))
  · rw [if_pos b5] at h; cases h
  rw [if_neg b5] at h
  cases h
  refine ⟨hb, ?_⟩
  have nl : ∀ m, m < 2 + 2 * 192 → nice (.exit m) = true := fun m hm => decide_eq_true hm
  generalize numVal (txt s (tk ts (st.i + 2))) = z at b5 ⊢
  unfold leafC
  split
  · exact nl _ (by omega)
  · exact nl _ (by omega)
theorem ni_word : Ni (wordP s ts) := by
  intro st t st' h hb
  unfold wordP at h
  split at h
  · cases h; exact ⟨hb, rfl⟩
  · split at h
    · cases h; exact ⟨hb, rfl⟩
    · split at h
      · cases h
      · rename_i f hf
        exact ni_pair f (fieldNo_lt hf) st t st' h hb
theorem ni_star : ∀ n t i, nice t = true → nice (starLoop ts n t i).1 = true
  | 0, t, i, h => h
  | n + 1, t, i, h => by
    rw [starLoop]
    split
    · exact ni_star n (.loop t) (i + 1) h
    · exact h
theorem ni_part {p : St → Except (Int × Nat) (Code × St)} (h : Ni p) : Ni (partP ts p) := by
  intro st t st' hp hb
  unfold partP at hp
  split at hp
  · cases hp
  · rename_i t1 st1 e1
    cases hp
    have := h st t1 st1 e1 hb
    exact ⟨this.1, ni_star _ _ _ this.2⟩
theorem ni_list {p : St → Except (Int × Nat) (Code × St)} (h : Ni p) (sep : Int) : ∀ n st l st', listP ts sep p n st = .ok (l, st') → st'.bad = 401 → st.bad = 401 ∧ ∀ t, t ∈ l → nice t = true
  | 0, st, l, st', hp, hb => by
    rw [listP] at hp
    cases hp
    exact ⟨hb, fun t ht => by cases ht⟩
  | n + 1, st, l, st', hp, hb => by
    rw [listP] at hp
    split at hp
    · cases hp
    · rename_i t1 st1 e1
      split at hp
      · split at hp
        · cases hp
        · rename_i l2 st2 e2
          cases hp
          have g2 := ni_list h sep n _ l2 _ e2 hb
          have h1 := h st t1 st1 e1 g2.1
          refine ⟨h1.1, fun t ht => ?_⟩
          rcases List.mem_cons.1 ht with rfl | ht
          · exact h1.2
          · exact g2.2 t ht
      · cases hp
        have h1 := h st t1 _ e1 hb
        refine ⟨h1.1, fun t ht => ?_⟩
        rcases List.mem_cons.1 ht with rfl | ht
        · exact h1.2
        · cases ht
theorem ni_joinP {k : Nat} (hk : k ≤ 1) {p : St → Except (Int × Nat) (Code × St)} (hp : Ni p) (sep : Int) (h0 : 0 < ts.length) : Ni (fun st => joinP k (listP ts sep p ts.length st)) := by
  intro st t st' h hb
  obtain ⟨l, hl, rfl⟩ := goes_join h
  have g := ni_list hp sep _ st l st' hl hb
  exact ⟨g.1, nice_join k hk l (list_ne h0 hl) g.2⟩
theorem ni_atom (h0 : 0 < ts.length) (ha : ∀ i, (tk ts i).at_ ≤ 400) : ∀ d, Ni (atomP s ts d) := by
  intro d
  induction d with
  | zero =>
    intro st t st' h hb
    unfold atomP at h
    split at h
    · exact ni_word st t st' h hb
    · repeat' split at h
      all_goals cases h
  | succ d ih =>
    intro st t st' h hb
    unfold atomP at h
    split at h
    · exact ni_word st t st' h hb
    · split at h
      · unfold notP at h
        split at h
        · cases h
        · rename_i t1 st1 e1
          cases h
          have := ha st.i
          by_cases hT : isT t1 = true
          · have g := ih _ t1 st1 e1 (by simp only [hT, if_true] at hb; exact hb)
            refine ⟨g.1, ?_⟩
            show (isT t1 && (niceP t1).1) = true
            rw [hT, show (niceP t1).1 = true from g.2]
            rfl
          · exfalso
            simp only [hT, if_false] at hb
            have h2 : min st1.bad (tk ts st.i).at_ ≤ (tk ts st.i).at_ := Nat.min_le_right _ _
            have hb' : min st1.bad (tk ts st.i).at_ = 401 := by simpa using hb
            omega
      · split at h
        · unfold brackP at h
          split at h
          · cases h
          · rename_i t1 st1 e1
            split at h
            · cases h
              have g := (ni_joinP (k := 0) (by decide) (ni_joinP (k := 1) (by decide) (ni_part ih) 5 h0) 4 h0) _ _ st1 e1 hb
              exact g
            · cases h
        · cases h
end
theorem readS_nice {s : ByteArray} {t : Code} (h : readS s = .ok t) : nice t = true ∧ wt t ≤ 7300 := by
  unfold readS at h
  split at h
  · cases h
  · rename_i hs
    have hcl := toks_closed s 0
    have hlen := toks_len s true
    unfold readP at h
    split at h
    · cases h
    · rename_i t1 st1 e1
      have g := (wt_joinP (k := 0) (wt_joinP (k := 1) (wt_part (wt_atom (s := s) hcl.1 12)) 5 hcl.1) 4 hcl.1) _ t1 st1 e1
      have g2 := goes_sum hcl (goes_atom (s := s) hcl 12) _ t1 st1 hcl.1 (by simp) e1
      have g3 := (ni_joinP (k := 0) (by decide) (ni_joinP (k := 1) (by decide) (ni_part (ni_atom (s := s) hcl.1 (fun i => Nat.le_trans (toks_at s true i) (by omega)) 12)) 5 hcl.1) 4 hcl.1) _ t1 st1 e1
      split at h
      · split at h
        · rename_i hb
          cases h
          simp at g
          exact ⟨(g3 hb).2, by omega⟩
        · cases h
      · cases h
/-- Taking groups into groups makes no tree weigh more, and keeps its leaves. -/
def lfC : Code → Bool
  | .exit n => decide (n < 2 + 2 * 192)
  | .loop t => lfC t
  | .scope t => lfC t
  | .block _ l => lfC l
  | .seq a l => lfC a && lfC l
  | _ => true
theorem lf_chain : ∀ l : List Code, lfC (chain l) = l.all lfC
  | [] => rfl
  | t :: l => by show (lfC t && lfC (chain l)) = _; rw [lf_chain l]; rfl
theorem lf_elems : ∀ l : Code, (wfC l).2 = true → (elems l).all lfC = lfC l
  | .skip, _ => rfl
  | .seq a b, h => by
    have h' : ((wfC a).1 && (wfC b).2) = true := h
    rw [Bool.and_eq_true] at h'
    show (a :: elems b).all lfC = (lfC a && lfC b)
    rw [List.all_cons, lf_elems b h'.2]
theorem wt_sum : ∀ l : Code, (wfC l).2 = true → ((elems l).map fun t => wt t + 6).sum = wt l
  | .skip, _ => rfl
  | .seq a b, h => by
    have h' : ((wfC a).1 && (wfC b).2) = true := h
    rw [Bool.and_eq_true] at h'
    show ((a :: elems b).map fun t => wt t + 6).sum = wt a + wt b + 6
    rw [List.map_cons, List.sum_cons, wt_sum b h'.2]
    omega
theorem flatE_facts (k : Nat) (t : Code) (h : (wfC t).1 = true) : (flatE k t).all lfC = lfC t ∧ ((flatE k t).map fun t => wt t + 6).sum ≤ wt t + 6 := by
  unfold flatE
  split
  · rename_i k' l
    split
    · exact ⟨lf_elems l h, by rw [wt_sum l h]; simp [wt]⟩
    · simp
  · simp
theorem flatM_facts (k : Nat) : ∀ l : List Code, (∀ t, t ∈ l → (wfC t).1 = true) → (l.flatMap (flatE k)).all lfC = l.all lfC ∧ ((l.flatMap (flatE k)).map fun t => wt t + 6).sum ≤ (l.map fun t => wt t + 6).sum
  | [], _ => ⟨rfl, by simp⟩
  | t :: l, h => by
    have h1 := flatE_facts k t (h t (by simp))
    have h2 := flatM_facts k l (fun x hx => h x (by simp [hx]))
    rw [List.flatMap_cons, List.all_append, List.all_cons, h1.1, h2.1, List.map_append, List.sum_append, List.map_cons, List.sum_cons]
    exact ⟨rfl, by omega⟩
theorem rjoin_facts (k : Nat) (l : List Code) (h : ∀ t, t ∈ l → (wfC t).1 = true) : lfC (rjoin k l) = l.all lfC ∧ wt (rjoin k l) ≤ (l.map fun t => wt t + 6).sum := by
  unfold rjoin
  split
  · exact ⟨by simp, by simp⟩
  · have h1 := flatM_facts k l h
    exact ⟨(lf_chain _).trans h1.1, by show wt (chain _) ≤ _; rw [wt_chain]; exact h1.2⟩
theorem flat_lw : ∀ t : Code, ((wfC t).1 = true → lfC (flatP t).1 = lfC t ∧ wt (flatP t).1 ≤ wt t) ∧ ((wfC t).2 = true → (flatP t).2.all lfC = lfC t ∧ ((flatP t).2.map fun t => wt t + 6).sum ≤ wt t) := by
  intro t
  induction t with
  | exit n => exact ⟨fun _ => ⟨rfl, Nat.le_refl _⟩, fun h => by cases h⟩
  | skip => exact ⟨fun h => (by cases h), fun _ => ⟨rfl, Nat.le_refl _⟩⟩
  | loop t ih => exact ⟨fun h => ⟨(ih.1 h).1, Nat.add_le_add_right (ih.1 h).2 4⟩, fun h => by cases h⟩
  | scope t ih => exact ⟨fun h => ⟨(ih.1 h).1, Nat.add_le_add_right (ih.1 h).2 4⟩, fun h => by cases h⟩
  | block k l ih =>
    refine ⟨fun h => ?_, fun h => by cases h⟩
    have hl := ih.2 h
    have hw := ((flat_facts l).2 h).2
    have hr := rjoin_facts k _ hw
    exact ⟨hr.1.trans hl.1, Nat.le_trans hr.2 hl.2⟩
  | seq a b iha ihb =>
    refine ⟨fun h => (by cases h), fun h => ?_⟩
    have h' : ((wfC a).1 && (wfC b).2) = true := h
    rw [Bool.and_eq_true] at h'
    have ha := iha.1 h'.1
    have hb := ihb.2 h'.2
    refine ⟨?_, ?_⟩
    · show ((flatP a).1 :: (flatP b).2).all lfC = (lfC a && lfC b)
      rw [List.all_cons, ha.1, hb.1]
    · show (((flatP a).1 :: (flatP b).2).map fun t => wt t + 6).sum ≤ wt a + wt b + 6
      rw [List.map_cons, List.sum_cons]
      omega
  | _ => exact ⟨fun h => (by cases h), fun h => by cases h⟩
theorem nice_lf : ∀ t : Code, ((niceP t).1 = true → lfC t = true) ∧ ((niceP t).2 = true → lfC t = true) := by
  intro t
  induction t with
  | exit n => exact ⟨fun h => h, fun h => by cases h⟩
  | skip => exact ⟨fun h => (by cases h), fun _ => rfl⟩
  | loop t ih => exact ⟨fun h => ih.1 h, fun h => by cases h⟩
  | scope t ih => exact ⟨fun h => ih.1 ((Bool.and_eq_true _ _ ▸ (show (isT t && (niceP t).1) = true from h)).2), fun h => by cases h⟩
  | block k l ih =>
    refine ⟨fun h => ?_, fun h => by cases h⟩
    have h' : (decide (k ≤ 1) && (decide (2 ≤ (elems l).length) && (niceP l).2)) = true := h
    rw [Bool.and_eq_true, Bool.and_eq_true] at h'
    exact ih.2 h'.2.2
  | seq a b iha ihb =>
    refine ⟨fun h => (by cases h), fun h => ?_⟩
    have h' : ((niceP a).1 && (niceP b).2) = true := h
    rw [Bool.and_eq_true] at h'
    show (lfC a && lfC b) = true
    rw [iha.1 h'.1, ihb.2 h'.2]
    rfl
  | _ => exact ⟨fun h => (by cases h), fun h => by cases h⟩
theorem flat_ready {t : Code} (h : nice t = true) : lfC (flat t) = true ∧ wt (flat t) ≤ wt t := by
  have h1 := (flat_lw t).1 ((nice_wf t).1 h)
  exact ⟨h1.1.trans ((nice_lf t).1 h), h1.2⟩
end Go.Proofs.YtlhkfafdioakeaaGreatDoor
