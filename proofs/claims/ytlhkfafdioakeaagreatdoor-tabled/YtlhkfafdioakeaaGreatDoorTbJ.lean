/- Plain facts: what a policy tests, and what it does not name. -/
import Derived.Test.YtlhkfafdioakeaaGreatDoorTbG
import Derived.Test.YtlhkfafdioakeaaGreatDoorGSy
namespace Go.Proofs.YtlhkfafdioakeaaGreatDoor
open Go.RowKit Go.Weft Classical
set_option linter.unusedVariables false
set_option linter.unusedSimpArgs false
theorem atomsC_chain : ∀ l : List Code, atomsC (chain l) = atomsL l
  | [] => rfl
  | t :: l => by show atomsC t ++ atomsC (chain l) = atomsC t ++ atomsL l; rw [atomsC_chain l]
theorem atomsC_join (k : Nat) : ∀ l : List Code, (atomsC (joinC k l)).length ≤ (atomsL l).length
  | [] => by simp [joinC, atomsC, atomsL, chain]
  | [t] => by simp [joinC, atomsL]
  | t :: u :: l => by
    show (atomsC (chain (t :: u :: l))).length ≤ _
    rw [atomsC_chain]
    exact Nat.le_refl _
theorem leaf_ats {ys : List Sym} {n a : Nat} (h : LeafOk ys n a) : (atomsC (.exit n)).length ≤ a := by
  unfold atomsC
  rcases h with ⟨_, rfl, rfl⟩ | ⟨_, rfl, rfl⟩ | ⟨_, _, _, _, _, _, _, _, _, _, _, _, rfl⟩
  · simp
  · simp
  · split <;> simp
theorem ats_len : ∀ c : Ct, okC c → (atomsC (trees c).1).length ≤ atsC c ∧ (atomsL (trees c).2.1).length ≤ atsC c ∧ (atomsL (trees c).2.2).length ≤ atsC c
  | .leaf ys n a, h => by
    have := leaf_ats h
    exact ⟨this, by simpa [trees, atomsL, atsC] using this, by simpa [trees, atomsL, atsC] using this⟩
  | .neg a, h => by
    have := (ats_len a h.2.1).1
    exact ⟨this, by simpa [trees, atomsL, atsC, atomsC] using this, by simpa [trees, atomsL, atsC, atomsC] using this⟩
  | .brk a, h => by
    have := (ats_len a h).1
    exact ⟨this, by simpa [trees, atomsL, atsC] using this, by simpa [trees, atomsL, atsC] using this⟩
  | .star a, h => by
    have := (ats_len a h.2).1
    exact ⟨this, by simpa [trees, atomsL, atsC, atomsC] using this, by simpa [trees, atomsL, atsC, atomsC] using this⟩
  | .sq a b, h => by
    have h1 := (ats_len a h.2.2.1).1
    have h2 := (ats_len b h.2.2.2).2.1
    have h3 : (atomsL ((trees a).1 :: (trees b).2.1)).length ≤ atsC a + atsC b := by rw [atomsL, List.length_append]; omega
    have h4 := Nat.le_trans (atomsC_join 1 ((trees a).1 :: (trees b).2.1)) h3
    exact ⟨h4, h3, by simpa [trees, atomsL, atsC] using h4⟩
  | .sm a b, h => by
    have h1 := (ats_len a h.2.2.1).1
    have h2 := (ats_len b h.2.2.2).2.2
    have h3 : (atomsL ((trees a).1 :: (trees b).2.2)).length ≤ atsC a + atsC b := by rw [atomsL, List.length_append]; omega
    have h4 := Nat.le_trans (atomsC_join 0 ((trees a).1 :: (trees b).2.2)) h3
    exact ⟨h4, by simpa [trees, atomsL, atsC] using h4, h3⟩
/-- A policy has sixteen tests and settings at the most. -/
theorem atoms_16 {s : ByteArray} {t : Code} (h : readS s = .ok t) : (atomsC t).length ≤ 16 := by
  obtain ⟨c, rfl, hok, _, _, ha, _⟩ := read_to s h
  exact Nat.le_trans (ats_len c hok).1 ha
/-- What is noted. -/
theorem notes_mem (A : List Nat) (hA : ∀ n ∈ A, fOf n < 6) (f : Nat) (hf : f < 6) (v : Int) : (v ∈ notesA A f ↔ ∃ n ∈ A, n % 2 = 0 ∧ fOf n = f ∧ v = (vOf n : Int)) ∧ (v ∈ notesA A (6 + f) ↔ ∃ n ∈ A, fOf n = f ∧ v = (vOf n : Int)) := by
  have key : ∀ (A : List Nat) (C : Nat → List Int), (∀ n ∈ A, fOf n < 6) → (v ∈ A.foldl noteA C f ↔ v ∈ C f ∨ ∃ n ∈ A, n % 2 = 0 ∧ fOf n = f ∧ v = (vOf n : Int)) ∧ (v ∈ A.foldl noteA C (6 + f) ↔ v ∈ C (6 + f) ∨ ∃ n ∈ A, fOf n = f ∧ v = (vOf n : Int)) := by
    intro A
    induction A with
    | nil => intro C _; simp
    | cons a A ih =>
      intro C h
      obtain ⟨h1, h2⟩ := ih (noteA C a) (fun n hn => h n (by simp [hn]))
      have ha := h a (by simp)
      rw [List.foldl_cons, h1, h2]
      have e1 : v ∈ noteA C a f ↔ v ∈ C f ∨ (a % 2 = 0 ∧ fOf a = f ∧ v = (vOf a : Int)) := by
        unfold noteA updF
        by_cases hpar : a % 2 = 0
        · rw [if_pos hpar]
          by_cases e : f = fOf a
          · subst e; simp [hpar, show ¬ fOf a = 6 + fOf a by omega]
          · simp [hpar, e, show ¬ f = 6 + fOf a by omega, Ne.symm e]
        · rw [if_neg hpar]
          simp [hpar, show ¬ f = 6 + fOf a by omega]
      have e2 : v ∈ noteA C a (6 + f) ↔ v ∈ C (6 + f) ∨ (fOf a = f ∧ v = (vOf a : Int)) := by
        unfold noteA updF
        by_cases hpar : a % 2 = 0
        · rw [if_pos hpar]
          by_cases e : f = fOf a
          · subst e; simp
          · simp [e, Ne.symm e, show ¬ 6 + f = fOf a by omega]
        · rw [if_neg hpar]
          by_cases e : f = fOf a
          · subst e; simp
          · simp [e, Ne.symm e]
      rw [e1, e2]
      constructor
      · constructor
        · rintro ((q | q) | ⟨n, hn, q⟩)
          · exact .inl q
          · exact .inr ⟨a, by simp, q⟩
          · exact .inr ⟨n, by simp [hn], q⟩
        · rintro (q | ⟨n, hn, q⟩)
          · exact .inl (.inl q)
          · rcases List.mem_cons.1 hn with rfl | hn
            · exact .inl (.inr q)
            · exact .inr ⟨n, hn, q⟩
      · constructor
        · rintro ((q | q) | ⟨n, hn, q⟩)
          · exact .inl q
          · exact .inr ⟨a, by simp, q⟩
          · exact .inr ⟨n, by simp [hn], q⟩
        · rintro (q | ⟨n, hn, q⟩)
          · exact .inl (.inl q)
          · rcases List.mem_cons.1 hn with rfl | hn
            · exact .inl (.inr q)
            · exact .inr ⟨n, hn, q⟩
  have := key A (fun _ => []) hA
  simpa [notesA] using this
/-- All that is tested, in all fields. -/
theorem notes_sum (A : List Nat) (hA : ∀ n ∈ A, fOf n < 6) : (notesA A 0).length + (notesA A 1).length + (notesA A 2).length + (notesA A 3).length + (notesA A 4).length + (notesA A 5).length ≤ A.length := by
  have key : ∀ (A : List Nat) (C : Nat → List Int), (∀ n ∈ A, fOf n < 6) → (A.foldl noteA C 0).length + (A.foldl noteA C 1).length + (A.foldl noteA C 2).length + (A.foldl noteA C 3).length + (A.foldl noteA C 4).length + (A.foldl noteA C 5).length ≤ (C 0).length + (C 1).length + (C 2).length + (C 3).length + (C 4).length + (C 5).length + A.length := by
    intro A
    induction A with
    | nil => intro C _; simp
    | cons a A ih =>
      intro C h
      have h1 := ih (noteA C a) (fun n hn => h n (by simp [hn]))
      have ha := h a (by simp)
      have h2 : (noteA C a 0).length + (noteA C a 1).length + (noteA C a 2).length + (noteA C a 3).length + (noteA C a 4).length + (noteA C a 5).length ≤ (C 0).length + (C 1).length + (C 2).length + (C 3).length + (C 4).length + (C 5).length + 1 := by
        unfold noteA updF
        rcases (show fOf a = 0 ∨ fOf a = 1 ∨ fOf a = 2 ∨ fOf a = 3 ∨ fOf a = 4 ∨ fOf a = 5 by omega) with e | e | e | e | e | e <;> rw [e] <;> split <;> simp <;> omega
      rw [List.foldl_cons, List.length_cons]
      omega
  have := key A (fun _ => []) hA
  simpa [notesA] using this
theorem compact_facts (d : Array Int) (hs : ∀ i j, i ≤ j → j < d.size → d[i]! ≤ d[j]!) : ∀ m, m ≤ d.size → (∀ j, j < m → d[j]! ∈ Lib.compactUpTo d m) ∧ (∀ x ∈ Lib.compactUpTo d m, ∃ j, j < m ∧ x = d[j]!) ∧ (Lib.compactUpTo d m).Pairwise (· < ·)
  | 0, _ => by simp [Lib.compactUpTo]
  | m + 1, hm => by
    obtain ⟨h1, h2, h3⟩ := compact_facts d hs m (by omega)
    rw [Lib.compactUpTo_succ]
    by_cases hk : Lib.keeps d m = true
    · rw [if_pos hk]
      refine ⟨fun j hj => ?_, fun x hx => ?_, ?_⟩
      · by_cases e : j = m
        · subst e; simp
        · exact List.mem_append.2 (.inl (h1 j (by omega)))
      · rcases List.mem_append.1 hx with hx | hx
        · obtain ⟨j, hj, e⟩ := h2 x hx
          exact ⟨j, by omega, e⟩
        · exact ⟨m, by omega, by simpa using hx⟩
      · rw [List.pairwise_append]
        refine ⟨h3, List.pairwise_singleton _ _, fun x hx y hy => ?_⟩
        obtain ⟨j, hj, rfl⟩ := h2 x hx
        obtain rfl : y = d[m]! := by simpa using hy
        have hne : d[m]! ≠ d[m - 1]! := by
          unfold Lib.keeps at hk
          rw [decide_eq_true_eq] at hk
          rcases hk with e | e
          · omega
          · exact e
        have a1 := hs j (m - 1) (by omega) (by omega)
        have a2 := hs (m - 1) m (by omega) (by omega)
        omega
    · rw [if_neg hk, List.append_nil]
      refine ⟨fun j hj => ?_, fun x hx => ?_, h3⟩
      · by_cases e : j = m
        · subst e
          unfold Lib.keeps at hk
          rw [decide_eq_true_eq] at hk
          have h0 : ¬ j = 0 := fun e => hk (.inl e)
          have he : d[j]! = d[j - 1]! := Classical.byContradiction fun e => hk (.inr e)
          rw [he]
          exact h1 (j - 1) (by omega)
        · exact h1 j (by omega)
      · obtain ⟨j, hj, e⟩ := h2 x hx
        exact ⟨j, by omega, e⟩
theorem tstd_facts (A : List Nat) (f : Nat) : (∀ v, v ∈ tstd A f ↔ v ∈ notesA A f) ∧ (tstd A f).Nodup ∧ (tstd A f).length ≤ (notesA A f).length := by
  have hp : (sortZ (notesA A f)).Perm (notesA A f) := List.mergeSort_perm _ _
  have hso : (sortZ (notesA A f)).Pairwise (fun x y => x ≤ y) := by
    have := List.pairwise_mergeSort (le := fun x y : Int => decide (x ≤ y)) (fun a b c h1 h2 => by simp at *; omega) (fun a b => by simp; omega) (notesA A f)
    exact this.imp (fun h => by simpa using h)
  obtain ⟨zs, hz⟩ : ∃ zs, zs = sortZ (notesA A f) := ⟨_, rfl⟩
  have hz' : tstd A f = Lib.compactUpTo zs.toArray zs.length := by rw [hz]; rfl
  rw [← hz] at hp hso
  have hs : ∀ i j, i ≤ j → j < zs.toArray.size → zs.toArray[i]! ≤ zs.toArray[j]! := by
    intro i j hij hj
    simp only [List.size_toArray] at hj
    rw [getElem!_pos zs.toArray i (by simp; omega), getElem!_pos zs.toArray j (by simpa using hj)]
    rcases Nat.eq_or_lt_of_le hij with e | e
    · subst e; exact Int.le_refl _
    · exact List.pairwise_iff_getElem.1 hso i j (by omega) hj e
  obtain ⟨h1, h2, h3⟩ := compact_facts zs.toArray hs zs.length (by simp)
  rw [hz']
  refine ⟨fun v => ⟨fun hv => ?_, fun hv => ?_⟩, h3.imp (fun h => by omega), ?_⟩
  · obtain ⟨j, hj, rfl⟩ := h2 v hv
    rw [getElem!_pos zs.toArray j (by simpa using hj)]
    exact hp.mem_iff.1 (List.getElem_mem _)
  · obtain ⟨j, hj, e⟩ := List.mem_iff_getElem.1 (hp.mem_iff.2 hv)
    have := h1 j hj
    rw [getElem!_pos zs.toArray j (by simpa using hj)] at this
    rw [← e]
    exact this
  · have h4 : (Lib.compactUpTo zs.toArray zs.length).length ≤ zs.length := by
      unfold Lib.compactUpTo
      rw [List.length_map]
      exact Nat.le_trans (List.length_filter_le _ _) (by simp)
    exact Nat.le_trans h4 (by rw [hp.length_eq]; exact Nat.le_refl _)
theorem lm_le {zs : List Int} {m : Nat} (h : LM zs m) : m ≤ zs.length := by
  have h1 := nodup_le ((List.range m).map fun i : Nat => (i : Int)) zs (by
    refine List.Pairwise.map _ (fun a b hab => ?_) List.nodup_range
    intro e
    exact hab (by omega)) (fun x hx => by
      obtain ⟨i, hi, rfl⟩ := List.mem_map.1 hx
      exact h.1 i (List.mem_range.1 hi))
  simpa using h1
end Go.Proofs.YtlhkfafdioakeaaGreatDoor
