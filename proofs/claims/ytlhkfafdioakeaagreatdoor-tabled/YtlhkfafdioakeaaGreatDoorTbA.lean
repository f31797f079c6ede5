/- Plain facts: a policy can tell packets apart only by the values that it tests; what it makes of one of them tells what it makes of all that it stands for. -/
import Derived.Test.YtlhkfafdioakeaaGreatDoorGDn
namespace Go.Proofs.YtlhkfafdioakeaaGreatDoor
open Go.RowKit Go.Weft
set_option linter.unusedVariables false
set_option linter.unusedSimpArgs false
/-- Alike to all tests: in each field the same value, or both none that is tested. -/
def Al (A : List Nat) (x x' : Nat → Int) : Prop := ∀ f, x f = x' f ∨ ∀ n ∈ A, n % 2 = 0 → fOf n = f → ¬ x f = (vOf n : Int) ∧ ¬ x' f = (vOf n : Int)
theorem Al.symm {A : List Nat} {x x' : Nat → Int} (h : Al A x x') : Al A x' x := fun f => (h f).imp Eq.symm (fun k n hn he hf => ⟨(k n hn he hf).2, (k n hn he hf).1⟩)
/-- What came of two packets: in each field the same, or each as it was. -/
def Qr (x x' y y' : Nat → Int) : Prop := ∀ f, y f = y' f ∨ (y f = x f ∧ y' f = x' f)
theorem Qr.symm {x x' y y' : Nat → Int} (h : Qr x x' y y') : Qr x' x y' y := fun f => (h f).imp Eq.symm (fun k => ⟨k.2, k.1⟩)
theorem Qr.start (x x' : Nat → Int) : Qr x x' x x' := fun f => .inr ⟨rfl, rfl⟩
def Bis (x x' : Nat → Int) (R : (Nat → Int) → (Nat → Int) → Prop) : Prop := ∀ y y' z, Qr x x' y y' → R y z → ∃ z', R y' z' ∧ Qr x x' z z'
theorem Bis.id (x x' : Nat → Int) : Bis x x' (fun y z => z = y) := fun y y' z hq h => by
  subst h
  exact ⟨y', rfl, hq⟩
theorem Bis.none (x x' : Nat → Int) : Bis x x' (fun _ _ => False) := fun y y' z _ h => h.elim
theorem leaf_bis {A : List Nat} {n : Nat} (hn : n ≤ 1 ∨ n ∈ A) {x x' : Nat → Int} (hA : Al A x x') : Bis x x' (leafD n) := by
  intro y y' z hq h
  unfold leafD at h ⊢
  by_cases h0 : n = 0
  · rw [if_pos h0] at h
    subst h
    exact ⟨y', by rw [if_pos h0], hq⟩
  rw [if_neg h0] at h
  by_cases h1 : n = 1
  · rw [if_pos h1] at h; exact h.elim
  rw [if_neg h1] at h
  have hm : n ∈ A := by
    rcases hn with hn | hn
    · omega
    · exact hn
  by_cases h2 : n % 2 = 0
  · rw [if_pos h2] at h
    obtain ⟨hv, rfl⟩ := h
    refine ⟨y', ?_, hq⟩
    rw [if_neg h0, if_neg h1, if_pos h2]
    refine ⟨?_, rfl⟩
    rcases hq (fOf n) with e | ⟨e1, e2⟩
    · rw [← e]; exact hv
    · rcases hA (fOf n) with e | e
      · rw [e2, ← e, ← e1]; exact hv
      · exact absurd (e1 ▸ hv) (e n hm h2 rfl).1
  · rw [if_neg h2] at h
    subst h
    refine ⟨putF y' (fOf n) (vOf n : Int), by rw [if_neg h0, if_neg h1, if_neg h2], fun f => ?_⟩
    unfold putF
    by_cases e : f = fOf n
    · simp [e]
    · rw [if_neg e, if_neg e]; exact hq f
theorem many_bis {x x' : Nat → Int} {R : (Nat → Int) → (Nat → Int) → Prop} (h : Bis x x' R) : Bis x x' (Many R) := by
  intro y y' z hq hm
  induction hm generalizing y' with
  | refl a => exact ⟨y', .refl _, hq⟩
  | step h1 _ ih =>
    obtain ⟨u, hu, hqu⟩ := h _ y' _ hq h1
    obtain ⟨z', hz, hqz⟩ := ih u hqu
    exact ⟨z', .step hu hz, hqz⟩
theorem bis_any (A : List Nat) (t : Code) : (∀ n ∈ atomsC t, n ∈ A) → ∀ x x', Al A x x' → Bis x x' (den t).1 ∧ Bis x x' (den t).2.1 ∧ Bis x x' (den t).2.2 := by
  induction t with
  | exit n =>
    intro h x x' hA
    refine ⟨leaf_bis ?_ hA, Bis.none _ _, Bis.id _ _⟩
    by_cases hn : n ≤ 1
    · exact .inl hn
    · exact .inr (h n (by simp [atomsC, hn]))
  | loop t ih => exact fun h x x' hA => ⟨many_bis (ih h x x' hA).1, Bis.none _ _, Bis.id _ _⟩
  | scope t ih =>
    intro h x x' hA
    refine ⟨fun y y' z hq hd => ?_, Bis.none _ _, Bis.id _ _⟩
    obtain ⟨h1, rfl⟩ := hd
    refine ⟨y', ⟨fun ⟨u, hu⟩ => h1 ?_, rfl⟩, hq⟩
    obtain ⟨v, hv, _⟩ := (ih h x' x hA.symm).1 y' z u hq.symm hu
    exact ⟨v, hv⟩
  | block k l ih =>
    intro h x x' hA
    refine ⟨?_, Bis.none _ _, Bis.id _ _⟩
    show Bis x x' (if k = 0 then (den l).2.1 else (den l).2.2)
    split
    · exact (ih h x x' hA).2.1
    · exact (ih h x x' hA).2.2
  | seq a l iha ihl =>
    intro h x x' hA
    have ha := iha (fun n hn => h n (List.mem_append.2 (.inl hn))) x x' hA
    have hl := ihl (fun n hn => h n (List.mem_append.2 (.inr hn))) x x' hA
    refine ⟨Bis.id _ _, fun y y' z hq hd => ?_, fun y y' z hq hd => ?_⟩
    · rcases hd with hd | hd
      · obtain ⟨u, hu, hq2⟩ := ha.1 y y' z hq hd
        exact ⟨u, .inl hu, hq2⟩
      · obtain ⟨u, hu, hq2⟩ := hl.2.1 y y' z hq hd
        exact ⟨u, .inr hu, hq2⟩
    · obtain ⟨v, h1, h2⟩ := hd
      obtain ⟨v', hv, hq2⟩ := ha.1 y y' v hq h1
      obtain ⟨u, hu, hq3⟩ := hl.2.2 v v' z hq2 h2
      exact ⟨u, ⟨v', hv, hu⟩, hq3⟩
  | _ => exact fun h x x' hA => ⟨Bis.id _ _, Bis.none _ _, Bis.id _ _⟩
/-- A value is as it was, or one that is set. -/
def Prov (A : List Nat) (x z : Nat → Int) : Prop := ∀ f, z f = x f ∨ ∃ n ∈ A, fOf n = f ∧ z f = (vOf n : Int)
theorem Prov.trans {A : List Nat} {x y z : Nat → Int} (h : Prov A x y) (k : Prov A y z) : Prov A x z := fun f => by
  rcases k f with e | e
  · rw [e]; exact h f
  · exact .inr e
theorem Prov.refl (A : List Nat) (x : Nat → Int) : Prov A x x := fun f => .inl rfl
theorem prov_any (A : List Nat) (t : Code) : (∀ n ∈ atomsC t, n ∈ A) → (∀ x z, (den t).1 x z → Prov A x z) ∧ (∀ x z, (den t).2.1 x z → Prov A x z) ∧ (∀ x z, (den t).2.2 x z → Prov A x z) := by
  induction t with
  | exit n =>
    intro h
    refine ⟨fun x z hd => ?_, fun x z hd => hd.elim, fun x z hd => by cases hd; exact Prov.refl _ _⟩
    have hd : leafD n x z := hd
    unfold leafD at hd
    split at hd
    · rw [hd]; exact Prov.refl _ _
    · split at hd
      · exact hd.elim
      · split at hd
        · rw [hd.2]; exact Prov.refl _ _
        · rename_i h0 h1 h2
          subst hd
          intro f
          unfold putF
          by_cases e : f = fOf n
          · right
            exact ⟨n, h n (by simp [atomsC]; omega), e.symm, by rw [if_pos e]⟩
          · left; rw [if_neg e]
  | loop t ih =>
    intro h
    refine ⟨fun x z hd => ?_, fun x z hd => hd.elim, fun x z hd => by cases hd; exact Prov.refl _ _⟩
    have key : ∀ x z, Many (den t).1 x z → Prov A x z := by
      intro x z hm
      induction hm with
      | refl a => exact Prov.refl _ _
      | step h1 _ ih2 => exact ((ih h).1 _ _ h1).trans ih2
    exact key x z hd
  | scope t ih => exact fun h => ⟨fun x z hd => (by rw [hd.2]; exact Prov.refl _ _), fun x z hd => hd.elim, fun x z hd => by cases hd; exact Prov.refl _ _⟩
  | block k l ih =>
    intro h
    refine ⟨fun x z hd => ?_, fun x z hd => hd.elim, fun x z hd => by cases hd; exact Prov.refl _ _⟩
    have hd : (if k = 0 then (den l).2.1 else (den l).2.2) x z := hd
    split at hd
    · exact (ih h).2.1 x z hd
    · exact (ih h).2.2 x z hd
  | seq a l iha ihl =>
    intro h
    have ha := iha (fun n hn => h n (List.mem_append.2 (.inl hn)))
    have hl := ihl (fun n hn => h n (List.mem_append.2 (.inr hn)))
    refine ⟨fun x z hd => (by cases hd; exact Prov.refl _ _), fun x z hd => ?_, fun x z hd => ?_⟩
    · exact hd.elim (ha.1 x z) (hl.2.1 x z)
    · obtain ⟨v, h1, h2⟩ := hd
      exact (ha.1 x v h1).trans (hl.2.2 v z h2)
  | _ => exact fun h => ⟨fun x z hd => (by cases hd; exact Prov.refl _ _), fun x z hd => hd.elim, fun x z hd => by cases hd; exact Prov.refl _ _⟩
/-- A packet stands for another one: in each field the same value, or one that nothing names for one that no test names. -/
def Stands (A : List Nat) (k x : Nat → Int) : Prop := ∀ f, x f = k f ∨ ((∀ n ∈ A, fOf n = f → ¬ k f = (vOf n : Int)) ∧ ∀ n ∈ A, n % 2 = 0 → fOf n = f → ¬ x f = (vOf n : Int))
/-- What an action, made of what came of k, makes of another packet. -/
def actK (k z x : Nat → Int) : Nat → Int := fun f => if z f = k f then x f else z f
theorem acts_den {A : List Nat} {t : Code} (hA : ∀ n ∈ atomsC t, n ∈ A) {k x : Nat → Int} (h : Stands A k x) (z : Nat → Int) : D t x z ↔ ∃ z', D t k z' ∧ z = actK k z' x := by
  have hal : Al A x k := fun f => (h f).imp id (fun ⟨h1, h2⟩ n hn he hf => ⟨h2 n hn he hf, h1 n hn hf⟩)
  have key : ∀ z z', D t x z → Qr x k z z' → z = actK k z' x := by
    intro z z' hz hq
    funext f
    unfold actK
    by_cases e : z' f = k f
    · rw [if_pos e]
      rcases hq f with e1 | ⟨e1, _⟩
      · rcases h f with e2 | ⟨h1, _⟩
        · rw [e1, e, e2]
        · rcases (prov_any A t hA).1 x z hz f with e3 | ⟨n, hn, hf, hv⟩
          · exact e3
          · exact absurd ((e.symm.trans e1.symm).trans hv) (h1 n hn hf)
      · exact e1
    · rw [if_neg e]
      rcases hq f with e1 | ⟨_, e1⟩
      · exact e1
      · exact absurd e1 e
  constructor
  · intro hz
    obtain ⟨z', h1, hq⟩ := (bis_any A t hA x k hal).1 x k z (Qr.start x k) hz
    exact ⟨z', h1, key z z' hz hq⟩
  · rintro ⟨z', h1, rfl⟩
    obtain ⟨z, h2, hq⟩ := (bis_any A t hA k x hal.symm).1 k x z' (Qr.start k x) h1
    rw [← key z z' h2 hq.symm]
    exact h2
end Go.Proofs.YtlhkfafdioakeaaGreatDoor
