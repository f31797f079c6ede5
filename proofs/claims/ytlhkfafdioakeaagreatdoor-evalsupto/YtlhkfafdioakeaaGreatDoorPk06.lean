/- Plain facts: what a policy makes of a packet; that a flow, as it is laid, goes just the same ways. -/
import Derived.Test.YtlhkfafdioakeaaGreatDoorGMk
namespace Go.Proofs.YtlhkfafdioakeaaGreatDoor
open Go.RowKit Go.Weft
set_option linter.unusedVariables false
set_option linter.unusedSimpArgs false
/-- A packet with a field set. -/
def putF (x : Nat → Int) (f : Nat) (v : Int) : Nat → Int := fun i => if i = f then v else x i
/-- From one thing to another in steps of a relation. -/
inductive Many {α : Type} (R : α → α → Prop) : α → α → Prop
  | refl (a : α) : Many R a a
  | step {a b c : α} : R a b → Many R b c → Many R a c
theorem Many.one {α : Type} {R : α → α → Prop} {a b : α} (h : R a b) : Many R a b := .step h (.refl b)
theorem Many.trans {α : Type} {R : α → α → Prop} {a b c : α} (h : Many R a b) (k : Many R b c) : Many R a c := by
  induction h with
  | refl a => exact k
  | step h1 _ ih => exact .step h1 (ih k)
theorem Many.mono {α : Type} {R S : α → α → Prop} (h : ∀ a b, R a b → S a b) {a b : α} (k : Many R a b) : Many S a b := by
  induction k with
  | refl a => exact .refl a
  | step h1 _ ih => exact .step (h _ _ h1) ih
theorem Many.flat {α : Type} {R : α → α → Prop} {a b : α} (h : Many (Many R) a b) : Many R a b := by
  induction h with
  | refl a => exact .refl a
  | step h1 _ ih => exact h1.trans ih
/-- What a test, a setting, id or drop makes of a packet. -/
def leafD (n : Nat) (x y : Nat → Int) : Prop :=
  if n = 0 then y = x else if n = 1 then False else if n % 2 = 0 then x (fOf n) = (vOf n : Int) ∧ y = x else y = putF x (fOf n) (vOf n : Int)
/-- What a tree makes of a packet; what the parts of a chain make of it, side by side; and one behind the other. -/
def den : Code → ((Nat → Int) → (Nat → Int) → Prop) × ((Nat → Int) → (Nat → Int) → Prop) × ((Nat → Int) → (Nat → Int) → Prop)
  | .exit n => (leafD n, fun _ _ => False, fun x y => y = x)
  | .loop t => (Many (den t).1, fun _ _ => False, fun x y => y = x)
  | .scope t => (fun x y => (¬ ∃ z, (den t).1 x z) ∧ y = x, fun _ _ => False, fun x y => y = x)
  | .block k l => (if k = 0 then (den l).2.1 else (den l).2.2, fun _ _ => False, fun x y => y = x)
  | .seq a l => (fun x y => y = x, fun x y => (den a).1 x y ∨ (den l).2.1 x y, fun x y => ∃ z, (den a).1 x z ∧ (den l).2.2 z y)
  | _ => (fun x y => y = x, fun _ _ => False, fun x y => y = x)
def D (t : Code) (x y : Nat → Int) : Prop := (den t).1 x y
theorem den_sum : ∀ (l : Code) (x y : Nat → Int), (den l).2.1 x y ↔ ∃ t, t ∈ elems l ∧ D t x y := by
  intro l
  induction l with
  | seq a b _ ih =>
    intro x y
    simp only [den, elems, List.mem_cons, ih]
    constructor
    · rintro (h | ⟨t, h1, h2⟩)
      · exact ⟨a, .inl rfl, h⟩
      · exact ⟨t, .inr h1, h2⟩
    · rintro ⟨t, rfl | h1, h2⟩
      · exact .inl h2
      · exact .inr ⟨t, h1, h2⟩
  | _ => intro x y; simp [den, elems]
/-- Through a list of trees, one behind the other. -/
def thru : List Code → (Nat → Int) → (Nat → Int) → Prop
  | [], x, y => y = x
  | t :: ts, x, y => ∃ z, D t x z ∧ thru ts z y
theorem den_seq : ∀ (l : Code) (x y : Nat → Int), (den l).2.2 x y ↔ thru (elems l) x y := by
  intro l
  induction l with
  | seq a b _ ih =>
    intro x y
    simp only [den, elems, thru, ih]
    rfl
  | _ => intro x y; simp [den, elems, thru]
theorem D_sum (l : Code) (x y : Nat → Int) : D (.block 0 l) x y ↔ ∃ t, t ∈ elems l ∧ D t x y := by
  show (if (0 : Nat) = 0 then (den l).2.1 else (den l).2.2) x y ↔ _
  rw [if_pos rfl]; exact den_sum l x y
theorem D_seq (l : Code) (x y : Nat → Int) : D (.block 1 l) x y ↔ thru (elems l) x y := by
  show (if (1 : Nat) = 0 then (den l).2.1 else (den l).2.2) x y ↔ _
  rw [if_neg (by decide)]; exact den_seq l x y
theorem thru_append : ∀ (a b : List Code) (x y : Nat → Int), thru (a ++ b) x y ↔ ∃ z, thru a x z ∧ thru b z y
  | [], b, x, y => by simp [thru]
  | t :: a, b, x, y => by
    simp only [List.cons_append, thru, thru_append a b]
    constructor
    · rintro ⟨z, h1, u, h2, h3⟩; exact ⟨u, ⟨z, h1, h2⟩, h3⟩
    · rintro ⟨u, ⟨z, h1, h2⟩, h3⟩; exact ⟨z, h1, u, h2, h3⟩
/-! How a packet goes from place to place. -/
/-- What a place does. -/
def doesP (d : Option Code) (x y : Nat → Int) : Prop := match d with
  | none => y = x
  | some t => D t x y
/-- One step: from a place with what is done there, to one of the next. -/
def stepP (L : List Plc) (a b : Nat × (Nat → Int)) : Prop := ∃ q, L[a.1]? = some q ∧ doesP q.1 a.2 b.2 ∧ b.1 ∈ q.2
/-- So many steps. -/
def goN (L : List Plc) : Nat → Nat × (Nat → Int) → Nat × (Nat → Int) → Prop
  | 0, a, b => b = a
  | n + 1, a, b => ∃ c, stepP L a c ∧ goN L n c b
theorem goN_many {L : List Plc} : ∀ n a b, goN L n a b → Many (stepP L) a b
  | 0, a, b, h => by cases h; exact .refl a
  | n + 1, a, b, ⟨c, h1, h2⟩ => .step h1 (goN_many n c b h2)
theorem many_goN {L : List Plc} {a b : Nat × (Nat → Int)} (h : Many (stepP L) a b) : ∃ n, goN L n a b := by
  induction h with
  | refl a => exact ⟨0, rfl⟩
  | step h1 _ ih => obtain ⟨n, hn⟩ := ih; exact ⟨n + 1, _, h1, hn⟩
/-- A laid part: where it begins, how far it reaches, and what comes next. -/
structure Laid (L : List Plc) (lo hi s nx : Nat) (R : (Nat → Int) → (Nat → Int) → Prop) : Prop where
  there : ∀ x y, R x y → Many (stepP L) (s, x) (nx, y)
  back : ∀ n x p z, goN L n (s, x) (p, z) → (p < lo ∨ hi ≤ p) → ∃ m y, m ≤ n ∧ R x y ∧ goN L m (nx, y) (p, z)
theorem Laid.id (L : List Plc) (lo hi s : Nat) : Laid L lo hi s s (fun x y => y = x) :=
  ⟨fun x y h => by cases h; exact .refl _, fun n x p z h _ => ⟨n, x, Nat.le_refl _, rfl, h⟩⟩
theorem Laid.wider {L : List Plc} {lo hi lo' hi' s nx : Nat} {R : (Nat → Int) → (Nat → Int) → Prop} (h : Laid L lo hi s nx R) (h1 : lo' ≤ lo) (h2 : hi ≤ hi') : Laid L lo' hi' s nx R :=
  ⟨h.there, fun n x p z hg hp => h.back n x p z hg (by omega)⟩
theorem Laid.cong {L : List Plc} {lo hi s nx : Nat} {R S : (Nat → Int) → (Nat → Int) → Prop} (h : Laid L lo hi s nx R) (he : ∀ x y, R x y ↔ S x y) : Laid L lo hi s nx S :=
  ⟨fun x y hs => h.there x y ((he x y).2 hs), fun n x p z hg hp => by
    obtain ⟨m, y, h1, h2, h3⟩ := h.back n x p z hg hp
    exact ⟨m, y, h1, (he x y).1 h2, h3⟩⟩
/-- One behind the other. -/
theorem Laid.comp {L : List Plc} {lo hi s m nx : Nat} {R S : (Nat → Int) → (Nat → Int) → Prop} (h : Laid L lo hi s m R) (k : Laid L lo hi m nx S) : Laid L lo hi s nx (fun x y => ∃ z, R x z ∧ S z y) :=
  ⟨fun x y ⟨z, h1, h2⟩ => (h.there x z h1).trans (k.there z y h2), fun n x p z hg hp => by
    obtain ⟨n1, y, h1, h2, h3⟩ := h.back n x p z hg hp
    obtain ⟨n2, u, k1, k2, k3⟩ := k.back n1 y p z h3 hp
    exact ⟨n2, u, by omega, ⟨y, h2, k2⟩, k3⟩⟩
/-- One place with something done there. -/
theorem Laid.place {L : List Plc} {s nx : Nat} {d : Option Code} (h : L[s]? = some (d, [nx])) : Laid L s (s + 1) s nx (doesP d) :=
  ⟨fun x y hd => .one ⟨_, h, hd, by simp⟩, fun n x p z hg hp => by
    cases n with
    | zero => cases hg; omega
    | succ n =>
      obtain ⟨⟨c1, c2⟩, ⟨q, hq, hd, hm⟩, h2⟩ := hg
      rw [h] at hq
      cases hq
      simp at hm
      subst hm
      exact ⟨n, c2, by omega, hd, h2⟩⟩
/-- A place from which nothing goes on. -/
theorem Laid.dead {L : List Plc} {s nx : Nat} {d : Option Code} (h : L[s]? = some (d, [])) : Laid L s (s + 1) s nx (fun _ _ => False) :=
  ⟨fun x y hd => hd.elim, fun n x p z hg hp => by
    cases n with
    | zero => cases hg; omega
    | succ n =>
      obtain ⟨⟨c1, c2⟩, ⟨q, hq, hd, hm⟩, h2⟩ := hg
      rw [h] at hq
      cases hq
      simp at hm⟩
/-- A place from which several go on. -/
theorem Laid.fork {L : List Plc} {lo hi s nx : Nat} {ss : List Nat} {R : (Nat → Int) → (Nat → Int) → Prop} (h : L[s]? = some (none, ss)) (hs : lo ≤ s ∧ s < hi) (h1 : ∀ x y, R x y → ∃ i, i ∈ ss ∧ Many (stepP L) (i, x) (nx, y))
    (h2 : ∀ i, i ∈ ss → ∀ n x p z, goN L n (i, x) (p, z) → (p < lo ∨ hi ≤ p) → ∃ m y, m ≤ n ∧ R x y ∧ goN L m (nx, y) (p, z)) : Laid L lo hi s nx R :=
  ⟨fun x y hr => by
    obtain ⟨i, him, hm⟩ := h1 x y hr
    exact .step (b := (i, x)) ⟨_, h, rfl, him⟩ hm, fun n x p z hg hp => by
    cases n with
    | zero => cases hg; omega
    | succ n =>
      obtain ⟨⟨c1, c2⟩, ⟨q, hq, hd, hm⟩, h3⟩ := hg
      rw [h] at hq
      cases hq
      cases hd
      obtain ⟨m, y, k1, k2, k3⟩ := h2 c1 hm n x p z h3 hp
      exact ⟨m, y, by omega, k2, k3⟩⟩
/-- A star: a fork that goes on, or through the part and back. -/
theorem Laid.star {L : List Plc} {lo hi f s nx : Nat} {R : (Nat → Int) → (Nat → Int) → Prop} (h : L[f]? = some (none, [nx, s])) (hf : lo ≤ f ∧ f < hi) (k : Laid L (f + 1) hi s f R) : Laid L lo hi f nx (Many R) := by
  have one : ∀ x, stepP L (f, x) (nx, x) := fun x => ⟨_, h, rfl, by simp⟩
  have two : ∀ x, stepP L (f, x) (s, x) := fun x => ⟨_, h, rfl, by simp⟩
  refine ⟨fun x y hr => ?_, ?_⟩
  · induction hr with
    | refl a => exact .one (one a)
    | step h1 _ ih => exact (Many.step (two _) (k.there _ _ h1)).trans ih
  · intro n
    induction n using Nat.strongRecOn with
    | ind n ih =>
      intro x p z hg hp
      cases n with
      | zero => cases hg; omega
      | succ n =>
        obtain ⟨⟨c1, c2⟩, ⟨q, hq, hd, hm⟩, h3⟩ := hg
        rw [h] at hq
        cases hq
        cases hd
        simp at hm
        rcases hm with rfl | rfl
        · exact ⟨n, x, by omega, .refl x, h3⟩
        · obtain ⟨m, y, k1, k2, k3⟩ := k.back n x p z h3 (by omega)
          obtain ⟨m2, u, j1, j2, j3⟩ := ih m (by omega) y p z k3 hp
          exact ⟨m2, u, by omega, .step k2 j2, j3⟩
/-- A list of places that has, from some place on, what was laid. -/
def Has (L P : List Plc) (lo : Nat) : Prop := ∀ j, lo ≤ j → j < P.length → L[j]? = P[j]?
theorem Has.less {L P Q : List Plc} {lo : Nat} (h : Has L Q lo) (hk : ∀ j, j < P.length → Q[j]? = P[j]?) (hl : P.length ≤ Q.length) : Has L P lo := fun j h1 h2 => (h j h1 (by omega)).trans (hk j h2)
theorem Has.from {L P : List Plc} {lo lo' : Nat} (h : Has L P lo) (hl : lo ≤ lo') : Has L P lo' := fun j h1 h2 => h j (by omega) h2
theorem lay_laid : ∀ (t : Code) (nx : Nat) (L0 L : List Plc),
    (Has L ((lay t).1 nx L0).2 L0.length → Laid L L0.length ((lay t).1 nx L0).2.length ((lay t).1 nx L0).1 nx (den t).1) ∧
    (Has L ((lay t).2.1 nx L0).2 L0.length → (∀ x y, (den t).2.1 x y → ∃ i, i ∈ ((lay t).2.1 nx L0).1 ∧ Many (stepP L) (i, x) (nx, y)) ∧ (∀ i, i ∈ ((lay t).2.1 nx L0).1 → ∀ n x p z, goN L n (i, x) (p, z) → (p < L0.length ∨ ((lay t).2.1 nx L0).2.length ≤ p) → ∃ m y, m ≤ n ∧ (den t).2.1 x y ∧ goN L m (nx, y) (p, z))) ∧
    (Has L ((lay t).2.2 nx L0).2 L0.length → Laid L L0.length ((lay t).2.2 nx L0).2.length ((lay t).2.2 nx L0).1 nx (den t).2.2) := by
  intro t
  have triv : ∀ (nx : Nat) (L0 L : List Plc), (∀ x y : Nat → Int, False → ∃ i, i ∈ ([] : List Nat) ∧ Many (stepP L) (i, x) (nx, y)) ∧ (∀ i, i ∈ ([] : List Nat) → ∀ n (x : Nat → Int) p z, goN L n (i, x) (p, z) → (p < L0.length ∨ L0.length ≤ p) → ∃ m y, m ≤ n ∧ False ∧ goN L m (nx, y) (p, z)) := fun nx L0 L => ⟨fun x y h => h.elim, fun i hi => by cases hi⟩
  induction t with
  | exit m =>
    intro nx L0 L
    refine ⟨fun h => ?_, fun _ => triv nx L0 L, fun _ => Laid.id _ _ _ _⟩
    have e : (lay (.exit m)).1 nx L0 = if m = 0 then (nx, L0) else if m = 1 then (L0.length, L0 ++ [(none, [])]) else (L0.length, L0 ++ [(some (.exit m), [nx])]) := rfl
    rw [e] at h ⊢
    by_cases h0 : m = 0
    · rw [if_pos h0]
      refine (Laid.id L L0.length L0.length nx).cong (fun x y => ?_)
      show _ ↔ leafD m x y
      unfold leafD
      rw [if_pos h0]
    rw [if_neg h0] at h ⊢
    by_cases h1 : m = 1
    · rw [if_pos h1] at h ⊢
      have hp : L[L0.length]? = some (none, []) := by rw [h L0.length (Nat.le_refl _) (by simp)]; simp
      have := Laid.dead (nx := nx) hp
      simp only [List.length_append, List.length_singleton]
      refine this.cong (fun x y => ?_)
      show _ ↔ leafD m x y
      unfold leafD
      rw [if_neg h0, if_pos h1]
    · rw [if_neg h1] at h ⊢
      have hp : L[L0.length]? = some (some (.exit m), [nx]) := by rw [h L0.length (Nat.le_refl _) (by simp)]; simp
      simp only [List.length_append, List.length_singleton]
      exact Laid.place hp
  | scope t ih =>
    intro nx L0 L
    refine ⟨fun h => ?_, fun _ => triv nx L0 L, fun _ => Laid.id _ _ _ _⟩
    have e : (lay (.scope t)).1 nx L0 = (L0.length, L0 ++ [(some (.scope t), [nx])]) := rfl
    rw [e] at h ⊢
    have hp : L[L0.length]? = some (some (.scope t), [nx]) := by rw [h L0.length (Nat.le_refl _) (by simp)]; simp
    simp only [List.length_append, List.length_singleton]
    exact Laid.place hp
  | loop t ih =>
    intro nx L0 L
    refine ⟨fun h => ?_, fun _ => triv nx L0 L, fun _ => Laid.id _ _ _ _⟩
    by_cases hl : isLoop t = true
    · rw [lay_loop hl] at h ⊢
      refine ((ih nx L0 L).1 h).cong (fun x y => ?_)
      cases t with
      | loop t2 => exact ⟨fun h => .one h, fun h => h.flat⟩
      | _ => cases hl
    · have hl' : isLoop t = false := by simpa using hl
      rw [lay_loop' hl'] at h ⊢
      have hlen := (lay_len t L0.length (L0 ++ [(none, [])])).1
      simp only [List.length_append, List.length_singleton] at hlen
      have hf : L[L0.length]? = some (none, [nx, ((lay t).1 L0.length (L0 ++ [(none, [])])).1]) := by
        rw [h L0.length (Nat.le_refl _) (by simp; omega)]
        show (((lay t).1 L0.length (L0 ++ [(none, [])])).2.set L0.length _)[L0.length]? = _
        rw [List.getElem?_set_self (by omega)]
      have hin := (ih L0.length (L0 ++ [(none, [])]) L).1 (fun j h1 h2 => by
        simp only [List.length_append, List.length_singleton] at h1
        rw [h j (by omega) (by simpa using h2)]
        exact List.getElem?_set_ne (by omega))
      simp only [List.length_append, List.length_singleton] at hin
      simp only [List.length_set]
      exact Laid.star hf ⟨Nat.le_refl _, by omega⟩ hin
  | block k l ih =>
    intro nx L0 L
    refine ⟨fun h => ?_, fun _ => triv nx L0 L, fun _ => Laid.id _ _ _ _⟩
    have hd : (den (.block k l)).1 = if k = 0 then (den l).2.1 else (den l).2.2 := rfl
    rw [hd]
    by_cases hk : k = 0
    · have e : (lay (.block k l)).1 nx L0 = (((lay l).2.1 nx L0).2.length, ((lay l).2.1 nx L0).2 ++ [(none, ((lay l).2.1 nx L0).1)]) := by simp only [lay, if_pos hk]
      rw [e] at h ⊢
      rw [if_pos hk]
      have hlen := (lay_len l nx L0).2.1
      have hp : L[((lay l).2.1 nx L0).2.length]? = some (none, ((lay l).2.1 nx L0).1) := by rw [h _ hlen.1 (by simp)]; simp
      have hin := (ih nx L0 L).2.1 (fun j h1 h2 => by rw [h j h1 (by simp; omega)]; exact List.getElem?_append_left h2)
      simp only [List.length_append, List.length_singleton]
      exact Laid.fork hp ⟨hlen.1, by omega⟩ hin.1 (fun i hi n x p z hg hq => hin.2 i hi n x p z hg (by omega))
    · have e : (lay (.block k l)).1 nx L0 = (lay l).2.2 nx L0 := by simp only [lay, if_neg hk]
      rw [e] at h ⊢
      rw [if_neg hk]
      exact (ih nx L0 L).2.2 h
  | seq a l iha ihl =>
    intro nx L0 L
    refine ⟨fun _ => Laid.id _ _ _ _, fun h => ?_, fun h => ?_⟩
    · have e : (lay (.seq a l)).2.1 nx L0 = (((lay a).1 nx L0).1 :: ((lay l).2.1 nx ((lay a).1 nx L0).2).1, ((lay l).2.1 nx ((lay a).1 nx L0).2).2) := rfl
      rw [e] at h ⊢
      have h1 := (lay_len a nx L0).1
      have h2 := (lay_len l nx ((lay a).1 nx L0).2).2.1
      have ka := (iha nx L0 L).1 (h.less (fun j hj => (lay_keep l nx ((lay a).1 nx L0).2).2.1 j hj) h2.1)
      have kl := (ihl nx ((lay a).1 nx L0).2 L).2.1 (h.from h1.1)
      refine ⟨fun x y hr => ?_, fun i hi n x p z hg hp => ?_⟩
      · rcases (show (den a).1 x y ∨ (den l).2.1 x y from hr) with hr | hr
        · exact ⟨_, by simp, ka.there x y hr⟩
        · obtain ⟨i, i1, i2⟩ := kl.1 x y hr
          exact ⟨i, by simp [i1], i2⟩
      · dsimp only at hp
        rcases List.mem_cons.1 hi with rfl | hi
        · obtain ⟨m, y, m1, m2, m3⟩ := ka.back n x p z hg (by omega)
          exact ⟨m, y, m1, .inl m2, m3⟩
        · obtain ⟨m, y, m1, m2, m3⟩ := kl.2 i hi n x p z hg (by omega)
          exact ⟨m, y, m1, .inr m2, m3⟩
    · have e : (lay (.seq a l)).2.2 nx L0 = (lay a).1 ((lay l).2.2 nx L0).1 ((lay l).2.2 nx L0).2 := rfl
      rw [e] at h ⊢
      have h1 := (lay_len l nx L0).2.2
      have h2 := (lay_len a ((lay l).2.2 nx L0).1 ((lay l).2.2 nx L0).2).1
      have kl := (ihl nx L0 L).2.2 (h.less (fun j hj => (lay_keep a ((lay l).2.2 nx L0).1 ((lay l).2.2 nx L0).2).1 j hj) h2.1)
      have ka := (iha ((lay l).2.2 nx L0).1 ((lay l).2.2 nx L0).2 L).1 (h.from h1.1)
      exact (ka.wider h1.1 (Nat.le_refl _)).comp (kl.wider (Nat.le_refl _) h2.1)
  | _ =>
    intro nx L0 L
    exact ⟨fun _ => Laid.id _ _ _ _, fun _ => triv nx L0 L, fun _ => Laid.id _ _ _ _⟩
/-- The flow of a tree goes from its beginning to its end just as the tree says. -/
theorem flow_den (t : Code) (x z : Nat → Int) : Many (stepP (flowOf t).2) ((flowOf t).1, x) (0, z) ↔ D t x z := by
  have h := (lay_laid t 0 [(none, [])] (flowOf t).2).1 (fun j _ _ => rfl)
  have h0 : (flowOf t).2[0]? = some (none, []) := (lay_keep t 0 [(none, [])]).1 0 (by simp)
  constructor
  · intro hm
    obtain ⟨n, hn⟩ := many_goN hm
    obtain ⟨m, y, _, h2, h3⟩ := h.back n x 0 z hn (.inl (by simp))
    cases m with
    | zero => cases h3; exact h2
    | succ m =>
      obtain ⟨c, ⟨q, hq, _, hm⟩, _⟩ := h3
      rw [h0] at hq
      cases hq
      cases hm
  · exact h.there x z
end Go.Proofs.YtlhkfafdioakeaaGreatDoor
