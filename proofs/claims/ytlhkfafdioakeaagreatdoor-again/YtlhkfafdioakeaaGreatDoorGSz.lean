/- GSz: several parts, each with what it proves in plain words at its head. -/
import Derived.Test.YtlhkfafdioakeaaGreatDoorSyW
import Derived.Test.YtlhkfafdioakeaaGreatDoorGText
import Derived.Test.YtlhkfafdioakeaaGreatDoorGSy
/- Plain facts: texts and groups that are joined. -/
namespace Go.Proofs.YtlhkfafdioakeaaGreatDoor
open Go.RowKit Go.Weft
set_option linter.unusedVariables false
set_option linter.unusedSimpArgs false
theorem join_nil (sep : List UInt8) : Lib.join [] sep = [] := by simp [Lib.join]
theorem join_two (x y : List UInt8) (r : List (List UInt8)) (sep : List UInt8) : Lib.join (x :: y :: r) sep = x ++ sep ++ Lib.join (y :: r) sep := by simp [Lib.join, List.intercalate]
theorem join_snoc (sep : List UInt8) : ∀ (l : List (List UInt8)) (x : List UInt8), Lib.join (l ++ [x]) sep = Lib.join l sep ++ ((if 0 < l.length then sep else []) ++ x)
  | [], x => by simp [join_nil, Lib.join_one]
  | [y], x => by rw [List.singleton_append, join_two, Lib.join_one, Lib.join_one]; simp
  | y :: z :: r, x => by
    have ih := join_snoc sep (z :: r) x
    rw [List.cons_append, List.cons_append, join_two, join_two, ← List.cons_append, ih]
    simp
theorem join_append (sep : List UInt8) : ∀ (a b : List (List UInt8)), a ≠ [] → b ≠ [] → Lib.join (a ++ b) sep = Lib.join a sep ++ sep ++ Lib.join b sep
  | [], _, h, _ => absurd rfl h
  | [x], [], _, h => absurd rfl h
  | [x], y :: r, _, _ => by rw [List.singleton_append, join_two, Lib.join_one]
  | x :: y :: r, b, _, hb => by
    rw [List.cons_append, List.cons_append, join_two, ← List.cons_append, join_append sep (y :: r) b (by simp) hb, join_two]
    simp
theorem join_flat (sep : List UInt8) : ∀ (l : List (List (List UInt8))), (∀ x, x ∈ l → x ≠ []) → Lib.join l.flatten sep = Lib.join (l.map fun x => Lib.join x sep) sep
  | [], _ => by simp
  | [x], _ => by simp [Lib.join_one]
  | x :: y :: r, h => by
    have ih := join_flat sep (y :: r) (fun z hz => h z (by simp [hz]))
    have hx := h x (by simp)
    have hy : (y :: r).flatten ≠ [] := by
      have := h y (by simp)
      cases y with
      | nil => exact absurd rfl this
      | cons a b => simp
    rw [List.flatten_cons, join_append sep x _ hx hy, ih]
    simp only [List.map_cons]
    rw [join_two]
theorem flatE_ne (k : Nat) (t : Code) (h : ∀ k' l, t = .block k' l → elems l ≠ []) : flatE k t ≠ [] := by
  unfold flatE
  split
  · rename_i k' l
    split
    · exact h k' l rfl
    · simp
  · simp
theorem rjoin_many (k : Nat) (l : List Code) (h : 2 ≤ l.length) : rjoin k l = .block k (chain (l.flatMap (flatE k))) := by
  match l, h with
  | a :: b :: r, _ => rfl
/-- No block is empty. -/
def full : Code → Bool × Bool
  | .loop t => ((full t).1, true)
  | .scope t => ((full t).1, true)
  | .block k l => (!(elems l).isEmpty, true)
  | _ => (true, true)
theorem full_rjoin (k : Nat) (l : List Code) (h2 : 2 ≤ l.length) (h : ∀ t, t ∈ l → flatE k t ≠ []) : ∃ es, rjoin k l = .block k (chain es) ∧ es ≠ [] := by
  refine ⟨_, rjoin_many k l h2, ?_⟩
  match l, h2 with
  | a :: b :: r, _ =>
    have := h a (by simp)
    rw [List.flatMap_cons]
    intro e
    exact this (List.append_eq_nil_iff.1 e).1
/-- A tree of a text, flat, is no empty block. -/
theorem flat_ne (t : Code) : nice t = true → ∀ k' l', flat t = .block k' l' → elems l' ≠ [] := by
  have key : ∀ t : Code, ((niceP t).1 = true → ∀ k' l', flat t = .block k' l' → elems l' ≠ []) ∧ ((niceP t).2 = true → ∀ x, x ∈ elems t → ∀ k' l', flat x = .block k' l' → elems l' ≠ []) := by
    intro t
    induction t with
    | exit n => exact ⟨fun _ k' l' e => (by cases e), fun h => by cases h⟩
    | skip => exact ⟨fun h => (by cases h), fun _ x hx => by cases hx⟩
    | loop t ih => exact ⟨fun _ k' l' e => (by cases e), fun h => by cases h⟩
    | scope t ih => exact ⟨fun _ k' l' e => (by cases e), fun h => by cases h⟩
    | block k l ih =>
      refine ⟨fun h k' l' e => ?_, fun h => by cases h⟩
      have h' : (decide (k ≤ 1) && (decide (2 ≤ (elems l).length) && (niceP l).2)) = true := h
      rw [Bool.and_eq_true, Bool.and_eq_true, decide_eq_true_eq, decide_eq_true_eq] at h'
      have e2 : flat (.block k l) = rjoin k ((elems l).map flat) := by show rjoin k (flatP l).2 = _; rw [flatP_elems l h'.2.2]
      rw [e2] at e
      obtain ⟨es, e3, hne⟩ := full_rjoin k ((elems l).map flat) (by simpa using h'.2.1) (by
        intro t ht
        obtain ⟨x, hx, rfl⟩ := List.mem_map.1 ht
        exact flatE_ne k _ (fun k2 l2 e4 => ih.2 h'.2.2 x hx k2 l2 e4))
      rw [e3] at e
      cases e
      rw [elems_chain]
      exact hne
    | seq a b iha ihb =>
      refine ⟨fun h => (by cases h), fun h x hx => ?_⟩
      have h' : ((niceP a).1 && (niceP b).2) = true := h
      rw [Bool.and_eq_true] at h'
      rcases List.mem_cons.1 (show x ∈ a :: elems b from hx) with rfl | hx
      · exact iha.1 h'.1
      · exact ihb.2 h'.2 x hx
    | _ => exact ⟨fun h => (by cases h), fun h => by cases h⟩
  exact (key t).1
end Go.Proofs.YtlhkfafdioakeaaGreatDoor
/- Plain facts: a tree that was read, printed, and read again. -/
namespace Go.Proofs.YtlhkfafdioakeaaGreatDoor
open Go.RowKit Go.Weft
set_option linter.unusedVariables false
set_option linter.unusedSimpArgs false
/-- Brackets where they are wanted. -/
def brkd (b : Bool) (c : Ct) : Ct := if b then .brk c else c
def catq : Ct → Ct → Ct
  | .sq a b, c => .sq a (catq b c)
  | .sm a b, c => .sq (.sm a b) c
  | .leaf x y z, c => .sq (.leaf x y z) c
  | .neg a, c => .sq (.neg a) c
  | .brk a, c => .sq (.brk a) c
  | .star a, c => .sq (.star a) c
def catm : Ct → Ct → Ct
  | .sm a b, c => .sm a (catm b c)
  | .sq a b, c => .sm (.sq a b) c
  | .leaf x y z, c => .sm (.leaf x y z) c
  | .neg a, c => .sm (.neg a) c
  | .brk a, c => .sm (.brk a) c
  | .star a, c => .sm (.star a) c
theorem catq_num (a c : Ct) : depC (catq a c) = max (depC a) (depC c) ∧ atsC (catq a c) = atsC a + atsC c ∧ syms (catq a c) = syms a ++ (5, []) :: syms c := by
  induction a with
  | sq a b _ ih =>
    obtain ⟨h1, h2, h3⟩ := ih
    refine ⟨?_, ?_, ?_⟩
    · show max (depC a) (depC (catq b c)) = max (max (depC a) (depC b)) (depC c); rw [h1]; omega
    · show atsC a + atsC (catq b c) = atsC a + atsC b + atsC c; rw [h2]; omega
    · show syms a ++ (5, []) :: syms (catq b c) = (syms a ++ (5, []) :: syms b) ++ (5, []) :: syms c
      rw [h3]; simp
  | _ => exact ⟨rfl, rfl, rfl⟩
theorem catm_num (a c : Ct) : depC (catm a c) = max (depC a) (depC c) ∧ atsC (catm a c) = atsC a + atsC c ∧ syms (catm a c) = syms a ++ (4, []) :: syms c := by
  induction a with
  | sm a b _ ih =>
    obtain ⟨h1, h2, h3⟩ := ih
    refine ⟨?_, ?_, ?_⟩
    · show max (depC a) (depC (catm b c)) = max (max (depC a) (depC b)) (depC c); rw [h1]; omega
    · show atsC a + atsC (catm b c) = atsC a + atsC b + atsC c; rw [h2]; omega
    · show syms a ++ (4, []) :: syms (catm b c) = (syms a ++ (4, []) :: syms b) ++ (4, []) :: syms c
      rw [h3]; simp
  | _ => exact ⟨rfl, rfl, rfl⟩
theorem catq_ok (a c : Ct) : lvl a ≤ 2 → lvl c ≤ 2 → okC a → okC c → okC (catq a c) ∧ lvl (catq a c) = 2 ∧ (trees (catq a c)).2.1 = (trees a).2.1 ++ (trees c).2.1 := by
  induction a with
  | sq a b _ ih =>
    intro _ hc ha hk
    obtain ⟨h1, h2, h3⟩ := ih ha.2.1 hc ha.2.2.2 hk
    exact ⟨⟨ha.1, by omega, ha.2.2.1, h1⟩, rfl, by show (trees a).1 :: (trees (catq b c)).2.1 = _; rw [h3]; rfl⟩
  | sm a b _ _ => intro h; simp [lvl] at h
  | _ => intro _ hc ha hk; exact ⟨⟨by simp [lvl], hc, ha, hk⟩, rfl, rfl⟩
theorem catm_ok (a c : Ct) : okC a → okC c → okC (catm a c) ∧ lvl (catm a c) = 3 ∧ (trees (catm a c)).2.2 = (trees a).2.2 ++ (trees c).2.2 := by
  induction a with
  | sm a b _ ih =>
    intro ha hk
    obtain ⟨h1, h2, h3⟩ := ih ha.2.2.2 hk
    exact ⟨⟨ha.1, by omega, ha.2.2.1, h1⟩, rfl, by show (trees a).1 :: (trees (catm b c)).2.2 = _; rw [h3]; rfl⟩
  | _ => intro ha hk; exact ⟨⟨by simp [lvl], okC_lvl c, ha, hk⟩, rfl, rfl⟩
def joink (k : Nat) : List Ct → Ct
  | [] => .leaf [] 0 0
  | [c] => c
  | c :: d :: r => if k = 0 then catm c (joink k (d :: r)) else catq c (joink k (d :: r))
theorem joink_num (k : Nat) (m : Nat) : ∀ l : List Ct, (∀ c ∈ l, depC c ≤ m) → depC (joink k l) ≤ m ∧ atsC (joink k l) = (l.map atsC).sum
  | [], _ => ⟨Nat.zero_le _, rfl⟩
  | [c], h => ⟨h c (by simp), by simp [joink]⟩
  | c :: d :: r, h => by
    obtain ⟨h1, h2⟩ := joink_num k m (d :: r) (fun x hx => h x (by simp only [List.mem_cons] at hx ⊢; exact .inr hx))
    have h0 := h c (by simp)
    show depC (if k = 0 then catm c (joink k (d :: r)) else catq c (joink k (d :: r))) ≤ m ∧ atsC (if k = 0 then catm c (joink k (d :: r)) else catq c (joink k (d :: r))) = atsC c + ((d :: r).map atsC).sum
    rw [← h2]
    split
    · have := catm_num c (joink k (d :: r))
      exact ⟨by rw [this.1]; omega, this.2.1⟩
    · have := catq_num c (joink k (d :: r))
      exact ⟨by rw [this.1]; omega, this.2.1⟩
/-- The signs of a group, out of those of its parts. -/
theorem joink_lex {α : Type} (k : Nat) (g : α → Ct) (f : α → List UInt8) : ∀ l : List α, l ≠ [] → (∀ c ∈ l, lexN (f c) = syms (g c) ++ [(0, [])]) → lexN (Lib.join (l.map f) (sepC k)) = syms (joink k (l.map g)) ++ [(0, [])]
  | [], h, _ => absurd rfl h
  | [c], _, h => by
    have e : Lib.join ([c].map f) (sepC k) = f c := by simp [Lib.join, List.intercalate]
    rw [e]; exact h c (by simp)
  | c :: d :: r, _, h => by
    have ih := joink_lex k g f (d :: r) (by simp) (fun x hx => h x (by simp only [List.mem_cons] at hx ⊢; exact .inr hx))
    have e : Lib.join ((c :: d :: r).map f) (sepC k) = f c ++ sepC k ++ Lib.join ((d :: r).map f) (sepC k) := by
      rw [List.map_cons, List.map_cons, join_two]
    rw [e]
    show _ = syms (if k = 0 then catm (g c) (joink k ((d :: r).map g)) else catq (g c) (joink k ((d :: r).map g))) ++ _
    have hc := h c (by simp)
    by_cases hk : k = 0
    · rw [if_pos hk, (catm_num (g c) _).2.2]
      unfold sepC at ih ⊢
      rw [if_pos hk] at ih ⊢
      rw [List.append_assoc, show ([32, 43, 32] : List UInt8) ++ Lib.join ((d :: r).map f) [32, 43, 32] = 32 :: 43 :: 32 :: Lib.join ((d :: r).map f) [32, 43, 32] from rfl,
        lexN_append (alone_of (.inr (.inr (.inr (.inr (.inr (.inr rfl))))))) _ _ _ hc]
      have e1 : ∀ r, lexN (32 :: r) = lexN r := fun r => by unfold lexN; rw [symsL_eq]; rfl
      rw [e1, lexN_sign _ (.inr (.inr (.inl ⟨rfl, rfl⟩))), e1, ih]
      simp
    · rw [if_neg hk, (catq_num (g c) _).2.2]
      unfold sepC at ih ⊢
      rw [if_neg hk] at ih ⊢
      rw [List.append_assoc, show ([59] : List UInt8) ++ Lib.join ((d :: r).map f) [59] = 59 :: Lib.join ((d :: r).map f) [59] from rfl,
        lexN_append (alone_of (.inr (.inr (.inr (.inl rfl))))) _ _ _ hc, lexN_sign _ (.inr (.inr (.inr (.inl ⟨rfl, rfl⟩)))), ih]
      simp
theorem joinq_ok : ∀ l : List Ct, l ≠ [] → (∀ c ∈ l, okC c ∧ lvl c ≤ 2) → okC (joink 1 l) ∧ lvl (joink 1 l) ≤ 2 ∧ (trees (joink 1 l)).2.1 = l.flatMap fun c => (trees c).2.1
  | [], h, _ => absurd rfl h
  | [c], _, h => ⟨(h c (by simp)).1, (h c (by simp)).2, by simp [joink]⟩
  | c :: d :: r, _, h => by
    obtain ⟨h1, h2, h3⟩ := joinq_ok (d :: r) (by simp) (fun x hx => h x (by simp only [List.mem_cons] at hx ⊢; exact .inr hx))
    have hc := h c (by simp)
    obtain ⟨g1, g2, g3⟩ := catq_ok c (joink 1 (d :: r)) hc.2 h2 hc.1 h1
    refine ⟨g1, ?_, ?_⟩
    · show lvl (catq c (joink 1 (d :: r))) ≤ 2; omega
    · show (trees (catq c (joink 1 (d :: r)))).2.1 = (trees c).2.1 ++ (d :: r).flatMap fun c => (trees c).2.1
      rw [g3, h3]
theorem joinm_ok : ∀ l : List Ct, l ≠ [] → (∀ c ∈ l, okC c) → okC (joink 0 l) ∧ (trees (joink 0 l)).2.2 = l.flatMap fun c => (trees c).2.2
  | [], h, _ => absurd rfl h
  | [c], _, h => ⟨h c (by simp), by simp [joink]⟩
  | c :: d :: r, _, h => by
    obtain ⟨h1, h3⟩ := joinm_ok (d :: r) (by simp) (fun x hx => h x (by simp only [List.mem_cons] at hx ⊢; exact .inr hx))
    obtain ⟨g1, g2, g3⟩ := catm_ok c (joink 0 (d :: r)) (h c (by simp)) h1
    exact ⟨g1, by show (trees (catm c (joink 0 (d :: r)))).2.2 = (trees c).2.2 ++ (d :: r).flatMap fun c => (trees c).2.2; rw [g3, h3]⟩
theorem flatMap_two {α β : Type} (f : α → List β) : ∀ l : List α, (∀ x ∈ l, f x ≠ []) → l.length ≤ (l.flatMap f).length
  | [], _ => Nat.le_refl _
  | x :: l, h => by
    have h1 := flatMap_two f l (fun y hy => h y (by simp [hy]))
    have h2 : 0 < (f x).length := List.length_pos_iff.2 (h x (by simp))
    rw [List.flatMap_cons, List.length_append, List.length_cons]
    omega
/-! What is read has leaves that can be written. -/
def leafR (n : Nat) : Bool := decide (n < 386) && (decide (n ≤ 1) || n % 2 == 0 || decide (67 ≤ n))
def rdP : Code → Bool × Bool
  | .exit n => (leafR n, false)
  | .loop t => ((rdP t).1, false)
  | .scope t => (isT t && (rdP t).1, false)
  | .block k l => (decide (k ≤ 1) && (decide (2 ≤ (elems l).length) && (rdP l).2), false)
  | .seq a l => (false, (rdP a).1 && (rdP l).2)
  | .skip => (false, true)
  | _ => (false, false)
theorem rd_nice (t : Code) : ((rdP t).1 = true → (niceP t).1 = true) ∧ ((rdP t).2 = true → (niceP t).2 = true) := by
  induction t with
  | exit n =>
    refine ⟨fun h => ?_, fun h => by cases h⟩
    have h' : (decide (n < 386) && _) = true := h
    rw [Bool.and_eq_true] at h'
    exact h'.1
  | skip => exact ⟨fun h => (by cases h), fun _ => rfl⟩
  | loop t ih => exact ⟨ih.1, fun h => by cases h⟩
  | scope t ih =>
    refine ⟨fun h => ?_, fun h => by cases h⟩
    have h' : (isT t && (rdP t).1) = true := h
    rw [Bool.and_eq_true] at h'
    show (isT t && (niceP t).1) = true
    rw [h'.1, ih.1 h'.2]; rfl
  | block k l ih =>
    refine ⟨fun h => ?_, fun h => by cases h⟩
    have h' : (decide (k ≤ 1) && (decide (2 ≤ (elems l).length) && (rdP l).2)) = true := h
    simp only [Bool.and_eq_true] at h'
    show (decide (k ≤ 1) && (decide (2 ≤ (elems l).length) && (niceP l).2)) = true
    rw [h'.1, h'.2.1, ih.2 h'.2.2]; rfl
  | seq a b iha ihb =>
    refine ⟨fun h => (by cases h), fun h => ?_⟩
    have h' : ((rdP a).1 && (rdP b).2) = true := h
    rw [Bool.and_eq_true] at h'
    show ((niceP a).1 && (niceP b).2) = true
    rw [iha.1 h'.1, ihb.2 h'.2]; rfl
  | _ => exact ⟨fun h => (by cases h), fun h => by cases h⟩
theorem rd_chain : ∀ l : List Code, (∀ t, t ∈ l → (rdP t).1 = true) → (rdP (chain l)).2 = true
  | [], _ => rfl
  | t :: l, h => by
    show ((rdP t).1 && (rdP (chain l)).2) = true
    rw [h t (by simp), rd_chain l (fun x hx => h x (by simp [hx]))]; rfl
theorem rd_join (k : Nat) (hk : k ≤ 1) (l : List Code) (hl : l ≠ []) (h : ∀ t, t ∈ l → (rdP t).1 = true) : (rdP (joinC k l)).1 = true := by
  match l, hl with
  | [t], _ => exact h t (by simp)
  | a :: b :: l, _ =>
    show (decide (k ≤ 1) && (decide (2 ≤ (elems (chain (a :: b :: l))).length) && (rdP (chain (a :: b :: l))).2)) = true
    rw [elems_chain, rd_chain _ h, decide_eq_true hk, decide_eq_true (by simp)]; rfl
theorem seqs_ne (c : Ct) : (trees c).2.1 ≠ [] ∧ (trees c).2.2 ≠ [] := by cases c <;> simp [trees]
theorem rd_ct (c : Ct) : okC c → (rdP (treeC c)).1 = true ∧ (∀ t, t ∈ (trees c).2.1 → (rdP t).1 = true) ∧ (∀ t, t ∈ (trees c).2.2 → (rdP t).1 = true) := by
  have one : ∀ t : Code, (rdP t).1 = true → ∀ x, x ∈ [t] → (rdP x).1 = true := fun t h x hx => by rw [List.mem_singleton] at hx; rw [hx]; exact h
  induction c with
  | leaf ys n a =>
    intro h
    have hr : leafR n = true := by
      rcases h with ⟨_, rfl, _⟩ | ⟨_, rfl, _⟩ | ⟨nm, f, k, tx, _, _, _, hf, hk, hfk, hv, hn, _⟩
      · rfl
      · rfl
      · have := fieldNo_lt hf
        unfold leafC at hn
        split at hn
        · rename_i h11
          have hn := Code.exit.inj hn
          have : ¬ f = 0 := fun e => hfk ⟨e, h11⟩
          unfold leafR
          simp only [Bool.and_eq_true, Bool.or_eq_true, decide_eq_true_eq, beq_iff_eq]
          omega
        · have hn := Code.exit.inj hn
          unfold leafR
          simp only [Bool.and_eq_true, Bool.or_eq_true, decide_eq_true_eq, beq_iff_eq]
          omega
    exact ⟨hr, one _ hr, one _ hr⟩
  | neg a ih =>
    intro h
    have h1 := (ih h.2.1).1
    have h2 : (rdP (.scope (treeC a))).1 = true := by show (isT (treeC a) && (rdP (treeC a)).1) = true; rw [h.2.2, h1]; rfl
    exact ⟨h2, one _ h2, one _ h2⟩
  | brk a ih => intro h; have h1 := (ih h).1; exact ⟨h1, one _ h1, one _ h1⟩
  | star a ih => intro h; have h1 := (ih h.2).1; exact ⟨h1, one _ h1, one _ h1⟩
  | sq a b iha ihb =>
    intro h
    have h1 := (iha h.2.2.1).1
    have h2 := (ihb h.2.2.2).2.1
    have h3 : ∀ t, t ∈ treeC a :: (trees b).2.1 → (rdP t).1 = true := fun t ht => by
      rcases List.mem_cons.1 ht with rfl | ht
      · exact h1
      · exact h2 t ht
    have h4 := rd_join 1 (by decide) _ (by simp) h3
    exact ⟨h4, h3, one _ h4⟩
  | sm a b iha ihb =>
    intro h
    have h1 := (iha h.2.2.1).1
    have h2 := (ihb h.2.2.2).2.2
    have h3 : ∀ t, t ∈ treeC a :: (trees b).2.2 → (rdP t).1 = true := fun t ht => by
      rcases List.mem_cons.1 ht with rfl | ht
      · exact h1
      · exact h2 t ht
    have h4 := rd_join 0 (by decide) _ (by simp) h3
    exact ⟨h4, one _ h4, h3⟩
/-! What a tree is printed as. -/
def leafCt (n : Nat) : Ct := .leaf ((lexN (leafT n)).dropLast) n (if n ≤ 1 then 0 else 1)
def pcP : Code → Ct × List (Int × Ct)
  | .exit n => (leafCt n, [])
  | .loop t => (.star (brkd (decide (kindC t < 2)) (pcP t).1), [])
  | .scope t => (.neg (brkd (decide (kindC t < 3)) (pcP t).1), [])
  | .block k l => (joink k ((pcP l).2.map fun p => brkd (decide (p.1 < (k : Int))) p.2), [])
  | .seq a l => (.leaf [] 0 0, (kindC a, (pcP a).1) :: (pcP l).2)
  | _ => (.leaf [] 0 0, [])
def pc (t : Code) : Ct := (pcP t).1
theorem pcP_elems (l : Code) : (pcP l).2 = (elems l).map fun t => (kindC t, pc t) := by
  induction l with
  | seq a b _ ih => simp only [pcP, elems, List.map_cons, ih, pc]
  | _ => rfl
theorem pc_block (k : Nat) (l : Code) : pc (.block k l) = joink k ((elems l).map fun t => brkd (decide (kindC t < (k : Int))) (pc t)) := by
  show joink k ((pcP l).2.map fun p => brkd (decide (p.1 < (k : Int))) p.2) = _
  rw [pcP_elems, List.map_map]; rfl
theorem pt_block (k : Nat) (l : Code) : pt (.block k l) = Lib.join ((elems l).map fun t => brackB (decide (kindC t < (k : Int))) (pt t)) (sepC k) := by
  show Lib.join ((ptP l).2.map fun p => brackB (decide (p.1 < (k : Int))) p.2) (sepC k) = _
  rw [ptP_elems, List.map_map]; rfl
end Go.Proofs.YtlhkfafdioakeaaGreatDoor
/- Plain facts: a tree that was read, printed and read again, is that tree with groups taken into groups; it is printed alike. -/
namespace Go.Proofs.YtlhkfafdioakeaaGreatDoor
open Go.RowKit Go.Weft
set_option linter.unusedVariables false
set_option linter.unusedSimpArgs false
def lvK (t : Code) : Nat := if kindC t = 0 then 3 else if kindC t = 1 then 2 else if kindC t = 2 then 1 else 0
theorem flatE_not {k : Nat} {t : Code} (h : kindC t ≠ (k : Int)) : flatE k t = [t] := by
  unfold flatE
  split
  · rename_i k' l
    rw [if_neg (fun e => h (by show (k' : Int) = k; rw [e]))]
  · rfl
theorem flatE_block (k : Nat) (L : List Code) : flatE k (.block k (chain L)) = L := by
  unfold flatE
  simp only [if_true]
  exact elems_chain L
theorem joinC_many (k : Nat) {l : List Code} (h : 2 ≤ l.length) : joinC k l = .block k (chain l) := by
  match l, h with
  | a :: b :: l, _ => rfl
theorem flatMap_same {α β : Type} {f g : α → List β} : ∀ {l : List α}, (∀ x ∈ l, f x = g x) → l.flatMap f = l.flatMap g
  | [], _ => rfl
  | x :: l, h => by rw [List.flatMap_cons, List.flatMap_cons, h x (by simp), flatMap_same (fun y hy => h y (by simp [hy]))]
structure PrT (t : Code) : Prop where
  ok : okC (pc t)
  lv : lvl (pc t) ≤ lvK t
  tree : treeC (pc t) = flat t
  sq : 1 ≤ kindC t → (trees (pc t)).2.1 = flatE 1 (flat t)
  sm : (trees (pc t)).2.2 = flatE 0 (flat t)
  lex : lexN (pt t) = syms (pc t) ++ [(0, [])]
  kind : kindC (flat t) = kindC t
theorem leaf_lex : ∀ n, n < 386 → 2 ≤ n → lexN (leafT n) = [(2, (nameB ((n - 2) / 2 / 32)).data.toList), ((if n % 2 = 0 then 10 else 11), []), (3, Lib.decDigits ((n - 2) / 2 % 32)), (0, [])] := by decide +kernel
theorem name_no : ∀ f, f < 6 → fieldNo (nameB f).data.toList = some f ∧ ¬ (nameB f).data.toList = [105, 100] ∧ ¬ (nameB f).data.toList = [100, 114, 111, 112] := by decide +kernel
theorem dig_val : ∀ v, v < 32 → numVal (Lib.decDigits v) = v := by decide +kernel
theorem kind_leaf (n : Nat) : 4 ≤ kindC (.exit n) := by
  show (4 : Int) ≤ if n = 0 then 4 else if n = 1 then 5 else if n % 2 = 0 then 6 else 7
  repeat' split
  all_goals decide
theorem pr_leaf {n : Nat} (h : leafR n = true) : PrT (.exit n) := by
  unfold leafR at h
  simp only [Bool.and_eq_true, Bool.or_eq_true, decide_eq_true_eq, beq_iff_eq] at h
  have hk := kind_leaf n
  have key : okC (leafCt n) ∧ lexN (leafT n) = syms (leafCt n) ++ [(0, [])] := by
    by_cases h0 : n = 0
    · subst h0
      exact ⟨.inl ⟨by decide +kernel, rfl, rfl⟩, by decide +kernel⟩
    by_cases h1 : n = 1
    · subst h1
      exact ⟨.inr (.inl ⟨by decide +kernel, rfl, rfl⟩), by decide +kernel⟩
    have hl := leaf_lex n h.1 (by omega)
    have hf := name_no ((n - 2) / 2 / 32) (by omega)
    have hv := dig_val ((n - 2) / 2 % 32) (by omega)
    constructor
    · refine .inr (.inr ⟨_, (n - 2) / 2 / 32, _, _, by rw [hl]; rfl, hf.2.1, hf.2.2, hf.1, ?_, ?_, by omega, ?_, by rw [if_neg (by omega)]⟩)
      · split <;> simp
      · rintro ⟨e1, e2⟩
        split at e2
        · cases e2
        · omega
      · rw [hv]
        unfold leafC
        by_cases he : n % 2 = 0
        · rw [if_pos he, if_neg (by decide)]
          congr 1
          omega
        · rw [if_neg he, if_pos rfl]
          congr 1
          omega
    · show _ = (lexN (leafT n)).dropLast ++ _
      rw [hl]; rfl
  refine ⟨key.1, Nat.zero_le _, rfl, fun _ => ?_, ?_, key.2, rfl⟩
  · show [Code.exit n] = _
    exact (flatE_not (k := 1) (t := .exit n) (by omega)).symm
  · show [Code.exit n] = _
    exact (flatE_not (k := 0) (t := .exit n) (by omega)).symm
theorem brkd_lex {t : Code} (h : lexN (pt t) = syms (pc t) ++ [(0, [])]) (b : Bool) : lexN (brackB b (pt t)) = syms (brkd b (pc t)) ++ [(0, [])] := by
  cases b with
  | false => exact h
  | true =>
    show lexN (40 :: (pt t ++ [41])) = ((8, []) :: (syms (pc t) ++ [(9, [])])) ++ [(0, [])]
    rw [lex_brk h, lexN_nil]; simp
theorem brkd_ok {c : Ct} (h : okC c) (b : Bool) : okC (brkd b c) := by cases b <;> exact h
theorem brkd_tree (b : Bool) (c : Ct) : treeC (brkd b c) = treeC c := by cases b <;> rfl
theorem pr_any (t : Code) : ((rdP t).1 = true → PrT t) ∧ ((rdP t).2 = true → ∀ x, x ∈ elems t → PrT x) := by
  induction t with
  | exit n => exact ⟨pr_leaf, fun h => by cases h⟩
  | skip => exact ⟨fun h => (by cases h), fun _ x hx => by cases hx⟩
  | loop t ih =>
    refine ⟨fun h => ?_, fun h => by cases h⟩
    have p := ih.1 h
    have hl : lvl (brkd (decide (kindC t < 2)) (pc t)) ≤ 1 := by
      by_cases hk : kindC t < 2
      · rw [decide_eq_true hk]; exact Nat.zero_le _
      · rw [decide_eq_false hk]
        have := p.lv
        show lvl (pc t) ≤ 1
        unfold lvK at this
        rw [if_neg (by omega), if_neg (by omega)] at this
        split at this <;> omega
    have ht : treeC (pc (.loop t)) = flat (.loop t) := by
      show Code.loop (treeC (brkd _ (pc t))) = Code.loop (flat t)
      rw [brkd_tree, p.tree]
    refine ⟨⟨hl, brkd_ok p.ok _⟩, Nat.le_refl _, ht, fun _ => ?_, ?_, ?_, rfl⟩
    · rw [seqs_one (show lvl (pc (.loop t)) ≤ 1 from Nat.le_refl _), ht]; rfl
    · rw [sums_one (show lvl (pc (.loop t)) ≤ 2 by show 1 ≤ 2; omega), ht]; rfl
    · show lexN (brackB (decide (kindC t < 2)) (pt t) ++ [42]) = (syms (brkd _ (pc t)) ++ [(6, [])]) ++ [(0, [])]
      rw [lexN_append (alone_of (.inr (.inr (.inr (.inr (.inl rfl)))))) [] _ _ (brkd_lex p.lex _), lexN_sign _ (.inr (.inr (.inr (.inr (.inl ⟨rfl, rfl⟩))))), lexN_nil]
      simp
  | scope t ih =>
    refine ⟨fun h => ?_, fun h => by cases h⟩
    have h' : (isT t && (rdP t).1) = true := h
    rw [Bool.and_eq_true] at h'
    have p := ih.1 h'.2
    have hl : lvl (brkd (decide (kindC t < 3)) (pc t)) = 0 := by
      by_cases hk : kindC t < 3
      · rw [decide_eq_true hk]; rfl
      · rw [decide_eq_false hk]
        have := p.lv
        show lvl (pc t) = 0
        unfold lvK at this
        rw [if_neg (by omega), if_neg (by omega), if_neg (by omega)] at this
        omega
    have ht : treeC (pc (.scope t)) = flat (.scope t) := by
      show Code.scope (treeC (brkd _ (pc t))) = Code.scope (flat t)
      rw [brkd_tree, p.tree]
    have hT : isT (treeC (brkd (decide (kindC t < 3)) (pc t))) = true := by
      rw [brkd_tree, p.tree]
      exact ((flat_facts t).1 ((nice_wf t).1 ((rd_nice t).1 h'.2))).1.trans h'.1
    refine ⟨⟨hl, brkd_ok p.ok _, hT⟩, Nat.zero_le _, ht, fun _ => ?_, ?_, ?_, rfl⟩
    · rw [seqs_one (show lvl (pc (.scope t)) ≤ 1 from Nat.zero_le _), ht]; rfl
    · rw [sums_one (show lvl (pc (.scope t)) ≤ 2 from Nat.zero_le _), ht]; rfl
    · show lexN (33 :: brackB (decide (kindC t < 3)) (pt t)) = ((7, []) :: syms (brkd _ (pc t))) ++ [(0, [])]
      rw [lexN_sign _ (.inr (.inr (.inr (.inr (.inr ⟨rfl, rfl⟩))))), brkd_lex p.lex]; rfl
  | block k l ih =>
    refine ⟨fun h => ?_, fun h => by cases h⟩
    have h' : (decide (k ≤ 1) && (decide (2 ≤ (elems l).length) && (rdP l).2)) = true := h
    simp only [Bool.and_eq_true, decide_eq_true_eq] at h'
    obtain ⟨hk, h2, hr⟩ := h'
    have hx := ih.2 hr
    have hni := (rd_nice (.block k l)).1 h
    have hfl : flat (.block k l) = .block k (chain (((elems l).map flat).flatMap (flatE k))) := by
      show rjoin k (flatP l).2 = _
      rw [flatP_elems l ((rd_nice l).2 hr), rjoin_many k _ (by simpa using h2)]
    have hne : elems l ≠ [] := by intro e; rw [e] at h2; simp at h2
    obtain ⟨cs, hcs⟩ : ∃ cs, cs = (elems l).map fun t => brkd (decide (kindC t < (k : Int))) (pc t) := ⟨_, rfl⟩
    have hpc : pc (.block k l) = joink k cs := by rw [hcs]; exact pc_block k l
    have hcn : cs ≠ [] := by rw [hcs]; simpa using hne
    have hlex : lexN (pt (.block k l)) = syms (pc (.block k l)) ++ [(0, [])] := by
      rw [pt_block, pc_block]
      exact joink_lex k _ _ (elems l) hne (fun x hx' => brkd_lex (hx x hx').lex _)
    have hkind : kindC (flat (.block k l)) = kindC (.block k l) := by rw [hfl]; rfl
    rcases (show k = 0 ∨ k = 1 by omega) with rfl | rfl
    · have hno : ∀ t, decide (kindC t < ((0 : Nat) : Int)) = false := fun t => decide_eq_false (by have := kind_pos t; omega)
      obtain ⟨g1, g3⟩ := joinm_ok cs hcn (fun c hc => by
        rw [hcs] at hc
        obtain ⟨x, hx', rfl⟩ := List.mem_map.1 hc
        exact brkd_ok (hx x hx').ok _)
      have hL : (trees (joink 0 cs)).2.2 = ((elems l).map flat).flatMap (flatE 0) := by
        rw [g3, hcs, List.flatMap_map, List.flatMap_map]
        refine flatMap_same (fun x hx' => ?_)
        rw [hno x]
        exact (hx x hx').sm
      have hlen : 2 ≤ (((elems l).map flat).flatMap (flatE 0)).length := by
        refine Nat.le_trans (by simpa using h2) (flatMap_two _ _ (fun y hy => ?_))
        obtain ⟨x, hx', rfl⟩ := List.mem_map.1 hy
        rw [← (hx x hx').sm]
        exact (seqs_ne _).2
      have ht : treeC (pc (.block 0 l)) = flat (.block 0 l) := by
        rw [hpc, ← sums_join, hL, joinC_many 0 hlen, hfl]
      refine ⟨by rw [hpc]; exact g1, by have := okC_lvl (pc (.block 0 l)); exact this, ht, fun hl2 => ?_, ?_, hlex, hkind⟩
      · have : (1 : Int) ≤ ((0 : Nat) : Int) := hl2
        omega
      · rw [hpc, hL, hfl, flatE_block]
    · obtain ⟨g1, g2, g3⟩ := joinq_ok cs hcn (fun c hc => by
        rw [hcs] at hc
        obtain ⟨x, hx', rfl⟩ := List.mem_map.1 hc
        refine ⟨brkd_ok (hx x hx').ok _, ?_⟩
        by_cases hk1 : kindC x < ((1 : Nat) : Int)
        · rw [decide_eq_true hk1]; exact Nat.zero_le _
        · rw [decide_eq_false hk1]
          have := (hx x hx').lv
          show lvl (pc x) ≤ 2
          unfold lvK at this
          rw [if_neg (by omega)] at this
          repeat' split at this
          all_goals omega)
      have hL : (trees (joink 1 cs)).2.1 = ((elems l).map flat).flatMap (flatE 1) := by
        rw [g3, hcs, List.flatMap_map, List.flatMap_map]
        refine flatMap_same (fun x hx' => ?_)
        have p := hx x hx'
        by_cases hk1 : kindC x < ((1 : Nat) : Int)
        · rw [decide_eq_true hk1]
          show [treeC (pc x)] = _
          rw [p.tree, flatE_not (by rw [p.kind]; omega)]
        · rw [decide_eq_false hk1]
          exact p.sq (by omega)
      have hlen : 2 ≤ (((elems l).map flat).flatMap (flatE 1)).length := by
        refine Nat.le_trans (by simpa using h2) (flatMap_two _ _ (fun y hy => ?_))
        obtain ⟨x, hx', rfl⟩ := List.mem_map.1 hy
        exact flatE_ne 1 _ (fun k' l' e => flat_ne x (nice_elems l ((rd_nice l).2 hr) x hx') k' l' e)
      have ht : treeC (pc (.block 1 l)) = flat (.block 1 l) := by
        rw [hpc, ← seqs_join g2, hL, joinC_many 1 hlen, hfl]
      refine ⟨by rw [hpc]; exact g1, by rw [hpc]; exact g2, ht, fun _ => ?_, ?_, hlex, hkind⟩
      · rw [hpc, hL, hfl, flatE_block]
      · rw [sums_one (by rw [hpc]; exact g2), ht, hfl]; rfl
  | seq a b iha ihb =>
    refine ⟨fun h => (by cases h), fun h x hx => ?_⟩
    have h' : ((rdP a).1 && (rdP b).2) = true := h
    rw [Bool.and_eq_true] at h'
    rcases List.mem_cons.1 (show x ∈ a :: elems b from hx) with rfl | hx
    · exact iha.1 h'.1
    · exact ihb.2 h'.2 x hx
  | _ => exact ⟨fun h => (by cases h), fun h => by cases h⟩
/-! As deep, and with as many atoms. -/
theorem brkd_dep (b : Bool) (c : Ct) : depC (brkd b c) ≤ depC c + 1 ∧ depC c ≤ depC (brkd b c) ∧ atsC (brkd b c) = atsC c := by
  cases b
  · exact ⟨Nat.le_succ _, Nat.le_refl _, rfl⟩
  · exact ⟨Nat.le_refl _, Nat.le_succ _, rfl⟩
theorem brkd_mono {a b : Int} (c : Ct) (x : Int) (h : a ≤ b) : depC (brkd (decide (x < a)) c) ≤ depC (brkd (decide (x < b)) c) := by
  by_cases h1 : x < a
  · rw [decide_eq_true h1, decide_eq_true (show x < b by omega)]; exact Nat.le_refl _
  · rw [decide_eq_false h1]; exact (brkd_dep _ c).2.1
structure Dp (c : Ct) : Prop where
  dep : depC (pc (treeC c)) ≤ depC c
  ats : atsC (pc (treeC c)) = atsC c
  atom : lvl c = 0 → depC (brkd (decide (kindC (treeC c) < 3)) (pc (treeC c))) ≤ depC c
  part : lvl c ≤ 1 → depC (brkd (decide (kindC (treeC c) < 2)) (pc (treeC c))) ≤ depC c
  seqs : lvl c ≤ 2 → (∀ x, x ∈ (trees c).2.1 → depC (brkd (decide (kindC x < 1)) (pc x)) ≤ depC c) ∧ ((trees c).2.1.map fun x => atsC (pc x)).sum = atsC c
  sums : (∀ x, x ∈ (trees c).2.2 → depC (pc x) ≤ depC c) ∧ ((trees c).2.2.map fun x => atsC (pc x)).sum = atsC c
theorem Dp.low {c : Ct} (h0 : depC (pc (treeC c)) ≤ depC c) (h1 : atsC (pc (treeC c)) = atsC c) (hl : lvl c ≤ 1) (ha : lvl c = 0 → depC (brkd (decide (kindC (treeC c) < 3)) (pc (treeC c))) ≤ depC c) (hp : depC (brkd (decide (kindC (treeC c) < 2)) (pc (treeC c))) ≤ depC c) : Dp c := by
  refine ⟨h0, h1, ha, fun _ => hp, fun _ => ?_, ?_⟩
  · rw [seqs_one hl]
    refine ⟨fun x hx => ?_, by simpa using h1⟩
    rw [List.mem_singleton] at hx
    rw [hx]
    exact Nat.le_trans (brkd_mono _ _ (by omega)) hp
  · rw [sums_one (by omega)]
    refine ⟨fun x hx => ?_, by simpa using h1⟩
    rw [List.mem_singleton] at hx
    rw [hx]; exact h0
theorem group_dep (k : Nat) {l : List Code} (h2 : 2 ≤ l.length) (m : Nat) (h : ∀ x, x ∈ l → depC (brkd (decide (kindC x < (k : Int))) (pc x)) ≤ m) : depC (pc (joinC k l)) ≤ m ∧ atsC (pc (joinC k l)) = (l.map fun x => atsC (pc x)).sum := by
  rw [joinC_many k h2, pc_block, elems_chain]
  obtain ⟨h1, h3⟩ := joink_num k m (l.map fun t => brkd (decide (kindC t < (k : Int))) (pc t)) (fun c hc => by
    obtain ⟨x, hx, rfl⟩ := List.mem_map.1 hc
    exact h x hx)
  refine ⟨h1, ?_⟩
  rw [h3, List.map_map]
  congr 1
  refine List.map_congr_left (fun x _ => ?_)
  exact (brkd_dep _ _).2.2
theorem dp_any (c : Ct) : okC c → Dp c := by
  induction c with
  | leaf ys n a =>
    intro h
    have hk := kind_leaf n
    have e : depC (pc (.exit n)) = 0 := rfl
    refine Dp.low (Nat.zero_le _) ?_ (Nat.zero_le _) (fun _ => ?_) ?_
    · show (if n ≤ 1 then 0 else 1) = a
      rcases h with ⟨_, rfl, rfl⟩ | ⟨_, rfl, rfl⟩ | ⟨nm, f, k, tx, _, _, _, _, _, _, _, hn, rfl⟩
      · rfl
      · rfl
      · unfold leafC at hn
        split at hn
        · have := Code.exit.inj hn; rw [if_neg (by omega)]
        · have := Code.exit.inj hn; rw [if_neg (by omega)]
    · show depC (brkd (decide (kindC (.exit n) < 3)) _) ≤ 0
      rw [decide_eq_false (by omega)]; exact Nat.le_refl _
    · show depC (brkd (decide (kindC (.exit n) < 2)) _) ≤ 0
      rw [decide_eq_false (by omega)]; exact Nat.le_refl _
  | neg a ih =>
    intro h
    have p := ih h.2.1
    have hd : depC (pc (.scope (treeC a))) ≤ depC a + 1 := by
      show depC (brkd (decide (kindC (treeC a) < 3)) (pc (treeC a))) + 1 ≤ _
      have := p.atom h.1
      omega
    refine Dp.low hd ?_ (Nat.zero_le _) (fun _ => ?_) ?_
    · show atsC (brkd _ (pc (treeC a))) = atsC a
      rw [(brkd_dep _ _).2.2]; exact p.ats
    · exact hd
    · exact hd
  | brk a ih =>
    intro h
    have p := ih h
    have hb : ∀ b, depC (brkd b (pc (treeC a))) ≤ depC a + 1 := fun b => Nat.le_trans (brkd_dep b _).1 (by have := p.dep; omega)
    exact Dp.low (Nat.le_trans p.dep (Nat.le_succ _)) p.ats (Nat.zero_le _) (fun _ => hb _) (hb _)
  | star a ih =>
    intro h
    have p := ih h.2
    have hd : depC (pc (.loop (treeC a))) ≤ depC a := p.part h.1
    refine Dp.low hd ?_ (Nat.le_refl _) (fun hl => by simp [lvl] at hl) hd
    show atsC (brkd _ (pc (treeC a))) = atsC a
    rw [(brkd_dep _ _).2.2]; exact p.ats
  | sq a b iha ihb =>
    intro h
    have pa := iha h.2.2.1
    have pb := ihb h.2.2.2
    have hs := pa.seqs (by have := h.1; omega)
    rw [seqs_one h.1] at hs
    have ht := pb.seqs h.2.1
    have hall : ∀ x, x ∈ treeC a :: (trees b).2.1 → depC (brkd (decide (kindC x < 1)) (pc x)) ≤ max (depC a) (depC b) := fun x hx => by
      rcases List.mem_cons.1 hx with rfl | hx
      · have := hs.1 _ (List.mem_singleton.2 rfl); omega
      · have := ht.1 x hx; omega
    have hsum : ((treeC a :: (trees b).2.1).map fun x => atsC (pc x)).sum = atsC a + atsC b := by
      rw [List.map_cons, List.sum_cons, pa.ats, ht.2]
    have h2 : 2 ≤ (treeC a :: (trees b).2.1).length := by
      have := List.length_pos_iff.2 (seqs_ne b).1
      rw [List.length_cons]; omega
    have hg := group_dep 1 h2 _ hall
    have ha2 : atsC (pc (treeC (.sq a b))) = atsC a + atsC b := hg.2.trans hsum
    refine ⟨hg.1, ha2, fun hl => by simp [lvl] at hl, fun hl => by simp [lvl] at hl, fun _ => ⟨hall, hsum⟩, ?_⟩
    rw [sums_one (show lvl (.sq a b) ≤ 2 from Nat.le_refl _)]
    refine ⟨fun x hx => ?_, by rw [List.map_singleton, List.sum_singleton]; exact ha2⟩
    rw [List.mem_singleton] at hx
    rw [hx]; exact hg.1
  | sm a b iha ihb =>
    intro h
    have pa := iha h.2.2.1
    have pb := ihb h.2.2.2
    have hs := pa.sums
    rw [sums_one h.1] at hs
    have ht := pb.sums
    have hno : ∀ x : Code, decide (kindC x < ((0 : Nat) : Int)) = false := fun x => decide_eq_false (by have := kind_pos x; omega)
    have hall : ∀ x, x ∈ treeC a :: (trees b).2.2 → depC (pc x) ≤ max (depC a) (depC b) := fun x hx => by
      rcases List.mem_cons.1 hx with rfl | hx
      · have := hs.1 _ (List.mem_singleton.2 rfl); omega
      · have := ht.1 x hx; omega
    have hsum : ((treeC a :: (trees b).2.2).map fun x => atsC (pc x)).sum = atsC a + atsC b := by
      rw [List.map_cons, List.sum_cons, pa.ats, ht.2]
    have h2 : 2 ≤ (treeC a :: (trees b).2.2).length := by
      have := List.length_pos_iff.2 (seqs_ne b).2
      rw [List.length_cons]; omega
    have hg := group_dep 0 h2 (max (depC a) (depC b)) (fun x hx => by rw [hno x]; exact hall x hx)
    have ha2 : atsC (pc (treeC (.sm a b))) = atsC a + atsC b := hg.2.trans hsum
    refine ⟨hg.1, ha2, fun hl => by simp [lvl] at hl, fun hl => by simp [lvl] at hl, fun hl => by simp [lvl] at hl, hall, hsum⟩
/-! Printed alike. -/
theorem kind_flat {t : Code} (h : (niceP t).1 = true) : kindC (flat t) = kindC t := by
  cases t with
  | block k l =>
    have h' : (decide (k ≤ 1) && (decide (2 ≤ (elems l).length) && (niceP l).2)) = true := h
    simp only [Bool.and_eq_true, decide_eq_true_eq] at h'
    show kindC (rjoin k (flatP l).2) = _
    rw [flatP_elems l h'.2.2, rjoin_many k _ (by simpa using h'.2.1)]; rfl
  | exit n => rfl
  | loop t => rfl
  | scope t => rfl
  | _ => cases h
theorem join_flatE' (k : Nat) (y : Code) : Lib.join ((flatE k y).map fun t => brackB (decide (kindC t < (k : Int))) (pt t)) (sepC k) = brackB (decide (kindC y < (k : Int))) (pt y) := by
  have one : ∀ y : Code, Lib.join ([y].map fun t => brackB (decide (kindC t < (k : Int))) (pt t)) (sepC k) = brackB (decide (kindC y < (k : Int))) (pt y) := fun y => by simp [Lib.join, List.intercalate]
  unfold flatE
  split
  · rename_i k' l
    by_cases e : k' = k
    · subst e
      rw [if_pos rfl, ← pt_block]
      show _ = brackB (decide ((k' : Int) < (k' : Int))) _
      rw [decide_eq_false (by omega)]; rfl
    · rw [if_neg e]; exact one _
  · exact one _
theorem pt_flat (t : Code) : ((niceP t).1 = true → pt (flat t) = pt t) ∧ ((niceP t).2 = true → ∀ x, x ∈ elems t → pt (flat x) = pt x ∧ kindC (flat x) = kindC x ∧ ∀ k l, flat x = .block k l → elems l ≠ []) := by
  induction t with
  | exit n => exact ⟨fun _ => rfl, fun h => by cases h⟩
  | skip => exact ⟨fun h => (by cases h), fun _ x hx => by cases hx⟩
  | loop t ih =>
    refine ⟨fun h => ?_, fun h => by cases h⟩
    show brackB (decide (kindC (flat t) < 2)) (pt (flat t)) ++ [42] = brackB (decide (kindC t < 2)) (pt t) ++ [42]
    rw [kind_flat (show (niceP t).1 = true from h), ih.1 h]
  | scope t ih =>
    refine ⟨fun h => ?_, fun h => by cases h⟩
    have h' : (isT t && (niceP t).1) = true := h
    rw [Bool.and_eq_true] at h'
    show 33 :: brackB (decide (kindC (flat t) < 3)) (pt (flat t)) = 33 :: brackB (decide (kindC t < 3)) (pt t)
    rw [kind_flat h'.2, ih.1 h'.2]
  | block k l ih =>
    refine ⟨fun h => ?_, fun h => by cases h⟩
    have h' : (decide (k ≤ 1) && (decide (2 ≤ (elems l).length) && (niceP l).2)) = true := h
    simp only [Bool.and_eq_true, decide_eq_true_eq] at h'
    have hx := ih.2 h'.2.2
    have hfl : flat (.block k l) = .block k (chain (((elems l).map flat).flatMap (flatE k))) := by
      show rjoin k (flatP l).2 = _
      rw [flatP_elems l h'.2.2, rjoin_many k _ (by simpa using h'.2.1)]
    rw [hfl, pt_block, pt_block, elems_chain, List.flatMap_def, List.map_flatten, join_flat]
    · rw [List.map_map, List.map_map, List.map_map]
      congr 1
      refine List.map_congr_left (fun x hx' => ?_)
      show Lib.join ((flatE k (flat x)).map fun t => brackB (decide (kindC t < (k : Int))) (pt t)) (sepC k) = _
      rw [join_flatE', (hx x hx').1, (hx x hx').2.1]
    · intro y hy
      obtain ⟨z, hz, rfl⟩ := List.mem_map.1 hy
      obtain ⟨v, hv, rfl⟩ := List.mem_map.1 hz
      obtain ⟨x, hx', rfl⟩ := List.mem_map.1 hv
      simpa using flatE_ne k (flat x) (hx x hx').2.2
  | seq a b iha ihb =>
    refine ⟨fun h => (by cases h), fun h x hx => ?_⟩
    have h' : ((niceP a).1 && (niceP b).2) = true := h
    rw [Bool.and_eq_true] at h'
    rcases List.mem_cons.1 (show x ∈ a :: elems b from hx) with rfl | hx
    · exact ⟨iha.1 h'.1, kind_flat h'.1, flat_ne x h'.1⟩
    · exact ihb.2 h'.2 x hx
  | _ => exact ⟨fun h => (by cases h), fun h => by cases h⟩
/-- A policy that is printed is read again, where its print isn't too long: as itself, with groups taken into groups; and it is printed alike. -/
theorem read_again {s : ByteArray} {t : Code} (h : readS s = .ok t) (s' : ByteArray) (hs : s'.data.toList = pt t) : (s'.size ≤ 400 → readS s' = .ok (flat t)) ∧ pt (flat t) = pt t := by
  obtain ⟨c, rfl, h2, h3, h4, h5, h6⟩ := read_to s h
  have hr := (rd_ct c h2).1
  have p := (pr_any (treeC c)).1 hr
  have q := dp_any c h2
  refine ⟨fun hl => ?_, (pt_flat _).1 ((rd_nice _).1 hr)⟩
  rw [← p.tree]
  exact (read_of s' (c := pc (treeC c)) p.ok (by rw [hs]; exact p.lex)).1 hl (by have := q.dep; omega) (by have := q.ats; omega)
end Go.Proofs.YtlhkfafdioakeaaGreatDoor
