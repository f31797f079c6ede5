/- GSy: several parts, each with what it proves in plain words at its head. -/
import Derived.Test.YtlhkfafdioakeaaGreatDoorGRead
/- Plain facts: the tokens of a text without their places; how the tokens of two texts go together. -/
namespace Go.Weft
set_option linter.unusedVariables false
set_option linter.unusedSimpArgs false
/-- A token without its place: its kind, its text. -/
abbrev Sym := Int × List UInt8
def symT (s : ByteArray) (t : Tok) : Sym := (t.kind, txt s t)
/-- The run at the front of a list that is of one class, and the rest. -/
def runL (l : Bool) : List UInt8 → List UInt8
  | [] => []
  | c :: r => if clsB l (c.toNat : Int) = true then c :: runL l r else []
/-- The tokens of a list of bytes, without their places (they end behind a byte that begins none). -/
def lexL : Nat → List UInt8 → List Sym
  | 0, _ => [(0, [])]
  | _ + 1, [] => [(0, [])]
  | f + 1, c :: r =>
    if (c.toNat : Int) = 32 ∨ (c.toNat : Int) = 10 then lexL f r
    else if letB (c.toNat : Int) = true then (2, c :: runL true r) :: lexL f (r.drop (runL true r).length)
    else if (c.toNat : Int) = 48 then (3, [c]) :: lexL f r
    else if digB (c.toNat : Int) = true then (3, c :: runL false r) :: lexL f (r.drop (runL false r).length)
    else if (c.toNat : Int) = 58 then
      (if r.head? = some 61 then (11, [c, 61]) :: lexL f (r.drop 1) else [(1, [])])
    else if signK (c.toNat : Int) = 1 then [(1, [])]
    else (signK (c.toNat : Int), [c]) :: lexL f r
theorem byt_drop (s : ByteArray) (i : Nat) (c : UInt8) (r : List UInt8) (h : s.data.toList.drop i = c :: r) : i < s.size ∧ byt s i = (c.toNat : Int) ∧ s.data.toList.drop (i + 1) = r := by
  have hl : i < s.data.toList.length := by
    rcases Nat.lt_or_ge i s.data.toList.length with h1 | h1
    · exact h1
    · rw [List.drop_eq_nil_of_le h1] at h; cases h
  rw [List.drop_eq_getElem_cons hl] at h
  have hs : i < s.size := by simpa using hl
  refine ⟨hs, ?_, (List.cons.inj h).2⟩
  rw [byt_lt s i hs]
  have := (List.cons.inj h).1
  rw [← this]
  rfl
theorem drop_none (s : ByteArray) (i : Nat) (h : s.data.toList.drop i = []) : s.size ≤ i := by
  have := List.drop_eq_nil_iff.1 h
  simpa using this
theorem runEnd_runL (s : ByteArray) (l : Bool) : ∀ (r : List UInt8) (i : Nat), s.data.toList.drop i = r → runEnd s l s.size i = i + (runL l r).length
  | [], i, h => by
    rw [runEnd_stop s l i (fun c => by have := drop_none s i h; omega)]; rfl
  | c :: r, i, h => by
    obtain ⟨h1, h2, h3⟩ := byt_drop s i c r h
    unfold runL
    by_cases hc : clsB l (c.toNat : Int) = true
    · rw [if_pos hc, runEnd_step s l i h1 (by rw [h2]; exact hc), runEnd_runL s l r (i + 1) h3]
      simp only [List.length_cons]; omega
    · rw [if_neg hc, runEnd_stop s l i (fun k => hc (by rw [← h2]; exact k.2))]; rfl
theorem runL_take (l : Bool) : ∀ r : List UInt8, r.take (runL l r).length = runL l r
  | [] => rfl
  | c :: r => by
    unfold runL
    split
    · simp only [List.length_cons, List.take_succ_cons]; rw [runL_take l r]
    · rfl
theorem txt_at (s : ByteArray) (k : Int) (i n : Nat) : txt s ⟨k, i, i + n⟩ = (s.data.toList.drop i).take n := by
  unfold txt
  simp [ByteArray.data_extract]
theorem toks_lexL (s : ByteArray) : ∀ (f : Nat) (r : List UInt8) (i : Nat), s.data.toList.drop i = r → r.length ≤ f → (toks s true i).map (symT s) = lexL f r
  | f, [], i, h, hf => by
    have hs := drop_none s i h
    rw [toks_eq, if_pos hs]
    have e : symT s ⟨0, i, i⟩ = (0, []) := by
      unfold symT
      have := txt_at s 0 i 0
      simp only [Nat.add_zero, List.take_zero] at this
      rw [this]
    cases f with
    | zero => simp [lexL, e]
    | succ f => simp [lexL, e]
  | 0, c :: r, i, h, hf => by simp at hf
  | f + 1, c :: r, i, h, hf => by
    obtain ⟨h1, h2, h3⟩ := byt_drop s i c r h
    have hf' : r.length ≤ f := by simpa using hf
    rw [toks_eq, if_neg (by omega), lexL, h2]
    have one : ∀ k : Int, symT s ⟨k, i, i + 1⟩ = (k, [c]) := fun k => by
      unfold symT; rw [txt_at, h]; rfl
    have nul : symT s ⟨1, i, i⟩ = (1, []) := by
      unfold symT
      have := txt_at s 1 i 0
      simp only [Nat.add_zero, List.take_zero] at this
      rw [this]
    have run : ∀ (k : Int) (l : Bool), symT s ⟨k, i, i + 1 + (runL l r).length⟩ = (k, c :: runL l r) := fun k l => by
      unfold symT
      rw [show i + 1 + (runL l r).length = i + ((runL l r).length + 1) by omega, txt_at, h, List.take_succ_cons, runL_take]
    have rd : ∀ l : Bool, s.data.toList.drop (i + 1 + (runL l r).length) = r.drop (runL l r).length := fun l => by rw [← List.drop_drop, h3]
    by_cases b1 : (c.toNat : Int) = 32 ∨ (c.toNat : Int) = 10
    · rw [if_pos b1, if_pos b1]; exact toks_lexL s f r (i + 1) h3 hf'
    rw [if_neg b1, if_neg b1]
    by_cases b2 : letB (c.toNat : Int) = true
    · rw [if_pos b2, if_pos b2, runEnd_runL s true r (i + 1) h3, List.map_cons, run, toks_lexL s f _ _ (rd true) (by rw [List.length_drop]; omega)]
    rw [if_neg b2, if_neg b2]
    by_cases b3 : (c.toNat : Int) = 48
    · rw [if_pos b3, if_pos b3, List.map_cons, one, toks_lexL s f r (i + 1) h3 hf']
    rw [if_neg b3, if_neg b3]
    by_cases b4 : digB (c.toNat : Int) = true
    · rw [if_pos b4, if_pos b4, runEnd_runL s false r (i + 1) h3, List.map_cons, run, toks_lexL s f _ _ (rd false) (by rw [List.length_drop]; omega)]
    rw [if_neg b4, if_neg b4]
    by_cases b5 : (c.toNat : Int) = 58
    · rw [if_pos b5, if_pos b5]
      match r, h3, h with
      | [], h3, h =>
        have := drop_none s (i + 1) h3
        rw [if_neg (by omega)]
        simp [nul]
      | d :: r', h3, h =>
        obtain ⟨g1, g2, g3⟩ := byt_drop s (i + 1) d r' h3
        by_cases hd : d = 61
        · subst hd
          rw [if_pos ⟨g1, by rw [g2]; rfl⟩, List.map_cons, toks_lexL s f r' (i + 2) g3 (by simp at hf'; omega)]
          show _ = (if (61 :: r').head? = some 61 then (11, [c, 61]) :: lexL f ((61 :: r').drop 1) else [(1, [])])
          rw [if_pos (show (61 :: r').head? = some 61 from rfl)]
          show _ = (11, [c, 61]) :: lexL f r'
          congr 1
          unfold symT
          rw [txt_at, h]; rfl
        · have hne : ¬ byt s (i + 1) = 61 := by
            rw [g2]
            intro e
            apply hd
            have : d.toNat = 61 := by omega
            exact UInt8.toNat_inj.1 (by rw [this]; rfl)
          rw [if_neg (fun k => hne k.2)]
          show [symT s ⟨1, i, i⟩] = (if (d :: r').head? = some 61 then (11, [c, 61]) :: lexL f ((d :: r').drop 1) else [(1, [])])
          rw [nul, if_neg (show ¬ (d :: r').head? = some 61 from fun e => hd (Option.some.inj e))]
    rw [if_neg b5, if_neg b5]
    by_cases b6 : signK (c.toNat : Int) = 1
    · rw [if_pos b6, if_pos b6]
      simp [nul]
    · rw [if_neg b6, if_neg b6, List.map_cons, one, toks_lexL s f r (i + 1) h3 hf']
/-- The tokens of bytes, without their places. -/
def symsL (r : List UInt8) : List Sym := lexL r.length r
theorem lexL_fuel : ∀ (f g : Nat) (r : List UInt8), r.length ≤ f → r.length ≤ g → lexL f r = lexL g r
  | 0, 0, r, _, _ => rfl
  | 0, g + 1, r, h, _ => by
    have : r = [] := List.eq_nil_of_length_eq_zero (by omega)
    subst this; rfl
  | f + 1, 0, r, _, h => by
    have : r = [] := List.eq_nil_of_length_eq_zero (by omega)
    subst this; rfl
  | f + 1, g + 1, [], _, _ => rfl
  | f + 1, g + 1, c :: r, h, k => by
    have h' : r.length ≤ f := by simpa using h
    have k' : r.length ≤ g := by simpa using k
    have d : ∀ n, lexL f (r.drop n) = lexL g (r.drop n) := fun n => lexL_fuel f g _ (by rw [List.length_drop]; omega) (by rw [List.length_drop]; omega)
    rw [lexL, lexL, lexL_fuel f g r h' k', d, d, d]
theorem symsL_eq (c : UInt8) (r : List UInt8) : symsL (c :: r) =
    if (c.toNat : Int) = 32 ∨ (c.toNat : Int) = 10 then symsL r
    else if letB (c.toNat : Int) = true then (2, c :: runL true r) :: symsL (r.drop (runL true r).length)
    else if (c.toNat : Int) = 48 then (3, [c]) :: symsL r
    else if digB (c.toNat : Int) = true then (3, c :: runL false r) :: symsL (r.drop (runL false r).length)
    else if (c.toNat : Int) = 58 then
      (if r.head? = some 61 then (11, [c, 61]) :: symsL (r.drop 1) else [(1, [])])
    else if signK (c.toNat : Int) = 1 then [(1, [])]
    else (signK (c.toNat : Int), [c]) :: symsL r := by
  unfold symsL
  rw [show (c :: r).length = r.length + 1 from rfl, lexL]
  have d : ∀ n, lexL r.length (r.drop n) = lexL (r.drop n).length (r.drop n) := fun n => lexL_fuel _ _ _ (by rw [List.length_drop]; omega) (Nat.le_refl _)
  rw [d, d, d]
theorem toks_symsL (s : ByteArray) : (toks s true 0).map (symT s) = symsL s.data.toList := toks_lexL s _ _ 0 rfl (Nat.le_refl _)
end Go.Weft
/- Plain facts: texts as trees of signs (a grammar); what is read is such a tree, and such a tree is read, or there is too much of it. -/
namespace Go.Weft
set_option linter.unusedVariables false
set_option linter.unusedSimpArgs false
/-- A token as the reader looks at it: of a sign its kind alone. -/
def nsym (x : Sym) : Sym := (x.1, if x.1 = 2 ∨ x.1 = 3 then x.2 else [])
theorem nsym_kind (x : Sym) : (nsym x).1 = x.1 := rfl
/-- What was written. -/
inductive Ct
  | leaf (ys : List Sym) (n : Nat) (a : Nat)
  | neg (a : Ct)
  | brk (a : Ct)
  | star (a : Ct)
  | sq (a b : Ct)
  | sm (a b : Ct)
def syms : Ct → List Sym
  | .leaf ys _ _ => ys
  | .neg a => (7, []) :: syms a
  | .brk a => (8, []) :: (syms a ++ [(9, [])])
  | .star a => syms a ++ [(6, [])]
  | .sq a b => syms a ++ (5, []) :: syms b
  | .sm a b => syms a ++ (4, []) :: syms b
/-- The tree; the parts as a seq has them; as a sum has them. -/
def trees : Ct → Code × List Code × List Code
  | .leaf _ n _ => (.exit n, [.exit n], [.exit n])
  | .neg a => (.scope (trees a).1, [.scope (trees a).1], [.scope (trees a).1])
  | .brk a => ((trees a).1, [(trees a).1], [(trees a).1])
  | .star a => (.loop (trees a).1, [.loop (trees a).1], [.loop (trees a).1])
  | .sq a b => (joinC 1 ((trees a).1 :: (trees b).2.1), (trees a).1 :: (trees b).2.1, [joinC 1 ((trees a).1 :: (trees b).2.1)])
  | .sm a b => (joinC 0 ((trees a).1 :: (trees b).2.2), [joinC 0 ((trees a).1 :: (trees b).2.2)], (trees a).1 :: (trees b).2.2)
def treeC (c : Ct) : Code := (trees c).1
def depC : Ct → Nat
  | .leaf _ _ _ => 0
  | .neg a => depC a + 1
  | .brk a => depC a + 1
  | .star a => depC a
  | .sq a b => max (depC a) (depC b)
  | .sm a b => max (depC a) (depC b)
def atsC : Ct → Nat
  | .leaf _ _ a => a
  | .neg a => atsC a
  | .brk a => atsC a
  | .star a => atsC a
  | .sq a b => atsC a + atsC b
  | .sm a b => atsC a + atsC b
def lvl : Ct → Nat
  | .leaf _ _ _ => 0
  | .neg _ => 0
  | .brk _ => 0
  | .star _ => 1
  | .sq _ _ => 2
  | .sm _ _ => 3
/-- The signs of a leaf. -/
def LeafOk (ys : List Sym) (n a : Nat) : Prop :=
  (ys = [(2, [105, 100])] ∧ n = 0 ∧ a = 0) ∨ (ys = [(2, [100, 114, 111, 112])] ∧ n = 1 ∧ a = 0) ∨
  ∃ nm f k tx, ys = [(2, nm), (k, []), (3, tx)] ∧ ¬ nm = [105, 100] ∧ ¬ nm = [100, 114, 111, 112] ∧ fieldNo nm = some f ∧ (k = 10 ∨ k = 11) ∧ ¬ (f = 0 ∧ k = 11) ∧ numVal tx ≤ 31 ∧ Code.exit n = leafC k f (numVal tx) ∧ a = 1
def okC : Ct → Prop
  | .leaf ys n a => LeafOk ys n a
  | .neg a => lvl a = 0 ∧ okC a ∧ isT (treeC a) = true
  | .brk a => okC a
  | .star a => lvl a ≤ 1 ∧ okC a
  | .sq a b => lvl a ≤ 1 ∧ lvl b ≤ 2 ∧ okC a ∧ okC b
  | .sm a b => lvl a ≤ 2 ∧ lvl b ≤ 3 ∧ okC a ∧ okC b
theorem okC_lvl (c : Ct) : lvl c ≤ 3 := by cases c <;> simp [lvl]
theorem seqs_one {c : Ct} (h : lvl c ≤ 1) : (trees c).2.1 = [treeC c] := by cases c <;> first | rfl | (simp [lvl] at h)
theorem sums_one {c : Ct} (h : lvl c ≤ 2) : (trees c).2.2 = [treeC c] := by cases c <;> first | rfl | (simp [lvl] at h)
theorem seqs_join {c : Ct} (h : lvl c ≤ 2) : joinC 1 (trees c).2.1 = treeC c := by cases c <;> first | rfl | (simp [lvl] at h)
theorem sums_join (c : Ct) : joinC 0 (trees c).2.2 = treeC c := by cases c <;> rfl
section
variable (s : ByteArray) (ts : List Tok)
/-- The sign at a place. -/
def sy (i : Nat) : Sym := nsym (symT s (tk ts i))
def At (i : Nat) (xs : List Sym) : Prop := ∀ j x, xs[j]? = some x → sy s ts (i + j) = x
end
section
variable {s : ByteArray} {ts : List Tok}
theorem sy_kind (i : Nat) : (sy s ts i).1 = (tk ts i).kind := rfl
theorem sy_txt {i : Nat} {k : Int} {x : List UInt8} (h : sy s ts i = (k, x)) (hk : k = 2 ∨ k = 3) : (tk ts i).kind = k ∧ txt s (tk ts i) = x := by
  have h1 : (tk ts i).kind = k := congrArg Prod.fst h
  refine ⟨h1, ?_⟩
  have h2 : (if (tk ts i).kind = 2 ∨ (tk ts i).kind = 3 then txt s (tk ts i) else []) = x := congrArg Prod.snd h
  rw [if_pos (by rw [h1]; exact hk)] at h2
  exact h2
theorem sy_sign {i : Nat} {k : Int} {x : List UInt8} (h : sy s ts i = (k, x)) : (tk ts i).kind = k := congrArg Prod.fst h
theorem sy_of {i : Nat} {k : Int} (h : (tk ts i).kind = k) (hk : ¬ (k = 2 ∨ k = 3)) : sy s ts i = (k, []) := by
  show (_, _) = _
  show ((tk ts i).kind, if (tk ts i).kind = 2 ∨ (tk ts i).kind = 3 then txt s (tk ts i) else []) = _
  rw [h, if_neg hk]
theorem sy_word {i : Nat} {k : Int} (h : (tk ts i).kind = k) (hk : k = 2 ∨ k = 3) : sy s ts i = (k, txt s (tk ts i)) := by
  show ((tk ts i).kind, if (tk ts i).kind = 2 ∨ (tk ts i).kind = 3 then txt s (tk ts i) else []) = _
  rw [h, if_pos hk]
theorem At.nil (i : Nat) : At s ts i [] := fun j x h => by simp at h
theorem At.cons {i : Nat} {x : Sym} {xs : List Sym} : At s ts i (x :: xs) ↔ sy s ts i = x ∧ At s ts (i + 1) xs := by
  constructor
  · intro h
    refine ⟨by simpa using h 0 x (by simp), fun j y hj => ?_⟩
    rw [show i + 1 + j = i + (j + 1) by omega]
    exact h (j + 1) y (by simpa using hj)
  · rintro ⟨h1, h2⟩ j y hj
    cases j with
    | zero => simp at hj; subst hj; simpa using h1
    | succ j =>
      rw [show i + (j + 1) = i + 1 + j by omega]
      exact h2 j y (by simpa using hj)
theorem At.append {i : Nat} {xs ys : List Sym} : At s ts i (xs ++ ys) ↔ At s ts i xs ∧ At s ts (i + xs.length) ys := by
  induction xs generalizing i with
  | nil => simp [At.nil]
  | cons x xs ih =>
    rw [List.cons_append, At.cons, At.cons, ih, List.length_cons, show i + (xs.length + 1) = i + 1 + xs.length by omega, and_assoc]
/-- Places with a sign lie within the tokens. -/
theorem At.lt {i : Nat} {xs : List Sym} (h : At s ts i xs) (h0 : ∀ x ∈ xs, x.1 ≠ 0) : xs = [] ∨ i + xs.length ≤ ts.length := by
  by_cases e : xs = []
  · exact .inl e
  right
  have hl : 0 < xs.length := by
    rcases Nat.eq_zero_or_pos xs.length with h | h
    · exact absurd (List.eq_nil_of_length_eq_zero h) e
    · exact h
  have hg := h (xs.length - 1) xs[xs.length - 1] (List.getElem?_eq_getElem (by omega))
  rcases Nat.lt_or_ge (i + (xs.length - 1)) ts.length with hlt | hge
  · omega
  · exfalso
    apply h0 _ (List.getElem_mem (show xs.length - 1 < xs.length by omega))
    rw [← hg]
    show (tk ts (i + (xs.length - 1))).kind = 0
    unfold tk
    rw [List.getD_eq_getElem?_getD, List.getElem?_eq_none hge]
    rfl
/-- How a reading comes out: the tree, or that there is too much. -/
def Out {α : Type} (r : Except (Int × Nat) (α × St)) (v : α) (len n dp d : Nat) (st : St) : Prop :=
  (dp ≤ d ∧ st.atoms + n ≤ 16 → r = .ok (v, ⟨st.i + len, st.atoms + n, st.bad⟩)) ∧ (¬ (dp ≤ d ∧ st.atoms + n ≤ 16) → ∃ p, r = .error (7, p))
theorem syms_two (c : Ct) : okC c → (∀ x ∈ syms c, 2 ≤ x.1) ∧ 0 < (syms c).length := by
  induction c with
  | leaf ys n a =>
    intro h
    rcases h with ⟨rfl, _⟩ | ⟨rfl, _⟩ | ⟨nm, f, k, tx, rfl, _, _, _, hk, _⟩
    · exact ⟨fun x hx => by simp [syms] at hx; subst hx; decide, by simp [syms]⟩
    · exact ⟨fun x hx => by simp [syms] at hx; subst hx; decide, by simp [syms]⟩
    · refine ⟨fun x hx => ?_, by simp [syms]⟩
      simp only [syms, List.mem_cons, List.not_mem_nil, or_false] at hx
      rcases hx with rfl | rfl | rfl
      · show (2 : Int) ≤ 2; decide
      · show 2 ≤ k; omega
      · show (2 : Int) ≤ 3; decide
  | neg a ih =>
    intro h
    have := ih h.2.1
    refine ⟨fun x hx => ?_, by simp [syms]⟩
    rcases List.mem_cons.1 (show x ∈ (7, []) :: syms a from hx) with rfl | hx
    · show (2 : Int) ≤ 7; decide
    · exact this.1 x hx
  | brk a ih =>
    intro h
    have := ih h
    refine ⟨fun x hx => ?_, by simp [syms]⟩
    rcases List.mem_cons.1 (show x ∈ (8, []) :: (syms a ++ [(9, [])]) from hx) with rfl | hx
    · show (2 : Int) ≤ 8; decide
    · rcases List.mem_append.1 hx with hx | hx
      · exact this.1 x hx
      · rw [List.mem_singleton] at hx; subst hx; show (2 : Int) ≤ 9; decide
  | star a ih =>
    intro h
    have := ih h.2
    refine ⟨fun x hx => ?_, by simp [syms]⟩
    rcases List.mem_append.1 (show x ∈ syms a ++ [(6, [])] from hx) with hx | hx
    · exact this.1 x hx
    · rw [List.mem_singleton] at hx; subst hx; show (2 : Int) ≤ 6; decide
  | sq a b iha ihb =>
    intro h
    have h1 := iha h.2.2.1
    have h2 := ihb h.2.2.2
    refine ⟨fun x hx => ?_, by simp [syms]; omega⟩
    rcases List.mem_append.1 (show x ∈ syms a ++ (5, []) :: syms b from hx) with hx | hx
    · exact h1.1 x hx
    · rcases List.mem_cons.1 hx with rfl | hx
      · show (2 : Int) ≤ 5; decide
      · exact h2.1 x hx
  | sm a b iha ihb =>
    intro h
    have h1 := iha h.2.2.1
    have h2 := ihb h.2.2.2
    refine ⟨fun x hx => ?_, by simp [syms]; omega⟩
    rcases List.mem_append.1 (show x ∈ syms a ++ (4, []) :: syms b from hx) with hx | hx
    · exact h1.1 x hx
    · rcases List.mem_cons.1 hx with rfl | hx
      · show (2 : Int) ≤ 4; decide
      · exact h2.1 x hx
theorem syms_kind (c : Ct) (h : okC c) : (∀ x ∈ syms c, x.1 ≠ 0) ∧ 0 < (syms c).length := ⟨fun x hx => by have := (syms_two c h).1 x hx; omega, (syms_two c h).2⟩
theorem leaf_reads {ys : List Sym} {n a : Nat} (h : LeafOk ys n a) (d : Nat) (st : St) (hA : At s ts st.i ys) (h16 : st.atoms ≤ 16) : Out (atomP s ts d st) (.exit n) ys.length a 0 d st := by
  have key : (tk ts st.i).kind = 2 → atomP s ts d st = wordP s ts st := fun hk => by
    cases d with
    | zero => rw [atomP, if_pos hk]
    | succ d => rw [atomP, if_pos hk]
  rcases h with ⟨rfl, rfl, rfl⟩ | ⟨rfl, rfl, rfl⟩ | ⟨nm, f, k, tx, rfl, h1, h2, hf, hk, hfk, hv, hn, rfl⟩
  · obtain ⟨hk, ht⟩ := sy_txt (At.cons.1 hA).1 (.inl rfl)
    rw [key hk]
    refine ⟨fun _ => ?_, fun h => absurd ⟨Nat.zero_le _, by omega⟩ h⟩
    unfold wordP
    rw [if_pos ht]; rfl
  · obtain ⟨hk, ht⟩ := sy_txt (At.cons.1 hA).1 (.inl rfl)
    rw [key hk]
    refine ⟨fun _ => ?_, fun h => absurd ⟨Nat.zero_le _, by omega⟩ h⟩
    unfold wordP
    rw [if_neg (by rw [ht]; decide), if_pos ht]; rfl
  · obtain ⟨a1, hA⟩ := At.cons.1 hA
    obtain ⟨a2, hA⟩ := At.cons.1 hA
    obtain ⟨a3, _⟩ := At.cons.1 hA
    obtain ⟨k1, t1⟩ := sy_txt a1 (.inl rfl)
    have k2 := sy_sign a2
    obtain ⟨k3, t3⟩ := sy_txt a3 (.inr rfl)
    rw [show st.i + 1 + 1 = st.i + 2 by omega] at k3 t3
    rw [key k1]
    have e : wordP s ts st = pairP s ts f st := by
      unfold wordP
      rw [if_neg (by rw [t1]; exact h1), if_neg (by rw [t1]; exact h2), t1, hf]
    rw [e]
    unfold pairP
    rw [k2, if_neg hfk]
    refine ⟨fun h => ?_, fun h => ?_⟩
    · rw [if_neg (by omega), if_neg (by omega), if_neg (by rw [k3]; decide), t3, if_neg (by omega), hn]; rfl
    · rw [if_pos (by omega)]; exact ⟨_, rfl⟩
theorem star_reads (t : Code) : ∀ (m f : Nat) (t : Code) (i : Nat), m ≤ f → (∀ j, j < m → (tk ts (i + j)).kind = 6) → starLoop ts f t i = starLoop ts (f - m) (Nat.repeat Code.loop m t) (i + m)
  | 0, f, t, i, _, _ => rfl
  | m + 1, f, t, i, hf, hk => by
    obtain ⟨f', rfl⟩ : ∃ f', f = f' + 1 := ⟨f - 1, by omega⟩
    rw [starLoop, if_pos (by simpa using hk 0 (by omega)), star_reads t m f' (.loop t) (i + 1) (by omega) (fun j hj => by rw [show i + 1 + j = i + (j + 1) by omega]; exact hk (j + 1) (by omega))]
    rw [show f' + 1 - (m + 1) = f' - m by omega, show i + 1 + m = i + (m + 1) by omega]
    congr 1
    clear hk hf
    induction m with
    | zero => rfl
    | succ m ih => show Code.loop (Nat.repeat Code.loop m (.loop t)) = Code.loop (Nat.repeat Code.loop (m + 1) t); rw [ih]
end
end Go.Weft
/- Plain facts: what is written by the grammar is read, or there is too much of it. -/
namespace Go.Weft
set_option linter.unusedVariables false
set_option linter.unusedSimpArgs false
def coreC : Ct → Ct
  | .star a => coreC a
  | c => c
def starsC : Ct → Nat
  | .star a => starsC a + 1
  | _ => 0
def szCt : Ct → Nat
  | .leaf _ _ _ => 1
  | .neg a => szCt a + 1
  | .brk a => szCt a + 1
  | .star a => szCt a + 1
  | .sq a b => szCt a + szCt b + 1
  | .sm a b => szCt a + szCt b + 1
theorem core_self {c : Ct} (h : lvl c = 0) : coreC c = c ∧ starsC c = 0 := by cases c <;> first | exact ⟨rfl, rfl⟩ | (simp [lvl] at h)
theorem core_facts (c : Ct) : lvl c ≤ 1 → okC c → lvl (coreC c) = 0 ∧ okC (coreC c) ∧ syms c = syms (coreC c) ++ List.replicate (starsC c) (6, []) ∧ treeC c = Nat.repeat Code.loop (starsC c) (treeC (coreC c)) ∧ depC c = depC (coreC c) ∧ atsC c = atsC (coreC c) ∧ szCt (coreC c) + starsC c = szCt c := by
  induction c with
  | star a ih =>
    intro _ h
    obtain ⟨h1, h2, h3, h4, h5, h6, h7⟩ := ih h.1 h.2
    refine ⟨h1, h2, ?_, ?_, h5, h6, ?_⟩
    · show syms a ++ [(6, [])] = _
      rw [h3, List.append_assoc]
      congr 1
      show _ = List.replicate (starsC a + 1) (6, [])
      rw [List.replicate_succ']
    · show Code.loop (treeC a) = Nat.repeat Code.loop (starsC a + 1) _
      rw [h4]; rfl
    · show szCt (coreC a) + (starsC a + 1) = szCt a + 1
      omega
  | sq a b _ _ => intro h; simp [lvl] at h
  | sm a b _ _ => intro h; simp [lvl] at h
  | _ => intro _ h; exact ⟨rfl, h, by simp [coreC, starsC], rfl, rfl, rfl, rfl⟩
section
variable {s : ByteArray} {ts : List Tok}
theorem starLoop_stop (f : Nat) (t : Code) (i : Nat) (h : (tk ts i).kind ≠ 6) : starLoop ts f t i = (t, i) := by
  cases f with
  | zero => rfl
  | succ f => rw [starLoop, if_neg h]
theorem Out.join {k : Nat} {r : Except (Int × Nat) (List Code × St)} {l : List Code} {len n dp d : Nat} {st : St} (h : Out r l len n dp d st) : Out (joinP k r) (joinC k l) len n dp d st := by
  refine ⟨fun hc => ?_, fun hc => ?_⟩
  · rw [h.1 hc]; rfl
  · obtain ⟨p, e⟩ := h.2 hc
    rw [e]; exact ⟨p, rfl⟩
theorem len_le {c : Ct} (h : okC c) {i : Nat} (hA : At s ts i (syms c)) : i + (syms c).length ≤ ts.length := by
  obtain ⟨h1, h2⟩ := syms_kind c h
  rcases hA.lt h1 with e | e
  · rw [e] at h2; simp at h2
  · exact e
/-- A list that goes on. -/
theorem Out.more {sep : Int} {part : St → Except (Int × Nat) (Code × St)} {f : Nat} {st : St} {t : Code} {l : List Code} {la na da lb nb db d : Nat}
    (ha : Out (part st) t la na da d st) (hs : (tk ts (st.i + la)).kind = sep) (hb : ∀ a0, a0 ≤ 16 → Out (listP ts sep part f ⟨st.i + la + 1, a0, st.bad⟩) l lb nb db d ⟨st.i + la + 1, a0, st.bad⟩) :
    Out (listP ts sep part (f + 1) st) (t :: l) (la + (lb + 1)) (na + nb) (max da db) d st := by
  refine ⟨fun hc => ?_, fun hc => ?_⟩
  · have h1 := ha.1 ⟨by omega, by omega⟩
    have h2 := (hb (st.atoms + na) (by omega)).1 ⟨by omega, by show st.atoms + na + nb ≤ 16; omega⟩
    rw [listP, h1]
    simp only [hs, if_true]
    rw [h2]
    simp only
    rw [show st.i + la + 1 + lb = st.i + (la + (lb + 1)) by omega, show st.atoms + na + nb = st.atoms + (na + nb) by omega]
  · by_cases h0 : da ≤ d ∧ st.atoms + na ≤ 16
    · obtain ⟨p, h2⟩ := (hb (st.atoms + na) (by omega)).2 (fun k => hc (by have k2 : st.atoms + na + nb ≤ 16 := k.2; omega))
      rw [listP, ha.1 h0]
      simp only [hs, if_true]
      rw [h2]
      exact ⟨p, rfl⟩
    · obtain ⟨p, h1⟩ := ha.2 h0
      rw [listP, h1]
      exact ⟨p, rfl⟩
theorem Out.last {sep : Int} {part : St → Except (Int × Nat) (Code × St)} {f : Nat} {st : St} {t : Code} {la na da d : Nat}
    (ha : Out (part st) t la na da d st) (hs : (tk ts (st.i + la)).kind ≠ sep) : Out (listP ts sep part (f + 1) st) [t] la na da d st := by
  refine ⟨fun hc => ?_, fun hc => ?_⟩
  · rw [listP, ha.1 hc]
    simp only [hs, if_false]
  · obtain ⟨p, h1⟩ := ha.2 hc
    rw [listP, h1]
    exact ⟨p, rfl⟩
theorem reads : ∀ (n : Nat) (c : Ct), szCt c ≤ n → okC c →
    (lvl c = 0 → ∀ d st, At s ts st.i (syms c) → st.atoms ≤ 16 → Out (atomP s ts d st) (treeC c) (syms c).length (atsC c) (depC c) d st) ∧
    (lvl c ≤ 1 → ∀ d st, At s ts st.i (syms c) → st.atoms ≤ 16 → (tk ts (st.i + (syms c).length)).kind ≠ 6 → Out (partP ts (atomP s ts d) st) (treeC c) (syms c).length (atsC c) (depC c) d st) ∧
    (lvl c ≤ 2 → ∀ d f st, (syms c).length ≤ f → At s ts st.i (syms c) → st.atoms ≤ 16 → (tk ts (st.i + (syms c).length)).kind ≠ 6 → (tk ts (st.i + (syms c).length)).kind ≠ 5 → Out (listP ts 5 (partP ts (atomP s ts d)) f st) (trees c).2.1 (syms c).length (atsC c) (depC c) d st) ∧
    (∀ d f st, (syms c).length ≤ f → At s ts st.i (syms c) → st.atoms ≤ 16 → (tk ts (st.i + (syms c).length)).kind ≠ 6 → (tk ts (st.i + (syms c).length)).kind ≠ 5 → (tk ts (st.i + (syms c).length)).kind ≠ 4 → Out (listP ts 4 (seqP ts (atomP s ts d)) f st) (trees c).2.2 (syms c).length (atsC c) (depC c) d st) := by
  intro n
  induction n with
  | zero => intro c hn; cases c <;> simp [szCt] at hn
  | succ n ih =>
    intro c hn hok
    have hA : lvl c = 0 → ∀ d st, At s ts st.i (syms c) → st.atoms ≤ 16 → Out (atomP s ts d st) (treeC c) (syms c).length (atsC c) (depC c) d st := by
      intro hl d st hat h16
      cases c with
      | leaf ys m a => exact leaf_reads hok d st hat h16
      | neg a =>
        obtain ⟨a1, hat⟩ := At.cons.1 (show At s ts st.i ((7, []) :: syms a) from hat)
        have k1 := sy_sign a1
        have hn' : szCt a + 1 ≤ n + 1 := hn
        cases d with
        | zero =>
          refine ⟨fun h => absurd h.1 (by show ¬ depC a + 1 ≤ 0; omega), fun _ => ?_⟩
          rw [atomP, if_neg (by rw [k1]; decide), if_pos k1]
          exact ⟨_, rfl⟩
        | succ d =>
          have hI := (ih a (by omega) hok.2.1).1 hok.1 d ⟨st.i + 1, st.atoms, st.bad⟩ hat h16
          rw [atomP, if_neg (by rw [k1]; decide), if_pos k1]
          refine ⟨fun h => ?_, fun h => ?_⟩
          · have h1 : depC a + 1 ≤ d + 1 := h.1
            have h2 : st.atoms + atsC a ≤ 16 := h.2
            rw [hI.1 ⟨by omega, h2⟩]
            unfold notP
            simp only [hok.2.2, if_true]
            show Except.ok (Code.scope (treeC a), (⟨st.i + 1 + (syms a).length, st.atoms + atsC a, st.bad⟩ : St)) = .ok (Code.scope (treeC a), (⟨st.i + ((syms a).length + 1), st.atoms + atsC a, st.bad⟩ : St))
            rw [show st.i + 1 + (syms a).length = st.i + ((syms a).length + 1) by omega]
          · obtain ⟨p, e⟩ := hI.2 (fun k => h ⟨by show depC a + 1 ≤ d + 1; have := k.1; omega, k.2⟩)
            rw [e]; exact ⟨p, rfl⟩
      | brk a =>
        obtain ⟨a1, hat⟩ := At.cons.1 (show At s ts st.i ((8, []) :: (syms a ++ [(9, [])])) from hat)
        have k1 := sy_sign a1
        obtain ⟨hat, h9⟩ := At.append.1 hat
        have k9 := sy_sign (At.cons.1 h9).1
        have hn' : szCt a + 1 ≤ n + 1 := hn
        cases d with
        | zero =>
          refine ⟨fun h => absurd h.1 (by show ¬ depC a + 1 ≤ 0; omega), fun _ => ?_⟩
          rw [atomP, if_neg (by rw [k1]; decide), if_neg (by rw [k1]; decide), if_pos k1]
          exact ⟨_, rfl⟩
        | succ d =>
          have hlen := len_le (show okC a from hok) hat
          have hI := Out.join (k := 0) ((ih a (by omega) hok).2.2.2 d ts.length ⟨st.i + 1, st.atoms, st.bad⟩ (by omega) hat h16 (by show (tk ts (st.i + 1 + (syms a).length)).kind ≠ 6; rw [k9]; decide) (by show (tk ts (st.i + 1 + (syms a).length)).kind ≠ 5; rw [k9]; decide) (by show (tk ts (st.i + 1 + (syms a).length)).kind ≠ 4; rw [k9]; decide))
          rw [sums_join] at hI
          rw [atomP, if_neg (by rw [k1]; decide), if_neg (by rw [k1]; decide), if_pos k1]
          unfold sumP
          refine ⟨fun h => ?_, fun h => ?_⟩
          · have h1 : depC a + 1 ≤ d + 1 := h.1
            have h2 : st.atoms + atsC a ≤ 16 := h.2
            rw [hI.1 ⟨by omega, h2⟩]
            unfold brackP
            simp only [k9, if_true]
            show Except.ok (treeC a, (⟨st.i + 1 + (syms a).length + 1, st.atoms + atsC a, st.bad⟩ : St)) = .ok (treeC a, (⟨st.i + ((8, []) :: (syms a ++ [(9, [])])).length, st.atoms + atsC a, st.bad⟩ : St))
            rw [show st.i + ((8, []) :: (syms a ++ [((9 : Int), ([] : List UInt8))])).length = st.i + 1 + (syms a).length + 1 by simp; omega]
          · obtain ⟨p, e⟩ := hI.2 (fun k => h ⟨by show depC a + 1 ≤ d + 1; have := k.1; omega, k.2⟩)
            rw [e]; exact ⟨p, rfl⟩
      | star a => simp [lvl] at hl
      | sq a b => simp [lvl] at hl
      | sm a b => simp [lvl] at hl
    have hB : lvl c ≤ 1 → ∀ d st, At s ts st.i (syms c) → st.atoms ≤ 16 → (tk ts (st.i + (syms c).length)).kind ≠ 6 → Out (partP ts (atomP s ts d) st) (treeC c) (syms c).length (atsC c) (depC c) d st := by
      intro hl d st hat h16 h6
      obtain ⟨c1, c2, c3, c4, c5, c6, c7⟩ := core_facts c hl hok
      have hlen := len_le hok hat
      have hcore : ∀ d st, At s ts st.i (syms (coreC c)) → st.atoms ≤ 16 → Out (atomP s ts d st) (treeC (coreC c)) (syms (coreC c)).length (atsC (coreC c)) (depC (coreC c)) d st := by
        by_cases h0 : starsC c = 0
        · cases c with
          | star a => simp [starsC] at h0
          | _ => exact hA c1
        · exact (ih (coreC c) (by omega) c2).1 c1
      rw [c3] at hat h6 hlen ⊢
      rw [c5, c6]
      obtain ⟨hat1, hat2⟩ := At.append.1 hat
      rw [List.length_append, List.length_replicate] at h6 hlen ⊢
      have hI := hcore d st hat1 h16
      unfold partP
      refine ⟨fun h => ?_, fun h => ?_⟩
      · rw [hI.1 h]
        simp only
        rw [star_reads (treeC c) (starsC c) ts.length _ _ (by omega) (fun j hj => by
          have := hat2 j (6, []) (by simp [hj])
          exact sy_sign this), starLoop_stop _ _ _ (by rw [show st.i + (syms (coreC c)).length + starsC c = st.i + ((syms (coreC c)).length + starsC c) by omega]; exact h6), ← c4]
        show Except.ok (treeC c, (⟨st.i + (syms (coreC c)).length + starsC c, _, _⟩ : St)) = _
        rw [show st.i + (syms (coreC c)).length + starsC c = st.i + ((syms (coreC c)).length + starsC c) by omega]
      · obtain ⟨p, e⟩ := hI.2 h
        rw [e]; exact ⟨p, rfl⟩
    have hC : lvl c ≤ 2 → ∀ d f st, (syms c).length ≤ f → At s ts st.i (syms c) → st.atoms ≤ 16 → (tk ts (st.i + (syms c).length)).kind ≠ 6 → (tk ts (st.i + (syms c).length)).kind ≠ 5 → Out (listP ts 5 (partP ts (atomP s ts d)) f st) (trees c).2.1 (syms c).length (atsC c) (depC c) d st := by
      intro hl d f st hf hat h16 h6 h5
      have hpos := (syms_kind c hok).2
      obtain ⟨f', rfl⟩ : ∃ f', f = f' + 1 := ⟨f - 1, by omega⟩
      by_cases hl1 : lvl c ≤ 1
      · rw [seqs_one hl1]
        exact Out.last (hB hl1 d st hat h16 h6) h5
      · cases c with
        | sq a b =>
          obtain ⟨la, lb, oka, okb⟩ := hok
          have hn' : szCt a + szCt b + 1 ≤ n + 1 := hn
          have hat' : At s ts st.i (syms a ++ (5, []) :: syms b) := hat
          obtain ⟨hat1, hat2⟩ := At.append.1 hat'
          obtain ⟨a5, hat2⟩ := At.cons.1 hat2
          have k5 := sy_sign a5
          have e : (syms (.sq a b)).length = (syms a).length + ((syms b).length + 1) := by simp [syms]
          rw [e] at h6 h5 hf ⊢
          rw [show st.i + ((syms a).length + ((syms b).length + 1)) = st.i + (syms a).length + 1 + (syms b).length by omega] at h6 h5
          exact Out.more ((ih a (by omega) oka).2.1 la d st hat1 h16 (by rw [k5]; decide)) k5 (fun a0 h0 => (ih b (by omega) okb).2.2.1 lb d f' ⟨st.i + (syms a).length + 1, a0, st.bad⟩ (by omega) hat2 h0 h6 h5)
        | sm a b => simp [lvl] at hl
        | _ => simp [lvl] at hl1
    refine ⟨hA, hB, hC, ?_⟩
    intro d f st hf hat h16 h6 h5 h4
    have hpos := (syms_kind c hok).2
    obtain ⟨f', rfl⟩ : ∃ f', f = f' + 1 := ⟨f - 1, by omega⟩
    by_cases hl2 : lvl c ≤ 2
    · rw [sums_one hl2]
      have h1 := Out.join (k := 1) (hC hl2 d ts.length st (by have := len_le hok hat; omega) hat h16 h6 h5)
      rw [seqs_join hl2] at h1
      exact Out.last h1 h4
    · cases c with
      | sm a b =>
        obtain ⟨la, lb, oka, okb⟩ := hok
        have hn' : szCt a + szCt b + 1 ≤ n + 1 := hn
        have hat' : At s ts st.i (syms a ++ (4, []) :: syms b) := hat
        obtain ⟨hat1, hat2⟩ := At.append.1 hat'
        obtain ⟨a4, hat2⟩ := At.cons.1 hat2
        have k4 := sy_sign a4
        have e : (syms (.sm a b)).length = (syms a).length + ((syms b).length + 1) := by simp [syms]
        rw [e] at h6 h5 h4 hf ⊢
        rw [show st.i + ((syms a).length + ((syms b).length + 1)) = st.i + (syms a).length + 1 + (syms b).length by omega] at h6 h5 h4
        have h1 := Out.join (k := 1) ((ih a (by omega) oka).2.2.1 la d ts.length st (by have := len_le oka hat1; omega) hat1 h16 (by rw [k4]; decide) (by rw [k4]; decide))
        rw [seqs_join la] at h1
        exact Out.more h1 k4 (fun a0 h0 => (ih b (by omega) okb).2.2.2 d f' ⟨st.i + (syms a).length + 1, a0, st.bad⟩ (by omega) hat2 h0 h6 h5 h4)
      | _ => simp [lvl] at hl2
/-- A text that is written by the grammar, read whole. -/
theorem reads_whole (c : Ct) (hok : okC c) (hA : At s ts 0 (syms c)) (h0 : (tk ts (syms c).length).kind = 0) : (depC c ≤ 12 ∧ atsC c ≤ 16 → readP s ts = .ok (treeC c)) ∧ (¬ (depC c ≤ 12 ∧ atsC c ≤ 16) → ∃ p, readP s ts = .error (7, p)) := by
  have hlen := len_le hok hA
  have h := Out.join (k := 0) ((reads (s := s) (ts := ts) (szCt c) c (Nat.le_refl _) hok).2.2.2 12 ts.length ⟨0, 0, 401⟩ (by omega) hA (by decide) (by show (tk ts (0 + (syms c).length)).kind ≠ 6; rw [Nat.zero_add, h0]; decide) (by show (tk ts (0 + (syms c).length)).kind ≠ 5; rw [Nat.zero_add, h0]; decide) (by show (tk ts (0 + (syms c).length)).kind ≠ 4; rw [Nat.zero_add, h0]; decide))
  rw [sums_join] at h
  unfold readP sumP
  refine ⟨fun hc => ?_, fun hc => ?_⟩
  · rw [h.1 ⟨hc.1, by show 0 + atsC c ≤ 16; omega⟩]
    simp only [Nat.zero_add, h0, if_true]
  · obtain ⟨p, e⟩ := h.2 (fun k => hc ⟨k.1, by have k2 : 0 + atsC c ≤ 16 := k.2; omega⟩)
    rw [e]; exact ⟨p, rfl⟩
end
end Go.Weft
/- Plain facts: what is read was written by the grammar. -/
namespace Go.Weft
set_option linter.unusedVariables false
set_option linter.unusedSimpArgs false
section
variable (s : ByteArray) (ts : List Tok)
/-- What was read stands there, written by the grammar. -/
structure Wrote (st st' : St) (L d : Nat) (c : Ct) : Prop where
  ok : okC c
  lv : lvl c ≤ L
  at_ : At s ts st.i (syms c)
  i : st'.i = st.i + (syms c).length
  atoms : st'.atoms = st.atoms + atsC c
  dep : depC c ≤ d
  bad : st.bad = 401
  few : st.atoms ≤ 16 → st'.atoms ≤ 16
def Snd (p : St → Except (Int × Nat) (Code × St)) (L d : Nat) : Prop := ∀ st t st', p st = .ok (t, st') → st'.bad = 401 → ∃ c, treeC c = t ∧ Wrote s ts st st' L d c
end
section
variable {s : ByteArray} {ts : List Tok}
theorem snd_word (d : Nat) {st st' : St} {t : Code} (hk : (tk ts st.i).kind = 2) (h : wordP s ts st = .ok (t, st')) (hb : st'.bad = 401) : ∃ c, treeC c = t ∧ Wrote s ts st st' 0 d c := by
  have a1 := sy_word (s := s) hk (.inl rfl)
  unfold wordP at h
  by_cases h1 : txt s (tk ts st.i) = [105, 100]
  · rw [if_pos h1] at h
    cases h
    exact ⟨.leaf [(2, [105, 100])] 0 0, rfl, ⟨.inl ⟨rfl, rfl, rfl⟩, Nat.le_refl _, At.cons.2 ⟨by rw [a1, h1], At.nil _⟩, rfl, rfl, Nat.zero_le _, hb, fun h => h⟩⟩
  rw [if_neg h1] at h
  by_cases h2 : txt s (tk ts st.i) = [100, 114, 111, 112]
  · rw [if_pos h2] at h
    cases h
    exact ⟨.leaf [(2, [100, 114, 111, 112])] 1 0, rfl, ⟨.inr (.inl ⟨rfl, rfl, rfl⟩), Nat.le_refl _, At.cons.2 ⟨by rw [a1, h2], At.nil _⟩, rfl, rfl, Nat.zero_le _, hb, fun h => h⟩⟩
  rw [if_neg h2] at h
  split at h
  · cases h
  · rename_i f hf
    unfold pairP at h
    by_cases b1 : f = 0 ∧ (tk ts (st.i + 1)).kind = 11
    · rw [if_pos b1] at h; cases h
    rw [if_neg b1] at h
    by_cases b2 : st.atoms = 16
    · rw [if_pos b2] at h; cases h
    rw [if_neg b2] at h
    by_cases b3 : ¬ (tk ts (st.i + 1)).kind = 10 ∧ ¬ (tk ts (st.i + 1)).kind = 11
    · rw [if_pos b3] at h; cases h
    rw [if_neg b3] at h
    by_cases b4 : ¬ (tk ts (st.i + 2)).kind = 3
    · rw [if_pos b4] at h; cases h
    rw [if_neg b4] at h
    by_cases b5 : 31 < numVal (txt s (tk ts (st.i + 2)))
    · rw [if_pos b5] at h; cases h
    rw [if_neg b5] at h
    cases h
    have hk2 : (tk ts (st.i + 1)).kind = 10 ∨ (tk ts (st.i + 1)).kind = 11 := by omega
    have a2 := sy_of (s := s) (i := st.i + 1) rfl (show ¬ ((tk ts (st.i + 1)).kind = 2 ∨ (tk ts (st.i + 1)).kind = 3) by omega)
    have a3 := sy_word (s := s) (i := st.i + 2) (show (tk ts (st.i + 2)).kind = 3 by omega) (.inr rfl)
    obtain ⟨n, hn⟩ : ∃ n, leafC (tk ts (st.i + 1)).kind f (numVal (txt s (tk ts (st.i + 2)))) = .exit n := by
      unfold leafC
      split
      · exact ⟨_, rfl⟩
      · exact ⟨_, rfl⟩
    refine ⟨.leaf [(2, txt s (tk ts st.i)), ((tk ts (st.i + 1)).kind, []), (3, txt s (tk ts (st.i + 2)))] n 1, hn.symm, ⟨.inr (.inr ⟨_, f, _, _, rfl, h1, h2, hf, hk2, b1, by omega, hn.symm, rfl⟩), Nat.le_refl _, At.cons.2 ⟨a1, At.cons.2 ⟨a2, At.cons.2 ⟨a3, At.nil _⟩⟩⟩, rfl, rfl, Nat.zero_le _, hb, fun h => ?_⟩⟩
    show st.atoms + 1 ≤ 16
    omega
theorem snd_star : ∀ (f : Nat) (c : Ct) (i0 : Nat), okC c → lvl c ≤ 1 → At s ts i0 (syms c) → ∃ c', okC c' ∧ lvl c' ≤ 1 ∧ At s ts i0 (syms c') ∧ starLoop ts f (treeC c) (i0 + (syms c).length) = (treeC c', i0 + (syms c').length) ∧ atsC c' = atsC c ∧ depC c' = depC c
  | 0, c, i0, h1, h2, h3 => ⟨c, h1, h2, h3, rfl, rfl, rfl⟩
  | f + 1, c, i0, h1, h2, h3 => by
    by_cases hk : (tk ts (i0 + (syms c).length)).kind = 6
    · obtain ⟨c', g1, g2, g3, g4, g5, g6⟩ := snd_star f (.star c) i0 ⟨h2, h1⟩ (by simp [lvl]) (At.append.2 ⟨h3, At.cons.2 ⟨sy_of hk (by decide), At.nil _⟩⟩)
      refine ⟨c', g1, g2, g3, ?_, g5, g6⟩
      rw [starLoop, if_pos hk, ← g4]
      have e : (syms (.star c)).length = (syms c).length + 1 := by simp [syms]
      rw [e]; rfl
    · exact ⟨c, h1, h2, h3, by rw [starLoop, if_neg hk], rfl, rfl⟩
theorem snd_part {p : St → Except (Int × Nat) (Code × St)} {d : Nat} (h : Snd s ts p 0 d) : Snd s ts (partP ts p) 1 d := by
  intro st t st' hp hb
  unfold partP at hp
  split at hp
  · cases hp
  · rename_i t1 st1 e1
    cases hp
    obtain ⟨c, rfl, w⟩ := h st t1 st1 e1 hb
    obtain ⟨c', g1, g2, g3, g4, g5, g6⟩ := snd_star ts.length c st.i w.ok (by have := w.lv; omega) w.at_
    rw [w.i, g4]
    exact ⟨c', rfl, ⟨g1, g2, g3, rfl, by rw [g5]; exact w.atoms, by rw [g6]; exact w.dep, w.bad, w.few⟩⟩
theorem kind_lt {i : Nat} (h : (tk ts i).kind ≠ 0) : i < ts.length := by
  rcases Nat.lt_or_ge i ts.length with h1 | h1
  · exact h1
  · exfalso
    apply h
    unfold tk
    rw [List.getD_eq_getElem?_getD, List.getElem?_eq_none h1]
    rfl
theorem bd_list {p : St → Except (Int × Nat) (Code × St)} {L d : Nat} (h : Snd s ts p L d) (sep : Int) : ∀ f st l st', listP ts sep p f st = .ok (l, st') → st'.bad = 401 → st.bad = 401
  | 0, st, l, st', hp, hb => by
    rw [listP] at hp
    cases hp
    exact hb
  | f + 1, st, l, st', hp, hb => by
    rw [listP] at hp
    split at hp
    · cases hp
    · rename_i t1 st1 e1
      split at hp
      · split at hp
        · cases hp
        · rename_i l2 st2 e2
          cases hp
          obtain ⟨_, _, w⟩ := h st t1 st1 e1 (bd_list h sep f ⟨st1.i + 1, st1.atoms, st1.bad⟩ l2 _ e2 hb)
          exact w.bad
      · cases hp
        obtain ⟨_, _, w⟩ := h st t1 _ e1 hb
        exact w.bad
theorem snd_seqs {p : St → Except (Int × Nat) (Code × St)} {d : Nat} (h : Snd s ts p 1 d) : ∀ f st l st', 0 < f → ts.length ≤ f + st.i → listP ts 5 p f st = .ok (l, st') → st'.bad = 401 → ∃ c, (trees c).2.1 = l ∧ Wrote s ts st st' 2 d c
  | 0, st, l, st', h0, _, _, _ => by omega
  | f + 1, st, l, st', _, hf, hp, hb => by
    rw [listP] at hp
    split at hp
    · cases hp
    · rename_i t1 st1 e1
      split at hp
      · rename_i hk
        split at hp
        · cases hp
        · rename_i l2 st2 e2
          cases hp
          have hlt := kind_lt (show (tk ts st1.i).kind ≠ 0 by rw [hk]; decide)
          obtain ⟨c1, rfl, w1⟩ := h st t1 st1 e1 (bd_list h 5 f ⟨st1.i + 1, st1.atoms, st1.bad⟩ l2 _ e2 hb)
          have hpos := (syms_kind c1 w1.ok).2
          have hi := w1.i
          obtain ⟨c2, rfl, w2⟩ := snd_seqs h f ⟨st1.i + 1, st1.atoms, st1.bad⟩ l2 _ (by omega) (by show ts.length ≤ f + (st1.i + 1); omega) e2 hb
          have a2 : At s ts (st1.i + 1) (syms c2) := w2.at_
          refine ⟨.sq c1 c2, rfl, ⟨⟨w1.lv, w2.lv, w1.ok, w2.ok⟩, Nat.le_refl _, At.append.2 ⟨w1.at_, At.cons.2 ⟨by rw [← hi]; exact sy_of hk (by decide), by rw [← hi]; exact a2⟩⟩, ?_, ?_, ?_, w1.bad, fun h16 => w2.few (w1.few h16)⟩⟩
          · rw [w2.i]
            show st1.i + 1 + (syms c2).length = st.i + (syms c1 ++ (5, []) :: syms c2).length
            rw [hi, List.length_append, List.length_cons]; omega
          · rw [w2.atoms]
            show st1.atoms + atsC c2 = st.atoms + (atsC c1 + atsC c2)
            rw [w1.atoms]; omega
          · show max (depC c1) (depC c2) ≤ d
            have := w1.dep; have := w2.dep; omega
      · cases hp
        obtain ⟨c1, rfl, w1⟩ := h st t1 _ e1 hb
        exact ⟨c1, seqs_one w1.lv, ⟨w1.ok, by have := w1.lv; omega, w1.at_, w1.i, w1.atoms, w1.dep, w1.bad, w1.few⟩⟩
theorem snd_sums {p : St → Except (Int × Nat) (Code × St)} {d : Nat} (h : Snd s ts p 2 d) : ∀ f st l st', 0 < f → ts.length ≤ f + st.i → listP ts 4 p f st = .ok (l, st') → st'.bad = 401 → ∃ c, (trees c).2.2 = l ∧ Wrote s ts st st' 3 d c
  | 0, st, l, st', h0, _, _, _ => by omega
  | f + 1, st, l, st', _, hf, hp, hb => by
    rw [listP] at hp
    split at hp
    · cases hp
    · rename_i t1 st1 e1
      split at hp
      · rename_i hk
        split at hp
        · cases hp
        · rename_i l2 st2 e2
          cases hp
          have hlt := kind_lt (show (tk ts st1.i).kind ≠ 0 by rw [hk]; decide)
          obtain ⟨c1, rfl, w1⟩ := h st t1 st1 e1 (bd_list h 4 f ⟨st1.i + 1, st1.atoms, st1.bad⟩ l2 _ e2 hb)
          have hpos := (syms_kind c1 w1.ok).2
          have hi := w1.i
          obtain ⟨c2, rfl, w2⟩ := snd_sums h f ⟨st1.i + 1, st1.atoms, st1.bad⟩ l2 _ (by omega) (by show ts.length ≤ f + (st1.i + 1); omega) e2 hb
          have a2 : At s ts (st1.i + 1) (syms c2) := w2.at_
          refine ⟨.sm c1 c2, rfl, ⟨⟨w1.lv, w2.lv, w1.ok, w2.ok⟩, Nat.le_refl _, At.append.2 ⟨w1.at_, At.cons.2 ⟨by rw [← hi]; exact sy_of hk (by decide), by rw [← hi]; exact a2⟩⟩, ?_, ?_, ?_, w1.bad, fun h16 => w2.few (w1.few h16)⟩⟩
          · rw [w2.i]
            show st1.i + 1 + (syms c2).length = st.i + (syms c1 ++ (4, []) :: syms c2).length
            rw [hi, List.length_append, List.length_cons]; omega
          · rw [w2.atoms]
            show st1.atoms + atsC c2 = st.atoms + (atsC c1 + atsC c2)
            rw [w1.atoms]; omega
          · show max (depC c1) (depC c2) ≤ d
            have := w1.dep; have := w2.dep; omega
      · cases hp
        obtain ⟨c1, rfl, w1⟩ := h st t1 _ e1 hb
        exact ⟨c1, sums_one w1.lv, ⟨w1.ok, by have := w1.lv; omega, w1.at_, w1.i, w1.atoms, w1.dep, w1.bad, w1.few⟩⟩
theorem snd_seq {p : St → Except (Int × Nat) (Code × St)} {d : Nat} (h0 : 0 < ts.length) (h : Snd s ts p 0 d) : Snd s ts (seqP ts p) 2 d := by
  intro st t st' hp hb
  unfold seqP joinP at hp
  split at hp
  · cases hp
  · rename_i l st1 e1
    cases hp
    obtain ⟨c, rfl, w⟩ := snd_seqs (snd_part h) ts.length st l _ h0 (by omega) e1 hb
    exact ⟨c, (seqs_join w.lv).symm, w⟩
theorem snd_sum {p : St → Except (Int × Nat) (Code × St)} {d : Nat} (h0 : 0 < ts.length) (h : Snd s ts p 0 d) : Snd s ts (sumP ts p) 3 d := by
  intro st t st' hp hb
  unfold sumP joinP at hp
  split at hp
  · cases hp
  · rename_i l st1 e1
    cases hp
    obtain ⟨c, rfl, w⟩ := snd_sums (snd_seq h0 h) ts.length st l _ h0 (by omega) e1 hb
    exact ⟨c, (sums_join c).symm, w⟩
theorem snd_atom (h0 : 0 < ts.length) (ha : ∀ i, (tk ts i).at_ ≤ 400) : ∀ d, Snd s ts (atomP s ts d) 0 d := by
  intro d
  induction d with
  | zero =>
    intro st t st' h hb
    unfold atomP at h
    split at h
    · rename_i hk
      exact snd_word 0 hk h hb
    · repeat' split at h
      all_goals cases h
  | succ d ih =>
    intro st t st' h hb
    unfold atomP at h
    split at h
    · rename_i hk
      exact snd_word (d + 1) hk h hb
    · split at h
      · rename_i hk
        unfold notP at h
        split at h
        · cases h
        · rename_i t1 st1 e1
          cases h
          have := ha st.i
          by_cases hT : isT t1 = true
          · obtain ⟨c, rfl, w⟩ := ih _ t1 st1 e1 (by simp only [hT, if_true] at hb; exact hb)
            have hlv : lvl c = 0 := by have := w.lv; omega
            have a2 : At s ts (st.i + 1) (syms c) := w.at_
            refine ⟨.neg c, rfl, ⟨⟨hlv, w.ok, hT⟩, Nat.le_refl _, At.cons.2 ⟨sy_of hk (by decide), a2⟩, ?_, w.atoms, by show depC c + 1 ≤ d + 1; have := w.dep; omega, w.bad, w.few⟩⟩
            show st1.i = st.i + ((syms c).length + 1)
            rw [w.i]
            show st.i + 1 + (syms c).length = _
            omega
          · exfalso
            simp only [hT, if_false] at hb
            have h2 : min st1.bad (tk ts st.i).at_ ≤ (tk ts st.i).at_ := Nat.min_le_right _ _
            have hb' : min st1.bad (tk ts st.i).at_ = 401 := by simpa using hb
            omega
      · split at h
        · rename_i hk
          unfold brackP at h
          split at h
          · cases h
          · rename_i t1 st1 e1
            split at h
            · rename_i h9
              cases h
              obtain ⟨c, rfl, w⟩ := snd_sum h0 ih _ _ st1 e1 hb
              have a2 : At s ts (st.i + 1) (syms c) := w.at_
              have hi : st1.i = st.i + 1 + (syms c).length := w.i
              refine ⟨.brk c, rfl, ⟨w.ok, Nat.le_refl _, At.cons.2 ⟨sy_of hk (by decide), At.append.2 ⟨a2, At.cons.2 ⟨by rw [← hi]; exact sy_of h9 (by decide), At.nil _⟩⟩⟩, ?_, w.atoms, by show depC c + 1 ≤ d + 1; have := w.dep; omega, w.bad, w.few⟩⟩
              show st1.i + 1 = st.i + ((8, []) :: (syms c ++ [((9 : Int), ([] : List UInt8))])).length
              rw [hi]; simp; omega
            · cases h
        · cases h
/-- What is read whole was written by the grammar, whole. -/
theorem read_wrote (h0 : 0 < ts.length) (ha : ∀ i, (tk ts i).at_ ≤ 400) {t : Code} (h : readP s ts = .ok t) : ∃ c, treeC c = t ∧ okC c ∧ At s ts 0 (syms c) ∧ (tk ts (syms c).length).kind = 0 ∧ depC c ≤ 12 ∧ atsC c ≤ 16 := by
  unfold readP at h
  split at h
  · cases h
  · rename_i t1 st1 e1
    split at h
    · rename_i hk
      split at h
      · rename_i hb
        cases h
        obtain ⟨c, rfl, w⟩ := snd_sum h0 (snd_atom h0 ha 12) _ _ st1 e1 hb
        have hi : st1.i = 0 + (syms c).length := w.i
        have hat : st1.atoms = 0 + atsC c := w.atoms
        have hf : st1.atoms ≤ 16 := w.few (by show 0 ≤ 16; omega)
        exact ⟨c, rfl, w.ok, w.at_, by rw [← Nat.zero_add (syms c).length, ← hi]; exact hk, w.dep, by omega⟩
      · cases h
    · cases h
end
end Go.Weft
/- Plain facts: texts that are put together are read as their parts. -/
namespace Go.Weft
set_option linter.unusedVariables false
set_option linter.unusedSimpArgs false
theorem signK_pos (c : Int) : signK c ≠ 0 ∧ signK c ≠ 2 ∧ signK c ≠ 3 := by
  unfold signK
  repeat' split
  all_goals decide
theorem lex_shape : ∀ (n : Nat) (r : List UInt8), r.length ≤ n → ∃ xs e, symsL r = xs ++ [e] ∧ (e = (0, []) ∨ e = (1, [])) ∧ ∀ x ∈ xs, x.1 ≠ 0 ∧ x.1 ≠ 1
  | n, [], _ => ⟨[], (0, []), rfl, .inl rfl, fun x hx => by cases hx⟩
  | 0, c :: r, h => by simp at h
  | n + 1, c :: r, h => by
    have h' : r.length ≤ n := by simpa using h
    have add : ∀ (x : Sym) (r' : List UInt8), x.1 ≠ 0 → x.1 ≠ 1 → r'.length ≤ n → ∃ xs e, x :: symsL r' = xs ++ [e] ∧ (e = (0, []) ∨ e = (1, [])) ∧ ∀ x ∈ xs, x.1 ≠ 0 ∧ x.1 ≠ 1 := by
      intro x r' h0 h1 hl
      obtain ⟨xs, e, g1, g2, g3⟩ := lex_shape n r' hl
      refine ⟨x :: xs, e, by rw [g1]; rfl, g2, fun y hy => ?_⟩
      rcases List.mem_cons.1 hy with rfl | hy
      · exact ⟨h0, h1⟩
      · exact g3 y hy
    have dl : ∀ k, (r.drop k).length ≤ n := fun k => by rw [List.length_drop]; omega
    rw [symsL_eq]
    split
    · exact lex_shape n r h'
    split
    · exact add _ _ (by show (2 : Int) ≠ 0; decide) (by show (2 : Int) ≠ 1; decide) (dl _)
    split
    · exact add _ _ (by show (3 : Int) ≠ 0; decide) (by show (3 : Int) ≠ 1; decide) h'
    split
    · exact add _ _ (by show (3 : Int) ≠ 0; decide) (by show (3 : Int) ≠ 1; decide) (dl _)
    split
    · split
      · exact add _ _ (by show (11 : Int) ≠ 0; decide) (by show (11 : Int) ≠ 1; decide) (dl _)
      · exact ⟨[], (1, []), rfl, .inr rfl, fun x hx => by cases hx⟩
    split
    · exact ⟨[], (1, []), rfl, .inr rfl, fun x hx => by cases hx⟩
    · rename_i h1
      exact add _ _ (signK_pos _).1 h1 h'
theorem lex_ne (r : List UInt8) : symsL r ≠ [] := by
  obtain ⟨xs, e, h, _⟩ := lex_shape _ r (Nat.le_refl _)
  rw [h]; simp
/-- A byte that is a sign by itself, and takes nothing ahead of it to itself. -/
def Alone (c : UInt8) : Prop := letB (c.toNat : Int) = false ∧ digB (c.toNat : Int) = false ∧ c ≠ 61
theorem runL_append (l : Bool) {c : UInt8} (hc : Alone c) (r : List UInt8) : ∀ a : List UInt8, runL l (a ++ c :: r) = runL l a
  | [] => by
    show (if clsB l (c.toNat : Int) = true then _ else _) = _
    rw [if_neg (by cases l <;> simp [clsB, hc.1, hc.2.1])]; rfl
  | b :: a => by
    show (if clsB l (b.toNat : Int) = true then b :: runL l (a ++ c :: r) else []) = (if clsB l (b.toNat : Int) = true then b :: runL l a else [])
    rw [runL_append l hc r a]
theorem runL_le (l : Bool) : ∀ a : List UInt8, (runL l a).length ≤ a.length
  | [] => Nat.le_refl _
  | b :: a => by
    unfold runL
    split
    · simp only [List.length_cons]; have := runL_le l a; omega
    · simp
theorem lex_append {c : UInt8} (hc : Alone c) (r : List UInt8) : ∀ (n : Nat) (a : List UInt8) (xs : List Sym), a.length ≤ n → symsL a = xs ++ [(0, [])] → symsL (a ++ c :: r) = xs ++ symsL (c :: r)
  | n, [], xs, _, h => by
    have e : symsL [] = [(0, [])] := rfl
    rw [e] at h
    cases xs with
    | nil => rfl
    | cons x xs => simp at h
  | 0, b :: a, xs, hn, _ => by simp at hn
  | n + 1, b :: a, xs, hn, h => by
    have hn' : a.length ≤ n := by simpa using hn
    have step : ∀ (x : Sym) (a' : List UInt8), a'.length ≤ n → x :: symsL a' = xs ++ [(0, [])] → x :: symsL (a' ++ c :: r) = xs ++ symsL (c :: r) := by
      intro x a' hl he
      cases xs with
      | nil => exact absurd (List.cons.inj he).2 (lex_ne a')
      | cons y xs =>
        obtain ⟨h1, h2⟩ := List.cons.inj he
        rw [lex_append hc r n a' xs hl h2, h1]; rfl
    have dl : ∀ k, (a.drop k).length ≤ n := fun k => by rw [List.length_drop]; omega
    have da : ∀ l, (a ++ c :: r).drop (runL l a).length = a.drop (runL l a).length ++ c :: r := fun l => List.drop_append_of_le_length (runL_le l a)
    rw [symsL_eq] at h
    rw [List.cons_append, symsL_eq, runL_append true hc, runL_append false hc, da, da]
    by_cases b1 : (b.toNat : Int) = 32 ∨ (b.toNat : Int) = 10
    · rw [if_pos b1] at h ⊢; exact lex_append hc r n a xs hn' h
    rw [if_neg b1] at h ⊢
    by_cases b2 : letB (b.toNat : Int) = true
    · rw [if_pos b2] at h ⊢; exact step _ _ (dl _) h
    rw [if_neg b2] at h ⊢
    by_cases b3 : (b.toNat : Int) = 48
    · rw [if_pos b3] at h ⊢; exact step _ _ hn' h
    rw [if_neg b3] at h ⊢
    by_cases b4 : digB (b.toNat : Int) = true
    · rw [if_pos b4] at h ⊢; exact step _ _ (dl _) h
    rw [if_neg b4] at h ⊢
    by_cases b5 : (b.toNat : Int) = 58
    · rw [if_pos b5] at h ⊢
      by_cases b6 : a.head? = some 61
      · rw [if_pos b6] at h
        cases a with
        | nil => cases b6
        | cons d a =>
          rw [if_pos (show ((d :: a) ++ c :: r).head? = some 61 from b6)]
          exact step (11, [b, 61]) a (by simpa using dl 1) h
      · rw [if_neg b6] at h
        cases xs with
        | nil => simp at h
        | cons y xs => simp at h
    rw [if_neg b5] at h ⊢
    by_cases b7 : signK (b.toNat : Int) = 1
    · rw [if_pos b7] at h
      cases xs with
      | nil => simp at h
      | cons y xs => simp at h
    rw [if_neg b7] at h ⊢
    exact step _ _ hn' h
/-- The signs of bytes, as the reader looks at them. -/
def lexN (r : List UInt8) : List Sym := (symsL r).map nsym
theorem lexN_append {c : UInt8} (hc : Alone c) (r a : List UInt8) (xs : List Sym) (h : lexN a = xs ++ [(0, [])]) : lexN (a ++ c :: r) = xs ++ lexN (c :: r) := by
  obtain ⟨ys, e, h1, h2, _⟩ := lex_shape _ a (Nat.le_refl _)
  unfold lexN at h ⊢
  rw [h1, List.map_append] at h
  have hh := List.append_inj' h rfl
  have he : e = (0, []) := by
    rcases h2 with h2 | h2
    · exact h2
    · subst h2
      have : [nsym (1, [])] = [(0, [])] := hh.2
      simp [nsym] at this
  subst he
  rw [lex_append hc r _ a ys (Nat.le_refl _) h1, List.map_append, hh.1]
theorem lexN_sign {c : UInt8} {k : Int} (r : List UInt8) (h : (c.toNat : Int) = 40 ∧ k = 8 ∨ (c.toNat : Int) = 41 ∧ k = 9 ∨ (c.toNat : Int) = 43 ∧ k = 4 ∨ (c.toNat : Int) = 59 ∧ k = 5 ∨ (c.toNat : Int) = 42 ∧ k = 6 ∨ (c.toNat : Int) = 33 ∧ k = 7) : lexN (c :: r) = (k, []) :: lexN r := by
  unfold lexN
  rw [symsL_eq]
  rcases h with ⟨e, rfl⟩ | ⟨e, rfl⟩ | ⟨e, rfl⟩ | ⟨e, rfl⟩ | ⟨e, rfl⟩ | ⟨e, rfl⟩ <;> rw [e] <;> rfl
theorem lexN_nil : lexN [] = [(0, [])] := rfl
theorem alone_of {c : UInt8} (h : (c.toNat : Int) = 40 ∨ (c.toNat : Int) = 41 ∨ (c.toNat : Int) = 43 ∨ (c.toNat : Int) = 59 ∨ (c.toNat : Int) = 42 ∨ (c.toNat : Int) = 33 ∨ (c.toNat : Int) = 32) : Alone c := by
  refine ⟨?_, ?_, fun e => ?_⟩
  · rcases h with e | e | e | e | e | e | e <;> rw [e] <;> rfl
  · rcases h with e | e | e | e | e | e | e <;> rw [e] <;> rfl
  · subst e
    rcases h with e | e | e | e | e | e | e <;> revert e <;> decide
section
variable (s : ByteArray)
theorem sy_lexN {i : Nat} {x : Sym} : (lexN s.data.toList)[i]? = some x → sy s (toks s true 0) i = x := by
  intro h
  unfold lexN at h
  rw [← toks_symsL, List.map_map, List.getElem?_map] at h
  cases ht : (toks s true 0)[i]? with
  | none => rw [ht] at h; cases h
  | some t =>
    rw [ht] at h
    have e : tk (toks s true 0) i = t := by unfold tk; rw [List.getD_eq_getElem?_getD, ht]; rfl
    unfold sy
    rw [e]
    exact Option.some.inj h
theorem lexN_len : (lexN s.data.toList).length = (toks s true 0).length := by unfold lexN; rw [← toks_symsL]; simp
theorem at_lexN {xs : List Sym} (h : lexN s.data.toList = xs ++ [(0, [])]) : At s (toks s true 0) 0 xs ∧ (tk (toks s true 0) xs.length).kind = 0 := by
  refine ⟨fun j x hj => ?_, ?_⟩
  · rw [Nat.zero_add]
    refine sy_lexN s ?_
    rw [h, List.getElem?_append_left (List.getElem?_eq_some_iff.1 hj).1]
    exact hj
  · have : sy s (toks s true 0) xs.length = (0, []) := sy_lexN s (by rw [h]; simp)
    exact sy_sign this
theorem lexN_at {xs : List Sym} (h : At s (toks s true 0) 0 xs) (hx : ∀ x ∈ xs, 2 ≤ x.1) (h0 : (tk (toks s true 0) xs.length).kind = 0) : lexN s.data.toList = xs ++ [(0, [])] := by
  obtain ⟨ys, e, g1, g2, g3⟩ := lex_shape _ s.data.toList (Nat.le_refl _)
  have hN : lexN s.data.toList = ys.map nsym ++ [nsym e] := by unfold lexN; rw [g1]; simp
  have hs : ∀ j (hj : j < ys.length), sy s (toks s true 0) j = nsym ys[j] := fun j hj => sy_lexN s (by rw [hN, List.getElem?_append_left (by simpa using hj)]; simp [hj])
  have he : sy s (toks s true 0) ys.length = nsym e := sy_lexN s (by rw [hN]; simp)
  have hle : ys.length ≤ xs.length := by
    rcases Nat.lt_or_ge xs.length ys.length with hlt | hge
    · exfalso
      have h1 := hs _ hlt
      have h2 : (sy s (toks s true 0) xs.length).1 = 0 := h0
      rw [h1] at h2
      exact (g3 _ (List.getElem_mem hlt)).1 h2
    · exact hge
  have hxl : xs.length = ys.length := by
    rcases Nat.lt_or_ge ys.length xs.length with hlt | hge
    · exfalso
      have hm := h ys.length xs[ys.length] (List.getElem?_eq_getElem hlt)
      rw [Nat.zero_add, he] at hm
      have h2 := hx _ (List.getElem_mem hlt)
      rw [← hm] at h2
      rcases g2 with rfl | rfl
      · exact absurd h2 (by show ¬ (2 : Int) ≤ 0; decide)
      · exact absurd h2 (by show ¬ (2 : Int) ≤ 1; decide)
    · omega
  have hxy : xs = ys.map nsym := by
    refine List.ext_getElem (by simp [hxl]) (fun j h1 h2 => ?_)
    have := h j xs[j] (List.getElem?_eq_getElem h1)
    rw [Nat.zero_add, hs j (by omega)] at this
    simp [← this]
  have he0 : nsym e = (0, []) := by
    have h2 : (sy s (toks s true 0) xs.length).1 = 0 := h0
    rw [hxl, he] at h2
    rcases g2 with rfl | rfl
    · rfl
    · exact absurd h2 (by show ¬ (1 : Int) = 0; decide)
  rw [hN, ← hxy, he0]
end
end Go.Weft
namespace Go.Proofs.YtlhkfafdioakeaaGreatDoor
open Go.Weft
set_option linter.unusedVariables false
set_option linter.unusedSimpArgs false
section
variable (s : ByteArray)
/-- What was read, as it was written. -/
theorem read_to {t : Code} (h : readS s = .ok t) : ∃ c, treeC c = t ∧ okC c ∧ lexN s.data.toList = syms c ++ [(0, [])] ∧ depC c ≤ 12 ∧ atsC c ≤ 16 ∧ s.size ≤ 400 := by
  unfold readS at h
  split at h
  · cases h
  · rename_i hs
    obtain ⟨c, h1, h2, h3, h4, h5, h6⟩ := read_wrote (toks_closed s 0).1 (fun i => Nat.le_trans (toks_at s true i) (by omega)) h
    exact ⟨c, h1, h2, lexN_at s h3 (syms_two c h2).1 h4, h5, h6, by omega⟩
/-- What is written so is read so, but where there is too much of it. -/
theorem read_of {c : Ct} (hok : okC c) (h : lexN s.data.toList = syms c ++ [(0, [])]) : (s.size ≤ 400 → depC c ≤ 12 → atsC c ≤ 16 → readS s = .ok (treeC c)) ∧ (readS s = .ok (treeC c) ∨ ∃ e p, (e = 2 ∨ e = 7) ∧ readS s = .error (e, p)) := by
  obtain ⟨h1, h2⟩ := at_lexN s h
  obtain ⟨h3, h4⟩ := reads_whole c hok h1 h2
  refine ⟨fun g1 g2 g3 => ?_, ?_⟩
  · unfold readS
    rw [if_neg (by omega)]
    exact h3 ⟨g2, g3⟩
  · unfold readS
    by_cases hs : 400 < s.size
    · rw [if_pos hs]; exact .inr ⟨2, 0, .inl rfl, rfl⟩
    · rw [if_neg hs]
      by_cases hc : depC c ≤ 12 ∧ atsC c ≤ 16
      · exact .inl (h3 hc)
      · obtain ⟨p, e⟩ := h4 hc
        exact .inr ⟨7, p, .inr rfl, e⟩
/-- A negation of what is no test. -/
theorem read_not {c : Ct} (hok : okC c) (hl : lvl c = 0) (hT : isT (treeC c) = false) (h : lexN s.data.toList = (7, []) :: (syms c ++ [(0, [])])) : ∃ e p, (e = 2 ∨ e = 7 ∨ e = 6) ∧ readS s = .error (e, p) := by
  unfold readS
  by_cases hs : 400 < s.size
  · rw [if_pos hs]; exact ⟨2, 0, .inl rfl, rfl⟩
  rw [if_neg hs]
  obtain ⟨h1, h2⟩ := at_lexN s (xs := (7, []) :: syms c) h
  obtain ⟨a1, h1⟩ := At.cons.1 h1
  have k1 := sy_sign a1
  have h2' : (tk (toks s true 0) (1 + (syms c).length)).kind = 0 := by rw [Nat.add_comm]; exact h2
  have hI := (reads (s := s) (ts := toks s true 0) (szCt c) c (Nat.le_refl _) hok).1 hl 11 ⟨1, 0, 401⟩ h1 (by show 0 ≤ 16; omega)
  have hlen : 0 < (toks s true 0).length := (toks_closed s 0).1
  obtain ⟨m, hm⟩ : ∃ m, (toks s true 0).length = m + 1 := ⟨(toks s true 0).length - 1, by omega⟩
  have hat := toks_at s true 0
  unfold readP sumP
  have hat0 : atomP s (toks s true 0) 12 ⟨0, 0, 401⟩ = notP (tk (toks s true 0) 0).at_ (atomP s (toks s true 0) 11 ⟨1, 0, 401⟩) := by
    rw [atomP, if_neg (by show ¬ (tk (toks s true 0) 0).kind = 2; rw [k1]; decide), if_pos (show (tk (toks s true 0) 0).kind = 7 from k1)]
  by_cases hc : depC c ≤ 11 ∧ atsC c ≤ 16
  · have e1 := hI.1 ⟨hc.1, by show 0 + atsC c ≤ 16; omega⟩
    rw [e1] at hat0
    unfold notP at hat0
    simp only [hT, if_false, Bool.false_eq_true] at hat0
    have e2 : partP (toks s true 0) (atomP s (toks s true 0) 12) ⟨0, 0, 401⟩ = .ok (.scope (treeC c), ⟨1 + (syms c).length, 0 + atsC c, min 401 (tk (toks s true 0) 0).at_⟩) := by
      unfold partP
      rw [hat0]
      simp only
      rw [starLoop_stop _ _ _ (by rw [h2']; decide)]
    have e3 : seqP (toks s true 0) (atomP s (toks s true 0) 12) ⟨0, 0, 401⟩ = .ok (.scope (treeC c), ⟨1 + (syms c).length, 0 + atsC c, min 401 (tk (toks s true 0) 0).at_⟩) := by
      unfold seqP
      rw [hm, listP, e2]
      simp only
      rw [if_neg (by rw [h2']; decide)]
      rfl
    have e4 : joinP 0 (listP (toks s true 0) 4 (seqP (toks s true 0) (atomP s (toks s true 0) 12)) (toks s true 0).length ⟨0, 0, 401⟩) = .ok (.scope (treeC c), ⟨1 + (syms c).length, 0 + atsC c, min 401 (tk (toks s true 0) 0).at_⟩) := by
      rw [hm, listP, e3]
      simp only
      rw [if_neg (by rw [h2']; decide)]
      rfl
    rw [e4]
    simp only [h2', if_true]
    rw [if_neg (by have := Nat.min_le_right 401 (tk (toks s true 0) 0).at_; omega)]
    exact ⟨6, _, .inr (.inr rfl), rfl⟩
  · obtain ⟨p, e1⟩ := hI.2 (fun k => hc ⟨k.1, by have k2 : 0 + atsC c ≤ 16 := k.2; omega⟩)
    rw [e1] at hat0
    have e2 : partP (toks s true 0) (atomP s (toks s true 0) 12) ⟨0, 0, 401⟩ = .error (7, p) := by unfold partP; rw [hat0]; rfl
    have e3 : seqP (toks s true 0) (atomP s (toks s true 0) 12) ⟨0, 0, 401⟩ = .error (7, p) := by unfold seqP; rw [hm, listP, e2]; rfl
    have e4 : joinP 0 (listP (toks s true 0) 4 (seqP (toks s true 0) (atomP s (toks s true 0) 12)) (toks s true 0).length ⟨0, 0, 401⟩) = .error (7, p) := by rw [hm, listP, e3]; rfl
    rw [e4]
    exact ⟨7, p, .inr (.inl rfl), rfl⟩
end
section
variable {a b : ByteArray} {t u : Code}
def brkL (l : List UInt8) : List UInt8 := 40 :: (l ++ [41])
theorem lex_brk {l r : List UInt8} {xs : List Sym} (h : lexN l = xs ++ [(0, [])]) : lexN (40 :: (l ++ 41 :: r)) = (8, []) :: (xs ++ (9, []) :: lexN r) := by
  rw [lexN_sign _ (.inl ⟨rfl, rfl⟩), lexN_append (alone_of (.inr (.inl rfl))) r l xs h, lexN_sign r (.inr (.inl ⟨rfl, rfl⟩))]
theorem read_sum (ha : readS a = .ok t) (hb : readS b = .ok u) (s : ByteArray) (hs : s.data.toList = 40 :: (a.data.toList ++ 41 :: 43 :: 40 :: (b.data.toList ++ [41]))) : readS s = .ok (.block 0 (chain [t, u])) ∨ ∃ e p, (e = 2 ∨ e = 7) ∧ readS s = .error (e, p) := by
  obtain ⟨ca, rfl, a2, a3, _⟩ := read_to a ha
  obtain ⟨cb, rfl, b2, b3, _⟩ := read_to b hb
  refine (read_of s (c := .sm (.brk ca) (.brk cb)) ⟨by simp [lvl], by simp [lvl], a2, b2⟩ ?_).2
  rw [hs, lex_brk a3, lexN_sign _ (.inr (.inr (.inl ⟨rfl, rfl⟩))), lex_brk b3, lexN_nil]
  simp [syms]
theorem read_seq (ha : readS a = .ok t) (hb : readS b = .ok u) (s : ByteArray) (hs : s.data.toList = 40 :: (a.data.toList ++ 41 :: 59 :: 40 :: (b.data.toList ++ [41]))) : readS s = .ok (.block 1 (chain [t, u])) ∨ ∃ e p, (e = 2 ∨ e = 7) ∧ readS s = .error (e, p) := by
  obtain ⟨ca, rfl, a2, a3, _⟩ := read_to a ha
  obtain ⟨cb, rfl, b2, b3, _⟩ := read_to b hb
  refine (read_of s (c := .sq (.brk ca) (.brk cb)) ⟨by simp [lvl], by simp [lvl], a2, b2⟩ ?_).2
  rw [hs, lex_brk a3, lexN_sign _ (.inr (.inr (.inr (.inl ⟨rfl, rfl⟩)))), lex_brk b3, lexN_nil]
  simp [syms]
theorem read_star (ha : readS a = .ok t) (s : ByteArray) (hs : s.data.toList = 40 :: (a.data.toList ++ [41, 42])) : readS s = .ok (.loop t) ∨ ∃ e p, (e = 2 ∨ e = 7) ∧ readS s = .error (e, p) := by
  obtain ⟨ca, rfl, a2, a3, _⟩ := read_to a ha
  refine (read_of s (c := .star (.brk ca)) ⟨by simp [lvl], a2⟩ ?_).2
  rw [hs, lex_brk a3, lexN_sign _ (.inr (.inr (.inr (.inr (.inl ⟨rfl, rfl⟩))))), lexN_nil]
  simp [syms]
theorem read_neg (ha : readS a = .ok t) (s : ByteArray) (hs : s.data.toList = 33 :: 40 :: (a.data.toList ++ [41])) : (readS s = .ok (.scope t) ∧ isT t = true) ∨ ∃ e p, (e = 2 ∨ e = 7 ∨ e = 6) ∧ readS s = .error (e, p) := by
  obtain ⟨ca, rfl, a2, a3, _⟩ := read_to a ha
  have hl : lexN s.data.toList = (7, []) :: (syms (.brk ca) ++ [(0, [])]) := by
    rw [hs, lexN_sign _ (.inr (.inr (.inr (.inr (.inr ⟨rfl, rfl⟩))))), lex_brk a3, lexN_nil]
    simp [syms]
  by_cases hT : isT (treeC ca) = true
  · rcases (read_of s (c := .neg (.brk ca)) ⟨rfl, a2, hT⟩ hl).2 with h | ⟨e, p, h1, h2⟩
    · exact .inl ⟨h, hT⟩
    · exact .inr ⟨e, p, h1.elim .inl (fun h => .inr (.inl h)), h2⟩
  · exact .inr (read_not s (c := .brk ca) a2 rfl (by show isT (treeC ca) = false; simpa using hT) hl)
end
end Go.Proofs.YtlhkfafdioakeaaGreatDoor
