/- GRefY: several parts, each with what it proves in plain words at its head. -/
import Derived.Test.YtlhkfafdioakeaaGreatDoorRefB
import Derived.Test.YtlhkfafdioakeaaGreatDoorGRefM
import Derived.Test.YtlhkfafdioakeaaGreatDoorGRefT
import Derived.Test.YtlhkfafdioakeaaGreatDoorGRefA
import Derived.Test.YtlhkfafdioakeaaGreatDoorGText
/- Proved here: the document's Read, of any text: the tree, or the error and its place, that a plain function says. -/
namespace Go.Proofs.YtlhkfafdioakeaaGreatDoor
open Go.RowKit Go.Weft
theorem rread_any (s : ByteArray) (w : World) (hs : s.size ≤ 9223372036854775807) : Calls Tryz.prog 15 #[.string s] w (OutRR (readS s) w) :=
  rread_given s w hs (fun h => rtokens_any s w h)
end Go.Proofs.YtlhkfafdioakeaaGreatDoor
/- Plain facts: how the document writes a tree, and that this is how the program writes it. -/
namespace Go.Proofs.YtlhkfafdioakeaaGreatDoor
open Go.RowKit Go.Weft
set_option linter.unusedVariables false
set_option linter.unusedSimpArgs false
/-- A tree as the document writes it, within a kind; and the parts of a chain so. -/
def rtxP : Code → (Int → List UInt8) × List (Int → List UInt8)
  | .exit n => (fun _ => rleafT n, [])
  | .loop t => (fun _ => (rtxP t).1 42 ++ [42], [])
  | .scope t => (fun _ => 33 :: (rtxP t).1 33, [])
  | .block k l => (fun wi => if k = 0 then brS wi (Lib.join ((rtxP l).2.map fun f => f 0) [32, 43, 32]) else brR wi (Lib.join ((rtxP l).2.map fun f => f 59) [59]), [])
  | .seq a l => (fun _ => [], (rtxP a).1 :: (rtxP l).2)
  | _ => (fun _ => [], [])
def rtx (t : Code) (wi : Int) : List UInt8 := (rtxP t).1 wi
theorem rtxP_elems (l : Code) : (rtxP l).2 = (elems l).map rtx := by
  induction l with
  | seq a b _ ih => simp only [rtxP, elems, List.map_cons, ih]; rfl
  | _ => rfl
theorem join_nil (sep : List UInt8) : Lib.join [] sep = [] := by simp [Lib.join]
theorem join_two (x y : List UInt8) (r : List (List UInt8)) (sep : List UInt8) : Lib.join (x :: y :: r) sep = x ++ sep ++ Lib.join (y :: r) sep := by simp [Lib.join, List.intercalate]
theorem join_snoc (sep : List UInt8) : ∀ (l : List (List UInt8)) (x : List UInt8), Lib.join (l ++ [x]) sep = Lib.join l sep ++ ((if 0 < l.length then sep else []) ++ x)
  | [], x => by simp [join_nil, Lib.join_one]
  | [y], x => by rw [List.singleton_append, join_two, Lib.join_one, Lib.join_one]; simp
  | y :: z :: r, x => by
    have ih := join_snoc sep (z :: r) x
    rw [List.cons_append, List.cons_append, join_two, join_two, ← List.cons_append, ih]
    simp
theorem joinTo_join (sep : List UInt8) (tx : Nat → List UInt8) : ∀ n, joinTo sep tx n = Lib.join ((List.range n).map tx) sep
  | 0 => by simp [joinTo, join_nil]
  | n + 1 => by rw [joinTo, joinTo_join sep tx n, List.range_succ, List.map_append, List.map_singleton, join_snoc]; simp
theorem join_append (sep : List UInt8) : ∀ (a b : List (List UInt8)), a ≠ [] → b ≠ [] → Lib.join (a ++ b) sep = Lib.join a sep ++ sep ++ Lib.join b sep
  | [], _, h, _ => absurd rfl h
  | [x], [], _, h => absurd rfl h
  | [x], y :: r, _, _ => by rw [List.singleton_append, join_two, Lib.join_one]
  | x :: y :: r, b, _, hb => by
    rw [List.cons_append, List.cons_append, join_two, ← List.cons_append, join_append sep (y :: r) b (by simp) hb, join_two]
    simp
theorem join_flat (sep : List UInt8) : ∀ (l : List (List (List UInt8))), (∀ x, x ∈ l → x ≠ []) → Lib.join l.flatten sep = Lib.join (l.map fun x => Lib.join x sep) sep
  | [], _ => by simp
  | [x], _ => by simp [Lib.join_one]
  | x :: y :: r, h => by
    have ih := join_flat sep (y :: r) (fun z hz => h z (by simp [hz]))
    have hx := h x (by simp)
    have hy : (y :: r).flatten ≠ [] := by
      have := h y (by simp)
      cases y with
      | nil => exact absurd rfl this
      | cons a b => simp
    rw [List.flatten_cons, join_append sep x _ hx hy, ih]
    simp only [List.map_cons]
    rw [join_two]
/-- Trees as they come from a text without errors; and their chains. -/
def niceP : Code → Bool × Bool
  | .exit n => (decide (n < 2 + 2 * 192), false)
  | .loop t => ((niceP t).1, false)
  | .scope t => (isT t && (niceP t).1, false)
  | .block k l => (decide (k ≤ 1) && (decide (2 ≤ (elems l).length) && (niceP l).2), false)
  | .seq a l => (false, (niceP a).1 && (niceP l).2)
  | .skip => (false, true)
  | _ => (false, false)
def nice (t : Code) : Bool := (niceP t).1
theorem nice_elems : ∀ l : Code, (niceP l).2 = true → ∀ t, t ∈ elems l → nice t = true
  | .skip, _, t, ht => by cases ht
  | .seq a b, h, t, ht => by
    have h' : ((niceP a).1 && (niceP b).2) = true := h
    rw [Bool.and_eq_true] at h'
    rcases List.mem_cons.1 (show t ∈ a :: elems b from ht) with rfl | ht
    · exact h'.1
    · exact nice_elems b h'.2 t ht
theorem nice_wf : ∀ t : Code, ((niceP t).1 = true → (wfC t).1 = true) ∧ ((niceP t).2 = true → (wfC t).2 = true) := by
  intro t
  induction t with
  | exit n => exact ⟨fun _ => rfl, fun h => by cases h⟩
  | skip => exact ⟨fun h => (by cases h), fun _ => rfl⟩
  | loop t ih => exact ⟨fun h => ih.1 h, fun h => by cases h⟩
  | scope t ih => exact ⟨fun h => ih.1 ((Bool.and_eq_true _ _ ▸ (show (isT t && (niceP t).1) = true from h)).2), fun h => by cases h⟩
  | block k l ih =>
    refine ⟨fun h => ?_, fun h => by cases h⟩
    have h' : (decide (k ≤ 1) && (decide (2 ≤ (elems l).length) && (niceP l).2)) = true := h
    rw [Bool.and_eq_true, Bool.and_eq_true] at h'
    exact ih.2 h'.2.2
  | seq a b iha ihb =>
    refine ⟨fun h => (by cases h), fun h => ?_⟩
    have h' : ((niceP a).1 && (niceP b).2) = true := h
    rw [Bool.and_eq_true] at h'
    show ((wfC a).1 && (wfC b).2) = true
    rw [iha.1 h'.1, ihb.2 h'.2]
    rfl
  | _ => exact ⟨fun h => (by cases h), fun h => by cases h⟩
theorem flatP_elems : ∀ l : Code, (niceP l).2 = true → (flatP l).2 = (elems l).map flat
  | .skip, _ => rfl
  | .seq a b, h => by
    have h' : ((niceP a).1 && (niceP b).2) = true := h
    rw [Bool.and_eq_true] at h'
    show (flatP a).1 :: (flatP b).2 = flat a :: (elems b).map flat
    rw [flatP_elems b h'.2]
    rfl
theorem elems_chain : ∀ l : List Code, elems (chain l) = l
  | [] => rfl
  | t :: l => by show t :: elems (chain l) = _; rw [elems_chain l]
theorem rleaf_leaf (n : Nat) (hn : n < 2 + 2 * 192) : rleafT n = leafT n := by
  have : ∀ n, n < 386 → rleafT n = leafT n := by decide +kernel
  exact this n hn
def inK (k : Nat) : Int := if k = 0 then 0 else 59
def brK (k : Nat) (wi : Int) (l : List UInt8) : List UInt8 := if k = 0 then brS wi l else brR wi l
theorem rtx_block (k : Nat) (l : Code) (wi : Int) : rtx (.block k l) wi = brK k wi (Lib.join ((elems l).map fun t => rtx t (inK k)) (sepC k)) := by
  show (if k = 0 then brS wi (Lib.join ((rtxP l).2.map fun f => f 0) [32, 43, 32]) else brR wi (Lib.join ((rtxP l).2.map fun f => f 59) [59])) = _
  rw [rtxP_elems]
  unfold brK inK sepC
  by_cases hk : k = 0
  · simp only [if_pos hk, List.map_map]; rfl
  · simp only [if_neg hk, List.map_map]; rfl
theorem brK_in (k : Nat) (l : List UInt8) : brK k (inK k) l = l := by
  unfold brK inK
  by_cases hk : k = 0
  · simp only [if_pos hk]; exact brS_no (by omega) l
  · simp only [if_neg hk]; exact brR_no (by omega) l
/-- What a tree is within a sum, a seq, a star or a negation is the same on both sides. -/
def Alike (t : Code) : Prop := rtx (flat t) 0 = brackB (decide (kindC t < 0)) (pt t) ∧ rtx (flat t) 59 = brackB (decide (kindC t < 1)) (pt t) ∧ rtx (flat t) 42 = brackB (decide (kindC t < 2)) (pt t) ∧ (isT t = true → rtx (flat t) 33 = brackB (decide (kindC t < 3)) (pt t))
theorem Alike.inK {t : Code} (h : Alike t) (k : Nat) (hk : k ≤ 1) : rtx (flat t) (inK k) = brackB (decide (kindC t < (k : Int))) (pt t) := by
  rcases (show k = 0 ∨ k = 1 by omega) with rfl | rfl
  · exact h.1
  · exact h.2.1
theorem flatE_ne (k : Nat) (t : Code) (h : ∀ k' l, t = .block k' l → elems l ≠ []) : flatE k t ≠ [] := by
  unfold flatE
  split
  · rename_i k' l
    split
    · exact h k' l rfl
    · simp
  · simp
theorem join_flatE (k : Nat) (t : Code) : Lib.join ((flatE k t).map fun x => rtx x (inK k)) (sepC k) = rtx t (inK k) := by
  unfold flatE
  split
  · rename_i k' l
    by_cases hk : k' = k
    · subst hk
      rw [if_pos rfl, rtx_block, brK_in]
    · rw [if_neg hk, List.map_singleton, Lib.join_one]
  · rw [List.map_singleton, Lib.join_one]
theorem rjoin_many (k : Nat) (l : List Code) (h : 2 ≤ l.length) : rjoin k l = .block k (chain (l.flatMap (flatE k))) := by
  match l, h with
  | a :: b :: r, _ => rfl
/-- No block is empty. -/
def full : Code → Bool × Bool
  | .loop t => ((full t).1, true)
  | .scope t => ((full t).1, true)
  | .block k l => (!(elems l).isEmpty, true)
  | _ => (true, true)
theorem full_rjoin (k : Nat) (l : List Code) (h2 : 2 ≤ l.length) (h : ∀ t, t ∈ l → flatE k t ≠ []) : ∃ es, rjoin k l = .block k (chain es) ∧ es ≠ [] := by
  refine ⟨_, rjoin_many k l h2, ?_⟩
  match l, h2 with
  | a :: b :: r, _ =>
    have := h a (by simp)
    rw [List.flatMap_cons]
    intro e
    exact this (List.append_eq_nil_iff.1 e).1
/-- A tree of a text, flat, is no empty block. -/
theorem flat_ne (t : Code) : nice t = true → ∀ k' l', flat t = .block k' l' → elems l' ≠ [] := by
  have key : ∀ t : Code, ((niceP t).1 = true → ∀ k' l', flat t = .block k' l' → elems l' ≠ []) ∧ ((niceP t).2 = true → ∀ x, x ∈ elems t → ∀ k' l', flat x = .block k' l' → elems l' ≠ []) := by
    intro t
    induction t with
    | exit n => exact ⟨fun _ k' l' e => (by cases e), fun h => by cases h⟩
    | skip => exact ⟨fun h => (by cases h), fun _ x hx => by cases hx⟩
    | loop t ih => exact ⟨fun _ k' l' e => (by cases e), fun h => by cases h⟩
    | scope t ih => exact ⟨fun _ k' l' e => (by cases e), fun h => by cases h⟩
    | block k l ih =>
      refine ⟨fun h k' l' e => ?_, fun h => by cases h⟩
      have h' : (decide (k ≤ 1) && (decide (2 ≤ (elems l).length) && (niceP l).2)) = true := h
      rw [Bool.and_eq_true, Bool.and_eq_true, decide_eq_true_eq, decide_eq_true_eq] at h'
      have e2 : flat (.block k l) = rjoin k ((elems l).map flat) := by show rjoin k (flatP l).2 = _; rw [flatP_elems l h'.2.2]
      rw [e2] at e
      obtain ⟨es, e3, hne⟩ := full_rjoin k ((elems l).map flat) (by simpa using h'.2.1) (by
        intro t ht
        obtain ⟨x, hx, rfl⟩ := List.mem_map.1 ht
        exact flatE_ne k _ (fun k2 l2 e4 => ih.2 h'.2.2 x hx k2 l2 e4))
      rw [e3] at e
      cases e
      rw [elems_chain]
      exact hne
    | seq a b iha ihb =>
      refine ⟨fun h => (by cases h), fun h x hx => ?_⟩
      have h' : ((niceP a).1 && (niceP b).2) = true := h
      rw [Bool.and_eq_true] at h'
      rcases List.mem_cons.1 (show x ∈ a :: elems b from hx) with rfl | hx
      · exact iha.1 h'.1
      · exact ihb.2 h'.2 x hx
    | _ => exact ⟨fun h => (by cases h), fun h => by cases h⟩
  exact (key t).1
theorem alike_any : ∀ t : Code, ((niceP t).1 = true → Alike t) ∧ ((niceP t).2 = true → ∀ x, x ∈ elems t → Alike x) := by
  intro t
  induction t with
  | exit n =>
    refine ⟨fun h => ?_, fun h => by cases h⟩
    have hn : n < 2 + 2 * 192 := by simpa [niceP] using h
    have hk : 4 ≤ kindC (.exit n) := by show 4 ≤ (if n = 0 then (4 : Int) else if n = 1 then 5 else if n % 2 = 0 then 6 else 7); (repeat' split) <;> omega
    have e : ∀ wi, rtx (flat (.exit n)) wi = pt (.exit n) := fun wi => rleaf_leaf n hn
    have nb : ∀ j : Int, j ≤ 4 → brackB (decide (kindC (.exit n) < j)) (pt (.exit n)) = pt (.exit n) := fun j hj => by rw [decide_eq_false (by omega)]; rfl
    exact ⟨by rw [e, nb 0 (by decide)], by rw [e, nb 1 (by decide)], by rw [e, nb 2 (by decide)], fun _ => by rw [e, nb 3 (by decide)]⟩
  | skip => exact ⟨fun h => (by cases h), fun _ x hx => by cases hx⟩
  | loop t ih =>
    refine ⟨fun h => ?_, fun h => by cases h⟩
    have hh := (ih.1 h).2.2.1
    have e : ∀ wi, rtx (flat (.loop t)) wi = pt (.loop t) := fun wi => by
      show rtx (flat t) 42 ++ [42] = brackB (decide (kindC t < 2)) (pt t) ++ [42]
      rw [hh]
    exact ⟨e 0, e 59, e 42, fun h => by cases h⟩
  | scope t ih =>
    refine ⟨fun h => ?_, fun h => by cases h⟩
    have h' : (isT t && (niceP t).1) = true := h
    rw [Bool.and_eq_true] at h'
    have hh := (ih.1 h'.2).2.2.2 h'.1
    have e : ∀ wi, rtx (flat (.scope t)) wi = pt (.scope t) := fun wi => by
      show 33 :: rtx (flat t) 33 = 33 :: brackB (decide (kindC t < 3)) (pt t)
      rw [hh]
    exact ⟨e 0, e 59, e 42, fun _ => e 33⟩
  | block k l ih =>
    refine ⟨fun h => ?_, fun h => by cases h⟩
    have h' : (decide (k ≤ 1) && (decide (2 ≤ (elems l).length) && (niceP l).2)) = true := h
    rw [Bool.and_eq_true, Bool.and_eq_true, decide_eq_true_eq, decide_eq_true_eq] at h'
    have ihl := ih.2 h'.2.2
    have e2 : flat (.block k l) = rjoin k ((elems l).map flat) := by show rjoin k (flatP l).2 = _; rw [flatP_elems l h'.2.2]
    have e3 : ∀ wi, rtx (flat (.block k l)) wi = brK k wi (pt (.block k l)) := by
      intro wi
      rw [e2, rjoin_many k _ (by simpa using h'.2.1), rtx_block, elems_chain]
      congr 1
      rw [show ((elems l).map flat).flatMap (flatE k) = (((elems l).map flat).map (flatE k)).flatten from rfl, List.map_flatten, join_flat]
      · show _ = Lib.join ((ptP l).2.map fun p => brackB (decide (p.1 < (k : Int))) p.2) (sepC k)
        rw [ptP_elems, List.map_map, List.map_map, List.map_map, List.map_map]
        congr 1
        apply List.map_congr_left
        intro x hx
        show Lib.join ((flatE k (flat x)).map fun y => rtx y (inK k)) (sepC k) = brackB (decide (kindC x < (k : Int))) (pt x)
        rw [join_flatE, (ihl x hx).inK k h'.1]
      · intro x hx
        rw [List.map_map, List.map_map] at hx
        obtain ⟨y, hy, rfl⟩ := List.mem_map.1 hx
        have := flatE_ne k (flat y) (flat_ne y (nice_elems l h'.2.2 y hy))
        intro e
        exact this (List.map_eq_nil_iff.1 e)
    have hk : kindC (.block k l) = (k : Int) := rfl
    rcases (show k = 0 ∨ k = 1 by omega) with rfl | rfl
    · have b0 : ∀ wi l, brK 0 wi l = brS wi l := fun _ _ => rfl
      refine ⟨?_, ?_, ?_, fun _ => ?_⟩
      · rw [e3, hk, b0, decide_eq_false (by decide), brS_no (wi := 0) (by decide)]; rfl
      · rw [e3, hk, b0, decide_eq_true (by decide), brS_yes (wi := 59) (by decide)]; rfl
      · rw [e3, hk, b0, decide_eq_true (by decide), brS_yes (wi := 42) (by decide)]; rfl
      · rw [e3, hk, b0, decide_eq_true (by decide), brS_yes (wi := 33) (by decide)]; rfl
    · have b1 : ∀ wi l, brK 1 wi l = brR wi l := fun _ _ => rfl
      refine ⟨?_, ?_, ?_, fun _ => ?_⟩
      · rw [e3, hk, b1, decide_eq_false (by decide), brR_no (wi := 0) (by decide)]; rfl
      · rw [e3, hk, b1, decide_eq_false (by decide), brR_no (wi := 59) (by decide)]; rfl
      · rw [e3, hk, b1, decide_eq_true (by decide), brR_yes (wi := 42) (by decide)]; rfl
      · rw [e3, hk, b1, decide_eq_true (by decide), brR_yes (wi := 33) (by decide)]; rfl
  | seq a b iha ihb =>
    refine ⟨fun h => (by cases h), fun h x hx => ?_⟩
    have h' : ((niceP a).1 && (niceP b).2) = true := h
    rw [Bool.and_eq_true] at h'
    rcases List.mem_cons.1 (show x ∈ a :: elems b from hx) with rfl | hx
    · exact iha.1 h'.1
    · exact ihb.2 h'.2 x hx
  | _ => exact ⟨fun h => (by cases h), fun h => by cases h⟩
/-- The document writes a tree of a text as the program does. -/
theorem rtx_pt {t : Code} (h : nice t = true) (hk : 0 ≤ kindC t) : rtx (flat t) 0 = pt t := by
  rw [((alike_any t).1 h).1, decide_eq_false (by omega)]
  rfl
theorem kind_pos (t : Code) : 0 ≤ kindC t := by
  cases t <;> simp only [kindC] <;> (repeat' split) <;> omega
end Go.Proofs.YtlhkfafdioakeaaGreatDoor
/- Plain facts: what is read from a text without error is nice: leaves are in range, negations are of tests, groups have two parts or more. -/
namespace Go.Proofs.YtlhkfafdioakeaaGreatDoor
open Go.RowKit Go.Weft
set_option linter.unusedVariables false
set_option linter.unusedSimpArgs false
def Ni (p : St → Except (Int × Nat) (Code × St)) : Prop := ∀ st t st', p st = .ok (t, st') → st'.bad = 401 → st.bad = 401 ∧ nice t = true
theorem nice_chain : ∀ l : List Code, (∀ t, t ∈ l → nice t = true) → (niceP (chain l)).2 = true
  | [], _ => rfl
  | t :: l, h => by
    show ((niceP t).1 && (niceP (chain l)).2) = true
    rw [show (niceP t).1 = true from h t (by simp), nice_chain l (fun x hx => h x (by simp [hx]))]
    rfl
theorem nice_join (k : Nat) (hk : k ≤ 1) (l : List Code) (hl : l ≠ []) (h : ∀ t, t ∈ l → nice t = true) : nice (joinC k l) = true := by
  match l, hl with
  | [t], _ => exact h t (by simp)
  | a :: b :: l, _ =>
    show (decide (k ≤ 1) && (decide (2 ≤ (elems (chain (a :: b :: l))).length) && (niceP (chain (a :: b :: l))).2)) = true
    rw [elems_chain, nice_chain _ h, decide_eq_true hk, decide_eq_true (by simp)]
    rfl
theorem fieldNo_lt {b : List UInt8} {f : Nat} (h : fieldNo b = some f) : f < 6 := by
  unfold fieldNo at h
  repeat' split at h
  all_goals first | (cases h; done) | (simp only [Option.some.injEq] at h; omega)
section
variable {s : ByteArray} {ts : List Tok}
theorem ni_pair (f : Nat) (hf : f < 6) : Ni (pairP s ts f) := by
  intro st t st' h hb
  unfold pairP at h
  by_cases b1 : f = 0 ∧ (tk ts (st.i + 1)).kind = 11
  · rw [if_pos b1] at h; cases h
  rw [if_neg b1] at h
  by_cases b2 : st.atoms = 16
  · rw [if_pos b2] at h; cases h
  rw [if_neg b2] at h
  by_cases b3 : ¬ (tk ts (st.i + 1)).kind = 10 ∧ ¬ (tk ts (st.i + 1)).kind = 11
  · rw [if_pos b3] at h; cases h
  rw [if_neg b3] at h
  by_cases b4 : ¬ (tk ts (st.i + 2)).kind = 3
  · rw [if_pos b4] at h; cases h
  rw [if_neg b4] at h
  by_cases b5 : 31 < numVal (txt s (tk ts (st.i + 2)))
  · rw [if_pos b5] at h; cases h
  rw [if_neg b5] at h
  cases h
  refine ⟨hb, ?_⟩
  have nl : ∀ m, m < 2 + 2 * 192 → nice (.exit m) = true := fun m hm => decide_eq_true hm
  generalize numVal (txt s (tk ts (st.i + 2))) = z at b5 ⊢
  unfold leafC
  split
  · exact nl _ (by omega)
  · exact nl _ (by omega)
theorem ni_word : Ni (wordP s ts) := by
  intro st t st' h hb
  unfold wordP at h
  split at h
  · cases h; exact ⟨hb, rfl⟩
  · split at h
    · cases h; exact ⟨hb, rfl⟩
    · split at h
      · cases h
      · rename_i f hf
        exact ni_pair f (fieldNo_lt hf) st t st' h hb
theorem ni_star : ∀ n t i, nice t = true → nice (starLoop ts n t i).1 = true
  | 0, t, i, h => h
  | n + 1, t, i, h => by
    rw [starLoop]
    split
    · exact ni_star n (.loop t) (i + 1) h
    · exact h
theorem ni_part {p : St → Except (Int × Nat) (Code × St)} (h : Ni p) : Ni (partP ts p) := by
  intro st t st' hp hb
  unfold partP at hp
  split at hp
  · cases hp
  · rename_i t1 st1 e1
    cases hp
    have := h st t1 st1 e1 hb
    exact ⟨this.1, ni_star _ _ _ this.2⟩
theorem ni_list {p : St → Except (Int × Nat) (Code × St)} (h : Ni p) (sep : Int) : ∀ n st l st', listP ts sep p n st = .ok (l, st') → st'.bad = 401 → st.bad = 401 ∧ ∀ t, t ∈ l → nice t = true
  | 0, st, l, st', hp, hb => by
    rw [listP] at hp
    cases hp
    exact ⟨hb, fun t ht => by cases ht⟩
  | n + 1, st, l, st', hp, hb => by
    rw [listP] at hp
    split at hp
    · cases hp
    · rename_i t1 st1 e1
      split at hp
      · split at hp
        · cases hp
        · rename_i l2 st2 e2
          cases hp
          have g2 := ni_list h sep n _ l2 _ e2 hb
          have h1 := h st t1 st1 e1 g2.1
          refine ⟨h1.1, fun t ht => ?_⟩
          rcases List.mem_cons.1 ht with rfl | ht
          · exact h1.2
          · exact g2.2 t ht
      · cases hp
        have h1 := h st t1 _ e1 hb
        refine ⟨h1.1, fun t ht => ?_⟩
        rcases List.mem_cons.1 ht with rfl | ht
        · exact h1.2
        · cases ht
theorem ni_joinP {k : Nat} (hk : k ≤ 1) {p : St → Except (Int × Nat) (Code × St)} (hp : Ni p) (sep : Int) (h0 : 0 < ts.length) : Ni (fun st => joinP k (listP ts sep p ts.length st)) := by
  intro st t st' h hb
  obtain ⟨l, hl, rfl⟩ := goes_join h
  have g := ni_list hp sep _ st l st' hl hb
  exact ⟨g.1, nice_join k hk l (list_ne h0 hl) g.2⟩
theorem ni_atom (h0 : 0 < ts.length) (ha : ∀ i, (tk ts i).at_ ≤ 400) : ∀ d, Ni (atomP s ts d) := by
  intro d
  induction d with
  | zero =>
    intro st t st' h hb
    unfold atomP at h
    split at h
    · exact ni_word st t st' h hb
    · repeat' split at h
      all_goals cases h
  | succ d ih =>
    intro st t st' h hb
    unfold atomP at h
    split at h
    · exact ni_word st t st' h hb
    · split at h
      · unfold notP at h
        split at h
        · cases h
        · rename_i t1 st1 e1
          cases h
          have := ha st.i
          by_cases hT : isT t1 = true
          · have g := ih _ t1 st1 e1 (by simp only [hT, if_true] at hb; exact hb)
            refine ⟨g.1, ?_⟩
            show (isT t1 && (niceP t1).1) = true
            rw [hT, show (niceP t1).1 = true from g.2]
            rfl
          · exfalso
            simp only [hT, if_false] at hb
            have h2 : min st1.bad (tk ts st.i).at_ ≤ (tk ts st.i).at_ := Nat.min_le_right _ _
            have hb' : min st1.bad (tk ts st.i).at_ = 401 := by simpa using hb
            omega
      · split at h
        · unfold brackP at h
          split at h
          · cases h
          · rename_i t1 st1 e1
            split at h
            · cases h
              have g := (ni_joinP (k := 0) (by decide) (ni_joinP (k := 1) (by decide) (ni_part ih) 5 h0) 4 h0) _ _ st1 e1 hb
              exact g
            · cases h
        · cases h
end
theorem readS_nice {s : ByteArray} {t : Code} (h : readS s = .ok t) : nice t = true ∧ wt t ≤ 7300 := by
  unfold readS at h
  split at h
  · cases h
  · rename_i hs
    have hcl := toks_closed s 0
    have hlen := toks_len s true
    unfold readP at h
    split at h
    · cases h
    · rename_i t1 st1 e1
      have g := (wt_joinP (k := 0) (wt_joinP (k := 1) (wt_part (wt_atom (s := s) hcl.1 12)) 5 hcl.1) 4 hcl.1) _ t1 st1 e1
      have g2 := goes_sum hcl (goes_atom (s := s) hcl 12) _ t1 st1 hcl.1 (by simp) e1
      have g3 := (ni_joinP (k := 0) (by decide) (ni_joinP (k := 1) (by decide) (ni_part (ni_atom (s := s) hcl.1 (fun i => Nat.le_trans (toks_at s true i) (by omega)) 12)) 5 hcl.1) 4 hcl.1) _ t1 st1 e1
      split at h
      · split at h
        · rename_i hb
          cases h
          simp at g
          exact ⟨(g3 hb).2, by omega⟩
        · cases h
      · cases h
/-- Taking groups into groups makes no tree weigh more, and keeps its leaves. -/
def lfC : Code → Bool
  | .exit n => decide (n < 2 + 2 * 192)
  | .loop t => lfC t
  | .scope t => lfC t
  | .block _ l => lfC l
  | .seq a l => lfC a && lfC l
  | _ => true
theorem lf_chain : ∀ l : List Code, lfC (chain l) = l.all lfC
  | [] => rfl
  | t :: l => by show (lfC t && lfC (chain l)) = _; rw [lf_chain l]; rfl
theorem lf_elems : ∀ l : Code, (wfC l).2 = true → (elems l).all lfC = lfC l
  | .skip, _ => rfl
  | .seq a b, h => by
    have h' : ((wfC a).1 && (wfC b).2) = true := h
    rw [Bool.and_eq_true] at h'
    show (a :: elems b).all lfC = (lfC a && lfC b)
    rw [List.all_cons, lf_elems b h'.2]
theorem wt_sum : ∀ l : Code, (wfC l).2 = true → ((elems l).map fun t => wt t + 6).sum = wt l
  | .skip, _ => rfl
  | .seq a b, h => by
    have h' : ((wfC a).1 && (wfC b).2) = true := h
    rw [Bool.and_eq_true] at h'
    show ((a :: elems b).map fun t => wt t + 6).sum = wt a + wt b + 6
    rw [List.map_cons, List.sum_cons, wt_sum b h'.2]
    omega
theorem flatE_facts (k : Nat) (t : Code) (h : (wfC t).1 = true) : (flatE k t).all lfC = lfC t ∧ ((flatE k t).map fun t => wt t + 6).sum ≤ wt t + 6 := by
  unfold flatE
  split
  · rename_i k' l
    split
    · exact ⟨lf_elems l h, by rw [wt_sum l h]; simp [wt]⟩
    · simp
  · simp
theorem flatM_facts (k : Nat) : ∀ l : List Code, (∀ t, t ∈ l → (wfC t).1 = true) → (l.flatMap (flatE k)).all lfC = l.all lfC ∧ ((l.flatMap (flatE k)).map fun t => wt t + 6).sum ≤ (l.map fun t => wt t + 6).sum
  | [], _ => ⟨rfl, by simp⟩
  | t :: l, h => by
    have h1 := flatE_facts k t (h t (by simp))
    have h2 := flatM_facts k l (fun x hx => h x (by simp [hx]))
    rw [List.flatMap_cons, List.all_append, List.all_cons, h1.1, h2.1, List.map_append, List.sum_append, List.map_cons, List.sum_cons]
    exact ⟨rfl, by omega⟩
theorem rjoin_facts (k : Nat) (l : List Code) (h : ∀ t, t ∈ l → (wfC t).1 = true) : lfC (rjoin k l) = l.all lfC ∧ wt (rjoin k l) ≤ (l.map fun t => wt t + 6).sum := by
  unfold rjoin
  split
  · exact ⟨by simp, by simp⟩
  · have h1 := flatM_facts k l h
    exact ⟨(lf_chain _).trans h1.1, by show wt (chain _) ≤ _; rw [wt_chain]; exact h1.2⟩
theorem flat_lw : ∀ t : Code, ((wfC t).1 = true → lfC (flatP t).1 = lfC t ∧ wt (flatP t).1 ≤ wt t) ∧ ((wfC t).2 = true → (flatP t).2.all lfC = lfC t ∧ ((flatP t).2.map fun t => wt t + 6).sum ≤ wt t) := by
  intro t
  induction t with
  | exit n => exact ⟨fun _ => ⟨rfl, Nat.le_refl _⟩, fun h => by cases h⟩
  | skip => exact ⟨fun h => (by cases h), fun _ => ⟨rfl, Nat.le_refl _⟩⟩
  | loop t ih => exact ⟨fun h => ⟨(ih.1 h).1, Nat.add_le_add_right (ih.1 h).2 4⟩, fun h => by cases h⟩
  | scope t ih => exact ⟨fun h => ⟨(ih.1 h).1, Nat.add_le_add_right (ih.1 h).2 4⟩, fun h => by cases h⟩
  | block k l ih =>
    refine ⟨fun h => ?_, fun h => by cases h⟩
    have hl := ih.2 h
    have hw := ((flat_facts l).2 h).2
    have hr := rjoin_facts k _ hw
    exact ⟨hr.1.trans hl.1, Nat.le_trans hr.2 hl.2⟩
  | seq a b iha ihb =>
    refine ⟨fun h => (by cases h), fun h => ?_⟩
    have h' : ((wfC a).1 && (wfC b).2) = true := h
    rw [Bool.and_eq_true] at h'
    have ha := iha.1 h'.1
    have hb := ihb.2 h'.2
    refine ⟨?_, ?_⟩
    · show ((flatP a).1 :: (flatP b).2).all lfC = (lfC a && lfC b)
      rw [List.all_cons, ha.1, hb.1]
    · show (((flatP a).1 :: (flatP b).2).map fun t => wt t + 6).sum ≤ wt a + wt b + 6
      rw [List.map_cons, List.sum_cons]
      omega
  | _ => exact ⟨fun h => (by cases h), fun h => by cases h⟩
theorem nice_lf : ∀ t : Code, ((niceP t).1 = true → lfC t = true) ∧ ((niceP t).2 = true → lfC t = true) := by
  intro t
  induction t with
  | exit n => exact ⟨fun h => h, fun h => by cases h⟩
  | skip => exact ⟨fun h => (by cases h), fun _ => rfl⟩
  | loop t ih => exact ⟨fun h => ih.1 h, fun h => by cases h⟩
  | scope t ih => exact ⟨fun h => ih.1 ((Bool.and_eq_true _ _ ▸ (show (isT t && (niceP t).1) = true from h)).2), fun h => by cases h⟩
  | block k l ih =>
    refine ⟨fun h => ?_, fun h => by cases h⟩
    have h' : (decide (k ≤ 1) && (decide (2 ≤ (elems l).length) && (niceP l).2)) = true := h
    rw [Bool.and_eq_true, Bool.and_eq_true] at h'
    exact ih.2 h'.2.2
  | seq a b iha ihb =>
    refine ⟨fun h => (by cases h), fun h => ?_⟩
    have h' : ((niceP a).1 && (niceP b).2) = true := h
    rw [Bool.and_eq_true] at h'
    show (lfC a && lfC b) = true
    rw [iha.1 h'.1, ihb.2 h'.2]
    rfl
  | _ => exact ⟨fun h => (by cases h), fun h => by cases h⟩
theorem flat_ready {t : Code} (h : nice t = true) : lfC (flat t) = true ∧ wt (flat t) ≤ wt t := by
  have h1 := (flat_lw t).1 ((nice_wf t).1 h)
  exact ⟨h1.1.trans ((nice_lf t).1 h), h1.2⟩
end Go.Proofs.YtlhkfafdioakeaaGreatDoor
/- Proved here: how the document's printer writes any tree; what its Print answers for any text. -/
namespace Go.Proofs.YtlhkfafdioakeaaGreatDoor
open Go.RowKit Go.Weft
set_option linter.unusedVariables false
set_option linter.unusedSimpArgs false
theorem rleafT_len (n : Nat) (hn : n < 2 + 2 * 192) : (rleafT n).length ≤ 12 := by rw [rleaf_leaf n hn]; exact leafT_len n hn
theorem brK_len (k : Nat) (wi : Int) (l : List UInt8) : (brK k wi l).length ≤ l.length + 2 := by
  unfold brK brS brR
  repeat' split
  all_goals simp
/-- A tree in memory has a print no longer than its weight (with two brackets). -/
theorem rtx_len {ok : Nat → Prop} {w : World} : ∀ t, lfC t = true → (∀ v, (RV ok w t).1 v → 12 ≤ wt t ∧ ∀ wi, (rtx t wi).length ≤ wt t + 2) ∧ (∀ g i n, (RV ok w t).2 g i n → 18 * n ≤ wt t ∧ ∀ wi, (((elems t).map fun p => (rtx p wi).length + 3).sum ≤ wt t)) := by
  intro t
  induction t with
  | exit n => intro hl; exact ⟨fun v h => ⟨Nat.le_refl _, fun wi => by have := rleafT_len n (by simpa [lfC] using hl); show (rleafT n).length ≤ 12 + 2; omega⟩, fun _ _ _ h => h.elim⟩
  | loop t ih =>
    intro hl
    refine ⟨fun v h => ?_, fun _ _ _ h => h.elim⟩
    obtain ⟨b, g, cap, x, _, _, _, _, _, h6⟩ := h
    have h1 := (ih hl).1 x h6
    refine ⟨by simp only [wt]; omega, fun wi => ?_⟩
    show (rtx t 42 ++ [42]).length ≤ wt t + 4 + 2
    have := h1.2 42
    simp; omega
  | scope t ih =>
    intro hl
    refine ⟨fun v h => ?_, fun _ _ _ h => h.elim⟩
    obtain ⟨b, g, cap, x, _, _, _, _, _, h6⟩ := h
    have h1 := (ih hl).1 x h6
    refine ⟨by simp only [wt]; omega, fun wi => ?_⟩
    show (33 :: rtx t 33).length ≤ wt t + 4 + 2
    have := h1.2 33
    simp; omega
  | block k l ih =>
    intro hl
    refine ⟨fun v h => ?_, fun _ _ _ h => h.elim⟩
    obtain ⟨b, g, n, cap, _, _, _, _, _, _, h7, _, h9⟩ := h
    have h1 := (ih hl).2 g 0 n h9
    refine ⟨by simp only [wt]; omega, fun wi => ?_⟩
    rw [rtx_block]
    refine Nat.le_trans (brK_len _ _ _) ?_
    have h2 := join_len (sepC k) (by unfold sepC; split <;> simp) ((elems l).map fun t => rtx t (inK k))
    have h3 := h1.2 (inK k)
    rw [List.map_map] at h2
    simp only [wt]
    have h4 : ((elems l).map ((fun x => x.length + 3) ∘ fun t => rtx t (inK k))).sum = ((elems l).map fun p => (rtx p (inK k)).length + 3).sum := rfl
    omega
  | seq a l ih1 ih2 =>
    intro hl
    have hl' : (lfC a && lfC l) = true := hl
    rw [Bool.and_eq_true] at hl'
    refine ⟨fun v h => h.elim, fun g i n h => ?_⟩
    obtain ⟨n', x, rfl, _, h3, h4⟩ := h
    have g1 := (ih1 hl'.1).1 x h3
    have g2 := (ih2 hl'.2).2 g (i + 1) n' h4
    refine ⟨by simp only [wt]; omega, fun wi => ?_⟩
    show ((a :: elems l).map fun p => (rtx p wi).length + 3).sum ≤ wt a + wt l + 6
    have := g1.2 wi
    have := g2.2 wi
    rw [List.map_cons, List.sum_cons]
    omega
  | skip => intro hl; exact ⟨fun v h => h.elim, fun _ _ n h => by simp only [RV] at h; subst h; exact ⟨Nat.le_refl _, fun _ => Nat.le_refl _⟩⟩
  | _ => intro hl; exact ⟨fun v h => h.elim, fun _ _ _ h => h.elim⟩
theorem lf_mem : ∀ l : Code, lfC l = true → ∀ t, t ∈ elems l → lfC t = true
  | .seq a b, h, t, ht => by
    have h' : (lfC a && lfC b) = true := h
    rw [Bool.and_eq_true] at h'
    rcases List.mem_cons.1 (show t ∈ a :: elems b from ht) with rfl | ht
    · exact h'.1
    · exact lf_mem b h'.2 t ht
/-- The parts of a group in memory: how the document writes each. -/
theorem rparts {ok : Nat → Prop} {w : World} {l : Code} {g n : Nat} (wi : Int) (hl : (RV ok w l).2 g 0 n)
    (ih : ∀ t, t ∈ elems l → ∀ v ww, (RV ok ww t).1 v → Calls Tryz.prog 49 #[v, .int .u8 wi] ww fun x w' => x = .returned (strV (rtx t wi)) ∧ ww.grownBy w' none) :
    (elems l).length = n ∧ ∃ bx : Nat → Nat, (∀ j, j < n → w.cell? ⟨g, j, none⟩ = some (ptrV (bx j))) ∧ ∀ j, j < n → ∀ ww, w.grownBy ww none → Calls Tryz.prog 49 #[ptrV (bx j), .int .u8 wi] ww fun x w' => x = .returned (strV (rtx ((elems l).getD j .skip) wi)) ∧ ww.grownBy w' none := by
  obtain ⟨hlen, hel⟩ := RV_elems hl
  refine ⟨hlen, fun j => if h : j < (elems l).length then (RV_ptr (hel j h).choose_spec.2).choose else 0, ?_, ?_⟩
  · intro j hj
    have hj' : j < (elems l).length := by omega
    simp only [dif_pos hj']
    have h1 := (hel j hj').choose_spec
    have h2 := (RV_ptr h1.2).choose_spec
    rw [← h2.1, ← h1.1, Nat.zero_add]
  · intro j hj ww hg
    have hj' : j < (elems l).length := by omega
    simp only [dif_pos hj']
    have h1 := (hel j hj').choose_spec
    have h2 := (RV_ptr h1.2).choose_spec
    have e1 : (elems l).getD j .skip = (elems l)[j]'hj' := by simp [List.getD, hj']
    rw [← h2.1, e1]
    exact ih _ (List.getElem_mem _) _ ww (RV_kept h1.2 hg)
theorem range_getD (l : List Code) (f : Code → List UInt8) : ((List.range l.length).map fun j => f (l.getD j .skip)) = l.map f := by
  apply List.ext_getElem
  · simp
  · intro i h1 h2
    have : i < l.length := by simpa using h2
    simp [List.getD, this]
theorem wt_elems' {t l : Code} (h : t ∈ elems l) : wt t ≤ wt l := by
  induction l with
  | seq a b _ ih =>
    simp only [elems, List.mem_cons] at h
    simp only [wt]
    rcases h with rfl | h
    · omega
    · have := ih h; omega
  | _ => cases h
theorem rtext_any (ok : Nat → Prop) : ∀ (n : Nat) (t : Code) (v : Value) (w : World) (wi : Int), szC t ≤ n → (RV ok w t).1 v → lfC t = true → wt t ≤ 7300 →
    Calls Tryz.prog 49 #[v, .int .u8 wi] w fun x w' => x = .returned (strV (rtx t wi)) ∧ w.grownBy w' none := by
  intro n
  induction n with
  | zero =>
    intro t v w wi hn h hl hw
    cases t with
    | exit m =>
      obtain ⟨b, cs, rfl, _, hnd, hlf⟩ := h
      have hm : m < 2 + 2 * 192 := by simpa [lfC] using hl
      rcases hlf with ⟨_, rfl⟩ | ⟨h2, _⟩
      · exact rtext_leaf b wi m w hm hnd
      · omega
    | loop t => simp [szC] at hn
    | scope t => simp [szC] at hn
    | block k l => simp [szC] at hn
    | _ => exact h.elim
  | succ n ih =>
    intro t v w wi hn h hl hw
    cases t with
    | exit m =>
      obtain ⟨b, cs, rfl, _, hnd, hlf⟩ := h
      have hm : m < 2 + 2 * 192 := by simpa [lfC] using hl
      rcases hlf with ⟨_, rfl⟩ | ⟨h2, _⟩
      · exact rtext_leaf b wi m w hm hnd
      · omega
    | loop t =>
      obtain ⟨b, g, cap, x, rfl, _, hnd, _, hx, hv⟩ := h
      obtain ⟨bx, rfl, _, _⟩ := RV_ptr hv
      simp only [wt] at hw
      simp only [szC] at hn
      exact rtext_star b g cap bx wi (rtx t 42) w hnd hx (World.block_lt_of_cell? w _ hx) (by have := ((rtx_len t hl).1 _ hv).2 42; omega) (fun ww hg => ih t _ ww 42 (by omega) (RV_kept hv hg) hl (by omega))
    | scope t =>
      obtain ⟨b, g, cap, x, rfl, _, hnd, _, hx, hv⟩ := h
      obtain ⟨bx, rfl, _, _⟩ := RV_ptr hv
      simp only [wt] at hw
      simp only [szC] at hn
      exact rtext_not b g cap bx wi (rtx t 33) w hnd hx (World.block_lt_of_cell? w _ hx) (by have := ((rtx_len t hl).1 _ hv).2 33; omega) (fun ww hg => ih t _ ww 33 (by omega) (RV_kept hv hg) hl (by omega))
    | block k l =>
      obtain ⟨b, g, m, cap, rfl, _, hnd, hk, _, hm, _, _, hc⟩ := h
      simp only [wt] at hw
      simp only [szC] at hn
      have hll : lfC l = true := hl
      have h18 := ((rtx_len l hll).2 g 0 m hc).1
      have IH : ∀ wi t, t ∈ elems l → ∀ v ww, (RV ok ww t).1 v → Calls Tryz.prog 49 #[v, .int .u8 wi] ww fun x w' => x = .returned (strV (rtx t wi)) ∧ ww.grownBy w' none := fun wi t ht v ww hv => ih t v ww wi (by have := szC_elems ht; omega) hv (lf_mem l hll t ht) (Nat.le_trans (wt_elems' ht) hw)
      obtain ⟨hlen, bx, hbx, hcalls⟩ := rparts (inK k) hc (IH (inK k))
      have hlens : ∀ j, j < m → (rtx ((elems l).getD j .skip) (inK k)).length ≤ 1000000 := by
        intro j hj
        obtain ⟨x, _, hx⟩ := (RV_elems hc).2 j (by omega)
        have e1 : (elems l).getD j .skip = (elems l)[j]'(by omega) := by simp [List.getD, show j < (elems l).length by omega]
        rw [e1]
        have hme : (elems l)[j]'(by omega) ∈ elems l := List.getElem_mem _
        have := ((rtx_len _ (lf_mem l hll _ hme)).1 x hx).2 (inK k)
        have := wt_elems' hme
        omega
      rcases (show k = 0 ∨ k = 1 by omega) with rfl | rfl
      · have h1 := rtext_sum b g m cap wi (fun j => rtx ((elems l).getD j .skip) (inK 0)) bx w hnd hbx (by omega) hlens hcalls
        rw [joinTo_join, ← hlen, range_getD (elems l) (fun t => rtx t (inK 0))] at h1
        rw [rtx_block]
        exact h1
      · have h1 := rtext_seq b g m cap wi (fun j => rtx ((elems l).getD j .skip) (inK 1)) bx w hnd hbx (by omega) hlens hcalls
        rw [joinTo_join, ← hlen, range_getD (elems l) (fun t => rtx t (inK 1))] at h1
        rw [rtx_block]
        exact h1
    | _ => exact h.elim
set_option maxRecDepth 100000 in
set_option maxHeartbeats 400000 in
theorem rprint_err (s : ByteArray) (w : World) (hs : s.size ≤ 9223372036854775807) (en : Int) (pl : Nat) (hr : readS s = .error (en, pl)) :
    Calls Tryz.prog 12 #[.string s] w fun x w' => x = .returned (.tuple #[strV [], .int .i64 en, .int .i64 pl]) ∧ w.grownBy w' none := by
  have hne := read_errno hr
  have H := rread_any s w hs
  rw [hr] at H
  have HH := hide H
  clear H hr
  go_enter Tryz.func12, Tryz.ntmps12
  go_wp2_with fail
  refine HH.out.mono ?_
  rintro x w1 ⟨hg, rfl⟩
  have G := hide hg
  clear hg
  go_wp2
  go_ret3
  exact ⟨rfl, G.out⟩
set_option maxRecDepth 100000 in
set_option maxHeartbeats 1000000 in
theorem rprint_ok (s : ByteArray) (w : World) (hs : s.size ≤ 9223372036854775807) (t : Code) (hr : readS s = .ok t) :
    Calls Tryz.prog 12 #[.string s] w fun x w' => x = .returned (.tuple #[strV (pt t), .int .i64 0, .int .i64 0]) ∧ w.grownBy w' none := by
  obtain ⟨hni, hw⟩ := readS_nice hr
  obtain ⟨hlf, hwf⟩ := flat_ready hni
  have hpt := rtx_pt hni (kind_pos t)
  have H := rread_any s w hs
  rw [hr] at H
  have HH := hide H
  clear H hr
  go_enter Tryz.func12, Tryz.ntmps12
  go_wp2_with fail
  refine HH.out.mono ?_
  rintro x w1 ⟨hg, b, rfl, ht⟩
  have hT := rtext_any _ (szC (flat t)) (flat t) _ w1 0 (Nat.le_refl _) ht hlf (by omega)
  rw [hpt] at hT
  have HT := hide hT
  have G := hide hg
  clear hg ht hT hpt hni
  unfold ptrV at HT ⊢
  go_wp2_with fail
  refine HT.out.mono ?_
  rintro x w2 ⟨rfl, hg2⟩
  have G2 := hide (grown_trans G.out hg2)
  clear hg2
  go_wp2
  go_ret3
  exact ⟨rfl, G2.out⟩
end Go.Proofs.YtlhkfafdioakeaaGreatDoor
