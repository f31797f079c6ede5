/- Proved here: a list is marked: written full of a mark, made longer thrice, and kept in the books. -/
import Derived.Test.YtlhkfafdioakeaaLkL
import Derived.Deep.RegionHeld3
import Derived.Deep.RegionLaw
import Derived.Deep.RegionLawGrows
namespace Go.Proofs.Ytlhkfafdioakeaa
open Go.RowKit
set_option linter.unusedVariables false
set_option linter.unusedSimpArgs false
theorem Try.infoPs : (Try.prog.info? 23).map (fun i => (i.zero, i.size, i.bytes)) = some (some (.slice none 0 0), 1, 24) := by kernel_rfl
theorem Try.infoInt : (Try.prog.info? 3).map (fun i => (i.zero, i.size, i.bytes)) = some (some (.int .i64 0), 1, 8) := by kernel_rfl
/-- All but some blocks are as they were. -/
def Kp (S : Nat → Prop) (w w' : World) : Prop := w'.os = w.os ∧ w'.tape = w.tape ∧ w'.output = w.output ∧ w.heap.size ≤ w'.heap.size ∧ ∀ b, b < w.heap.size → ¬ S b → w'.heap[b]? = w.heap[b]?
theorem Kp.refl (S : Nat → Prop) (w : World) : Kp S w w := ⟨rfl, rfl, rfl, Nat.le_refl _, fun _ _ _ => rfl⟩
theorem Kp.size {S : Nat → Prop} {w w' : World} (h : Kp S w w') : w.heap.size ≤ w'.heap.size := h.2.2.2.1
theorem Kp.step {S : Nat → Prop} {w w1 w2 : World} {row : Option Nat} (h : Kp S w w1) (k : w1.grownBy w2 row) (hr : ∀ b, row = some b → S b ∨ w.heap.size ≤ b) : Kp S w w2 :=
  ⟨k.os.trans h.1, k.tape.trans h.2.1, k.output.trans h.2.2.1, Nat.le_trans h.size k.size, fun b hb hn => by
    rw [k.block b (Nat.lt_of_lt_of_le hb h.size) (fun e => by
      rcases hr b e.symm with c | c
      · exact hn c
      · omega)]
    exact h.2.2.2.2 b hb hn⟩
theorem Kp.mono {S T : Nat → Prop} {w w' : World} (h : Kp S w w') (hs : ∀ b, b < w.heap.size → S b → T b) : Kp T w w' :=
  ⟨h.1, h.2.1, h.2.2.1, h.2.2.2.1, fun b hb hn => h.2.2.2.2 b hb (fun c => hn (hs b hb c))⟩
theorem Kp.trans {S : Nat → Prop} {w w1 w2 : World} (h : Kp S w w1) (k : Kp S w1 w2) : Kp S w w2 :=
  ⟨k.1.trans h.1, k.2.1.trans h.2.1, k.2.2.1.trans h.2.2.1, Nat.le_trans h.size k.size, fun b hb hn => (k.2.2.2.2 b (Nat.lt_of_lt_of_le hb h.size) hn).trans (h.2.2.2.2 b hb hn)⟩
/-- A block of this type. -/
def blkT (w : World) (b : Nat) (T : TypeId) : Prop := ∃ cur, w.heap[b]? = some (.cells cur T (0, 0))
theorem blkT.ne {w : World} {b c : Nat} {T U : TypeId} (h : blkT w b T) (g : blkT w c U) (hne : T ≠ U) : b ≠ c := by
  rintro rfl
  obtain ⟨c1, h1⟩ := h
  obtain ⟨c2, h2⟩ := g
  rw [h1] at h2
  cases h2
  exact hne rfl
theorem bkBlk.tag {w : World} {b : Nat} {c : Nat → Value} (h : bkBlk w b c) : blkT w b 38 := ⟨_, h⟩
theorem pkBlk.tag {w : World} {b : Nat} {k : Nat → Int} (h : pkBlk w b k) : blkT w b 27 := ⟨_, h⟩
/-- Lists that are marked. -/
def Mrk (B : Nat) (w : World) (q : Nat) (xs : Nat → Value) (ys : Nat → Int) (ls : Nat → Nat) : Prop :=
  ∀ i, i < q → PkR w (xs i) (ls i) (fun _ => mkP (ys i)) ∧ ∀ b, (xs i).ownBlock = some b → B ≤ b ∧ blkT w b 27
theorem Mrk.grown {B : Nat} {w w' : World} {q : Nat} {xs : Nat → Value} {ys : Nat → Int} {ls : Nat → Nat} {row : Option Nat} (h : Mrk B w q xs ys ls) (hg : w.grownBy w' row) (hX : ∀ i, i < q → ∀ b, row = some b → (xs i).ownBlock ≠ some b) : Mrk B w' q xs ys ls := by
  refine fun i hi => ⟨(h i hi).1.kept hg (hX i hi), fun b hb => ?_⟩
  obtain ⟨h1, cur, h2⟩ := (h i hi).2 b hb
  refine ⟨h1, cur, ?_⟩
  rw [hg.block b (Array.getElem?_eq_some_iff.1 h2).1 (fun e => hX i hi b e.symm hb), h2]
theorem Mrk.grownT {B : Nat} {w w' : World} {q : Nat} {xs : Nat → Value} {ys : Nat → Int} {ls : Nat → Nat} {row : Option Nat} {T : TypeId} (h : Mrk B w q xs ys ls) (hg : w.grownBy w' row) (ht : ∀ b, row = some b → blkT w b T) (hT : T ≠ 27) : Mrk B w' q xs ys ls :=
  h.grown hg (fun i hi b e hb => ((ht b e).ne ((h i hi).2 b hb).2 hT) rfl)
theorem owns_keptT {w w' : World} {B : Nat} {T U : TypeId} {size : Nat} {v : Value} {n : Nat} {xs : List Value} {row : Option Nat} (h : w.ownsRow B T size v n xs) (hg : w.grownBy w' row) (ht : ∀ b, row = some b → blkT w b U) (hU : U ≠ T) : w'.ownsRow B T size v n xs := by
  refine h.kept hg ?_
  cases hv : v.ownBlock with
  | none => exact .inl rfl
  | some b =>
    right
    intro e
    exact (ht b e.symm).ne (owns_tagged h b hv) hU rfl
theorem ownV_keptT {w w' : World} {B : Nat} {U : TypeId} {v : Value} {n : Nat} {d : Nat → Nat → Int} {row : Option Nat} (h : OwnV B w v n d) (hg : w.grownBy w' row) (ht : ∀ b, row = some b → blkT w b U) (hU : U ≠ 27) : OwnV B w' v n d :=
  h.grown hg (fun b e hb => ((ht b e).ne (h.tagged b hb) hU) rfl)
theorem bkBlk.keptT {w w' : World} {b : Nat} {c : Nat → Value} {row : Option Nat} {U : TypeId} (h : bkBlk w b c) (hg : w.grownBy w' row) (ht : ∀ b, row = some b → blkT w b U) (hU : U ≠ 38) : bkBlk w' b c :=
  h.grown hg (fun e => (ht b e).ne h.tag hU rfl)
theorem pkBlk.keptT {w w' : World} {b : Nat} {k : Nat → Int} {row : Option Nat} {U : TypeId} (h : pkBlk w b k) (hg : w.grownBy w' row) (ht : ∀ b, row = some b → blkT w b U) (hU : U ≠ 27) : pkBlk w' b k :=
  h.grown hg (fun e => (ht b e).ne h.tag hU rfl)
/-- One element more. -/
def snoc {α : Type} (q : Nat) (xs : Nat → α) (x : α) : Nat → α := fun i => if i < q then xs i else x
theorem snoc_map {α β : Type} (q : Nat) (xs : Nat → α) (x : α) (f : α → β) : (List.range (q + 1)).map (fun i => f (snoc q xs x i)) = (List.range q).map (fun i => f (xs i)) ++ [f x] := by
  rw [List.range_succ, List.map_append]
  congr 1
  · apply List.map_congr_left
    intro i hi
    unfold snoc
    rw [if_pos (List.mem_range.1 hi)]
  · simp [snoc]
theorem Mrk.snoc {B : Nat} {w : World} {q : Nat} {xs : Nat → Value} {ys : Nat → Int} {ls : Nat → Nat} (h : Mrk B w q xs ys ls) (x : Value) (y : Int) (l : Nat) (hx : PkR w x l (fun _ => mkP y)) (hb : ∀ b, x.ownBlock = some b → B ≤ b ∧ blkT w b 27) : Mrk B w (q + 1) (snoc q xs x) (snoc q ys y) (snoc q ls l) := by
  intro i hi
  unfold Go.Proofs.Ytlhkfafdioakeaa.snoc
  by_cases e : i < q
  · simp only [if_pos e]
    exact h i e
  · simp only [if_neg e]
    exact ⟨hx, hb⟩
/-- The books within a marking: the cells, the rows of the lists and of their marks, the lists, the list that is marked, the mark; what is as it was. -/
structure MSt (B : Nat) (w0 : World) (bb : Nat) (c : Nat → Value) (S M0 : Nat → Prop) (lb : Option Nat) (q m : Nat) (n : Int) (z : Int) (w : World) (p r : Nat) (vP vN lv : Value) (ln : Nat) (xs : Nat → Value) (ys : Nat → Int) (ls : Nat → Nat) : Prop where
  bk : bkBlk w bb (updB (updB (updB c 0 (.int .i64 n)) 9 vP) 10 vN)
  rP : w.ownsRow B 23 1 vP p ((List.range p).map xs)
  rN : w.ownsRow B 3 1 vN r ((List.range r).map fun i => .int .i64 (ys i))
  bP : ∀ b, vP.ownBlock = some b → S b ∨ w0.heap.size < b
  bN : ∀ b, vN.ownBlock = some b → S b ∨ w0.heap.size < b
  bL : ∀ b, lv.ownBlock = some b → lb = some b ∨ w0.heap.size < b
  mrk : Mrk B w p xs ys ls
  old : ∀ i, i < q → ∀ b, (xs i).ownBlock = some b → lb ≠ some b ∧ b < w0.heap.size ∧ M0 b
  new : ∀ i, q ≤ i → i < p → ys i = z ∧ (∃ a cc, xs i = .slice a (ls i) cc ∧ (a = none → ls i = 0 ∧ cc = 0) ∧ ∀ ad, a = some ad → ad.off = 0 ∧ ad.spot = none) ∧ ls i ≤ ln ∧ ∀ b, (xs i).ownBlock = some b → lb = some b ∨ w0.heap.size < b
  lv : OwnV B w lv ln (fun _ => mkP z)
  mb : pkBlk w w0.heap.size (mkP z)
  kp : Kp S w0 w
  lbS : ∀ b, lb = some b → S b ∧ b < w0.heap.size
  bbS : S bb ∧ bb < w0.heap.size ∧ B ≤ bb
/-- A list joins. -/
theorem MSt.addP {B : Nat} {w0 : World} {bb : Nat} {c : Nat → Value} {S M0 : Nat → Prop} {lb : Option Nat} {q m : Nat} {n z : Int} {w : World} {p r : Nat} {vP vN lv : Value} {ln : Nat} {xs : Nat → Value} {ys : Nat → Int} {ls : Nat → Nat} (h : MSt B w0 bb c S M0 lb q m n z w p r vP vN lv ln xs ys ls) (hq : q ≤ p) (hrp : r ≤ p)
    {w1 w2 : World} {vP' : Value} (hg1 : w.grownBy w1 none) (ho : w2.ownsRow B 23 1 vP' (p + 1) ((List.range p).map xs ++ [lv])) (hg2 : w1.grownBy w2 vP.ownBlock) (hat : vP'.ownBlock = vP.ownBlock ∨ vP'.ownBlock = some w1.heap.size) :
    MSt B w0 bb c S M0 lb q m n z (w2.setCell ⟨bb, 9, none⟩ vP') (p + 1) r vP' vN lv ln (snoc p xs lv) (snoc p ys z) (snoc p ls ln) := by
  have hs0 := h.kp.size
  have hmb : w0.heap.size < w.heap.size := (Array.getElem?_eq_some_iff.1 h.mb).1
  have tP1 : ∀ b, vP.ownBlock = some b → blkT w1 b 23 := fun b hb => owns_tagged (h.rP.kept hg1 (by cases hv : vP.ownBlock with | none => exact .inl rfl | some b => exact .inr (by simp))) b hb
  have no : ∀ b, (none : Option Nat) = some b → blkT w b 0 := fun b e => by cases e
  have bk2 : bkBlk w2 bb (updB (updB (updB c 0 (.int .i64 n)) 9 vP) 10 vN) := (h.bk.grown hg1 (by simp)).keptT hg2 tP1 (by decide)
  have tbb : ∀ b, some bb = some b → blkT w2 b 38 := fun b e => by cases e; exact bk2.tag
  have hg3 := grown_set w2 bb 9 vP'
  have rN2 := owns_keptT (owns_keptT (h.rN.kept hg1 (by cases hv : vN.ownBlock with | none => exact .inl rfl | some b => exact .inr (by simp))) hg2 tP1 (by decide)) hg3 tbb (by decide)
  have rP2 := owns_keptT ho hg3 tbb (by decide)
  have lv1 := h.lv.grown hg1 (fun b e => by cases e)
  have lv2 := ownV_keptT (ownV_keptT lv1 hg2 tP1 (by decide)) hg3 tbb (by decide)
  have mr2 := ((h.mrk.grown hg1 (fun i hi b e => by cases e)).grownT hg2 tP1 (by decide)).grownT hg3 tbb (by decide)
  have mb2 := ((h.mb.grown hg1 (by simp)).keptT hg2 tP1 (by decide)).keptT hg3 tbb (by decide)
  obtain ⟨la, lc, hlv⟩ := h.lv.slice
  have rN3 : (List.range r).map (fun i => Value.int .i64 (snoc p ys z i)) = (List.range r).map fun i => .int .i64 (ys i) := by
    apply List.map_congr_left
    intro i hi
    unfold snoc
    rw [if_pos (by have := List.mem_range.1 hi; omega)]
  refine ⟨?_, ?_, by rw [rN3]; exact rN2, fun b hb => ?_, h.bN, h.bL, mr2.snoc lv z ln (lv2.row.any) (fun b hb => ⟨(lv2.lt b hb).1, lv2.tagged b hb⟩), fun i hi b hb => ?_, fun i h1 h2 => ?_, lv2, mb2, ?_, h.lbS, h.bbS⟩
  · have := bk2.set 9 (by omega) vP'
    have e : updB (updB (updB (updB c 0 (.int .i64 n)) 9 vP) 10 vN) 9 vP' = updB (updB (updB c 0 (.int .i64 n)) 9 vP') 10 vN := by
      funext j
      unfold updB
      by_cases e1 : j = 9
      · subst e1; simp
      · simp [e1]
    rw [e] at this
    exact this
  · have := snoc_map p xs lv (fun x => x)
    rw [show (List.range (p + 1)).map (snoc p xs lv) = (List.range p).map xs ++ [lv] from this]
    exact rP2
  · rcases hat with e | e
    · exact h.bP b (by rw [← e]; exact hb)
    · rw [e] at hb
      cases hb
      right
      have := hg1.size
      omega
  · unfold snoc at hb
    rw [if_pos (by omega)] at hb
    exact h.old i hi b hb
  · unfold snoc
    by_cases e : i < p
    · rw [if_pos e, if_pos e, if_pos e]
      exact h.new i h1 e
    · rw [if_neg e, if_neg e, if_neg e]
      refine ⟨rfl, ⟨la, lc, hlv, fun hn => ?_, fun ad ha => ?_⟩, Nat.le_refl _, h.bL⟩
      · rcases h.lv with ⟨e1, e2⟩ | ⟨g, cap, _, e1, _⟩
        · rw [hlv] at e1; cases e1; exact ⟨e2, rfl⟩
        · rw [hlv, hn] at e1; cases e1
      · rcases h.lv with ⟨e1, _⟩ | ⟨g, cap, _, e1, _⟩
        · rw [hlv, ha] at e1; cases e1
        · rw [hlv, ha] at e1; cases e1; exact ⟨rfl, rfl⟩
  · refine ((h.kp.step hg1 (fun b e => by cases e)).step hg2 (fun b e => ?_)).step hg3 (fun b e => by cases e; exact .inl h.bbS.1)
    rcases h.bP b e with c | c
    · exact .inl c
    · exact .inr (by omega)
/-- A mark joins. -/
theorem MSt.addN {B : Nat} {w0 : World} {bb : Nat} {c : Nat → Value} {S M0 : Nat → Prop} {lb : Option Nat} {q m : Nat} {n z : Int} {w : World} {p r : Nat} {vP vN lv : Value} {ln : Nat} {xs : Nat → Value} {ys : Nat → Int} {ls : Nat → Nat} (h : MSt B w0 bb c S M0 lb q m n z w p r vP vN lv ln xs ys ls) (hr : r < p) (hy : ys r = z)
    {w1 w2 : World} {vN' : Value} (hg1 : w.grownBy w1 none) (ho : w2.ownsRow B 3 1 vN' (r + 1) ((List.range r).map (fun i => .int .i64 (ys i)) ++ [.int .i64 z])) (hg2 : w1.grownBy w2 vN.ownBlock) (hat : vN'.ownBlock = vN.ownBlock ∨ ∃ b, vN'.ownBlock = some b ∧ w.heap.size ≤ b) :
    MSt B w0 bb c S M0 lb q m n z (w2.setCell ⟨bb, 10, none⟩ vN') p (r + 1) vP vN' lv ln xs ys ls := by
  have hs0 := h.kp.size
  have hmb : w0.heap.size < w.heap.size := (Array.getElem?_eq_some_iff.1 h.mb).1
  have tN1 : ∀ b, vN.ownBlock = some b → blkT w1 b 3 := fun b hb => owns_tagged (h.rN.kept hg1 (by cases hv : vN.ownBlock with | none => exact .inl rfl | some b => exact .inr (by simp))) b hb
  have bk2 : bkBlk w2 bb (updB (updB (updB c 0 (.int .i64 n)) 9 vP) 10 vN) := (h.bk.grown hg1 (by simp)).keptT hg2 tN1 (by decide)
  have tbb : ∀ b, some bb = some b → blkT w2 b 38 := fun b e => by cases e; exact bk2.tag
  have hg3 := grown_set w2 bb 10 vN'
  have rP2 := owns_keptT (owns_keptT (h.rP.kept hg1 (by cases hv : vP.ownBlock with | none => exact .inl rfl | some b => exact .inr (by simp))) hg2 tN1 (by decide)) hg3 tbb (by decide)
  have rN2 := owns_keptT ho hg3 tbb (by decide)
  have lv1 := h.lv.grown hg1 (fun b e => by cases e)
  have lv2 := ownV_keptT (ownV_keptT lv1 hg2 tN1 (by decide)) hg3 tbb (by decide)
  have mr2 := ((h.mrk.grown hg1 (fun i hi b e => by cases e)).grownT hg2 tN1 (by decide)).grownT hg3 tbb (by decide)
  have mb2 := ((h.mb.grown hg1 (by simp)).keptT hg2 tN1 (by decide)).keptT hg3 tbb (by decide)
  refine ⟨?_, rP2, ?_, h.bP, fun b hb => ?_, h.bL, mr2, h.old, h.new, lv2, mb2, ?_, h.lbS, h.bbS⟩
  · have := bk2.set 10 (by omega) vN'
    have e : updB (updB (updB (updB c 0 (.int .i64 n)) 9 vP) 10 vN) 10 vN' = updB (updB (updB c 0 (.int .i64 n)) 9 vP) 10 vN' := by
      funext j
      unfold updB
      by_cases e1 : j = 10
      · subst e1; simp
      · simp [e1]
    rw [e] at this
    exact this
  · rw [List.range_succ, List.map_append]
    simp only [List.map_cons, List.map_nil, hy]
    exact rN2
  · rcases hat with e | ⟨b', e, hb'⟩
    · exact h.bN b (by rw [← e]; exact hb)
    · rw [e] at hb
      cases hb
      right
      omega
  · refine ((h.kp.step hg1 (fun b e => by cases e)).step hg2 (fun b e => ?_)).step hg3 (fun b e => by cases e; exact .inl h.bbS.1)
    rcases h.bN b e with c | c
    · exact .inl c
    · exact .inr (by omega)
/-- The list is made longer. -/
theorem MSt.longer {B : Nat} {w0 : World} {bb : Nat} {c : Nat → Value} {S M0 : Nat → Prop} {lb : Option Nat} {q m : Nat} {n z : Int} {w : World} {p r : Nat} {vP vN lv : Value} {ln : Nat} {xs : Nat → Value} {ys : Nat → Int} {ls : Nat → Nat} (h : MSt B w0 bb c S M0 lb q m n z w p r vP vN lv ln xs ys ls)
    {w1 w2 : World} {lv' : Value} (hg1 : w.grownBy w1 none) (ho : OwnV B w2 lv' (ln + 1) (fun _ => mkP z)) (hat : (∃ g cap, lv = .slice (some ⟨g, 0, none⟩) ln cap ∧ lv' = .slice (some ⟨g, 0, none⟩) (ln + 1) cap ∧ w1.grownBy w2 (some g)) ∨ (lv'.ownBlock = some w1.heap.size ∧ w1.grownBy w2 none)) :
    MSt B w0 bb c S M0 lb q m n z w2 p r vP vN lv' (ln + 1) xs ys ls := by
  have hs0 := h.kp.size
  have hmb : w0.heap.size < w.heap.size := (Array.getElem?_eq_some_iff.1 h.mb).1
  have hs1 := hg1.size
  have bk1 := h.bk.grown hg1 (by simp)
  have rP1 := h.rP.kept hg1 (by cases hv : vP.ownBlock with | none => exact .inl rfl | some b => exact .inr (by simp))
  have rN1 := h.rN.kept hg1 (by cases hv : vN.ownBlock with | none => exact .inl rfl | some b => exact .inr (by simp))
  have mr1 := h.mrk.grown hg1 (fun i hi b e => by cases e)
  have mb1 := h.mb.grown hg1 (by simp)
  have lv1 := h.lv.grown hg1 (fun b e => by cases e)
  have kp1 := h.kp.step hg1 (fun b e => by cases e)
  rcases hat with ⟨g, cap, rfl, rfl, hg2⟩ | ⟨hat, hg2⟩
  · have tg : ∀ b, some g = some b → blkT w1 b 27 := fun b e => lv1.tagged b e
    have bLg := h.bL g rfl
    have old1 : ∀ i, i < q → i < p → (xs i).ownBlock ≠ some g := fun i hi hp e => by
      obtain ⟨a1, a2, _⟩ := h.old i hi g e
      rcases bLg with c | c
      · exact a1 c
      · omega
    refine ⟨bk1.keptT hg2 tg (by decide), owns_keptT rP1 hg2 tg (by decide), owns_keptT rN1 hg2 tg (by decide), h.bP, h.bN, fun b hb => by cases hb; exact bLg, fun i hi => ?_, h.old, fun i h1 h2 => ?_, ho, ?_, kp1.step hg2 (fun b e => ?_), h.lbS, h.bbS⟩
    · by_cases hqi : i < q
      · refine ⟨(mr1 i hi).1.kept hg2 (fun b e hb => by cases e; exact old1 i hqi hi hb), fun b hb => ?_⟩
        obtain ⟨a1, cur, a2⟩ := (mr1 i hi).2 b hb
        refine ⟨a1, cur, ?_⟩
        rw [hg2.block b (Array.getElem?_eq_some_iff.1 a2).1 (fun e => by cases e; exact old1 i hqi hi hb), a2]
      · obtain ⟨hyz, ⟨a, cc, hx, hn, hoff⟩, hls, _⟩ := h.new i (by omega) hi
        by_cases hbe : (xs i).ownBlock = some g
        · rcases ho with ⟨e1, _⟩ | ⟨g', cap', hBg, e1, hO⟩
          · cases e1
          · cases e1
            refine ⟨?_, fun b hb => by rw [hbe] at hb; cases hb; exact ⟨hBg, ⟨_, (show ∃ cur, w2.heap[g]? = some (.cells cur 27 (0, 0)) from ⟨_, hO.choose_spec.1⟩).choose_spec⟩⟩⟩
            cases a with
            | none => rw [hx] at hbe; cases hbe
            | some ad =>
              obtain ⟨o1, o2⟩ := hoff ad rfl
              obtain ⟨ab, ao, asp⟩ := ad
              simp only at o1 o2
              subst o1 o2
              rw [hx] at hbe
              cases hbe
              rw [hx, hyz]
              exact .inr ⟨_, 0, cc, rfl, by have := hO.cap; omega, fun j hj t ht => by rw [Nat.zero_add]; exact hO.cell j (by omega) t ht⟩
        · refine ⟨(mr1 i hi).1.kept hg2 (fun b e hb => by cases e; exact hbe hb), fun b hb => ?_⟩
          obtain ⟨a1, cur, a2⟩ := (mr1 i hi).2 b hb
          refine ⟨a1, cur, ?_⟩
          rw [hg2.block b (Array.getElem?_eq_some_iff.1 a2).1 (fun e => by cases e; exact hbe hb), a2]
    · obtain ⟨a1, a2, a3, a4⟩ := h.new i h1 h2
      exact ⟨a1, a2, by omega, a4⟩
    · refine mb1.grown hg2 (fun e => ?_)
      cases e
      rcases bLg with c | c
      · have := (h.lbS _ c).2; omega
      · omega
    · cases e
      rcases bLg with c | c
      · exact .inl (h.lbS _ c).1
      · exact .inr (by omega)
  · refine ⟨bk1.grown hg2 (by simp), rP1.kept hg2 (by cases hv : vP.ownBlock with | none => exact .inl rfl | some b => exact .inr (by simp)), rN1.kept hg2 (by cases hv : vN.ownBlock with | none => exact .inl rfl | some b => exact .inr (by simp)), h.bP, h.bN, fun b hb => ?_, mr1.grown hg2 (fun i hi b e => by cases e), h.old, fun i h1 h2 => ?_, ho, mb1.grown hg2 (by simp), kp1.step hg2 (fun b e => by cases e), h.lbS, h.bbS⟩
    · rw [hat] at hb
      cases hb
      right
      omega
    · obtain ⟨a1, a2, a3, a4⟩ := h.new i h1 h2
      exact ⟨a1, a2, by omega, a4⟩
end Go.Proofs.Ytlhkfafdioakeaa
