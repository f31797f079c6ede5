/- Proved here: lists of rules that are owned, whatever their priorities: kept, and one laid behind another one. -/
import Derived.Test.YtlhkfafdioakeaaGreatDoorTbI
namespace Go.Proofs.YtlhkfafdioakeaaGreatDoor
open Go.RowKit Go.Weft Classical
set_option linter.unusedVariables false
set_option linter.unusedSimpArgs false
theorem RlQ.nil (B : Nat) (w : World) (rs : Nat → Rl) (AL : Nat → List (Nat → Int)) : RlQ B w (.slice none 0 0) 0 rs AL :=
  ⟨⟨rfl, .inl ⟨rfl, rfl⟩⟩, fun _ h => by omega, fun _ h => by omega, fun _ h => by omega, fun _ h => by omega, fun _ _ _ h => by omega⟩
theorem RlQ.mono {B C : Nat} {w : World} {v : Value} {N : Nat} {rs : Nat → Rl} {AL : Nat → List (Nat → Int)} (h : RlQ B w v N rs AL) (hc : C ≤ B) : RlQ C w v N rs AL :=
  ⟨owns_mono h.row hc, fun j hj => (h.own j hj).mono hc, h.is, h.anm, h.nm, h.apart⟩
theorem RlQ.kept {B : Nat} {w w' : World} {v : Value} {N : Nat} {rs : Nat → Rl} {AL : Nat → List (Nat → Int)} {row : Option Nat} (h : RlQ B w v N rs AL) (hg : w.grownBy w' row) (hr : ∀ b, row = some b → v.ownBlock ≠ some b ∧ ∀ j, j < N → (rs j).av.ownBlock ≠ some b) : RlQ B w' v N rs AL := by
  refine ⟨h.row.kept hg ?_, fun j hj => (h.own j hj).grown hg (fun b e => (hr b e).2 j hj), h.is, h.anm, h.nm, h.apart⟩
  cases hv : v.ownBlock with
  | none => exact .inl rfl
  | some b => exact .inr (fun e => (hr b e.symm).1 hv)
theorem RlQ.lt {B : Nat} {w : World} {v : Value} {N : Nat} {rs : Nat → Rl} {AL : Nat → List (Nat → Int)} (h : RlQ B w v N rs AL) : (∀ b, v.ownBlock = some b → B ≤ b ∧ b < w.heap.size) ∧ ∀ j, j < N → ∀ b, (rs j).av.ownBlock = some b → B ≤ b ∧ b < w.heap.size :=
  ⟨h.row.lt, fun j hj => (h.own j hj).lt⟩
theorem RlQ.low {B : Nat} {w w' : World} {v : Value} {N : Nat} {rs : Nat → Rl} {AL : Nat → List (Nat → Int)} {row : Option Nat} (h : RlQ B w v N rs AL) (hg : w.grownBy w' row) (hr : ∀ b, row = some b → b < B) : RlQ B w' v N rs AL :=
  h.kept hg (fun b e => ⟨fun k => by have := (h.lt.1 b k).1; have := hr b e; omega, fun j hj k => by have := (h.lt.2 j hj b k).1; have := hr b e; omega⟩)
theorem RlQ.under {B : Nat} {w : World} {v : Value} {N : Nat} {rs : Nat → Rl} {AL : Nat → List (Nat → Int)} (h : RlQ B w v N rs AL) : RlU w.heap.size v N rs := ⟨fun b e => (h.lt.1 b e).2, fun j hj b e => (h.lt.2 j hj b e).2⟩
theorem RlQ.high {B C : Nat} {w w' : World} {v : Value} {N : Nat} {rs : Nat → Rl} {AL : Nat → List (Nat → Int)} {row : Option Nat} (h : RlQ B w v N rs AL) (hu : RlU C v N rs) (hg : w.grownBy w' row) (hr : ∀ b, row = some b → C ≤ b) : RlQ B w' v N rs AL :=
  h.kept hg (fun b e => ⟨fun k => by have := hu.1 b k; have := hr b e; omega, fun j hj k => by have := hu.2 j hj b k; have := hr b e; omega⟩)
theorem RlQ.slice {B : Nat} {w : World} {v : Value} {N : Nat} {rs : Nat → Rl} {AL : Nat → List (Nat → Int)} (h : RlQ B w v N rs AL) : ∃ a c, v = .slice a N c := ownsR_slice h.row
theorem RlQ.cellAt {B : Nat} {w : World} {g N c : Nat} {rs : Nat → Rl} {AL : Nat → List (Nat → Int)} (h : RlQ B w (.slice (some ⟨g, 0, none⟩) N c) N rs AL) : ∀ j u, (flR rs N)[j]? = some u → w.cell? ((⟨g, 0, none⟩ : Addr).add j) = some u := by
  intro j u hj
  obtain ⟨_, hr⟩ := h.row
  rcases hr with ⟨e, _⟩ | ⟨g', cap, cur, e, _, h1, _, _, _, h5⟩
  · cases e
  · cases e
    rw [show (⟨g, 0, none⟩ : Addr).add j = ⟨g, j, none⟩ by unfold Addr.add; split <;> simp_all]
    simp only [World.cell?, h1]
    rw [← h5] at hj
    have hl : j < N * 8 := by
      rcases Nat.lt_or_ge j (N * 8) with e | e
      · exact e
      · rw [List.getElem?_eq_none (by simp; omega)] at hj; cases hj
    rw [List.getElem?_take_of_lt hl] at hj
    simpa using hj
theorem RlQ.cat {B C : Nat} {w w' : World} {v u v' : Value} {N M : Nat} {rs ts : Nat → Rl} {AL BL : Nat → List (Nat → Int)} (h : RlQ B w v N rs AL) (k : RlQ C w u M ts BL) (hCB : C ≤ B ∨ B ≤ C)
    (hne : ∀ i j, i < N → j < M → ∀ b, (rs i).av.ownBlock = some b → (ts j).av.ownBlock ≠ some b) (D : Nat) (hD : D ≤ B ∧ D ≤ C) (hv : w'.ownsRow D 68 8 v' (N + M) (flR rs N ++ flR ts M)) (hg : w.grownBy w' v.ownBlock) : RlQ D w' v' (N + M) (catR N rs ts) (catR N AL BL) := by
  have ht : ∀ b, v.ownBlock = some b → blkT w b 68 := fun b hb => owns_tagged h.row b hb
  refine ⟨by rw [flR_cat]; exact hv, fun j hj => ?_, fun j hj => ?_, fun j hj => ?_, fun j hj => ?_, fun i j hij hj => ?_⟩
  · by_cases e : j < N
    · rw [catR_l e]; exact ownV_keptT ((h.own j e).mono hD.1) hg ht (by decide)
    · rw [catR_r (by omega)]; exact ownV_keptT ((k.own (j - N) (by omega)).mono hD.2) hg ht (by decide)
  · by_cases e : j < N
    · rw [catR_l e, catR_l e]; exact h.is j e
    · rw [catR_r (by omega), catR_r (by omega)]; exact k.is _ (by omega)
  · by_cases e : j < N
    · rw [catR_l e]; exact h.anm j e
    · rw [catR_r (by omega)]; exact k.anm _ (by omega)
  · by_cases e : j < N
    · rw [catR_l e]; exact h.nm j e
    · rw [catR_r (by omega)]; exact k.nm _ (by omega)
  · by_cases e : j < N
    · rw [catR_l e, catR_l (show i < N by omega)]; exact h.apart i j hij e
    · rw [catR_r (show N ≤ j by omega)]
      by_cases e2 : i < N
      · rw [catR_l e2]; exact hne i (j - N) e2 (by omega)
      · rw [catR_r (show N ≤ i by omega)]; exact k.apart _ _ (by omega) (by omega)
theorem flR_oneQ {B : Nat} {w : World} {v : Value} {N : Nat} {rs : Nat → Rl} {AL : Nat → List (Nat → Int)} (h : RlQ B w v N rs AL) : ∀ u ∈ flR rs N, u.oneCell' = true :=
  flR_one rs N (fun j hj => by obtain ⟨a, c, e⟩ := (h.own j hj).slice; exact ⟨a, _, c, e⟩)
theorem RlQ.some {B : Nat} {w : World} {a : Option Addr} {c N : Nat} {rs : Nat → Rl} {AL : Nat → List (Nat → Int)} (h : RlQ B w (.slice a N c) N rs AL) (hN : 0 < N) : ∃ g, a = some ⟨g, 0, none⟩ ∧ B ≤ g ∧ g < w.heap.size := by
  obtain ⟨_, hr⟩ := h.row
  rcases hr with ⟨_, e⟩ | ⟨g, cap, cur, e, h0, h1, _⟩
  · omega
  · cases e; exact ⟨g, rfl, h0, (Array.getElem?_eq_some_iff.1 h1).1⟩
theorem wpList_append_rq {ops : Array Oper} {rest : List Oper} {o : Oper} {a : Act} {Q : Exit → Act → World → Prop} (w : World) (hgd : o.guard = none) (s x : Operand)
    (ho : o.op = .call { callee := .builtin .append, args := #[s, x], argTypes := #[36, 36] })
    (B C D : Nat) (v : Value) (N : Nat) (rs : Nat → Rl) (AL : Nat → List (Nat → Int)) (hs : a.eval s = v) (hown : RlQ B w v N rs AL) (b : Option Addr) (M c : Nat) (ts : Nat → Rl) (BL : Nat → List (Nat → Int)) (hx : a.eval x = .slice b M c) (hsrc : RlQ C w (.slice b M c) M ts BL) (hM : 0 < M) (hb : N + M ≤ 1000000)
    (hne : ∀ i j, i < N → j < M → ∀ b, (rs i).av.ownBlock = some b → (ts j).av.ownBlock ≠ some b) (hDB : D ≤ B) (hDC : D ≤ C) (hD : D ≤ w.heap.size)
    (h : ∀ v' w', RlQ D w' v' (N + M) (catR N rs ts) (catR N AL BL) → w.grownBy w' v.ownBlock → wpList Tryz.prog ops Q rest (a.put o.dst v') w') :
    wpList Tryz.prog ops Q (o :: rest) a w := by
  obtain ⟨i0, hi, hz0, hz1, hz2⟩ := info_parts Tryz.infoRl
  obtain ⟨g, rfl, _, _⟩ := hsrc.some hM
  refine wpList_append_own w hgd s x 36 ho D 68 i0 _ 8 80 Tryz.underlying36 hi hz0 hz1 hz2 rfl (by decide) v N (flR rs N) hs (owns_mono hown.row hDB) ⟨g, 0, none⟩ M c (flR ts M) hx (flR_len ts M) hsrc.cellAt (flR_oneQ hsrc) (by unfold maxLen; omega) (by omega) hD ?_
  intro v' w' h1 h2 _
  exact h v' w' (hown.cat hsrc (Nat.le_total _ _) hne D ⟨hDB, hDC⟩ h1 h2) h2
theorem RlQ.drew {B : Nat} {w : World} {v : Value} {N : Nat} {rs : Nat → Rl} {AL : Nat → List (Nat → Int)} (h : RlQ B w v N rs AL) : RlQ B w.drew v N rs AL :=
  ⟨h.row, fun j hj => h.own j hj, h.is, h.anm, h.nm, h.apart⟩
/-- A list of one rule, just made. -/
theorem RlQ.one {B : Nat} {w : World} {p : Int} {mt : Nat → Int} {a : Option Addr} {n c : Nat} {d : Nat → Nat → Int} {L : List (Nat → Int)} (h : OwnV B w (.slice a n c) n d) (hB : B ≤ w.heap.size) (hI : Is L n d) (hL : ∀ x ∈ L, Nm x) (hm : Nm mt) :
    RlQ B (w.alloc (.cells #[.int .i64 p, .int .i64 (mt 0), .int .i64 (mt 1), .int .i64 (mt 2), .int .i64 (mt 3), .int .i64 (mt 4), .int .i64 (mt 5), .slice a n c] 68)) (.slice (Option.some ⟨w.heap.size, 0, Option.none⟩) 1 1) 1 (fun _ => ⟨p, mt, n, d, .slice a n c⟩) (fun _ => L) :=
  ⟨⟨rfl, .inr ⟨_, _, _, rfl, hB, heap_alloc_new w _, Nat.le_refl _, by unfold maxLen; omega, rfl, rfl⟩⟩, fun j hj => h.grown (World.grownBy_alloc w _ none) (fun b e => by cases e), fun _ _ => hI, fun _ _ => hL, fun _ _ => hm, fun i j hij hj => by omega⟩
end Go.Proofs.YtlhkfafdioakeaaGreatDoor
