/- Proved here: what stands while the marks are written. -/
import Derived.Test.YtlhkfafdioakeaaGreatDoorTbR
import Derived.Test.YtlhkfafdioakeaaGreatDoorTbU
namespace Go.Proofs.YtlhkfafdioakeaaGreatDoor
open Go.RowKit Go.Weft
set_option linter.unusedVariables false
set_option linter.unusedSimpArgs false
/-- A mark. -/
def mkQ (e : Nat) : Nat → Int := fun i => if i = 0 then 100 + (e : Int) else 0
/-- The rules of the table, the copies, and the marked lists, when i rules are done. -/
structure MS (w0 B1 B2 : Nat) (rs : Nat → Rl) (AL : Nat → List (Nat → Int)) (xs : Nat → Value) (N gl cl : Nat) (ov : Value) (i : Nat) (E : Nat) (vm : Nat → Value) (mv : Value) (w : World) : Prop where
  lr : w.ownsRow w0 68 8 (.slice (some ⟨gl, 0, none⟩) N cl) N (flR rs N)
  av : ∀ j, i ≤ j → j < N → OwnV w0 w (rs j).av (rs j).na (rs j).acts
  ou : RlQ B1 w ov N (cpR rs xs) AL
  mr : w.ownsRow B2 29 1 mv E ((List.range E).map vm)
  mks : ∀ e, e < E → ∃ g n c, vm e = .slice (some ⟨g, 0, none⟩) n c ∧ Own w g n c (fun _ => mkQ (e / 2)) ∧ ((rs (e / 2)).av.ownBlock = some g ∨ B2 ≤ g)
/-- What never changes of it. -/
structure MC (w0 B1 B2 : Nat) (rs : Nat → Rl) (xs : Nat → Value) (N gl : Nat) (ov : Value) : Prop where
  b1 : w0 ≤ B1
  b2 : B1 ≤ B2
  gl1 : gl < B1
  avb : ∀ j, j < N → ∀ b, (rs j).av.ownBlock = some b → w0 ≤ b ∧ b < B1 ∧ b ≠ gl
  apart : ∀ i j, i < j → j < N → ∀ b, (rs i).av.ownBlock = some b → (rs j).av.ownBlock ≠ some b
  ob : RlU B2 ov N (cpR rs xs)
  ob1 : (∀ b, ov.ownBlock = some b → B1 ≤ b) ∧ ∀ j, j < N → ∀ b, (cpR rs xs j).av.ownBlock = some b → B1 ≤ b
theorem MS.drop {w0 B1 B2 : Nat} {rs : Nat → Rl} {AL : Nat → List (Nat → Int)} {xs : Nat → Value} {N gl cl : Nat} {ov : Value} {i E : Nat} {vm : Nat → Value} {mv : Value} {w : World} (h : MS w0 B1 B2 rs AL xs N gl cl ov i E vm mv w) : MS w0 B1 B2 rs AL xs N gl cl ov (i + 1) E vm mv w := ⟨h.lr, fun j hj hjN => h.av j (by omega) hjN, h.ou, h.mr, h.mks⟩
/-- A write into the actions of rule i, or into what was made since: all else stands. -/
theorem MS.kept {w0 B1 B2 : Nat} {rs : Nat → Rl} {AL : Nat → List (Nat → Int)} {xs : Nat → Value} {N gl cl : Nat} {ov : Value} {i E : Nat} {vm : Nat → Value} {mv : Value} {w w' : World} {row : Option Nat} (hc : MC w0 B1 B2 rs xs N gl ov) (h : MS w0 B1 B2 rs AL xs N gl cl ov (i + 1) E vm mv w) (hi : i < N) (hE : E ≤ 2 * i) (S : Nat) (hS : B2 ≤ S) (hmv : ∀ b, mv.ownBlock = some b → b < S) (hvm : ∀ e, e < E → ∀ b, (vm e).ownBlock = some b → b < S) (hg : w.grownBy w' row) (hr : ∀ b, row = some b → (rs i).av.ownBlock = some b ∨ S ≤ b) :
    MS w0 B1 B2 rs AL xs N gl cl ov (i + 1) E vm mv w' := by
  have b1 := hc.b1
  have b2 := hc.b2
  have g1 := hc.gl1
  refine ⟨h.lr.kept hg (.inr fun e => ?_), fun j hj hjN => (h.av j (by omega) hjN).grown hg (fun b e k => ?_), h.ou.kept hg (fun b e => ⟨fun k => ?_, fun j hj k => ?_⟩), ?_, fun e he => ?_⟩
  · rcases hr gl e.symm with k | k
    · exact (hc.avb i hi gl k).2.2 rfl
    · omega
  · rcases hr b e with k2 | k2
    · exact hc.apart i j (by omega) hjN b k2 k
    · have := (hc.avb j hjN b k).2.1
      omega
  · have a1 := hc.ob.1 b k
    have a2 := hc.ob1.1 b k
    rcases hr b e with k2 | k2
    · have := (hc.avb i hi b k2).2.1
      omega
    · omega
  · have a1 := hc.ob.2 j hj b k
    have a2 := hc.ob1.2 j hj b k
    rcases hr b e with k2 | k2
    · have := (hc.avb i hi b k2).2.1
      omega
    · omega
  · refine h.mr.kept hg ?_
    cases hv : mv.ownBlock with
    | none => exact .inl rfl
    | some b =>
      refine .inr fun e => ?_
      have a1 := hmv b hv
      have a2 := (h.mr.lt b hv).1
      rcases hr b e.symm with k2 | k2
      · have := (hc.avb i hi b k2).2.1
        omega
      · omega
  · obtain ⟨g, n, c, e1, e2, e3⟩ := h.mks e he
    refine ⟨g, n, c, e1, e2.grown hg (fun k => ?_), e3⟩
    have a1 := hvm e he g (by rw [e1]; rfl)
    rcases hr g k with k2 | k2
    · rcases e3 with e3 | e3
      · exact hc.apart (e / 2) i (by omega) hi g e3 k2
      · have := (hc.avb i hi g k2).2.1
        omega
    · omega
end Go.Proofs.YtlhkfafdioakeaaGreatDoor
