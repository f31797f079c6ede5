/- The frame of the cards: what the listed variable gives the walks; a world in which it lies as the program's own text lays it. -/
import Derived.Test.YtlhkfafdioakeaaGreatDoorGRead
import Derived.Test.YtlhkfafdioakeaaGreatDoorRows
import Derived.Test.YtlhkfafdioakeaaGreatDoorCards
import Derived.Test.YtlhkfafdioakeaaGreatDoorTie
import Derived.ProofKit
import Derived.LaidMore
import Derived.OpenShut
import Derived.ShutString
import Derived.Stop.Joined
import Derived.SevenTiedAt
import Derived.Deep.DeepHandedRow
namespace Go.Proofs.YtlhkfafdioakeaaGreatDoor
open Go.ChangeShapes Go.WideShapes Go.ChangeAt Go.WideMaps Go.WideElems Go.RowKit Go.Weft
open Go.ChangeMaps (open_string shut_string)
set_option linter.unusedVariables false
set_option linter.unusedSimpArgs false
theorem below_grown {w w' : World} (h : w.grownBy w' none) : Below w.heap.size w w' := ⟨h.os, h.tape, h.output, h.size, fun k hk => h.block k hk (by simp)⟩
theorem own : ownKnob Tryz.prog.godebug = none := by kernel_rfl
theorem door_met (os : Os) (args : Array Value) : laidMetH Tryz.prog Rows.printsRow.laid ((World.doorLaid Tryz.prog 400 os).forCall (fun _ _ => 0) ⟨#[], args, []⟩).memory :=
  laidMetH_of_parts3 (fuel := 8) (laidMet_of_run' 8 (by kernel_rfl) (by kernel_rfl)) (by kernel_rfl) (by kernel_rfl)
set_option maxRecDepth 100000 in
theorem names_of_laid {W : World} (h : laidMetH Tryz.prog Rows.printsRow.laid W) : Names W := by
  rw [MakeChecks.laidMetH_plain _ _ _ (by kernel_rfl)] at h
  obtain ⟨ps, ⟨g0, t0, cs0, f0, p0, q0, hg0, ht0, hv0, hd0, _, _⟩, _, _⟩ := h
  obtain rfl : g0 = 1 := Option.some.inj (hg0.symm.trans (by kernel_rfl))
  obtain rfl : t0 = 340 := Option.some.inj (ht0.symm.trans (by kernel_rfl))
  obtain ⟨xs, m1, rfl, hx1, hlen, hn3, hel⟩ := DataW.trod_array Tryz.underlying340 hd0
  have c9 : Tryz.prog.cellsOf 9 = 1 := by kernel_rfl
  have c195 : Tryz.prog.cellsOf 340 = 6 := by kernel_rfl
  rw [c195] at hlen
  rw [c9] at hel
  obtain ⟨l1⟩ := cs0
  simp only [Prod.mk.injEq] at hx1
  match l1, hlen, xs, hn3, hx1 with
  | [a0, a1, a2, a3, a4, a5], _, [x0, x1, x2, x3, x4, x5], _, hx1 =>
    obtain ⟨hx1, _⟩ := hx1
    simp only [Rows.laid_weft_tree_names, DataW.agg.injEq, List.map_cons, List.map_nil, List.cons.injEq, and_true] at hx1
    have look : ∀ (i : Nat) (hi : i < 6) (a : Value) (x : DataW Unit × List MemPlace) (bs : List UInt8), ([a0, a1, a2, a3, a4, a5] : List Value)[i]? = some a → ([x0, x1, x2, x3, x4, x5])[i]? = some x → DataW.lit (.string bs) = x.1 → ∃ s, a = .string s ∧ s.data.toList = bs := by
      intro i hi a x bs ha hx he
      have h1 := hel i hi
      rw [hx] at h1
      have e2 : List.take 1 (List.drop (i * 1) [a0, a1, a2, a3, a4, a5]) = [a] := by
        rcases (show i = 0 ∨ i = 1 ∨ i = 2 ∨ i = 3 ∨ i = 4 ∨ i = 5 by omega) with rfl | rfl | rfl | rfl | rfl | rfl <;> (simp at ha; subst ha; rfl)
      rw [e2] at h1
      obtain ⟨s, e3, e4, _⟩ := DataW.trod_string Tryz.underlying9 h1
      refine ⟨s, by simpa using e3, ?_⟩
      rw [e4] at he
      simpa using he.symm
    have cell : ∀ j a, ([a0, a1, a2, a3, a4, a5] : List Value)[j]? = some a → W.cell? ⟨1, j, none⟩ = some a := by
      intro j a hj
      have := World.var?_cell hg0 hv0 j
      simpa using this.trans (by simpa using hj)
    obtain ⟨s0, rfl, e0⟩ := look 0 (by decide) a0 x0 _ rfl rfl hx1.1
    obtain ⟨s1, rfl, e1⟩ := look 1 (by decide) a1 x1 _ rfl rfl hx1.2.1
    obtain ⟨s2, rfl, e2⟩ := look 2 (by decide) a2 x2 _ rfl rfl hx1.2.2.1
    obtain ⟨s3, rfl, e3⟩ := look 3 (by decide) a3 x3 _ rfl rfl hx1.2.2.2.1
    obtain ⟨s4, rfl, e4⟩ := look 4 (by decide) a4 x4 _ rfl rfl hx1.2.2.2.2.1
    obtain ⟨s5, rfl, e5⟩ := look 5 (by decide) a5 x5 _ rfl rfl hx1.2.2.2.2.2
    intro k hk
    rcases (show k = 0 ∨ k = 1 ∨ k = 2 ∨ k = 3 ∨ k = 4 ∨ k = 5 by omega) with rfl | rfl | rfl | rfl | rfl | rfl
    · rw [cell 0 _ rfl]; exact congrArg (fun s => some (Value.string s)) (bytes_eq e0)
    · rw [cell 1 _ rfl]; exact congrArg (fun s => some (Value.string s)) (bytes_eq e1)
    · rw [cell 2 _ rfl]; exact congrArg (fun s => some (Value.string s)) (bytes_eq e2)
    · rw [cell 3 _ rfl]; exact congrArg (fun s => some (Value.string s)) (bytes_eq e3)
    · rw [cell 4 _ rfl]; exact congrArg (fun s => some (Value.string s)) (bytes_eq e4)
    · rw [cell 5 _ rfl]; exact congrArg (fun s => some (Value.string s)) (bytes_eq e5)
end Go.Proofs.YtlhkfafdioakeaaGreatDoor
