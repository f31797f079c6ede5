/- Proved here: what arguments that are lists of numbers, and lists of such lists, read as. -/
import Derived.Test.YtlhkfafdioakeaaGreatDoorGKp
import Derived.ProofKit
import Derived.OpenShut
import Derived.Carry
import Derived.Deep.Matrix
import Derived.Deep.Slices
namespace Go.Proofs.YtlhkfafdioakeaaGreatDoor
open Go.ChangeShapes Go.WideShapes Go.ChangeAt Go.WideMaps Go.WideElems Go.RowKit
set_option linter.unusedVariables false
set_option linter.unusedSimpArgs false
theorem wf_range {n : Int} (h : (Lit.int .i64 n).wf = true) : -9223372036854775808 ≤ n ∧ n ≤ 9223372036854775807 := by
  simp only [Lit.wf, IntKind.min, IntKind.max, IntKind.signed, IntKind.bits, Bool.and_eq_true, decide_eq_true_eq, if_true] at h
  omega
/-- A list of lists of numbers, as the reader reads it. -/
theorem rrow_of_trod {H : Type} {enc : TypeId × Value → H} {W : World} {a0 : Option Addr} {n c0 : Nat} {d : DataW H} {ps : List MemPlace} (h : DataW.Trod enc Tryz.prog W 0 (fun _ => true) true 60 (.slice a0 n c0) d ps) : RRow W (.slice a0 n c0) n := by
  obtain ⟨fuel, hf⟩ := h
  rcases Deep.open_int_rows Tryz.underlying60 Tryz.underlying38 Tryz.underlying3 (by kernel_rfl) (by kernel_rfl) hf with ⟨hcs, _⟩ | ⟨a, len, cap, A, L, C, Z, hcs, _, hl, hm, _, hrows⟩
  · simp [Value.cells] at hcs
    obtain ⟨rfl, rfl, rfl⟩ := hcs
    exact .inl ⟨_, _, rfl, rfl⟩
  · simp [Value.cells] at hcs
    obtain ⟨rfl, rfl, rfl⟩ := hcs
    by_cases h0 : n = 0
    · exact .inl ⟨_, _, rfl, h0⟩
    have hm63 : c0 ≤ 9223372036854775807 := by unfold maxLen at hm; omega
    obtain ⟨bm, om, spot⟩ := a
    have hspot : spot = none := by simpa [Addr.add] using World.cell?_spot (hrows 0 (by omega)).1
    subst hspot
    have plain : ∀ b o r, (⟨b, o, none⟩ : Addr).add r = ⟨b, o + r, none⟩ := fun b o r => by unfold Addr.add; split <;> simp_all
    refine .inr ⟨bm, om, c0, rfl, by omega, fun j hj => ?_⟩
    obtain ⟨hc, h1, h2, h3, h4, h5, h6⟩ := hrows j (by omega)
    rw [plain] at hc
    refine ⟨_, L j, hc, ?_⟩
    by_cases hL : L j = 0
    · exact .inl ⟨_, _, rfl, hL⟩
    cases hA : A j with
    | none => have := h5 hA; omega
    | some a' =>
      obtain ⟨_, hcell⟩ := h6 a' hA
      obtain ⟨b', o', sp'⟩ := a'
      have hsp : sp' = none := by simpa [Addr.add] using World.cell?_spot (hcell 0 (by omega))
      subst hsp
      refine .inr ⟨b', o', C j, rfl, by unfold maxLen at h2; omega, fun i hi => ?_⟩
      have hci := hcell i (by omega)
      rw [plain] at hci
      have hmem : (Z j).getD i 0 ∈ Z j := by
        have hlt : i < (Z j).length := by omega
        simp [List.getD, List.getElem?_eq_getElem hlt]
      exact ⟨_, hci, (wf_range (h4 _ hmem)).1, (wf_range (h4 _ hmem)).2⟩
/-- A list of numbers, as the reader reads it. -/
theorem irow_of_trod {H : Type} {enc : TypeId × Value → H} {W : World} {a0 : Option Addr} {n c0 : Nat} {d : DataW H} {ps : List MemPlace} (h : DataW.Trod enc Tryz.prog W 0 (fun _ => true) true 38 (.slice a0 n c0) d ps) : IRow W (.slice a0 n c0) n := by
  obtain ⟨fuel, hf⟩ := h
  have hc : Tryz.prog.cellsOf 3 = 1 := by kernel_rfl
  rcases Deep.open_slice Tryz.underlying38 hf with ⟨h0, _⟩ | ⟨a, len, cap, m, n', D, Pl, h1, h2, h3, h4, h5, h6, h7⟩
  · simp [Value.cells] at h0
    obtain ⟨rfl, rfl, rfl⟩ := h0
    exact .inl ⟨_, _, rfl, rfl⟩
  · simp [Value.cells] at h1
    obtain ⟨rfl, rfl, rfl⟩ := h1
    simp only [if_true] at h5
    subst h5
    rw [hc] at h7
    by_cases h0 : n = 0
    · exact .inl ⟨_, _, rfl, h0⟩
    have each : ∀ i, i < m → ∃ z : Int, W.cell? ((a.add (i * 1)).add 0) = some (.int .i64 z) ∧ -9223372036854775808 ≤ z ∧ z ≤ 9223372036854775807 := by
      intro i hi
      obtain ⟨cs', g1, g2⟩ := h7 i hi
      obtain ⟨z, k1, _, k3⟩ := DataW.trod_int Tryz.underlying3 g2
      obtain ⟨_, _, g3⟩ := World.cells?_some g1
      refine ⟨z, ?_, (wf_range k3).1, (wf_range k3).2⟩
      rw [g3 0 (by omega), k1]; rfl
    obtain ⟨z0, hz0, _⟩ := each 0 (by omega)
    obtain ⟨bm, om, spot⟩ := a
    have hspot : spot = none := by simpa [Addr.add] using World.cell?_spot hz0
    subst hspot
    have plain : ∀ b o r, (⟨b, o, none⟩ : Addr).add r = ⟨b, o + r, none⟩ := fun b o r => by unfold Addr.add; split <;> simp_all
    refine .inr ⟨bm, om, _, rfl, by unfold maxLen at h4; omega, fun j hj => ?_⟩
    obtain ⟨z, hz, hr⟩ := each j (by omega)
    rw [plain, plain, Nat.mul_one, Nat.add_zero] at hz
    exact ⟨z, hz, hr⟩
end Go.Proofs.YtlhkfafdioakeaaGreatDoor
