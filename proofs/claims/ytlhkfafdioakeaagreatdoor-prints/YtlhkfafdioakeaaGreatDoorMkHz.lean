/- Proved here: the maker of the tables of a policy. -/
import Derived.Test.YtlhkfafdioakeaaGreatDoorMkHa
import Derived.Test.YtlhkfafdioakeaaGreatDoorMkHb
import Derived.Test.YtlhkfafdioakeaaGreatDoorMkHc
namespace Go.Proofs.YtlhkfafdioakeaaGreatDoor
open Go.RowKit Go.Weft
set_option linter.unusedVariables false
set_option linter.unusedSimpArgs false
theorem maker_any (ok : Nat → Prop) (t : Code) (v : Value) (st : Int) (pa : Option Addr) (pn pc : Nat) (w : World) (h : (TV ok w t).1 v) (ha : (atomsC t).length ≤ 1000) :
    Calls Tryz.prog 51 #[v, .agg #[.slice pa pn pc, .int .i64 st]] w fun x w' => ∃ r o, x = .returned (mkV (.slice pa pn pc) st r o) ∧ MkO (w.heap.size + 4) w' (atomsC t) r o ∧ w.grownBy w' none := by
  obtain ⟨i0, hi0, hz0, hz1, hz2⟩ := info_parts Tryz.infoIntF
  have CA := hide (fun ww (hg : w.grownBy ww none) => atoms_any ok (szC t) t v ww (Nat.le_refl _) (TV_kept h hg) (by omega))
  have HLT : Hid (∀ n, n ∈ atomsC t → 1 < n ∧ n < 386) := (atoms_lt t).1 v h
  obtain ⟨T, u, rfl⟩ := TV_iface h
  exact mkSkel.2.2.2 (fun _ => mkP1) (fun _ => mkP2) (fun _ => mkP3) ok st pa pn pc w i0 hi0 hz0 hz1 hz2 T u (atomsC t) ha HLT CA
end Go.Proofs.YtlhkfafdioakeaaGreatDoor
