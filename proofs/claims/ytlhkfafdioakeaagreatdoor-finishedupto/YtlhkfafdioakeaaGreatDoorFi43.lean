/- Parts of the proof. -/
import Derived.Test.YtlhkfafdioakeaaGreatDoorFi37
import Derived.Test.YtlhkfafdioakeaaGreatDoorFi42
import Derived.Test.YtlhkfafdioakeaaGreatDoorFiFrB
namespace Go.Proofs.YtlhkfafdioakeaaGreatDoor
open Go.RowKit Go.Weft
set_option linter.unusedVariables false
set_option linter.unusedSimpArgs false
theorem MvR.grown{w w':World}{v:Value}{n:Nat}{d:Nat->Nat->Int}(h:MvR w v n d)(hg:w.grownBy w' none):MvR w' v n d:=by
 refine⟨h.1,?_⟩;rcases h.2 with h2|⟨g,off,cap,rfl,h2⟩
 ·exact .inl h2
 ·exact .inr ⟨g,off,cap,rfl,fun j hj i hi=>⟨hg.cell (h2 j hj i hi).1 (by simp),(h2 j hj i hi).2⟩⟩
end Go.Proofs.YtlhkfafdioakeaaGreatDoor
