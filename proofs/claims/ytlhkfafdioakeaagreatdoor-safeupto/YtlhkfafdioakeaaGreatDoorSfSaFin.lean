/- Proved here: weftkeep.Safe, where what it reads is of the bulk that the second form asks: whatever is done in whatever order, nothing is delivered that the policy and the links do not bring forth, nor more often: the law answers true, and its arguments read as before. -/
import Derived.Test.YtlhkfafdioakeaaGreatDoorSf48
namespace Go.Proofs.YtlhkfafdioakeaaGreatDoor
open Go.ChangeShapes Go.WideShapes Go.ChangeAt Go.WideMaps Go.WideElems Go.RowKit Go.Weft
open Go.ChangeMaps (open_string shut_string)
set_option linter.unusedVariables false
set_option linter.unusedSimpArgs false
theorem safeUpto_holds:Rows.SafeUptoCardSaid:=
 Claim7.holds_tied_plain_at .later [] _ _ _ _ xvh (fun _ h=>by cases h) (by kernel_rfl) (fun _ h=>by cases h) safeUpto_row_tie rfl ⟨rfl,rfl⟩ (by kernel_rfl) rfl
  (fun f fn hf hfn=>by
   obtain rfl:f=9:=Option.some.inj (hf.symm.trans (by kernel_rfl));obtain rfl:fn=Tryz.f9:=(Option.some.inj (Tryz.func9.symm.trans hfn)).symm
   exact ⟨by kernel_rfl,fun j t ht=>by
    rw [Tryz.params9] at ht;have hm:t∈[9,77,88]:=by simpa using Array.mem_of_getElem? ht
    have hall:([9,77,88].all fun u=>!Tryz.prog.wantsStandIn u)=true:=by kernel_rfl
    exact (show Tryz.prog.wantsStandIn t=false by simpa using List.all_eq_true.1 hall t hm)⟩)
  (by kernel_rfl)
end Go.Proofs.YtlhkfafdioakeaaGreatDoor
