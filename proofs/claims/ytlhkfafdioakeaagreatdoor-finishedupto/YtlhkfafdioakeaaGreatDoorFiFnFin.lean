/- Proved here: weftkeep.Finished, where what it reads is of the bulk that the second form asks: when all is done that can be done, all is delivered that the policy and the links bring forth, as often as they do, if that ends; and each switch has as much of its table as it has room for: the law answers true, and its arguments read as before. -/
import Derived.Test.YtlhkfafdioakeaaGreatDoorFi48
namespace Go.Proofs.YtlhkfafdioakeaaGreatDoor
open Go.ChangeShapes Go.WideShapes Go.ChangeAt Go.WideMaps Go.WideElems Go.RowKit Go.Weft
open Go.ChangeMaps (open_string shut_string)
set_option linter.unusedVariables false
set_option linter.unusedSimpArgs false
theorem finishedUpto_holds:Rows.FinishedUptoCardSaid:=
 Claim7.holds_tied_plain_at .later [] _ _ _ _ Td (fun _ h=>by cases h) (by kernel_rfl) (fun _ h=>by cases h) finishedUpto_row_tie rfl ⟨rfl,rfl⟩ (by kernel_rfl) rfl
  (fun f fn hf hfn=>by
   obtain rfl:f=10:=Option.some.inj (hf.symm.trans (by kernel_rfl));obtain rfl:fn=Tryz.f10:=(Option.some.inj (Tryz.func10.symm.trans hfn)).symm
   exact⟨by kernel_rfl,fun j t ht=>by
    rw[Tryz.params10]at ht;have hm:t∈[9,77,88,38]:=by simpa using Array.mem_of_getElem? ht
    have hall:([9,77,88,38].all fun u=>!Tryz.prog.wantsStandIn u)=true:=by kernel_rfl
    exact(show Tryz.prog.wantsStandIn t=false by simpa using List.all_eq_true.1 hall t hm)⟩)
  (by kernel_rfl)
end Go.Proofs.YtlhkfafdioakeaaGreatDoor
