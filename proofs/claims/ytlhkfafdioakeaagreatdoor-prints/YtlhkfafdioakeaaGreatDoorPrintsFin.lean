/- Proved here: for every text, Print and Compile answer as the document says: the statement on prints. -/
import Derived.Test.YtlhkfafdioakeaaGreatDoorGPr
namespace Go.Proofs.YtlhkfafdioakeaaGreatDoor
theorem prints_holds : Rows.PrintsCardSaid := prints_card prints_walk
end Go.Proofs.YtlhkfafdioakeaaGreatDoor
