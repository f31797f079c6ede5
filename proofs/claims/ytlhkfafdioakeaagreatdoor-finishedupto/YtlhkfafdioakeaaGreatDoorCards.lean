/-
  DERIVED. GIVEN WITH THE SEED: THE CARDS: each row of YtlhkfafdioakeaaGreatDoorRows.lean that lists a variable, with what it lists TIED to the program's text (the seventh form; the later family's looks); each row that meets fmt, with fmt's text TOLD by the authors' own Lean function (tested against real Go, not proved from fmt's source: count such statements apart). THE CARD IS WHAT COUNTS. Prove the row's statement (the work); the ties are given (YtlhkfafdioakeaaGreatDoorTie.lean); close each card by the builder's one call (the guide's Derived/Test/ToyasCard.lean, 'card_holds'). Laid BY PROGRAM, IN A SANDBOX (cutbox-door.mjs). By AI agents, Wed Nov 11 2026. No macro, syntax, notation, axiom, sorry.
-/
import Derived.Test.YtlhkfafdioakeaaGreatDoorRows
import GoSem.ClaimSeven
namespace Go.Proofs.YtlhkfafdioakeaaGreatDoor
namespace Rows

/-- THE TIED CARD OF 'weftlaw.Prints'. -/
def printsCard : Claim7 := { stood := { row := printsRow, standIns := [], harness := (true, "994157c438d4b6b75291e06abb9e2931991d43c7501714675e860902fe6ee212"), looks := true }, kinds := [], alts := [], laidByText := true, laidKinds := [.data], laidTests := true, laidLooks := .later }
def PrintsCardSaid : Prop := Claim7.holds Tryz.pinned (.plain (OpenSpec.ofChange printsSpec)) printsCard

/-- THE TIED CARD OF 'weftlaw.Evals'. -/
def evalsCard : Claim7 := { stood := { row := evalsRow, standIns := [], harness := (true, "994157c438d4b6b75291e06abb9e2931991d43c7501714675e860902fe6ee212"), looks := true }, kinds := [], alts := [], laidByText := true, laidKinds := [.data], laidTests := true, laidLooks := .later }
def EvalsCardSaid : Prop := Claim7.holds Tryz.pinned (.plain (OpenSpec.ofChange evalsSpec)) evalsCard

/-- THE TIED CARD OF 'weftkeep.Built'. -/
def builtCard : Claim7 := { stood := { row := builtRow, standIns := [], harness := (true, "994157c438d4b6b75291e06abb9e2931991d43c7501714675e860902fe6ee212"), looks := true }, kinds := [], alts := [], laidByText := true, laidKinds := [.data], laidTests := true, laidLooks := .later }
def BuiltCardSaid : Prop := Claim7.holds Tryz.pinned (.plain (OpenSpec.ofChange builtSpec)) builtCard

/-- THE TIED CARD OF 'weftkeep.Again'. -/
def againCard : Claim7 := { stood := { row := againRow, standIns := [], harness := (true, "994157c438d4b6b75291e06abb9e2931991d43c7501714675e860902fe6ee212"), looks := true }, kinds := [], alts := [], laidByText := true, laidKinds := [.data], laidTests := true, laidLooks := .later }
def AgainCardSaid : Prop := Claim7.holds Tryz.pinned (.plain (OpenSpec.ofChange againSpec)) againCard

/-- THE TIED CARD OF 'weftkeep.Tabled'. -/
def tabledCard : Claim7 := { stood := { row := tabledRow, standIns := [], harness := (true, "994157c438d4b6b75291e06abb9e2931991d43c7501714675e860902fe6ee212"), looks := true }, kinds := [], alts := [], laidByText := true, laidKinds := [.data, .data], laidTests := true, laidLooks := .later }
def TabledCardSaid : Prop := Claim7.holds Tryz.pinned (.plain (OpenSpec.ofChange tabledSpec)) tabledCard

/-- THE TIED CARD OF 'weftlaw.Networks'. -/
def networksCard : Claim7 := { stood := { row := networksRow, standIns := [], harness := (true, "994157c438d4b6b75291e06abb9e2931991d43c7501714675e860902fe6ee212"), looks := true }, kinds := [], alts := [], laidByText := true, laidKinds := [.data, .data], laidTests := true, laidLooks := .later }
def NetworksCardSaid : Prop := Claim7.holds Tryz.pinned (.plain (OpenSpec.ofChange networksSpec)) networksCard

/-- THE TIED CARD OF 'weftkeep.Safe'. -/
def safeCard : Claim7 := { stood := { row := safeRow, standIns := [], harness := (true, "994157c438d4b6b75291e06abb9e2931991d43c7501714675e860902fe6ee212"), looks := true }, kinds := [], alts := [], laidByText := true, laidKinds := [.data, .data], laidTests := true, laidLooks := .later }
def SafeCardSaid : Prop := Claim7.holds Tryz.pinned (.plain (OpenSpec.ofChange safeSpec)) safeCard

/-- THE TIED CARD OF 'weftkeep.Finished'. -/
def finishedCard : Claim7 := { stood := { row := finishedRow, standIns := [], harness := (true, "994157c438d4b6b75291e06abb9e2931991d43c7501714675e860902fe6ee212"), looks := true }, kinds := [], alts := [], laidByText := true, laidKinds := [.data, .data], laidTests := true, laidLooks := .later }
def FinishedCardSaid : Prop := Claim7.holds Tryz.pinned (.plain (OpenSpec.ofChange finishedSpec)) finishedCard

/-- THE SECOND FORM's CARD OF 'weftlaw.Prints'. -/
def printsUptoCard : Claim7 := { stood := { row := printsUptoRow, standIns := [], harness := (true, "994157c438d4b6b75291e06abb9e2931991d43c7501714675e860902fe6ee212"), looks := true }, kinds := [], alts := [], laidByText := true, laidKinds := [.data], laidTests := true, laidLooks := .later }
def PrintsUptoCardSaid : Prop := Claim7.holds Tryz.pinned (.plain (OpenSpec.upto printsSpec)) printsUptoCard

/-- THE SECOND FORM's CARD OF 'weftlaw.Evals'. -/
def evalsUptoCard : Claim7 := { stood := { row := evalsUptoRow, standIns := [], harness := (true, "994157c438d4b6b75291e06abb9e2931991d43c7501714675e860902fe6ee212"), looks := true }, kinds := [], alts := [], laidByText := true, laidKinds := [.data], laidTests := true, laidLooks := .later }
def EvalsUptoCardSaid : Prop := Claim7.holds Tryz.pinned (.plain (OpenSpec.upto evalsSpec)) evalsUptoCard

/-- THE SECOND FORM's CARD OF 'weftkeep.Built'. -/
def builtUptoCard : Claim7 := { stood := { row := builtUptoRow, standIns := [], harness := (true, "994157c438d4b6b75291e06abb9e2931991d43c7501714675e860902fe6ee212"), looks := true }, kinds := [], alts := [], laidByText := true, laidKinds := [.data], laidTests := true, laidLooks := .later }
def BuiltUptoCardSaid : Prop := Claim7.holds Tryz.pinned (.plain (OpenSpec.upto builtSpec)) builtUptoCard

/-- THE SECOND FORM's CARD OF 'weftkeep.Again'. -/
def againUptoCard : Claim7 := { stood := { row := againUptoRow, standIns := [], harness := (true, "994157c438d4b6b75291e06abb9e2931991d43c7501714675e860902fe6ee212"), looks := true }, kinds := [], alts := [], laidByText := true, laidKinds := [.data], laidTests := true, laidLooks := .later }
def AgainUptoCardSaid : Prop := Claim7.holds Tryz.pinned (.plain (OpenSpec.upto againSpec)) againUptoCard

/-- THE SECOND FORM's CARD OF 'weftkeep.Tabled'. -/
def tabledUptoCard : Claim7 := { stood := { row := tabledUptoRow, standIns := [], harness := (true, "994157c438d4b6b75291e06abb9e2931991d43c7501714675e860902fe6ee212"), looks := true }, kinds := [], alts := [], laidByText := true, laidKinds := [.data, .data], laidTests := true, laidLooks := .later }
def TabledUptoCardSaid : Prop := Claim7.holds Tryz.pinned (.plain (OpenSpec.upto tabledSpec)) tabledUptoCard

/-- THE SECOND FORM's CARD OF 'weftlaw.Networks'. -/
def networksUptoCard : Claim7 := { stood := { row := networksUptoRow, standIns := [], harness := (true, "994157c438d4b6b75291e06abb9e2931991d43c7501714675e860902fe6ee212"), looks := true }, kinds := [], alts := [], laidByText := true, laidKinds := [.data, .data], laidTests := true, laidLooks := .later }
def NetworksUptoCardSaid : Prop := Claim7.holds Tryz.pinned (.plain (OpenSpec.upto networksSpec)) networksUptoCard

/-- THE SECOND FORM's CARD OF 'weftkeep.Safe'. -/
def safeUptoCard : Claim7 := { stood := { row := safeUptoRow, standIns := [], harness := (true, "994157c438d4b6b75291e06abb9e2931991d43c7501714675e860902fe6ee212"), looks := true }, kinds := [], alts := [], laidByText := true, laidKinds := [.data, .data], laidTests := true, laidLooks := .later }
def SafeUptoCardSaid : Prop := Claim7.holds Tryz.pinned (.plain (OpenSpec.upto safeSpec)) safeUptoCard

/-- THE SECOND FORM's CARD OF 'weftkeep.Finished'. -/
def finishedUptoCard : Claim7 := { stood := { row := finishedUptoRow, standIns := [], harness := (true, "994157c438d4b6b75291e06abb9e2931991d43c7501714675e860902fe6ee212"), looks := true }, kinds := [], alts := [], laidByText := true, laidKinds := [.data, .data], laidTests := true, laidLooks := .later }
def FinishedUptoCardSaid : Prop := Claim7.holds Tryz.pinned (.plain (OpenSpec.upto finishedSpec)) finishedUptoCard
end Rows
end Go.Proofs.YtlhkfafdioakeaaGreatDoor
