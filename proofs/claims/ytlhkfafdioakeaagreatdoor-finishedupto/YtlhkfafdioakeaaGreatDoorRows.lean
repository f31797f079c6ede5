/-
  NARROWER THAN 'FOR EVERY INPUT', by the rows' own cells (each row's printed sentence says how): Prints: laid · Evals: laid · Built: laid · Again: laid · Tabled: laid · Networks: laid · Safe: laid · Finished: laid.
  DERIVED. THE GIVEN ROWS OF THIS SEAT. 8 by the template 'for every input the law returns true; each argument reads behind the call as it read before'; 0 by the template 'total and deterministic' (their statements: YtlhkfafdioakeaaGreatDoorTotals.lean).
  GIVEN WITH THE SEED: the statements are not yours to turn. If you find one false, say at which input.
  Laid BY PROGRAM, IN A SANDBOX (cutbox-rows.mjs): the forced cells as the released guide's own fill.sh prints them over the translation 78eb9b0106034ad6… (all of the seat's roots in one cut). By AI agents, Wed Nov 11 2026. No macro, syntax, notation, axiom, sorry.
-/
import Derived.Test.YtlhkfafdioakeaaGreatDoorChecked
import GoSem.Claim
import GoSem.ClaimJoined
import GoSem.ClaimMapViews
import Derived.JoinedTies
import Derived.KernelRfl
namespace Go.Proofs.YtlhkfafdioakeaaGreatDoor
/- THE CELL 'sum', in the pinned program and in every row, IS THE sha256 OF THE DUMP (.gsa) THAT YtlhkfafdioakeaaGreatDoorProg.lean LOADS. Nothing in Lean hashes anything: it is a label: what it is worth is what the hold of that sum in a sandbox is worth. -/
noncomputable def Tryz.pinned : Pinned := { name := "ytlhkfafdioakeaagreatdoor", sum := "78eb9b0106034ad6c8ff7575c90b1e62eee91ee3319ae84259812397fdd029d5", checked := Tryz.checked }
namespace Rows
def none {H : Type} : Left H := { results := [], args := [] }

/- WHAT THE LISTED PACKAGE-LEVEL VARIABLES READ AS WHEN THE CALL BEGINS. Each datum BY PROGRAM (the guide's laid-datum.mjs) off the statement by which the dump's own 'gosem.cut.vars' lays the variable. In a bare row this is a premise. The card (YtlhkfafdioakeaaGreatDoorCards.lean) ties it to the program's text. -/
def laid_weft_tree_names {H : Type} : DataW H := .agg [.lit (.string [115, 119]), .lit (.string [112, 116]), .lit (.string [116, 121, 112]), .lit (.string [115, 114, 99]), .lit (.string [100, 115, 116]), .lit (.string [116, 97, 103])]
def laid_weft_tables_everything {H : Type} : DataW H := .agg [.lit (.int .i64 (-1)), .lit (.int .i64 (-1)), .lit (.int .i64 (-1)), .lit (.int .i64 (-1)), .lit (.int .i64 (-1)), .lit (.int .i64 (-1))]

/-- 'weftlaw.Prints': WHATEVER THE INPUT: true; the input reads as it did. -/
def printsSpec : ChangeSpec := { name := "prints", fn := fun _ => fun
  | [d] => { results := [.lit (.bool true)], args := [d] }
  | _ => none }
def printsRow : OpenClaim := { program := "ytlhkfafdioakeaagreatdoor", sum := "78eb9b0106034ad6c8ff7575c90b1e62eee91ee3319ae84259812397fdd029d5", func := "weft/weftlaw.Prints", spec := "prints", unfollowed := true, recurses := true, named := ["weft/tree.names"], plainKeys := false, apart := false, laid := [("weft/tree.names", laid_weft_tree_names)] }
def PrintsSaid : Prop := printsRow.holds Tryz.pinned (OpenSpec.ofChange printsSpec)

/-- ITS FALSE NEIGHBOUR: 'it returns false'. Refute it at one input. -/
def printsWrong : ChangeSpec := { name := "prints", fn := fun _ => fun
  | [d] => { results := [.lit (.bool false)], args := [d] }
  | _ => none }
def PrintsWrongFalsely : Prop := printsRow.holds Tryz.pinned (OpenSpec.ofChange printsWrong)

/-- 'weftlaw.Evals': WHATEVER THE INPUT: true; the input reads as it did. -/
def evalsSpec : ChangeSpec := { name := "evals", fn := fun _ => fun
  | [d1, d2] => { results := [.lit (.bool true)], args := [d1, d2] }
  | _ => none }
def evalsRow : OpenClaim := { program := "ytlhkfafdioakeaagreatdoor", sum := "78eb9b0106034ad6c8ff7575c90b1e62eee91ee3319ae84259812397fdd029d5", func := "weft/weftlaw.Evals", spec := "evals", unfollowed := true, recurses := true, named := ["weft/tree.names"], plainKeys := false, apart := false, laid := [("weft/tree.names", laid_weft_tree_names)] }
def EvalsSaid : Prop := evalsRow.holds Tryz.pinned (OpenSpec.ofChange evalsSpec)

/-- ITS FALSE NEIGHBOUR: 'it returns false'. Refute it at one input. -/
def evalsWrong : ChangeSpec := { name := "evals", fn := fun _ => fun
  | [d1, d2] => { results := [.lit (.bool false)], args := [d1, d2] }
  | _ => none }
def EvalsWrongFalsely : Prop := evalsRow.holds Tryz.pinned (OpenSpec.ofChange evalsWrong)

/-- 'weftkeep.Built': WHATEVER THE INPUT: true; the input reads as it did. -/
def builtSpec : ChangeSpec := { name := "built", fn := fun _ => fun
  | [d1, d2, d3] => { results := [.lit (.bool true)], args := [d1, d2, d3] }
  | _ => none }
def builtRow : OpenClaim := { program := "ytlhkfafdioakeaagreatdoor", sum := "78eb9b0106034ad6c8ff7575c90b1e62eee91ee3319ae84259812397fdd029d5", func := "weft/weftkeep.Built", spec := "built", unfollowed := true, recurses := true, named := ["weft/tree.names"], plainKeys := false, apart := false, laid := [("weft/tree.names", laid_weft_tree_names)] }
def BuiltSaid : Prop := builtRow.holds Tryz.pinned (OpenSpec.ofChange builtSpec)

/-- ITS FALSE NEIGHBOUR: 'it returns false'. Refute it at one input. -/
def builtWrong : ChangeSpec := { name := "built", fn := fun _ => fun
  | [d1, d2, d3] => { results := [.lit (.bool false)], args := [d1, d2, d3] }
  | _ => none }
def BuiltWrongFalsely : Prop := builtRow.holds Tryz.pinned (OpenSpec.ofChange builtWrong)

/-- 'weftkeep.Again': WHATEVER THE INPUT: true; the input reads as it did. -/
def againSpec : ChangeSpec := { name := "again", fn := fun _ => fun
  | [d1, d2] => { results := [.lit (.bool true)], args := [d1, d2] }
  | _ => none }
def againRow : OpenClaim := { program := "ytlhkfafdioakeaagreatdoor", sum := "78eb9b0106034ad6c8ff7575c90b1e62eee91ee3319ae84259812397fdd029d5", func := "weft/weftkeep.Again", spec := "again", unfollowed := true, recurses := true, named := ["weft/tree.names"], plainKeys := false, apart := false, laid := [("weft/tree.names", laid_weft_tree_names)] }
def AgainSaid : Prop := againRow.holds Tryz.pinned (OpenSpec.ofChange againSpec)

/-- ITS FALSE NEIGHBOUR: 'it returns false'. Refute it at one input. -/
def againWrong : ChangeSpec := { name := "again", fn := fun _ => fun
  | [d1, d2] => { results := [.lit (.bool false)], args := [d1, d2] }
  | _ => none }
def AgainWrongFalsely : Prop := againRow.holds Tryz.pinned (OpenSpec.ofChange againWrong)

/-- 'weftkeep.Tabled': WHATEVER THE INPUT: true; the input reads as it did. -/
def tabledSpec : ChangeSpec := { name := "tabled", fn := fun _ => fun
  | [d1, d2, d3, d4] => { results := [.lit (.bool true)], args := [d1, d2, d3, d4] }
  | _ => none }
def tabledRow : OpenClaim := { program := "ytlhkfafdioakeaagreatdoor", sum := "78eb9b0106034ad6c8ff7575c90b1e62eee91ee3319ae84259812397fdd029d5", func := "weft/weftkeep.Tabled", spec := "tabled", unfollowed := true, recurses := true, named := ["weft/tree.names", "weft/tables.everything"], plainKeys := false, apart := false, laid := [("weft/tree.names", laid_weft_tree_names), ("weft/tables.everything", laid_weft_tables_everything)] }
def TabledSaid : Prop := tabledRow.holds Tryz.pinned (OpenSpec.ofChange tabledSpec)

/-- ITS FALSE NEIGHBOUR: 'it returns false'. Refute it at one input. -/
def tabledWrong : ChangeSpec := { name := "tabled", fn := fun _ => fun
  | [d1, d2, d3, d4] => { results := [.lit (.bool false)], args := [d1, d2, d3, d4] }
  | _ => none }
def TabledWrongFalsely : Prop := tabledRow.holds Tryz.pinned (OpenSpec.ofChange tabledWrong)

/-- 'weftlaw.Networks': WHATEVER THE INPUT: true; the input reads as it did. -/
def networksSpec : ChangeSpec := { name := "networks", fn := fun _ => fun
  | [d] => { results := [.lit (.bool true)], args := [d] }
  | _ => none }
def networksRow : OpenClaim := { program := "ytlhkfafdioakeaagreatdoor", sum := "78eb9b0106034ad6c8ff7575c90b1e62eee91ee3319ae84259812397fdd029d5", func := "weft/weftlaw.Networks", spec := "networks", unfollowed := true, recurses := true, named := ["weft/tree.names", "weft/tables.everything"], plainKeys := false, apart := false, laid := [("weft/tree.names", laid_weft_tree_names), ("weft/tables.everything", laid_weft_tables_everything)] }
def NetworksSaid : Prop := networksRow.holds Tryz.pinned (OpenSpec.ofChange networksSpec)

/-- ITS FALSE NEIGHBOUR: 'it returns false'. Refute it at one input. -/
def networksWrong : ChangeSpec := { name := "networks", fn := fun _ => fun
  | [d] => { results := [.lit (.bool false)], args := [d] }
  | _ => none }
def NetworksWrongFalsely : Prop := networksRow.holds Tryz.pinned (OpenSpec.ofChange networksWrong)

/-- 'weftkeep.Safe': WHATEVER THE INPUT: true; the input reads as it did. -/
def safeSpec : ChangeSpec := { name := "safe", fn := fun _ => fun
  | [d1, d2, d3] => { results := [.lit (.bool true)], args := [d1, d2, d3] }
  | _ => none }
def safeRow : OpenClaim := { program := "ytlhkfafdioakeaagreatdoor", sum := "78eb9b0106034ad6c8ff7575c90b1e62eee91ee3319ae84259812397fdd029d5", func := "weft/weftkeep.Safe", spec := "safe", unfollowed := true, recurses := true, named := ["weft/tree.names", "weft/tables.everything"], plainKeys := false, apart := false, laid := [("weft/tree.names", laid_weft_tree_names), ("weft/tables.everything", laid_weft_tables_everything)] }
def SafeSaid : Prop := safeRow.holds Tryz.pinned (OpenSpec.ofChange safeSpec)

/-- ITS FALSE NEIGHBOUR: 'it returns false'. Refute it at one input. -/
def safeWrong : ChangeSpec := { name := "safe", fn := fun _ => fun
  | [d1, d2, d3] => { results := [.lit (.bool false)], args := [d1, d2, d3] }
  | _ => none }
def SafeWrongFalsely : Prop := safeRow.holds Tryz.pinned (OpenSpec.ofChange safeWrong)

/-- 'weftkeep.Finished': WHATEVER THE INPUT: true; the input reads as it did. -/
def finishedSpec : ChangeSpec := { name := "finished", fn := fun _ => fun
  | [d1, d2, d3, d4] => { results := [.lit (.bool true)], args := [d1, d2, d3, d4] }
  | _ => none }
def finishedRow : OpenClaim := { program := "ytlhkfafdioakeaagreatdoor", sum := "78eb9b0106034ad6c8ff7575c90b1e62eee91ee3319ae84259812397fdd029d5", func := "weft/weftkeep.Finished", spec := "finished", unfollowed := true, recurses := true, named := ["weft/tree.names", "weft/tables.everything"], plainKeys := false, apart := false, laid := [("weft/tree.names", laid_weft_tree_names), ("weft/tables.everything", laid_weft_tables_everything)] }
def FinishedSaid : Prop := finishedRow.holds Tryz.pinned (OpenSpec.ofChange finishedSpec)

/-- ITS FALSE NEIGHBOUR: 'it returns false'. Refute it at one input. -/
def finishedWrong : ChangeSpec := { name := "finished", fn := fun _ => fun
  | [d1, d2, d3, d4] => { results := [.lit (.bool false)], args := [d1, d2, d3, d4] }
  | _ => none }
def FinishedWrongFalsely : Prop := finishedRow.holds Tryz.pinned (OpenSpec.ofChange finishedWrong)

/- THE SECOND FORM. 'bulk': how many values and letters a reading holds, each counted each time it is reached (what is shared counts as often as it is met; a slice's spare places count too). A statement '..UptoSaid' is the law's where the arguments, and the package variables that the reading takes, are together of bulk at most 1048576: NARROWER than '..Said'. Prove '..Said' where nothing that the law and all that it calls make is longer than what came in: it says more and counts as full. Else prove '..UptoSaid'. A law counts once. -/
mutual
def uptoBulk {H : Type} : DataW H → Nat
  | .lit (.string bytes) => bytes.length + 1
  | .lit _ => 1
  | .nil => 1
  | .ptr d => uptoBulk d + 1
  | .slice elems spare => uptoBulkAll elems + uptoBulkAll spare + 1
  | .agg parts => uptoBulkAll parts + 1
  | .iface _ d => uptoBulk d + 1
  | .map entries => uptoBulkEntries entries + 1
  | .held _ => 1
def uptoBulkAll {H : Type} : List (DataW H) → Nat
  | [] => 0
  | d :: r => uptoBulk d + uptoBulkAll r
def uptoBulkEntries {H : Type} : List (Lit × DataW H) → Nat
  | [] => 0
  | x :: r => uptoBulkEntry x + uptoBulkEntries r
def uptoBulkEntry {H : Type} : Lit × DataW H → Nat
  | (.string bytes, d) => bytes.length + uptoBulk d + 1
  | (_, d) => uptoBulk d + 1
 end
def uptoSmall : (H : Type) → List (DataW H) → Bool := fun _ ds => decide (uptoBulkAll ds ≤ 1048576)
def OpenSpec.upto (s : _root_.Go.ChangeSpec) : _root_.Go.OpenSpec := { _root_.Go.OpenSpec.ofChange s with cond := some uptoSmall }

/-- 'weftlaw.Prints', WHERE WHAT IT READS IS OF BULK AT MOST 1048576: true; the input reads as it did. -/
def printsUptoRow : OpenClaim := { program := "ytlhkfafdioakeaagreatdoor", sum := "78eb9b0106034ad6c8ff7575c90b1e62eee91ee3319ae84259812397fdd029d5", func := "weft/weftlaw.Prints", spec := "prints", unfollowed := true, recurses := true, named := ["weft/tree.names"], plainKeys := false, apart := false, laid := [("weft/tree.names", laid_weft_tree_names)], narrowed := true }
def PrintsUptoSaid : Prop := printsUptoRow.holds Tryz.pinned (OpenSpec.upto printsSpec)

/-- 'weftlaw.Evals', WHERE WHAT IT READS IS OF BULK AT MOST 1048576: true; the input reads as it did. -/
def evalsUptoRow : OpenClaim := { program := "ytlhkfafdioakeaagreatdoor", sum := "78eb9b0106034ad6c8ff7575c90b1e62eee91ee3319ae84259812397fdd029d5", func := "weft/weftlaw.Evals", spec := "evals", unfollowed := true, recurses := true, named := ["weft/tree.names"], plainKeys := false, apart := false, laid := [("weft/tree.names", laid_weft_tree_names)], narrowed := true }
def EvalsUptoSaid : Prop := evalsUptoRow.holds Tryz.pinned (OpenSpec.upto evalsSpec)

/-- 'weftkeep.Built', WHERE WHAT IT READS IS OF BULK AT MOST 1048576: true; the input reads as it did. -/
def builtUptoRow : OpenClaim := { program := "ytlhkfafdioakeaagreatdoor", sum := "78eb9b0106034ad6c8ff7575c90b1e62eee91ee3319ae84259812397fdd029d5", func := "weft/weftkeep.Built", spec := "built", unfollowed := true, recurses := true, named := ["weft/tree.names"], plainKeys := false, apart := false, laid := [("weft/tree.names", laid_weft_tree_names)], narrowed := true }
def BuiltUptoSaid : Prop := builtUptoRow.holds Tryz.pinned (OpenSpec.upto builtSpec)

/-- 'weftkeep.Again', WHERE WHAT IT READS IS OF BULK AT MOST 1048576: true; the input reads as it did. -/
def againUptoRow : OpenClaim := { program := "ytlhkfafdioakeaagreatdoor", sum := "78eb9b0106034ad6c8ff7575c90b1e62eee91ee3319ae84259812397fdd029d5", func := "weft/weftkeep.Again", spec := "again", unfollowed := true, recurses := true, named := ["weft/tree.names"], plainKeys := false, apart := false, laid := [("weft/tree.names", laid_weft_tree_names)], narrowed := true }
def AgainUptoSaid : Prop := againUptoRow.holds Tryz.pinned (OpenSpec.upto againSpec)

/-- 'weftkeep.Tabled', WHERE WHAT IT READS IS OF BULK AT MOST 1048576: true; the input reads as it did. -/
def tabledUptoRow : OpenClaim := { program := "ytlhkfafdioakeaagreatdoor", sum := "78eb9b0106034ad6c8ff7575c90b1e62eee91ee3319ae84259812397fdd029d5", func := "weft/weftkeep.Tabled", spec := "tabled", unfollowed := true, recurses := true, named := ["weft/tree.names", "weft/tables.everything"], plainKeys := false, apart := false, laid := [("weft/tree.names", laid_weft_tree_names), ("weft/tables.everything", laid_weft_tables_everything)], narrowed := true }
def TabledUptoSaid : Prop := tabledUptoRow.holds Tryz.pinned (OpenSpec.upto tabledSpec)

/-- 'weftlaw.Networks', WHERE WHAT IT READS IS OF BULK AT MOST 1048576: true; the input reads as it did. -/
def networksUptoRow : OpenClaim := { program := "ytlhkfafdioakeaagreatdoor", sum := "78eb9b0106034ad6c8ff7575c90b1e62eee91ee3319ae84259812397fdd029d5", func := "weft/weftlaw.Networks", spec := "networks", unfollowed := true, recurses := true, named := ["weft/tree.names", "weft/tables.everything"], plainKeys := false, apart := false, laid := [("weft/tree.names", laid_weft_tree_names), ("weft/tables.everything", laid_weft_tables_everything)], narrowed := true }
def NetworksUptoSaid : Prop := networksUptoRow.holds Tryz.pinned (OpenSpec.upto networksSpec)

/-- 'weftkeep.Safe', WHERE WHAT IT READS IS OF BULK AT MOST 1048576: true; the input reads as it did. -/
def safeUptoRow : OpenClaim := { program := "ytlhkfafdioakeaagreatdoor", sum := "78eb9b0106034ad6c8ff7575c90b1e62eee91ee3319ae84259812397fdd029d5", func := "weft/weftkeep.Safe", spec := "safe", unfollowed := true, recurses := true, named := ["weft/tree.names", "weft/tables.everything"], plainKeys := false, apart := false, laid := [("weft/tree.names", laid_weft_tree_names), ("weft/tables.everything", laid_weft_tables_everything)], narrowed := true }
def SafeUptoSaid : Prop := safeUptoRow.holds Tryz.pinned (OpenSpec.upto safeSpec)

/-- 'weftkeep.Finished', WHERE WHAT IT READS IS OF BULK AT MOST 1048576: true; the input reads as it did. -/
def finishedUptoRow : OpenClaim := { program := "ytlhkfafdioakeaagreatdoor", sum := "78eb9b0106034ad6c8ff7575c90b1e62eee91ee3319ae84259812397fdd029d5", func := "weft/weftkeep.Finished", spec := "finished", unfollowed := true, recurses := true, named := ["weft/tree.names", "weft/tables.everything"], plainKeys := false, apart := false, laid := [("weft/tree.names", laid_weft_tree_names), ("weft/tables.everything", laid_weft_tables_everything)], narrowed := true }
def FinishedUptoSaid : Prop := finishedUptoRow.holds Tryz.pinned (OpenSpec.upto finishedSpec)

end Rows
end Go.Proofs.YtlhkfafdioakeaaGreatDoor
