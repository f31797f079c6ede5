/- Proved here: the walk of Tabled, for whatever text. -/
import Derived.Test.YtlhkfafdioakeaaGreatDoorTbT
namespace Go.Proofs.YtlhkfafdioakeaaGreatDoor
open Go.RowKit Go.Weft
theorem tabled_any (s : ByteArray) (c1 c2 : Int) (rv : Value) (m : Nat) (w : World) (hn : Names w) (he : Evy w) (hs : s.size ≤ 9223372036854775807) (hc1 : -9223372036854775808 ≤ c1 ∧ c1 ≤ 9223372036854775807) (hrow : RRow w rv m) :
    Calls Tryz.prog 7 #[.string s, .int .i64 c1, .int .i64 c2, rv] w fun e w' => e = .returned (.bool true) ∧ w.grownBy w' none := by
  cases hr : readS s with
  | error x => obtain ⟨en, pl⟩ := x; exact tabled_err s c1 c2 rv w hn hs en pl hr
  | ok t => exact tabled_ok (fun s t w b z h hr he h0 h1 => told_any s t w b z h hr he h0 h1) s c1 c2 rv m w hn he hs hc1 t hr hrow
end Go.Proofs.YtlhkfafdioakeaaGreatDoor
