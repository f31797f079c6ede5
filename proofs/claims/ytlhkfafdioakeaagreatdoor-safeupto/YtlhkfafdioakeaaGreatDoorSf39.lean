/- Parts of the proof. -/
import Derived.Test.YtlhkfafdioakeaaGreatDoorSf36
import Derived.Test.YtlhkfafdioakeaaGreatDoorSf37
import Derived.Test.YtlhkfafdioakeaaGreatDoorSf38
namespace Go.Proofs.YtlhkfafdioakeaaGreatDoor
open Go.RowKit Go.Weft
theorem xnt{K:Gk}(hK:K.ok){gb:Nat}{G:Gg}{fv:Value}{en:Bool}{n:Nat}{role:Nat->Role}{N:NetM}{S:Gs Rl (Nat->Int)}{sent:List (Nat->Int)}{w:World}(h:GAt K gb G fv en n role N S sent w)(hn:n<=9000000)(hln:LnR K.w0 (.slice G.la G.ln G.lc) G.ln K.ld)(kd a b:Int)(hkd:-9223372036854775808<=kd/\kd<=9223372036854775807)(ha:-9223372036854775808<=a/\a<=9223372036854775807)(hb:-9223372036854775808<=b/\b<=9223372036854775807):
  Calls Tryz.prog 42 #[.pointer (some ⟨gb,0,none⟩),.agg #[.int .i64 kd,.int .i64 a,.int .i64 b]] w fun e w'=>e=.returned (.tuple #[])/\MvO K gb G fv en (n+3) w':=by
 have hr:=xrf kd 8 (by omega);by_cases h0:pickS kd 8=0
 ·exact xns hK h hn hln kd a b hkd ha hb h0
 ·by_cases h3:pickS kd 8=3\/pickS kd 8=4
  ·exact xnv hK h hn hln kd a b hkd ha hb h3
  ·exact xnu hK h hn hln kd a b hkd ha hb (by omega)
end Go.Proofs.YtlhkfafdioakeaaGreatDoor
