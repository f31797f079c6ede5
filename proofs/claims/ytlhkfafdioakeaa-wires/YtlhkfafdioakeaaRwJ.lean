/- Proved here: what the document's Encode answers. -/
import Derived.Test.YtlhkfafdioakeaaRwH
import Derived.Test.YtlhkfafdioakeaaRwI
namespace Go.Proofs.Ytlhkfafdioakeaa
open Go.RowKit
theorem rEncode_any (m : Msg) (a b : Option Addr) (ca cb : Nat) (w : World) (hav : PkRow w (.slice a m.na ca) m.na m.acts) (hpv : PkRow w (.slice b m.np cb) m.np m.pks) :
    Calls Try.prog 16 #[msgV m (.slice a m.na ca) (.slice b m.np cb)] w (EncOut m w) := by
  by_cases hc : canS m
  · refine Calls.mono (R := fun e w' => e = .returned (.tuple #[.string (strB (encB m)), .int .i64 0]) ∧ w.grownBy w' none) ?_ fun e w' h => ⟨h.2, .inl ⟨hc, h.1⟩⟩
    by_cases h1 : m.kind = 1
    · exact rEncode1 m a b ca cb w hav hpv hc h1
    · by_cases h4 : m.kind = 4
      · exact rEncode4 m a b ca cb w hav hpv hc h4
      · by_cases h5 : m.kind = 5
        · exact rEncode5 m a b ca cb w hav hpv hc h5
        · exact rEncode0 m a b ca cb w hav hpv hc ⟨h1, h4, h5⟩
  · exact (rEncode_no m a b ca cb w hav hpv hc).mono fun e w' h => ⟨h.2, .inr ⟨hc, h.1⟩⟩
end Go.Proofs.Ytlhkfafdioakeaa
