/- Proved here: what the document's Encode refuses. -/
import Derived.Test.YtlhkfafdioakeaaRwF
namespace Go.Proofs.Ytlhkfafdioakeaa
open Go.RowKit
set_option linter.unusedVariables false
set_option linter.unusedSimpArgs false
set_option maxRecDepth 100000 in
set_option maxHeartbeats 8000000 in
theorem rEncode_no (m : Msg) (a b : Option Addr) (ca cb : Nat) (w : World) (hav : PkRow w (.slice a m.na ca) m.na m.acts) (hpv : PkRow w (.slice b m.np cb) m.np m.pks) (hc : ¬ canS m) :
    Calls Try.prog 16 #[msgV m (.slice a m.na ca) (.slice b m.np cb)] w fun e w' => e = .returned (.tuple #[.string ByteArray.empty, .int .i64 9]) ∧ w.grownBy w' none := by
  have HF := hide (fun w hav hpv => fine_any m a b ca cb w hav hpv)
  have HAV := hide hav
  have HPV := hide hpv
  have hfa := hav.few
  have hfp := hpv.few
  clear hav hpv
  have HCI : Hid (¬ (msgS m ∧ m.np ≤ 10922 ∧ m.na ≤ 10920)) := fun h => hc ((can_iff m).2 h)
  clear hc
  obtain ⟨Q, hQ⟩ : ∃ Q : Ending → World → Prop, Q = fun e w' => e = .returned (.tuple #[.string ByteArray.empty, .int .i64 9]) ∧ w.grownBy w' none := ⟨_, rfl⟩
  rw [← hQ]
  have HQ : Hid (∀ e w', e = .returned (.tuple #[.string ByteArray.empty, .int .i64 9]) → w.grownBy w' none → Q e w') := fun e w' h1 h2 => by rw [hQ]; exact ⟨h1, h2⟩
  clear hQ
  have HMM : Hid (∃ M, M = m) := ⟨_, rfl⟩
  obtain ⟨M, hM⟩ := HMM
  rw [← hM] at HCI HF
  obtain ⟨kind, p, mt, na, acts, np, pks⟩ := m
  have M0 := hide (msgBlk.alloc w kind p mt (.slice a na ca) (.slice b np cb))
  rw [show M.na = na by rw [hM], show M.np = np by rw [hM]] at HF HCI
  rw [show M.acts = acts by rw [hM], show M.pks = pks by rw [hM]] at HF
  have hVM : msgV M (.slice a na ca) (.slice b np cb) = msgV ⟨kind, p, mt, na, acts, np, pks⟩ (.slice a na ca) (.slice b np cb) := by rw [hM]
  rw [hVM] at HF
  clear hVM
  unfold msgV at *
  simp only at HF HAV HPV hfa hfp ⊢
  go_enter Try.func16, Try.ntmps16
  go_wp2_with fail
  obtain ⟨wa, hwa⟩ : ∃ wa, wa = w.alloc (Obj.cells #[.int .i64 kind, .int .i64 p, .int .i64 (mt 0), .int .i64 (mt 1), .int .i64 (mt 2), .int .i64 (mt 3), .int .i64 (mt 4), .int .i64 (mt 5), .slice a na ca, .slice b np cb] 45) := ⟨_, rfl⟩
  have hsa : wa.heap.size = w.heap.size + 1 := by rw [hwa]; simp
  have GA : Hid (w.grownBy wa none) := by rw [hwa]; exact World.grownBy_alloc _ _ _
  rw [← hwa] at M0 ⊢
  clear hwa
  refine (HF.out _ (HAV.out.grown GA.out) (HPV.out.grown GA.out)).mono ?_
  rintro e w1 hs
  obtain ⟨hs, hg1⟩ := hs.cases
  have G1 := hide (grown_trans GA.out hg1)
  have M1 := hide (M0.out.below (Below.up (B := w.heap.size + 1) hg1 (by omega)) (by omega))
  clear hg1
  obtain ⟨c0, c1, c2, c3, c4, c5, c6, c7, c8, c9⟩ := M1.out.cells
  rcases hs with ⟨hrp, rfl⟩ | ⟨hrp, rfl⟩
  · have HRP := hide hrp
    clear hrp
    by_cases hnp : np ≤ 10922
    · by_cases hna : na ≤ 10920
      · exact absurd ⟨HRP.out, hnp, hna⟩ HCI.out
      · go_wp2
        exact HQ.out _ _ rfl G1.out
    · go_wp2
      exact HQ.out _ _ rfl G1.out
  · have HRP := hide hrp
    clear hrp
    go_wp2
    exact HQ.out _ _ rfl G1.out
end Go.Proofs.Ytlhkfafdioakeaa
