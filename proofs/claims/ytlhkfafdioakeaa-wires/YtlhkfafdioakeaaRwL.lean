/- Proved here: how the document reads several packets. -/
import Derived.Test.YtlhkfafdioakeaaRwK
namespace Go.Proofs.Ytlhkfafdioakeaa
open Go.RowKit
set_option linter.unusedVariables false
set_option linter.unusedSimpArgs false
/-- The packets of some bytes, as the document reads them. -/
def pkR (s : ByteArray) (j i : Nat) : Int := rg (byt s (6 * j + i))
set_option maxRecDepth 100000 in
set_option maxHeartbeats 2000000 in
theorem rPackets_any (s : ByteArray) (w : World) (hs : s.size ≤ 1000000) :
    Calls Try.prog 35 #[.string s] w fun e w' => ∃ v, e = .returned v ∧ PRow w.heap.size w' v (s.size / 6) (pkR s) ∧ w.grownBy w' none := by
  obtain ⟨i0, hi0, hz0, hz1, hz2⟩ := info_parts Try.infoPk
  have hsI : (s.size : Int) ≤ 1000000 := by omega
  go_enter Try.func35, Try.ntmps35
  go_wp2
  go_loopw [3, 4] (fun v iv wr => ∃ j : Nat, 6 * j ≤ s.size ∧ iv = .int .i64 ((6 * j : Nat) : Int) ∧ PRow w.heap.size wr v j (pkR s) ∧ w.grownBy wr none) (fun _ iv _ => s.size - (intOf iv).toNat)
  case atStart => exact ⟨0, by omega, by simp, World.ownsRow_nil _ _ _ _, grown_refl _ _⟩
  case round =>
    obtain ⟨j, hj, rfl, hP, hg⟩ := hrel
    have HP := hide hP
    have HG := hide hg
    clear hP hg
    obtain ⟨q, hq⟩ : ∃ q, q = 6 * j := ⟨_, rfl⟩
    have HT := hide hq
    rw [← hq] at hj ⊢
    have hj2 : j ≤ 1000000 := by omega
    clear hq
    by_cases hlt : q + 6 ≤ s.size
    · have h1 : (q : Int) + 6 ≤ s.size := by omega
      have h3 : (q : Int) ≤ q + 6 := by omega
      have h4 : (0 : Int) ≤ q := by omega
      have h5 : ((q : Int) + 6).toNat = q + 6 := by omega
      have HO := hide (rPacket_any (s.extract q (q + 6)) wr (by rw [ByteArray.size_extract]; omega))
      have HPK : Hid (∀ i, i < 6 → rg (byt (s.extract q (q + 6)) i) = pkR s j i) := by
        intro i hi
        unfold pkR
        rw [byt_extract s q (q + 6) i (by omega) hlt, HT.out]
      obtain ⟨k, hk⟩ : ∃ k : Nat → Int, k = fun i => rg (byt (s.extract q (q + 6)) i) := ⟨_, rfl⟩
      rw [show (fun i => rg (byt (s.extract q (q + 6)) i)) = k from hk.symm] at HO
      have HK := hide hk
      clear hk
      unfold pkV pkA at HO
      go_wp2_with fail
      refine HO.out.mono ?_
      rintro e w1 ⟨rfl, hg1⟩
      have G1 := hide hg1
      clear hg1
      go_wp2_with (at_builtin; refine wpList_append_own_at _ rfl _ _ 23 rfl w.heap.size 27 i0 _ 6 48 Try.underlying23 hi0 hz0 hz1 hz2 rfl (by decide) _ _ _ rfl (World.ownsRow.alloc (World.ownsRow.kept HP.out G1.out ?d0) _) ⟨w1.heap.size, 0, none⟩ 1 1 (pkL k) rfl rfl (cell_six_new _ _ _) ?d2 ?d3 ?d4 ?d5 ?_)
      case d0 => cases hv : Value.ownBlock _ <;> simp
      case d2 => intro u hu; simp only [pkL, List.mem_cons, List.not_mem_nil, or_false] at hu; rcases hu with rfl | rfl | rfl | rfl | rfl | rfl <;> rfl
      case d3 => unfold maxLen; omega
      case d4 => omega
      case d5 => have := HG.out.size; have := G1.out.size; simp; omega
      intro v' w2 hown' hgrow _ hat
      have S : Hid (PRow w.heap.size w2 v' (j + 1) (pkR s) ∧ w.grownBy w2 none) := by
        constructor
        · unfold PRow
          rw [pcells_succ]
          have e : pkL k = pkL (pkR s j) := by
            unfold pkL
            have hh : ∀ i, i < 6 → k i = pkR s j i := fun i hi => by rw [HK.out]; exact HPK.out i hi
            rw [hh 0 (by omega), hh 1 (by omega), hh 2 (by omega), hh 3 (by omega), hh 4 (by omega), hh 5 (by omega)]
          rw [← e]
          exact hown'
        · exact grown_own (grown_trans (grown_trans HG.out G1.out) (World.grownBy_alloc _ _ _)) hgrow (fun b e => (World.ownsRow.lt HP.out b e).1)
      clear hown' hgrow hat
      go_wp2
      go_roundw
      case rel =>
        refine ⟨j + 1, by have := HT.out; omega, ?_, S.out.1, S.out.2⟩
        have := HT.out
        congr 1
        omega
      case measure => simp [intOf]; omega
    · go_wp2
      go_ret
      refine ⟨_, rfl, ?_, HG.out⟩
      rw [show s.size / 6 = j by have := HT.out; omega]
      exact HP.out
end Go.Proofs.Ytlhkfafdioakeaa
