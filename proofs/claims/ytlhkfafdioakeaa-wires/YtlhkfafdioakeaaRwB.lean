/- Proved here: which messages the document takes for right. -/
import Derived.Test.YtlhkfafdioakeaaRwA
import Derived.Deep.DeepCutAuto
namespace Go.Proofs.Ytlhkfafdioakeaa
open Go.RowKit
set_option linter.unusedVariables false
set_option linter.unusedSimpArgs false
def FineR (w : World) (kind p : Int) (mt : Nat → Int) (av pv : Value) (NR : Prop) (sb : Value) (wx : World) : Prop := (∃ bb : Bool, sb = .bool bb ∧ (bb = true ↔ NR)) ∧ msgBlk wx w.heap.size kind p mt av pv ∧ w.grownBy wx none
theorem noRule_iff (kind p : Int) (mt : Nat → Int) (na : Nat) (acts : Nat → Nat → Int) (np : Nat) (pks : Nat → Nat → Int) : noRuleS ⟨kind, p, mt, na, acts, np, pks⟩ ↔ (p = 0 ∧ eq6 (mt 0) (mt 1) (mt 2) (mt 3) (mt 4) (mt 5) 0 0 0 0 0 0 = true ∧ na = 0) := by
  unfold noRuleS
  rw [eq6_iff, ← all6 (fun i => mt i = 0)]
set_option maxRecDepth 100000 in
set_option maxHeartbeats 4000000 in
theorem fine_any (m : Msg) (a b : Option Addr) (ca cb : Nat) (w : World) (hav : PkRow w (.slice a m.na ca) m.na m.acts) (hpv : PkRow w (.slice b m.np cb) m.np m.pks) :
    Calls Try.prog 30 #[msgV m (.slice a m.na ca) (.slice b m.np cb)] w (Says (msgS m) w) := by
  have HAV := hide hav
  have HPV := hide hpv
  have hfa := hav.few
  have hfp := hpv.few
  clear hav hpv
  obtain ⟨P, hP⟩ : ∃ P, P = msgS m := ⟨_, rfl⟩
  rw [← hP]
  obtain ⟨NR, hNR⟩ : ∃ NR, NR = noRuleS m := ⟨_, rfl⟩
  have HP : Hid (P = ((m.kind = 1 ∧ (0 ≤ m.prio ∧ m.prio ≤ 65535 ∧ openS m.mt ∧ ∀ j, j < m.na → openS (m.acts j)) ∧ m.np = 0) ∨ (m.kind = 4 ∧ NR ∧ m.np = 1 ∧ ∀ j, j < m.np → rightS (m.pks j)) ∨ (m.kind = 5 ∧ NR ∧ ∀ j, j < m.np → rightS (m.pks j)) ∨ ((m.kind = 2 ∨ m.kind = 3 ∨ m.kind = 6) ∧ NR ∧ m.np = 0))) := by
    rw [hNR]; exact hP
  clear hP
  obtain ⟨kind, p, mt, na, acts, np, pks⟩ := m
  have HNR : Hid (NR ↔ (p = 0 ∧ eq6 (mt 0) (mt 1) (mt 2) (mt 3) (mt 4) (mt 5) 0 0 0 0 0 0 = true ∧ na = 0)) := by rw [hNR]; exact noRule_iff _ _ _ _ _ _ _
  clear hNR
  have M0 := hide (msgBlk.alloc w kind p mt (.slice a na ca) (.slice b np cb))
  have HO := hide (fun w => rOpen_any mt w)
  unfold pkV pkA at HO
  unfold msgV
  simp only at HAV HPV HP hfa hfp ⊢
  go_enter Try.func30, Try.ntmps30
  go_upto_region 1 with fail
  go_cut [0, 3] (fun _ sb wx => FineR w kind p mt (.slice a na ca) (.slice b np cb) NR sb wx)
  case first =>
    by_cases h0 : p = 0
    · have H0 := hide h0
      have h1 : p ≤ 0 := by omega
      have h2 : 0 ≤ p := by omega
      clear h0
      cases h3 : eq6 (mt 0) (mt 1) (mt 2) (mt 3) (mt 4) (mt 5) 0 0 0 0 0 0 with
      | false =>
        rw [h3] at HNR
        go_wp2_with fail
        go_meet
        have MM := M0.out
        have NN := HNR.out
        rw [H0.out] at MM NN ⊢
        exact ⟨⟨false, rfl, ⟨fun e => (by cases e), fun h => (by have := (NN.1 h).2.1; simp at this)⟩⟩, MM, World.grownBy_alloc _ _ _⟩
      | true =>
        rw [h3] at HNR
        by_cases h4 : na = 0
        · have H4 := hide h4
          have h5 : na ≤ 0 := by omega
          clear h4
          go_wp2_with fail
          go_meet
          have MM := M0.out
          rw [H0.out] at MM ⊢
          exact ⟨⟨_, rfl, ⟨fun e => HNR.out.2 ⟨H0.out, by simp, H4.out⟩, fun h => by simp [H4.out]⟩⟩, MM, World.grownBy_alloc _ _ _⟩
        · go_wp2_with fail
          go_meet
          have MM := M0.out
          rw [H0.out] at MM ⊢
          exact ⟨⟨_, rfl, ⟨fun e => absurd e (by simp [h4]), fun h => absurd (HNR.out.1 h).2.2 h4⟩⟩, MM, World.grownBy_alloc _ _ _⟩
    · go_wp2_with fail
      go_meet
      exact ⟨⟨false, rfl, ⟨fun e => (by cases e), fun h => absurd (HNR.out.1 h).1 h0⟩⟩, M0.out, World.grownBy_alloc _ _ _⟩
  case rest =>
    obtain ⟨⟨bb, rfl, hbb⟩, hM, hG⟩ := hcut
    have HM := hide hM
    have HG := hide hG
    have HBB := hide hbb
    obtain ⟨c0, c1, c2, c3, c4, c5, c6, c7, c8, c9⟩ := hM.cells
    clear hM hG hbb M0 HNR
    by_cases k1 : kind = 1
    · subst k1
      have HP1 : Hid (P ↔ ((0 ≤ p ∧ p ≤ 65535 ∧ openS mt ∧ ∀ j, j < na → openS (acts j)) ∧ np = 0)) := by
        show P ↔ _
        rw [HP.out]; simp
      clear HP
      go_wp2_with fail
      clear c0 c1 c2 c3 c4 c5 c6 c7 c8 c9
      refine (HO.out wc).mono ?_
      rintro e w1 ⟨⟨ok, rfl, hok⟩, hg1⟩
      have G1 := hide (grown_trans HG.out hg1)
      have M1 := hide (HM.out.below (Below.up (B := w.heap.size + 1) hg1 (Array.getElem?_eq_some_iff.1 HM.out).1) (Nat.lt_succ_self _))
      have HOK := hide hok
      clear hg1 hok HG HM
      go_wp2
      go_loopw [4, 5] (fun v4 v5 wr => ∃ (j : Nat) (okv : Bool), v4 = .bool okv ∧ v5 = .int .i64 j ∧ j ≤ na ∧ (okv = true ↔ (openS mt ∧ ∀ i, i < j → openS (acts i))) ∧ msgBlk wr w.heap.size 1 p mt (.slice a na ca) (.slice b np cb) ∧ w.grownBy wr none) (fun _ v5 _ => na - (intOf v5).toNat)
      case atStart => exact ⟨0, ok, rfl, rfl, Nat.zero_le _, ⟨fun h => ⟨HOK.out.1 h, fun i hi => by omega⟩, fun h => HOK.out.2 h.1⟩, M1.out, G1.out⟩
      case round =>
        obtain ⟨j, okv, rfl, rfl, hj, hokv, hM, hG⟩ := hrel
        have HMr := hide hM
        have HGr := hide hG
        have HOKV := hide hokv
        obtain ⟨c0, c1, c2, c3, c4, c5, c6, c7, c8, c9⟩ := hM.cells
        clear hM hG hokv
        by_cases hlt : j < na
        · cases okv
          · go_wp2
            go_ret
            exact says_f (by first | rfl | simp) (fun h => by have := HOKV.out.2 ⟨(HP1.out.1 h).1.2.2.1, fun i hi => (HP1.out.1 h).1.2.2.2 i (by omega)⟩; simp at this) HGr.out
          · rcases HAV.out with ⟨_, hna⟩ | ⟨g, off, cap, hva, _, hcell⟩
            · omega
            cases hva
            obtain ⟨k, hk⟩ : ∃ k, k = acts j := ⟨_, rfl⟩
            have cc : ∀ i, i < 6 → wr.cell? ⟨g, off + j * 6 + i, none⟩ = some (.int .i64 (k i)) := fun i hi => by rw [hk]; exact HGr.out.cell (hcell j hlt i hi) (by simp)
            have d0 := cc 0 (by omega)
            have d1 := cc 1 (by omega)
            have d2 := cc 2 (by omega)
            have d3 := cc 3 (by omega)
            have d4 := cc 4 (by omega)
            have d5 := cc 5 (by omega)
            rw [Nat.add_zero] at d0
            have HK := hide hk
            clear hk cc hcell
            have HOk := hide (fun w => rOpen_any k w)
            unfold pkV pkA at HOk
            go_wp2_with fail
            refine (HOk.out _).mono ?_
            rintro e w2 ⟨⟨b2, rfl, hb2⟩, hg2⟩
            have G2 := hide (grown_trans HGr.out hg2)
            have M2 := hide (HMr.out.below (Below.up (B := w.heap.size + 1) hg2 (Array.getElem?_eq_some_iff.1 HMr.out).1) (Nat.lt_succ_self _))
            have HB2 := hide hb2
            clear hg2 hb2
            go_wp2
            go_roundw
            case rel => exact ⟨j + 1, b2, rfl, by go_num, by omega, ⟨fun h => ⟨(HOKV.out.1 (by simp)).1, fun i hi => by
              by_cases e : i = j
              · subst e; rw [← HK.out]; exact HB2.out.1 h
              · exact (HOKV.out.1 (by simp)).2 i (by omega)⟩, fun h => HB2.out.2 (by rw [HK.out]; exact h.2 j (by omega))⟩, M2.out, G2.out⟩
            case measure => simp [intOf]; omega
        · obtain rfl : j = na := by omega
          cases okv
          · go_wp2
            go_ret
            exact says_f (by first | rfl | simp) (fun h => by have := HOKV.out.2 ⟨(HP1.out.1 h).1.2.2.1, (HP1.out.1 h).1.2.2.2⟩; simp at this) HGr.out
          · by_cases q1 : 0 ≤ p
            · by_cases q2 : p ≤ 65535
              · by_cases q3 : np = 0
                · have Q3 := hide q3
                  have q4 : np ≤ 0 := by omega
                  clear q3
                  go_wp2
                  go_ret
                  exact says_t (by first | rfl | simp [Q3.out]) (HP1.out.2 ⟨⟨q1, q2, (HOKV.out.1 (by simp)).1, (HOKV.out.1 (by simp)).2⟩, Q3.out⟩) HGr.out
                · go_wp2
                  go_ret
                  exact says_f (by first | rfl | simp [q3]) (fun h => q3 (HP1.out.1 h).2) HGr.out
              · go_wp2
                go_ret
                exact says_f (by first | rfl | simp) (fun h => by have := (HP1.out.1 h).1.2.1; omega) HGr.out
            · go_wp2
              go_ret
              exact says_f (by first | rfl | simp) (fun h => by have := (HP1.out.1 h).1.1; omega) HGr.out
    by_cases k2 : kind = 2 ∨ kind = 3 ∨ kind = 6
    · have HP1 : Hid (P ↔ (NR ∧ np = 0)) := by
        show P ↔ _
        rw [HP.out]; rcases k2 with rfl | rfl | rfl <;> simp
      clear HP
      by_cases h4 : np = 0
      · have H4 := hide h4
        have h5 : np ≤ 0 := by omega
        clear h4
        rcases k2 with rfl | rfl | rfl
        all_goals
          cases bb
          · go_wp2
            go_ret
            exact says_f (by first | rfl | simp) (fun h => by have := HBB.out.2 (HP1.out.1 h).1; simp at this) HG.out
          · go_wp2
            go_ret
            exact says_t (by first | rfl | simp [H4.out]) (HP1.out.2 ⟨HBB.out.1 (by simp), H4.out⟩) HG.out
      · rcases k2 with rfl | rfl | rfl
        all_goals
          cases bb
          · go_wp2
            go_ret
            exact says_f (by first | rfl | simp) (fun h => h4 (HP1.out.1 h).2) HG.out
          · go_wp2
            go_ret
            exact says_f (by first | rfl | simp [h4]) (fun h => h4 (HP1.out.1 h).2) HG.out
    by_cases k4 : kind = 4 ∨ kind = 5
    · rcases k4 with rfl | rfl
      · have HP1 : Hid (P ↔ (NR ∧ np = 1 ∧ ∀ j, j < np → rightS (pks j))) := by
          show P ↔ _
          rw [HP.out]; simp
        clear HP
        go_wp2
        go_loopw [6] (fun v6 wr => ∃ (j : Nat), v6 = .int .i64 j ∧ j ≤ np ∧ (∀ i, i < j → rightS (pks i)) ∧ msgBlk wr w.heap.size 4 p mt (.slice a na ca) (.slice b np cb) ∧ w.grownBy wr none) (fun v6 _ => np - (intOf v6).toNat)
        case atStart => exact ⟨0, rfl, Nat.zero_le _, fun i hi => by omega, HM.out, HG.out⟩
        case round =>
          obtain ⟨j, rfl, hj, hok, hM, hG⟩ := hrel
          have HMr := hide hM
          have HGr := hide hG
          have HOKV := hide hok
          clear c0 c1 c2 c3 c4 c5 c6 c7 c8 c9
          obtain ⟨c0, c1, c2, c3, c4, c5, c6, c7, c8, c9⟩ := hM.cells
          clear hM hG hok
          by_cases hlt : j < np
          · rcases HPV.out with ⟨_, hna⟩ | ⟨g, off, cap, hva, _, hcell⟩
            · omega
            cases hva
            obtain ⟨k, hk⟩ : ∃ k, k = pks j := ⟨_, rfl⟩
            have cc : ∀ i, i < 6 → wr.cell? ⟨g, off + j * 6 + i, none⟩ = some (.int .i64 (k i)) := fun i hi => by rw [hk]; exact HGr.out.cell (hcell j hlt i hi) (by simp)
            have d0 := cc 0 (by omega)
            have d1 := cc 1 (by omega)
            have d2 := cc 2 (by omega)
            have d3 := cc 3 (by omega)
            have d4 := cc 4 (by omega)
            have d5 := cc 5 (by omega)
            rw [Nat.add_zero] at d0
            have HK := hide hk
            clear hk cc hcell
            have HRk := hide (fun w => rRight_any k w)
            unfold pkV pkA at HRk
            go_wp2_with fail
            refine (HRk.out _).mono ?_
            rintro e w2 ⟨⟨b2, rfl, hb2⟩, hg2⟩
            have G2 := hide (grown_trans HGr.out hg2)
            have M2 := hide (HMr.out.below (Below.up (B := w.heap.size + 1) hg2 (Array.getElem?_eq_some_iff.1 HMr.out).1) (Nat.lt_succ_self _))
            have HB2 := hide hb2
            clear hg2 hb2
            cases b2
            · go_wp2
              go_ret
              exact says_no (fun h => by have := HB2.out.2 (by rw [HK.out]; exact (HP1.out.1 h).2.2 j hlt); simp at this) G2.out
            · go_wp2
              go_roundw
              case rel => exact ⟨j + 1, by go_num, by omega, fun i hi => by
                by_cases e : i = j
                · subst e; rw [← HK.out]; exact HB2.out.1 (by simp)
                · exact HOKV.out i (by omega), M2.out, G2.out⟩
              case measure => simp [intOf]; omega
          · obtain rfl : j = np := by omega
            cases bb
            · go_wp2
              go_ret
              exact says_f (by first | rfl | simp) (fun h => by have := HBB.out.2 (HP1.out.1 h).1; simp at this) HGr.out
            · by_cases q3 : j = 1
              · have Q3 := hide q3
                have q4 : j ≤ 1 := by omega
                have q5 : 1 ≤ j := by omega
                clear q3
                go_wp2
                go_ret
                exact says_t (by first | rfl | simp [Q3.out]) (HP1.out.2 ⟨HBB.out.1 (by simp), Q3.out, HOKV.out⟩) HGr.out
              · go_wp2
                go_ret
                exact says_f (by first | rfl | (simp; omega)) (fun h => q3 (HP1.out.1 h).2.1) HGr.out
      · have HP1 : Hid (P ↔ (NR ∧ ∀ j, j < np → rightS (pks j))) := by
          show P ↔ _
          rw [HP.out]; simp
        clear HP
        go_wp2
        go_loopw [6] (fun v6 wr => ∃ (j : Nat), v6 = .int .i64 j ∧ j ≤ np ∧ (∀ i, i < j → rightS (pks i)) ∧ msgBlk wr w.heap.size 5 p mt (.slice a na ca) (.slice b np cb) ∧ w.grownBy wr none) (fun v6 _ => np - (intOf v6).toNat)
        case atStart => exact ⟨0, rfl, Nat.zero_le _, fun i hi => by omega, HM.out, HG.out⟩
        case round =>
          obtain ⟨j, rfl, hj, hok, hM, hG⟩ := hrel
          have HMr := hide hM
          have HGr := hide hG
          have HOKV := hide hok
          clear c0 c1 c2 c3 c4 c5 c6 c7 c8 c9
          obtain ⟨c0, c1, c2, c3, c4, c5, c6, c7, c8, c9⟩ := hM.cells
          clear hM hG hok
          by_cases hlt : j < np
          · rcases HPV.out with ⟨_, hna⟩ | ⟨g, off, cap, hva, _, hcell⟩
            · omega
            cases hva
            obtain ⟨k, hk⟩ : ∃ k, k = pks j := ⟨_, rfl⟩
            have cc : ∀ i, i < 6 → wr.cell? ⟨g, off + j * 6 + i, none⟩ = some (.int .i64 (k i)) := fun i hi => by rw [hk]; exact HGr.out.cell (hcell j hlt i hi) (by simp)
            have d0 := cc 0 (by omega)
            have d1 := cc 1 (by omega)
            have d2 := cc 2 (by omega)
            have d3 := cc 3 (by omega)
            have d4 := cc 4 (by omega)
            have d5 := cc 5 (by omega)
            rw [Nat.add_zero] at d0
            have HK := hide hk
            clear hk cc hcell
            have HRk := hide (fun w => rRight_any k w)
            unfold pkV pkA at HRk
            go_wp2_with fail
            refine (HRk.out _).mono ?_
            rintro e w2 ⟨⟨b2, rfl, hb2⟩, hg2⟩
            have G2 := hide (grown_trans HGr.out hg2)
            have M2 := hide (HMr.out.below (Below.up (B := w.heap.size + 1) hg2 (Array.getElem?_eq_some_iff.1 HMr.out).1) (Nat.lt_succ_self _))
            have HB2 := hide hb2
            clear hg2 hb2
            cases b2
            · go_wp2
              go_ret
              exact says_no (fun h => by have := HB2.out.2 (by rw [HK.out]; exact (HP1.out.1 h).2 j hlt); simp at this) G2.out
            · go_wp2
              go_roundw
              case rel => exact ⟨j + 1, by go_num, by omega, fun i hi => by
                by_cases e : i = j
                · subst e; rw [← HK.out]; exact HB2.out.1 (by simp)
                · exact HOKV.out i (by omega), M2.out, G2.out⟩
              case measure => simp [intOf]; omega
          · obtain rfl : j = np := by omega
            cases bb
            · go_wp2
              go_ret
              exact says_f (by first | rfl | simp) (fun h => by have := HBB.out.2 (HP1.out.1 h).1; simp at this) HGr.out
            · go_wp2
              go_ret
              exact says_t (by first | rfl | simp) (HP1.out.2 ⟨HBB.out.1 (by simp), HOKV.out⟩) HGr.out
    · have k4a : kind ≠ 4 := fun h => k4 (.inl h)
      have k5a : kind ≠ 5 := fun h => k4 (.inr h)
      have k2a : kind ≠ 2 := fun h => k2 (.inl h)
      have k3a : kind ≠ 3 := fun h => k2 (.inr (.inl h))
      have k6a : kind ≠ 6 := fun h => k2 (.inr (.inr h))
      have HP1 : Hid (¬ P) := by show ¬ P; rw [HP.out]; simp [k1, k4a, k5a, k2a, k3a, k6a]
      clear HP k2 k4
      go_wp2
      go_ret
      exact says_no HP1.out HG.out
end Go.Proofs.Ytlhkfafdioakeaa
