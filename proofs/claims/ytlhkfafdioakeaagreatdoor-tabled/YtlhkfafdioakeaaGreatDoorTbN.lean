/- Proved here: no rule is hidden: what reached tells. -/
import Derived.Test.YtlhkfafdioakeaaGreatDoorTbM
namespace Go.Proofs.YtlhkfafdioakeaaGreatDoor
open Go.RowKit Go.Weft
set_option linter.unusedVariables false
set_option linter.unusedSimpArgs false
theorem left_any (mt : Nat → Nat → Int) (N cb : Nat) (la : Option Addr) (lc : Nat) : ∀ (n k0 : Nat) (b : Nat → Nat) (s : Int) (w : World), N - k0 ≤ n → k0 ≤ N → (∀ i, i < 6 → b i < 4294967296) → stB w cb s → 0 ≤ s → s ≤ 3000 → MtR mt N cb la w →
    Calls Tryz.prog 64 #[.pointer (some ⟨cb, 0, none⟩), .agg #[.int .u32 (b 0 : Int), .int .u32 (b 1 : Int), .int .u32 (b 2 : Int), .int .u32 (b 3 : Int), .int .u32 (b 4 : Int), .int .u32 (b 5 : Int)], .slice la N lc, .int .i64 (k0 : Int)] w (LfO mt N cb k0 b w)
  | 0, k0, b, s, w, hn, hk, hb, hs, h0, h1, hM => left_step mt N cb la lc k0 hk b s w hb hs h0 h1 hM (fun k1 b1 s1 w1 h hk1 => by omega)
  | n + 1, k0, b, s, w, hn, hk, hb, hs, h0, h1, hM => left_step mt N cb la lc k0 hk b s w hb hs h0 h1 hM (fun k1 b1 s1 w1 h hk1 hb1 hs1 h01 h11 hM1 => left_any mt N cb la lc n k1 b1 s1 w1 (by omega) hk1 hb1 hs1 h01 h11 hM1)
theorem ones_bit (i : Nat) (h : i < 32) : (4294967295 : Nat).testBit i = true := by
  have : (4294967295 : Nat) = 2 ^ 32 - 1 := by decide
  rw [this, Nat.testBit_two_pow_sub_one]
  simpa using h
set_option maxRecDepth 100000 in
set_option maxHeartbeats 2000000 in
theorem reached_any (mt : Nat → Nat → Int) (N g lc at_ : Nat) (x : Nat → Nat) (w : World) (hat : at_ < N) (hN : N ≤ 1000000) (hcap : N ≤ lc) (hcap2 : lc ≤ 9223372036854775807) (hgl : g < w.heap.size)
    (hc : ∀ j, j < N → ∀ i, i < 6 → w.cell? ⟨g, j * 8 + 1 + i, none⟩ = some (.int .i64 (mt j i))) (hr : ∀ j, j < N → ∀ i, 1 ≤ i → i < 6 → mt j i = -1 ∨ (0 ≤ mt j i ∧ mt j i ≤ 31))
    (hx : ∀ f, 1 ≤ f → f < 6 → x f < 32 ∧ (mt at_ f = -1 ∨ mt at_ f = (x f : Int))) (hn : ∀ j, j < at_ → ∃ f, 1 ≤ f ∧ f < 6 ∧ mt j f ≠ -1 ∧ mt j f ≠ (x f : Int)) :
    Calls Tryz.prog 36 #[.slice (some ⟨g, 0, none⟩) N lc, .int .i64 (at_ : Int)] w fun e w' => e = .returned (.bool true) ∧ w.grownBy w' none := by
  have HL : Hid (∀ cb b w', cb ≠ g → w.grownBy w' none → (∀ i, i < 6 → b i < 4294967296) → stB w' cb 0 → Calls Tryz.prog 64 #[.pointer (some ⟨cb, 0, none⟩), .agg #[.int .u32 (b 0 : Int), .int .u32 (b 1 : Int), .int .u32 (b 2 : Int), .int .u32 (b 3 : Int), .int .u32 (b 4 : Int), .int .u32 (b 5 : Int)], .slice (some ⟨g, 0, none⟩) at_ lc, .int .i64 0] w' (LfO mt at_ cb 0 b w')) := by
    intro cb b w' hne hg hb hs
    refine left_any mt at_ cb (some ⟨g, 0, none⟩) lc at_ 0 b 0 w' (by omega) (by omega) hb hs (by omega) (by omega) ⟨by omega, fun j hj i hi => ⟨g, 0, rfl, hne.symm, Nat.lt_of_lt_of_le hgl hg.size, ?_⟩, fun j hj i h1 h2 => hr j (by omega) i h1 h2⟩
    rw [Nat.zero_add]
    exact hg.cell (hc j (by omega) i hi) (by simp)
  have HX := hide hx
  have HN := hide hn
  have HR := hide (hr at_ hat)
  have HC := hide (hc at_ hat)
  clear hx hn hr hc
  go_enter Tryz.func36, Tryz.ntmps36
  go_wp2_with fail
  go_loopw [6] (fun s6 wr => ∃ (f : Nat) (b : Nat → Nat), 1 ≤ f ∧ f ≤ 6 ∧ s6 = .int .i64 f ∧ btB wr w.heap.size b ∧ (∀ i, i < 6 → b i < 4294967296) ∧ (∀ f', 1 ≤ f' → f' < f → (b f').testBit (x f') = true) ∧ w.grownBy wr none) (fun s6 _ => 6 - (intOf s6).toNat)
  case atStart =>
    refine ⟨1, fun _ => 0, by omega, by omega, rfl, heap_alloc_new w _, fun i hi => by show 0 < 4294967296; decide, fun f' h1 h2 => by omega, World.grownBy_alloc _ _ _⟩
  case round =>
    obtain ⟨f, b, hf1, hf6, rfl, hB, hb, ht, hG⟩ := hrel
    have BR := hide hB
    have HB := hide hb
    have HT := hide ht
    have GR := hide hG
    clear hB hb ht hG
    by_cases hfl : f < 6
    · have hfI : (f : Int) < 6 := by omega
      obtain ⟨v, hv⟩ : ∃ v, v = mt at_ f := ⟨_, rfl⟩
      have cb0 := BR.out.cell f hfl
      have fb0 := BR.out.frozen f
      go_upto_region 6 with fail
      obtain ⟨w3, hw3⟩ : ∃ w3, w3 = wr.setCell ⟨w.heap.size, f, none⟩ (.int .u32 4294967295) := ⟨_, rfl⟩
      obtain ⟨b3, hb3⟩ : ∃ b3, b3 = putN b f 4294967295 := ⟨_, rfl⟩
      have B3 : Hid (btB w3 w.heap.size b3) := by rw [hw3, hb3]; exact BR.out.put f hfl 4294967295
      have G3 : Hid (w.grownBy w3 none) := by rw [hw3]; exact grown_new GR.out (grown_set _ _ _ _) (Nat.le_refl _)
      have cm : w3.cell? ⟨g, at_ * 8 + 1 + f, none⟩ = some (.int .i64 v) := by rw [hv]; exact G3.out.cell (HC.out f hfl) (by simp)
      have hvr : v = -1 ∨ (0 ≤ v ∧ v ≤ 31) := by rw [hv]; exact HR.out f hf1 hfl
      have HB3 : Hid (∀ i, i < 6 → b3 i < 4294967296) := fun i hi => by
        rw [hb3]; unfold putN
        split
        · decide
        · exact HB.out i hi
      have HV := hide hv
      have HB3E := hide hb3
      rw [← hw3]
      clear hv hb3 hw3 cb0 fb0 GR BR HB
      rcases hvr with rfl | ⟨hv0, hv1⟩
      · go_wp2_with fail
        go_roundw
        case measure => simp [intOf]; omega
        case rel =>
          refine ⟨f + 1, b3, by omega, by omega, by first | rfl | go_num, B3.out, HB3.out, fun f' h1 h2 => ?_, G3.out⟩
          rw [HB3E.out]
          unfold putN
          by_cases e : f' = f
          · subst e; rw [if_pos rfl]; exact ones_bit _ (HX.out f' hf1 hfl).1
          · rw [if_neg e]; exact HT.out f' h1 (by omega)
      · have hvn : (v == -1) = false := by rw [beq_eq_false_iff_ne]; omega
        have hvn2 : (v != -1) = true := by rw [bne_iff_ne]; omega
        have hvn' : ¬ v < 0 := by omega
        obtain ⟨hp1, hp2⟩ := shl_fact v hv0 hv1
        have HPT : Hid (∀ i, (2 ^ v.toNat : Nat).testBit i = decide (v.toNat = i)) := fun i => Nat.testBit_two_pow
        obtain ⟨P, hP⟩ : ∃ P, P = (2 ^ v.toNat : Nat) := ⟨_, rfl⟩
        rw [← hP] at hp1 hp2 HPT
        clear hP
        have c3 := B3.out.cell f hfl
        have f3 := B3.out.frozen f
        go_wp2_with fail
        go_roundw
        case measure => simp [intOf]; omega
        case rel =>
          have gs := grown_set w3 w.heap.size f (.int .u32 (P : Int))
          refine ⟨f + 1, putN b3 f P, by omega, by omega, by first | rfl | go_num, B3.out.put f hfl P, fun i hi => ?_, fun f' h1 h2 => ?_, grown_new G3.out gs (Nat.le_refl _)⟩
          · unfold putN
            split
            · exact hp2
            · exact HB3.out i hi
          · rw [HB3E.out]
            unfold putN
            by_cases e : f' = f
            · subst e
              rw [if_pos rfl, HPT.out, decide_eq_true_eq]
              have := (HX.out f' hf1 hfl).2
              rw [← HV.out] at this
              omega
            · rw [if_neg e, if_neg e]; exact HT.out f' h1 (by omega)
    · obtain rfl : f = 6 := by omega
      go_upto_region 10 with fail
      obtain ⟨w5, hw5⟩ : ∃ w5, w5 = wr.alloc (.cells #[.int .i64 0] 136) := ⟨_, rfl⟩
      have S5 : Hid (stB w5 wr.heap.size 0) := by
        show _ = _
        rw [hw5]; exact heap_alloc_new wr _
      have g5 : wr.grownBy w5 none := by rw [hw5]; exact World.grownBy_alloc _ _ _
      have G5 := hide (grown_trans GR.out g5)
      have B5 : Hid (btB w5 w.heap.size b) := mb_grown BR.out g5 (by simp)
      have hzr : w.heap.size ≤ wr.heap.size := GR.out.size
      rw [← hw5]
      have n0 := B5.out.cell 0 (by omega)
      have n1 := B5.out.cell 1 (by omega)
      have n2 := B5.out.cell 2 (by omega)
      have n3 := B5.out.cell 3 (by omega)
      have n4 := B5.out.cell 4 (by omega)
      have n5 := B5.out.cell 5 (by omega)
      have hatI : (at_ : Int) ≤ lc := by omega
      have hat0 : (0 : Int) ≤ at_ := by omega
      have HSV : Hid (Surv mt at_ 0 b x) := ⟨fun f h1 h2 => HT.out f h1 h2, fun j _ hj => HN.out j hj⟩
      have HCL := hide (HL.out wr.heap.size b w5.drew (by omega) (grown_drew G5.out) HB.out (show stB w5.drew wr.heap.size 0 from S5.out))
      clear hw5 g5 HX HN HR HC HL GR BR HT
      go_region_with (go_at_call 64; refine HCL.out.mono ?_; rintro e w6 ⟨r, q6, rfl, hS6, hq60, hr6, g6⟩; have R6 := hide hr6; have G6 := hide (show w5.grownBy w6 (some wr.heap.size) by first | exact grown_undrew g6 | exact g6); clear hS6 hr6 g6)
      all_goals
        cases r
        · exact absurd HSV.out ((R6.out rfl).2 x)
        · go_wp2
          go_ret
          exact ⟨rfl, grown_new G5.out G6.out hzr⟩
end Go.Proofs.YtlhkfafdioakeaaGreatDoor
