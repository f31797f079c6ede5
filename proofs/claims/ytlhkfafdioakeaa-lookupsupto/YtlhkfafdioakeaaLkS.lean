/- Proved here: rules that were lent come back as they were; then their owner writes over their actions. -/
import Derived.Test.YtlhkfafdioakeaaLkR
import Derived.Test.YtlhkfafdioakeaaLkK
namespace Go.Proofs.Ytlhkfafdioakeaa
open Go.RowKit
set_option linter.unusedVariables false
set_option linter.unusedSimpArgs false
/-- The rules of a table that is lent. -/
def lentRs (rs : Nat → Rl) (A : Nat → Nat) (E : Nat → Nat → Nat → Int) : Nat → Rl := fun j => ⟨(rs j).prio, (rs j).mt, (rs j).na, E j, .slice (some ⟨A j, 0, none⟩) (rs j).na ((rs j).na + 8)⟩
theorem Lent.row {w : World} {g n m : Nat} {rs : Nat → Rl} {A : Nat → Nat} {E : Nat → Nat → Nat → Int} (h : Lent w g n m n rs A E) (hn : n ≤ 3000000000000) (cap : Nat) : RlRow w (.slice (some ⟨g, 0, none⟩) n cap) n (lentRs rs A E) :=
  h.rb.row n (by omega) hn cap _ (fun j hj i hi => by unfold lentF; rw [if_pos hj]; rfl) (fun j hj => ((h.own j hj).less (show (rs j).na ≤ (rs j).na + 8 by omega)).row.any)
theorem Lent.set {w w' : World} {g n m i : Nat} {rs : Nat → Rl} {A : Nat → Nat} {E E' : Nat → Nat → Nat → Int} (h : Lent w g n m n rs A E) (hi : i < n) (hg : w.grownBy w' (some (A i))) (ho : Own w' (A i) ((rs i).na + 8) ((rs i).na + 8) (E' i)) (he : ∀ j, j < n → j ≠ i → E' j = E j) : Lent w' g n m n rs A E' := by
  have hai := h.above i hi
  refine ⟨h.rb.grown hg (by simp; omega), fun j hj => ?_, h.above, h.inc⟩
  by_cases e : j = i
  · subst e; exact ho
  · rw [he j hj e]
    refine (h.own j hj).grown hg (fun c => ?_)
    have c' : A i = A j := by simpa using c
    rcases Nat.lt_or_gt_of_ne e with g | g
    · have := h.inc j i g hi; omega
    · have := h.inc i j g hj; omega
set_option maxRecDepth 100000 in
set_option maxHeartbeats 4000000 in
theorem back_any (v : Value) (n : Nat) (rs : Nat → Rl) (w0 w : World) (g : Nat) (A : Nat → Nat) (h : RlRow w0 v n rs) (h0 : w0.grownBy w none) (hg0 : w0.heap.size ≤ g) (hL : Lent w g n (n + 8) n rs A (lentE rs)) (hn : n ≤ 1000000000) (hna : ∀ j, j < n → (rs j).na ≤ 1000000000) :
    Calls Try.prog 10 #[.slice (some ⟨g, 0, none⟩) (n + 8) (n + 8), v] w fun e w' => e = .returned (.bool true) ∧ Lent w' g n (n + 8) n rs A (fun _ _ => mkP 55) ∧ Kp (fun b => ∃ j, j < n ∧ b = A j) w w' := by
  obtain ⟨a, ca, rfl⟩ := h.slice
  have HP := hide h
  have HNA := hide hna
  have HL := hide hL
  have HG := hide h0
  have HSR : Hid (Calls Try.prog 18 #[.slice (some ⟨g, 0, none⟩) n (n + 8), .slice a n ca] w fun e w' => e = .returned (.bool true) ∧ w.grownBy w' none) :=
    sameRR _ _ n _ _ w (hL.row (by omega) (n + 8)) (h.grown h0) (fun j hj => ⟨rfl, fun _ _ => rfl, rfl, fun t ht i hi => by show lentE rs j t i = _; unfold lentE; rw [if_pos ht]⟩)
  clear h h0 hL hna
  go_enter Try.func10, Try.ntmps10
  have hn8 : (n : Int) ≤ n + 8 := by omega
  go_wp2_with fail
  refine HSR.out.mono ?_
  rintro e w1 ⟨rfl, hg1⟩
  have L1 := hide (HL.out.grown hg1)
  have G1 := hide (grown_trans HG.out hg1)
  have K1 : Hid (Kp (fun b => ∃ j, j < n ∧ b = A j) w w1) := (Kp.refl _ w).step hg1 (fun b e => by cases e)
  clear HL HG HSR hg1
  go_wp2_with fail
  go_loopw [6, 7] (fun s6 s7 wr => ∃ k : Nat, n ≤ k ∧ k ≤ n + 8 ∧ s7 = .int .i64 k ∧ s6 = .bool true ∧ Lent wr g n (n + 8) n rs A (lentE rs) ∧ w0.grownBy wr none ∧ Kp (fun b => ∃ j, j < n ∧ b = A j) w wr) (fun _ s7 _ => n + 8 - (intOf s7).toNat)
  case atStart => exact ⟨n, by omega, by omega, rfl, rfl, L1.out, G1.out, K1.out⟩
  case round =>
    obtain ⟨k, hk1, hk2, rfl, rfl, hl, hg, hkp⟩ := hrel
    clear L1 G1 K1
    have HL := hide hl
    have HG := hide hg
    have HK := hide hkp
    clear hl hg hkp
    by_cases hlk : k < n + 8
    · have cc : ∀ i, i < 8 → wr.cell? ⟨g, k * 8 + i, none⟩ = some (rlC (-77) (fun _ => 0) (.slice none 0 0) i) := fun i hi => by
        rw [HL.out.rb.cell k hlk i hi]
        unfold lentF
        rw [if_neg (by omega), if_neg (by omega), if_pos hlk]
      have c0 : wr.cell? ⟨g, k * 8, none⟩ = some (.int .i64 (-77)) := cc 0 (by omega)
      have c1 : wr.cell? ⟨g, k * 8 + 1, none⟩ = some (.int .i64 0) := cc 1 (by omega)
      have c2 : wr.cell? ⟨g, k * 8 + 1 + 1, none⟩ = some (.int .i64 0) := cc 2 (by omega)
      have c3 : wr.cell? ⟨g, k * 8 + 1 + 2, none⟩ = some (.int .i64 0) := cc 3 (by omega)
      have c4 : wr.cell? ⟨g, k * 8 + 1 + 3, none⟩ = some (.int .i64 0) := cc 4 (by omega)
      have c5 : wr.cell? ⟨g, k * 8 + 1 + 4, none⟩ = some (.int .i64 0) := cc 5 (by omega)
      have c6 : wr.cell? ⟨g, k * 8 + 1 + 5, none⟩ = some (.int .i64 0) := cc 6 (by omega)
      have c7 : wr.cell? ⟨g, k * 8 + 7, none⟩ = some (.slice none 0 0) := cc 7 (by omega)
      clear cc
      have he := eq6_self 0 0 0 0 0 0
      have hlkI : (k : Int) < n + 8 := by omega
      go_wp2
      go_roundw
      case rel => exact ⟨k + 1, by omega, by omega, by go_num, rfl, HL.out, HG.out, HK.out⟩
      case measure => simp [intOf]; omega
    · obtain rfl : k = n + 8 := by omega
      go_wp2_with fail
      go_loopw [6, 8] (fun s6 s8 wr => ∃ i : Nat, i ≤ n ∧ s8 = .int .i64 i ∧ s6 = .bool true ∧ Lent wr g n (n + 8) n rs A (fun j => if j < i then fun _ => mkP 55 else lentE rs j) ∧ w0.grownBy wr none ∧ Kp (fun b => ∃ j, j < n ∧ b = A j) w wr) (fun _ s8 _ => n - (intOf s8).toNat)
      case atStart => exact ⟨0, by omega, rfl, rfl, ⟨HL.out.rb, fun j hj => HL.out.own j hj, HL.out.above, HL.out.inc⟩, HG.out, HK.out⟩
      case round =>
        obtain ⟨i, hi, rfl, rfl, hl, hg, hkp⟩ := hrel
        clear HL HG HK
        have HL := hide hl
        have HG := hide hg
        have HK := hide hkp
        clear hl hg hkp
        by_cases hlt : i < n
        · rcases HP.out with ⟨_, _, _, h0⟩ | ⟨g1, off, cap', hv, _, hcell⟩
          · omega
          cases hv
          obtain ⟨_, _, cv, cr⟩ := hcell i hlt
          obtain ⟨aa, aq, haa⟩ := cr.slice
          rw [haa] at cv
          obtain ⟨N, hN⟩ : ∃ N, N = (rs i).na := ⟨_, rfl⟩
          rw [← hN] at cv
          have HCV : Hid (∀ wx, w0.grownBy wx none → wx.cell? ⟨g1, off + i * 8 + 7, none⟩ = some (.slice aa N aq)) := fun wx hg => hg.cell cv (by simp)
          have hNb : N ≤ 1000000000 := by rw [hN]; exact HNA.out i hlt
          have HN := hide hN
          have hLb := HL.out.above i hlt
          obtain ⟨ai, hai⟩ : ∃ ai, ai = A i := ⟨_, rfl⟩
          have HLI : Hid (∀ wx, RB wx g (n + 8) (lentF n (n + 8) n rs A) → wx.cell? ⟨g, i * 8 + 7, none⟩ = some (.slice (some ⟨ai, 0, none⟩) N (N + 8))) := fun wx hrb => by
            rw [hrb.cell i (by omega) 7 (by omega), hai, hN]
            unfold lentF
            rw [if_pos hlt]
            rfl
          have c7 := HCV.out _ HG.out
          have l7 := HLI.out _ HL.out.rb
          rw [← hai] at hLb
          have HAI := hide hai
          clear hcell cv cr haa hN hai
          have hltI : (i : Int) < n := by omega
          have hN8 : (N : Int) + 8 ≤ N + 8 := by omega
          go_wp2_with fail
          go_quiet (fail)
          go_wp2_with fail
          clear c7 l7
          obtain ⟨E0, hE0⟩ : ∃ E0, E0 = lentE rs i := ⟨_, rfl⟩
          have HO0 : Hid (Own wr ai (N + 8) (N + 8) E0) := by
            have := HL.out.own i hlt
            rw [if_neg (Nat.lt_irrefl i), ← HAI.out, ← HN.out, ← hE0] at this
            exact this
          have HE0 := hide hE0
          clear hE0
          go_loopw [6, 10] (fun s6 s10 wq => ∃ k : Nat, k ≤ N + 8 ∧ s10 = .int .i64 k ∧ s6 = .bool true ∧ Own wq ai (N + 8) (N + 8) (fun t => if t < k then mkP 55 else E0 t) ∧ wr.grownBy wq (some ai)) (fun _ s10 _ => N + 8 - (intOf s10).toNat)
          case atStart => exact ⟨0, by omega, rfl, rfl, (HO0.out.grown (grown_drewN (grown_refl _ none) _) (by simp)).cong (fun t ht u hu => by rw [if_neg (show ¬ t < 0 by omega)]), grown_drewN (grown_refl _ _) _⟩
          case round =>
            obtain ⟨k, hk, rfl, rfl, hO, hgq⟩ := hrel
            obtain ⟨E, hE⟩ : ∃ E : Nat → Nat → Int, E = fun t => if t < k then mkP 55 else E0 t := ⟨_, rfl⟩
            rw [← hE] at hO
            have HEE := hide hE
            have HO := hide hO
            have HGQ := hide hgq
            have GQ := hide (grown_new HG.out hgq (by omega))
            clear hO hgq hE HO0
            by_cases hlk : k < N + 8
            · have c7 := HCV.out _ GQ.out
              have f0 : wr.cell? ⟨ai, k * 6, none⟩ = some (.int .i64 (E k 0)) := HO.out.cell k hlk 0 (by omega)
              have f1 := HO.out.cell k hlk 1 (by omega)
              have f2 := HO.out.cell k hlk 2 (by omega)
              have f3 := HO.out.cell k hlk 3 (by omega)
              have f4 := HO.out.cell k hlk 4 (by omega)
              have f5 := HO.out.cell k hlk 5 (by omega)
              have fz := HO.out.frozen
              have hlkI : (k : Int) < N + 8 := by omega
              have hop := HO.out.put k hlk (mkP 55)
              have hop2 : Own (lay6 wr ai (k * 6) (mkP 55)) ai (N + 8) (N + 8) (fun t => if t < k + 1 then mkP 55 else E0 t) := hop.cong (fun t ht u hu => by
                show (if t = k then mkP 55 else E t) u = (if t < k + 1 then mkP 55 else E0 t) u
                rw [HEE.out]
                by_cases e : t = k
                · rw [if_pos e, if_pos (by omega)]
                · rw [if_neg e]
                  show (if t < k then mkP 55 else E0 t) u = _
                  by_cases e3 : t < k
                  · rw [if_pos e3, if_pos (by omega)]
                  · rw [if_neg e3, if_neg (by omega)])
              have hg2 := grown_trans HGQ.out (lay6_grown wr ai (k * 6) (mkP 55))
              have HOP := hide hop2
              have HG2 := hide hg2
              clear hop hop2 hg2
              by_cases hkN : k < N
              · have hkI : (k : Int) < N := by omega
                go_wp2_with fail
                have h1 := HOP.out
                have h2 := HG2.out
                simp only [lay6, mkP_0, mkP_1, mkP_2, mkP_3, mkP_4, mkP_5] at h1 h2
                exact ⟨⟨k + 1, by omega, by go_num, rfl, h1, h2⟩, by simp [intOf]; omega⟩
              · have hkI : ¬ (k : Int) < N := by omega
                have hEk : E k = mkP (-77) := by
                  rw [HEE.out]
                  show (if k < k then mkP 55 else E0 k) = _
                  rw [if_neg (Nat.lt_irrefl k), HE0.out]
                  unfold lentE
                  rw [← HN.out, if_neg hkN]
                rw [hEk] at f0 f1 f2 f3 f4 f5
                simp only [mkP_0, mkP_1, mkP_2, mkP_3, mkP_4, mkP_5] at f0 f1 f2 f3 f4 f5
                have he := eq6_self (-77) 0 0 0 0 0
                clear hEk
                go_wp2_with fail
                have h1 := HOP.out
                have h2 := HG2.out
                simp only [lay6, mkP_0, mkP_1, mkP_2, mkP_3, mkP_4, mkP_5] at h1 h2
                exact ⟨⟨k + 1, by omega, by go_num, rfl, h1, h2⟩, by simp [intOf]; omega⟩
            · obtain rfl : k = N + 8 := by omega
              go_wp2_with fail
              refine ⟨⟨i + 1, by omega, by go_num, rfl, ?_, GQ.out, HK.out.step HGQ.out (fun b e => ?_)⟩, by simp [intOf]; omega⟩
              · refine HL.out.set hlt (by rw [← HAI.out]; exact HGQ.out) ?_ (fun j hj hne => ?_)
                · show Own _ _ _ _ (if i < i + 1 then fun _ => mkP 55 else lentE rs i)
                  rw [if_pos (by omega), ← HAI.out, ← HN.out]
                  refine HO.out.cong (fun t ht u hu => ?_)
                  rw [HEE.out]
                  show (if t < N + 8 then mkP 55 else E0 t) u = _
                  rw [if_pos ht]
                · show (if j < i + 1 then fun _ => mkP 55 else lentE rs j) = if j < i then fun _ => mkP 55 else lentE rs j
                  by_cases e : j < i
                  · rw [if_pos e, if_pos (by omega)]
                  · rw [if_neg e, if_neg (by omega)]
              · cases e
                exact .inl ⟨i, hlt, HAI.out⟩
        · obtain rfl : i = n := by omega
          go_wp2
          go_ret
          refine ⟨rfl, ⟨HL.out.rb, fun j hj => ?_, HL.out.above, HL.out.inc⟩, HK.out⟩
          have := HL.out.own j hj
          rw [if_pos hj] at this
          exact this
end Go.Proofs.Ytlhkfafdioakeaa
