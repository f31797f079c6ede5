/- Proved here: the books are as they were. -/
import Derived.Test.YtlhkfafdioakeaaLkO
namespace Go.Proofs.Ytlhkfafdioakeaa
open Go.RowKit
set_option linter.unusedVariables false
set_option linter.unusedSimpArgs false
theorem owns_at {w : World} {B : Nat} {T : TypeId} {v : Value} {n : Nat} {xs : Nat → Value} (h : w.ownsRow B T 1 v n ((List.range n).map xs)) (i : Nat) (hi : i < n) : ∃ g c, v = .slice (some ⟨g, 0, none⟩) n c ∧ w.cell? ⟨g, i, none⟩ = some (xs i) := by
  rcases h.2 with ⟨_, h0⟩ | ⟨g, cap, cur, rfl, _⟩
  · omega
  · refine ⟨g, cap, rfl, ?_⟩
    rw [h.cellAt i (by omega)]
    simp [hi]
theorem mark_eq (y : Int) : eq6 (mkP y 0) (mkP y 1) (mkP y 2) (mkP y 3) (mkP y 4) (mkP y 5) y 0 0 0 0 0 = true := by
  simp [eq6, mkP]
theorem RlRow.nil (w : World) (rs : Nat → Rl) : RlRow w (.slice none 0 0) 0 rs := .inl ⟨none, 0, rfl, rfl⟩
set_option maxRecDepth 100000 in
set_option maxHeartbeats 8000000 in
theorem still_any (B C : Nat) (w : World) (bb ca : Nat) (hbk : Bk B C w bb ca) (hca : ca ≤ 10000000000) :
    Calls Try.prog 13 #[.pointer (some ⟨bb, 0, none⟩)] w fun e w' => e = .returned (.bool true) ∧ w.grownBy w' none := by
  obtain ⟨n, kv, wv, vP, vN, km, kd, xs, ys, ls, hS⟩ := hbk
  have hfew := hS.few
  obtain ⟨ka, kc, rfl⟩ := hS.kept.slice
  obtain ⟨wwa, wwc, rfl⟩ := hS.were.slice
  obtain ⟨pa, pc, rfl⟩ := owns_slice hS.rP
  obtain ⟨na, nc, rfl⟩ := owns_slice hS.rN
  have HS := hide hS
  have HCE : Hid (∀ wx, w.grownBy wx none → wx.cell? ⟨bb, 2, none⟩ = some (.bool false) ∧ wx.cell? ⟨bb, 3, none⟩ = some (.slice ka km kc) ∧ wx.cell? ⟨bb, 4, none⟩ = some (.slice wwa km wwc) ∧ wx.cell? ⟨bb, 5, none⟩ = some (.slice none 0 0) ∧ wx.cell? ⟨bb, 6, none⟩ = some (.slice none 0 0) ∧ wx.cell? ⟨bb, 7, none⟩ = some (.slice none 0 0) ∧ wx.cell? ⟨bb, 8, none⟩ = some (.slice none 0 0) ∧ wx.cell? ⟨bb, 9, none⟩ = some (.slice pa (4 * n) pc) ∧ wx.cell? ⟨bb, 10, none⟩ = some (.slice na (4 * n) nc) ∧ wx.cell? ⟨bb, 11, none⟩ = some (.slice none 0 0) ∧ wx.cell? ⟨bb, 13, none⟩ = some (.slice none 0 0)) := by
    intro wx hg
    have h := (hS.grown hg).bk
    exact ⟨h.cell 2 (by omega), h.cell 3 (by omega), h.cell 4 (by omega), h.cell 5 (by omega), h.cell 6 (by omega), h.cell 7 (by omega), h.cell 8 (by omega), h.cell 9 (by omega), h.cell 10 (by omega), h.cell 11 (by omega), h.cell 13 (by omega)⟩
  have HSP : Hid (∀ ww, w.grownBy ww none → Calls Try.prog 7 #[.slice ka km kc, .slice wwa km wwc] ww fun e w' => e = .returned (.bool true) ∧ w.grownBy w' none) := by
    intro ww hg
    refine (samePR _ _ km kd kd ww (hS.kept.row.any.grown hg) (hS.were.row.any.grown hg) (fun _ _ _ _ => rfl)).mono ?_
    rintro e w' ⟨rfl, hg2⟩
    exact ⟨rfl, grown_trans hg hg2⟩
  have HST : Hid (∀ ww, w.grownBy ww none → Calls Try.prog 27 #[.slice none 0 0, .slice none 0 0] ww fun e w' => e = .returned (.bool true) ∧ w.grownBy w' none) := by
    intro ww hg
    refine (sameT_nil ww).mono ?_
    rintro e w' ⟨rfl, rfl⟩
    exact ⟨rfl, hg⟩
  have HSR : Hid (∀ ww, w.grownBy ww none → Calls Try.prog 18 #[.slice none 0 0, .slice none 0 0] ww fun e w' => e = .returned (.bool true) ∧ w.grownBy w' none) := by
    intro ww hg
    refine (sameRR _ _ 0 (fun _ => ⟨0, fun _ => 0, 0, fun _ _ => 0, .slice none 0 0⟩) (fun _ => ⟨0, fun _ => 0, 0, fun _ _ => 0, .slice none 0 0⟩) ww (RlRow.nil _ _) (RlRow.nil _ _) (fun j hj => by omega)).mono ?_
    rintro e w' ⟨rfl, hg2⟩
    exact ⟨rfl, grown_trans hg hg2⟩
  clear hS
  go_enter Try.func13, Try.ntmps13
  go_upto_region 1 with fail
  go_cut [3] (fun v3 wx => v3 = .bool true ∧ w.grownBy wx none)
  case first =>
    obtain ⟨c2, c3, c4, c5, c6, c7, c8, c9, c10, c11, c13⟩ := HCE.out w (grown_refl _ _)
    have HG0 : Hid (w.grownBy w.drew none) := grown_drew (grown_refl _ _)
    clear c2 c5 c6 c7 c8 c9 c10 c11 c13
    go_region_with (go_at_call 7; refine (HSP.out _ HG0.out).mono ?_; rintro e w2 ⟨rfl, hg2⟩; have HG2 := hide hg2; clear hg2)
    all_goals
      go_wp2_with fail
      go_meet
      exact ⟨rfl, HG2.out⟩
  case rest =>
    obtain ⟨rfl, hg⟩ := hcut
    have HG := hide hg
    clear hg HSP
    go_upto_region 2 with fail
    go_cut [4] (fun v4 wx => v4 = .bool true ∧ w.grownBy wx none)
    case first =>
      obtain ⟨c2, c3, c4, c5, c6, c7, c8, c9, c10, c11, c13⟩ := HCE.out _ HG.out
      have HG0 : Hid (w.grownBy wc.drew none) := grown_drew HG.out
      clear c2 c3 c4 c7 c8 c9 c10 c11 c13
      go_region_with (go_at_call 27; refine (HST.out _ HG0.out).mono ?_; rintro e w2 ⟨rfl, hg2⟩; have HG2 := hide hg2; clear hg2)
      all_goals
        go_wp2_with fail
        go_meet
        exact ⟨rfl, HG2.out⟩
    case rest =>
      obtain ⟨rfl, hg⟩ := hcut
      clear HG
      have HG := hide hg
      clear hg HST
      go_upto_region 3 with fail
      go_cut [5] (fun v5 wx => v5 = .bool true ∧ w.grownBy wx none)
      case first =>
        obtain ⟨c2, c3, c4, c5, c6, c7, c8, c9, c10, c11, c13⟩ := HCE.out _ HG.out
        have HG0 : Hid (w.grownBy wc.drew none) := grown_drew HG.out
        clear c2 c3 c4 c5 c6 c9 c10 c11 c13
        go_region_with (go_at_call 18; refine (HSR.out _ HG0.out).mono ?_; rintro e w2 ⟨rfl, hg2⟩; have HG2 := hide hg2; clear hg2)
        all_goals
          go_wp2_with fail
          go_meet
          exact ⟨rfl, HG2.out⟩
      case rest =>
        obtain ⟨rfl, hg⟩ := hcut
        clear HG
        have HG := hide hg
        clear hg HSR
        obtain ⟨c2, c3, c4, c5, c6, c7, c8, c9, c10, c11, c13⟩ := HCE.out _ HG.out
        clear c3 c4 c5 c6 c7 c8 c9 c10 c11 c13
        go_wp2_with fail
        clear c2
        go_loopw [6] (fun s6 wr => ∃ i : Nat, i ≤ 4 * n ∧ s6 = .int .i64 i ∧ w.grownBy wr none) (fun s6 _ => 4 * n - (intOf s6).toNat)
        case atStart => exact ⟨0, by omega, rfl, HG.out⟩
        case round =>
          obtain ⟨i, hi, rfl, hg⟩ := hrel
          clear HG
          have HG := hide hg
          clear hg
          obtain ⟨c2, c3, c4, c5, c6, c7, c8, c9, c10, c11, c13⟩ := HCE.out _ HG.out
          clear c2 c3 c4 c5 c6 c7 c8
          by_cases hlt : i < 4 * n
          · clear c10 c11 c13
            have hltI : (i : Int) < 4 * n := by omega
            go_wp2_with fail
            clear c9
            obtain ⟨pg, pcc, hpe, hpx⟩ := owns_at HS.out.rP i hlt
            cases hpe
            obtain ⟨ng, ncc, hne, hnx⟩ := owns_at (xs := fun i => .int .i64 (ys i)) HS.out.rN i hlt
            cases hne
            obtain ⟨xa, xc, hxe⟩ := (HS.out.mrk i hlt).1.slice
            have HMR := hide (HS.out.mrk i hlt).1
            have hlb := (HS.out.mrk i hlt).1.few
            rw [hxe] at hpx HMR
            have HPX := hide hpx
            have HNX := hide hnx
            obtain ⟨N, hN⟩ : ∃ N, N = ls i := ⟨_, rfl⟩
            obtain ⟨y, hy⟩ : ∃ y, y = ys i := ⟨_, rfl⟩
            rw [← hN] at HPX HMR hlb
            rw [← hy] at HNX HMR
            clear hpx hnx hxe hN hy
            go_loopw [7] (fun s7 wr => ∃ k : Nat, k ≤ N ∧ s7 = .int .i64 k ∧ w.grownBy wr none) (fun s7 _ => N - (intOf s7).toNat)
            case atStart => exact ⟨0, by omega, rfl, HG.out⟩
            case round =>
              obtain ⟨k, hk, rfl, hg⟩ := hrel
              clear HG
              have HG := hide hg
              clear hg
              obtain ⟨c2, c3, c4, c5, c6, c7, c8, c9, c10, c11, c13⟩ := HCE.out _ HG.out
              clear c2 c3 c4 c5 c6 c7 c8 c11 c13
              have px : wr.cell? ⟨pg, i, none⟩ = some (.slice xa N xc) := HG.out.cell HPX.out (by simp)
              by_cases hlt2 : k < N
              · rcases HMR.out with ⟨_, _, _, h0, _⟩ | ⟨g2, off2, cap2, hv2, _, hcell2⟩
                · omega
                cases hv2
                have nx : wr.cell? ⟨ng, i, none⟩ = some (.int .i64 y) := HG.out.cell HNX.out (by simp)
                obtain ⟨x, hx⟩ : ∃ x, x = mkP y := ⟨_, rfl⟩
                have cc : ∀ t, t < 6 → wr.cell? ⟨g2, off2 + k * 6 + t, none⟩ = some (.int .i64 (x t)) := fun t ht => by rw [hx]; exact HG.out.cell (hcell2 k hlt2 t ht) (by simp)
                have e0 : wr.cell? ⟨g2, off2 + k * 6, none⟩ = some (.int .i64 (x 0)) := cc 0 (by omega)
                have e1 := cc 1 (by omega)
                have e2 := cc 2 (by omega)
                have e3 := cc 3 (by omega)
                have e4 := cc 4 (by omega)
                have e5 := cc 5 (by omega)
                have he := mark_eq y
                rw [← hx] at he
                clear cc hcell2 hx
                have hlt2I : (k : Int) < N := by omega
                go_wp2_with fail
                go_quiet (fail)
                go_wp2
                go_roundw
                case rel => exact ⟨k + 1, by omega, by go_num, grown_drewN HG.out _⟩
                case measure => simp [intOf]; omega
              · obtain rfl : k = N := by omega
                go_wp2
                go_roundw
                case rel => exact ⟨i + 1, by omega, by go_num, HG.out⟩
                case measure => simp [intOf]; omega
          · obtain rfl : i = 4 * n := by omega
            go_wp2_with fail
            go_loopw [8] (fun s8 wr => s8 = .int .i64 0 ∧ w.grownBy wr none) (fun s8 _ => 0)
            case atStart => exact ⟨rfl, HG.out⟩
            case round =>
              obtain ⟨rfl, hg⟩ := hrel
              clear HG c9 c10 c11 c13
              have HG := hide hg
              clear hg
              obtain ⟨c2, c3, c4, c5, c6, c7, c8, c9, c10, c11, c13⟩ := HCE.out _ HG.out
              clear c2 c3 c4 c5 c6 c7 c8 c9 c10
              go_wp2_with fail
              go_loopw [10] (fun s10 wr => s10 = .int .i64 0 ∧ w.grownBy wr none) (fun s10 _ => 0)
              case atStart => exact ⟨rfl, HG.out⟩
              case round =>
                obtain ⟨rfl, hg⟩ := hrel
                clear HG c11 c13
                have HG := hide hg
                clear hg
                obtain ⟨c2, c3, c4, c5, c6, c7, c8, c9, c10, c11, c13⟩ := HCE.out _ HG.out
                clear c2 c3 c4 c5 c6 c7 c8 c9 c10 c11
                go_wp2
                go_ret
                exact ⟨rfl, HG.out⟩
end Go.Proofs.Ytlhkfafdioakeaa
