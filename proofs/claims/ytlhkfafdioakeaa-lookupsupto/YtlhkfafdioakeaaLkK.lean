/- Proved here: lists of packets, texts and rules that hold the same are the same to the statements. -/
import Derived.Test.YtlhkfafdioakeaaLkG
import Derived.Deep.RegionWith
namespace Go.Proofs.Ytlhkfafdioakeaa
open Go.RowKit
set_option linter.unusedVariables false
set_option linter.unusedSimpArgs false
theorem eq6_self (a b c d e f : Int) : eq6 a b c d e f a b c d e f = true := by simp [eq6]
set_option maxRecDepth 100000 in
set_option maxHeartbeats 2000000 in
theorem samePR (va vb : Value) (n : Nat) (ps qs : Nat → Nat → Int) (w : World) (ha : PkR w va n ps) (hb : PkR w vb n qs) (hpq : ∀ j, j < n → ∀ i, i < 6 → ps j i = qs j i) :
    Calls Try.prog 7 #[va, vb] w fun e w' => e = .returned (.bool true) ∧ w.grownBy w' none := by
  obtain ⟨a, ca, rfl⟩ := ha.slice
  obtain ⟨b, cb, rfl⟩ := hb.slice
  have HA := hide ha
  have HB := hide (hb.cong (fun j hj i hi => (hpq j hj i hi).symm))
  have hfew := ha.few
  clear ha hb hpq
  go_enter Try.func7, Try.ntmps7
  go_wp2
  go_loopw [5] (fun v5 wr => ∃ (j : Nat), v5 = .int .i64 j ∧ j ≤ n ∧ w.grownBy wr none) (fun v5 _ => n - (intOf v5).toNat)
  case atStart => exact ⟨0, rfl, Nat.zero_le _, grown_refl _ _⟩
  case round =>
    obtain ⟨j, rfl, hj, hg⟩ := hrel
    have HG := hide hg
    clear hg
    by_cases hlt : j < n
    · rcases HA.out with ⟨_, _, _, h0, _⟩ | ⟨g, off, cap', hv, _, hcell⟩
      · omega
      rcases HB.out with ⟨_, _, _, h0, _⟩ | ⟨g2, off2, cap2, hv2, _, hcell2⟩
      · omega
      cases hv
      cases hv2
      obtain ⟨k, hk⟩ : ∃ k, k = ps j := ⟨_, rfl⟩
      have cc : ∀ i, i < 6 → wr.cell? ⟨g, off + j * 6 + i, none⟩ = some (.int .i64 (k i)) := fun i hi => by rw [hk]; exact HG.out.cell (hcell j hlt i hi) (by simp)
      have dd : ∀ i, i < 6 → wr.cell? ⟨g2, off2 + j * 6 + i, none⟩ = some (.int .i64 (k i)) := fun i hi => by rw [hk]; exact HG.out.cell (hcell2 j hlt i hi) (by simp)
      have c0 : wr.cell? ⟨g, off + j * 6, none⟩ = some (.int .i64 (k 0)) := cc 0 (by omega)
      have c1 := cc 1 (by omega)
      have c2 := cc 2 (by omega)
      have c3 := cc 3 (by omega)
      have c4 := cc 4 (by omega)
      have c5 := cc 5 (by omega)
      have d0 : wr.cell? ⟨g2, off2 + j * 6, none⟩ = some (.int .i64 (k 0)) := dd 0 (by omega)
      have d1 := dd 1 (by omega)
      have d2 := dd 2 (by omega)
      have d3 := dd 3 (by omega)
      have d4 := dd 4 (by omega)
      have d5 := dd 5 (by omega)
      clear cc dd hcell hcell2 hk
      have he := eq6_self (k 0) (k 1) (k 2) (k 3) (k 4) (k 5)
      have hltI : (j : Int) < n := by omega
      go_wp2_with fail
      go_quiet (fail)
      go_wp2
      go_roundw
      case rel => exact ⟨j + 1, by go_num, by omega, grown_drewN HG.out _⟩
      case measure => simp [intOf]; omega
    · go_wp2
      go_ret
      exact ⟨rfl, HG.out⟩
set_option maxRecDepth 100000 in
set_option maxHeartbeats 1000000 in
theorem sameT_nil (w : World) : Calls Try.prog 27 #[.slice none 0 0, .slice none 0 0] w fun e w' => e = .returned (.bool true) ∧ w' = w := by
  go_enter Try.func27, Try.ntmps27
  go_wp2
  go_loopw [5] (fun v5 wr => v5 = .int .i64 0 ∧ wr = w) (fun v5 _ => 0)
  case atStart => exact ⟨rfl, rfl⟩
  case round =>
    obtain ⟨rfl, rfl⟩ := hrel
    go_wp2
    go_ret
    exact ⟨rfl, by first | trivial | rfl⟩
/-- Two rules that say the same. -/
structure SameRl (a b : Rl) : Prop where
  prio : a.prio = b.prio
  mt : ∀ i, i < 6 → a.mt i = b.mt i
  na : a.na = b.na
  acts : ∀ j, j < b.na → ∀ i, i < 6 → a.acts j i = b.acts j i
set_option maxRecDepth 100000 in
set_option maxHeartbeats 2000000 in
theorem sameRR (va vb : Value) (n : Nat) (rs qs : Nat → Rl) (w : World) (ha : RlRow w va n rs) (hb : RlRow w vb n qs) (hpq : ∀ j, j < n → SameRl (rs j) (qs j)) :
    Calls Try.prog 18 #[va, vb] w fun e w' => e = .returned (.bool true) ∧ w.grownBy w' none := by
  obtain ⟨a, ca, rfl⟩ := ha.slice
  obtain ⟨b, cb, rfl⟩ := hb.slice
  have HA := hide ha
  have HB := hide hb
  have HPQ := hide hpq
  have hfew := ha.few
  clear ha hb hpq
  go_enter Try.func18, Try.ntmps18
  go_wp2
  go_loopw [5] (fun v5 wr => ∃ (j : Nat), v5 = .int .i64 j ∧ j ≤ n ∧ w.grownBy wr none) (fun v5 _ => n - (intOf v5).toNat)
  case atStart => exact ⟨0, rfl, Nat.zero_le _, grown_refl _ _⟩
  case round =>
    obtain ⟨j, rfl, hj, hg⟩ := hrel
    have HG := hide hg
    clear hg
    by_cases hlt : j < n
    · have HS := HPQ.out j hlt
      rcases HA.out with ⟨_, _, _, h0⟩ | ⟨g, off, cap', hv, _, hcell⟩
      · omega
      rcases HB.out with ⟨_, _, _, h0⟩ | ⟨g2, off2, cap2, hv2, _, hcell2⟩
      · omega
      cases hv
      cases hv2
      obtain ⟨xp, xm, xa, xr⟩ := hcell j hlt
      obtain ⟨yp, ym, ya, yr⟩ := hcell2 j hlt
      obtain ⟨aa, ac, haa⟩ := xr.slice
      obtain ⟨ab, ad, hab⟩ := yr.slice
      rw [haa] at xa xr
      rw [hab] at ya yr
      rw [HS.na] at xr xa
      have HC : Hid (∀ wx, w.grownBy wx none → Calls Try.prog 7 #[.slice aa (qs j).na ac, .slice ab (qs j).na ad] wx fun e w' => e = .returned (.bool true) ∧ w.grownBy w' none) := by
        intro wx hg
        refine (samePR _ _ (qs j).na _ _ wx (xr.grown hg) (yr.grown hg) HS.acts).mono ?_
        rintro e w' ⟨rfl, hg2⟩
        exact ⟨rfl, grown_trans hg hg2⟩
      obtain ⟨N, hN⟩ : ∃ N, N = (qs j).na := ⟨_, rfl⟩
      obtain ⟨k, hk⟩ : ∃ k, k = (rs j).mt := ⟨_, rfl⟩
      obtain ⟨p, hp⟩ : ∃ p, p = (rs j).prio := ⟨_, rfl⟩
      rw [← hN] at xa ya HC
      have HX : Hid (∀ wx, w.grownBy wx none → wx.cell? ⟨g, off + j * 8, none⟩ = some (.int .i64 p) ∧ (∀ i, i < 6 → wx.cell? ⟨g, off + j * 8 + (1 + i), none⟩ = some (.int .i64 (k i))) ∧ wx.cell? ⟨g, off + j * 8 + 7, none⟩ = some (.slice aa N ac) ∧ wx.cell? ⟨g2, off2 + j * 8, none⟩ = some (.int .i64 p) ∧ (∀ i, i < 6 → wx.cell? ⟨g2, off2 + j * 8 + (1 + i), none⟩ = some (.int .i64 (k i))) ∧ wx.cell? ⟨g2, off2 + j * 8 + 7, none⟩ = some (.slice ab N ad)) := by
        intro wx hg
        refine ⟨by rw [hp]; exact hg.cell xp (by simp), fun i hi => by rw [hk]; exact hg.cell (xm i hi) (by simp), hg.cell xa (by simp), by rw [hp, HS.prio]; exact hg.cell yp (by simp), fun i hi => by rw [hk, HS.mt i hi]; exact hg.cell (ym i hi) (by simp), hg.cell ya (by simp)⟩
      clear xp xm xa xr yp ym ya yr hN hk hp hcell hcell2 HS haa hab
      obtain ⟨c0, c1, c2, d0, d1, d2⟩ := HX.out wr HG.out
      have HG0 : Hid (w.grownBy wr.drew none) := grown_drew HG.out
      clear c1 d1 c0 d0
      have hltI : (j : Int) < n := by omega
      go_wp2_with fail
      go_region_with (go_at_call 7; refine (HC.out _ HG0.out).mono ?_; rintro e w3 ⟨rfl, hg3⟩; have G3 := hide hg3; clear hg3)
      all_goals
        obtain ⟨z0, z1, z2, y0, y1, y2⟩ := HX.out w3 G3.out
        have a0 : w3.cell? ⟨g, off + j * 8 + 1, none⟩ = some (.int .i64 (k 0)) := z1 0 (by omega)
        have a1 : w3.cell? ⟨g, off + j * 8 + 1 + 1, none⟩ = some (.int .i64 (k 1)) := z1 1 (by omega)
        have a2 : w3.cell? ⟨g, off + j * 8 + 1 + 2, none⟩ = some (.int .i64 (k 2)) := z1 2 (by omega)
        have a3 : w3.cell? ⟨g, off + j * 8 + 1 + 3, none⟩ = some (.int .i64 (k 3)) := z1 3 (by omega)
        have a4 : w3.cell? ⟨g, off + j * 8 + 1 + 4, none⟩ = some (.int .i64 (k 4)) := z1 4 (by omega)
        have a5 : w3.cell? ⟨g, off + j * 8 + 1 + 5, none⟩ = some (.int .i64 (k 5)) := z1 5 (by omega)
        have b0 : w3.cell? ⟨g2, off2 + j * 8 + 1, none⟩ = some (.int .i64 (k 0)) := y1 0 (by omega)
        have b1 : w3.cell? ⟨g2, off2 + j * 8 + 1 + 1, none⟩ = some (.int .i64 (k 1)) := y1 1 (by omega)
        have b2 : w3.cell? ⟨g2, off2 + j * 8 + 1 + 2, none⟩ = some (.int .i64 (k 2)) := y1 2 (by omega)
        have b3 : w3.cell? ⟨g2, off2 + j * 8 + 1 + 3, none⟩ = some (.int .i64 (k 3)) := y1 3 (by omega)
        have b4 : w3.cell? ⟨g2, off2 + j * 8 + 1 + 4, none⟩ = some (.int .i64 (k 4)) := y1 4 (by omega)
        have b5 : w3.cell? ⟨g2, off2 + j * 8 + 1 + 5, none⟩ = some (.int .i64 (k 5)) := y1 5 (by omega)
        clear z1 y1
        have he := eq6_self (k 0) (k 1) (k 2) (k 3) (k 4) (k 5)
        go_wp2_with fail
        go_quiet (fail)
        go_wp2
        go_roundw
        case rel => exact ⟨j + 1, by go_num, by omega, grown_drewN G3.out _⟩
        case measure => simp [intOf]; omega
    · go_wp2
      go_ret
      exact ⟨rfl, HG.out⟩
end Go.Proofs.Ytlhkfafdioakeaa
