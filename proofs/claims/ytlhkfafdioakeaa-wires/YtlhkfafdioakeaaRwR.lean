/- Proved here: lists of packets, and rules, that hold the same are the same to the statements. -/
import Derived.Test.YtlhkfafdioakeaaCodC
namespace Go.Proofs.Ytlhkfafdioakeaa
open Go.RowKit
set_option linter.unusedVariables false
set_option linter.unusedSimpArgs false
set_option maxRecDepth 100000 in
set_option maxHeartbeats 2000000 in
theorem sameP_true (va vb : Value) (n : Nat) (ps qs : Nat → Nat → Int) (w : World) (ha : PkRow w va n ps) (hb : PkRow w vb n qs) (hpq : ∀ j, j < n → ∀ i, i < 6 → ps j i = qs j i) :
    Calls Try.prog 7 #[va, vb] w fun e w' => e = .returned (.bool true) ∧ w.grownBy w' none := by
  obtain ⟨a, ca, rfl⟩ := ha.slice
  obtain ⟨b, cb, rfl⟩ := hb.slice
  have HA := hide ha
  have HB := hide (hb.cong (fun j hj i hi => (hpq j hj i hi).symm))
  have hfew := ha.few
  clear ha hb hpq
  go_enter Try.func7, Try.ntmps7
  go_wp2
  go_loopw [5] (fun v5 wr => ∃ (j : Nat), v5 = .int .i64 j ∧ j ≤ n ∧ w.grownBy wr none) (fun v5 _ => n - (intOf v5).toNat)
  case atStart => exact ⟨0, rfl, Nat.zero_le _, grown_refl _ _⟩
  case round =>
    obtain ⟨j, rfl, hj, hg⟩ := hrel
    have HG := hide hg
    clear hg
    by_cases hlt : j < n
    · rcases HA.out with ⟨_, h0⟩ | ⟨g, off, cap', hv, _, hcell⟩
      · omega
      rcases HB.out with ⟨_, h0⟩ | ⟨g2, off2, cap2, hv2, _, hcell2⟩
      · omega
      cases hv
      cases hv2
      obtain ⟨k, hk⟩ : ∃ k, k = ps j := ⟨_, rfl⟩
      have cc : ∀ i, i < 6 → wr.cell? ⟨g, off + j * 6 + i, none⟩ = some (.int .i64 (k i)) := fun i hi => by rw [hk]; exact HG.out.cell (hcell j hlt i hi) (by simp)
      have dd : ∀ i, i < 6 → wr.cell? ⟨g2, off2 + j * 6 + i, none⟩ = some (.int .i64 (k i)) := fun i hi => by rw [hk]; exact HG.out.cell (hcell2 j hlt i hi) (by simp)
      have c0 := cc 0 (by omega)
      have c1 := cc 1 (by omega)
      have c2 := cc 2 (by omega)
      have c3 := cc 3 (by omega)
      have c4 := cc 4 (by omega)
      have c5 := cc 5 (by omega)
      have d0 := dd 0 (by omega)
      have d1 := dd 1 (by omega)
      have d2 := dd 2 (by omega)
      have d3 := dd 3 (by omega)
      have d4 := dd 4 (by omega)
      have d5 := dd 5 (by omega)
      rw [Nat.add_zero] at c0 d0
      clear cc dd hcell hcell2 hk
      have he := eq6_same (k 0) (k 1) (k 2) (k 3) (k 4) (k 5)
      have hltI : (j : Int) < n := by omega
      go_wp2_with fail
      go_quiet (fail)
      go_wp2
      go_roundw
      case rel => exact ⟨j + 1, by go_num, by omega, grown_drewN HG.out _⟩
      case measure => simp [intOf]; omega
    · go_wp2
      go_ret
      exact ⟨rfl, HG.out⟩
/-- A rule: its priority, its match, its actions. -/
structure Ru where
  prio : Int
  mt : Nat → Int
  na : Nat
  acts : Nat → Nat → Int
structure SameRu (a b : Ru) : Prop where
  prio : a.prio = b.prio
  mt : ∀ i, i < 6 → a.mt i = b.mt i
  na : a.na = b.na
  acts : ∀ j, j < b.na → ∀ i, i < 6 → a.acts j i = b.acts j i
/-- A row of rules. -/
def RuRow (w : World) (v : Value) (n : Nat) (rs : Nat → Ru) (av : Nat → Value) : Prop :=
  (v = .slice none 0 0 ∧ n = 0) ∨ ∃ g off cap, v = .slice (some ⟨g, off, none⟩) n cap ∧ n ≤ 3000000000000 ∧ ∀ j, j < n → w.cell? ⟨g, off + j * 8, none⟩ = some (.int .i64 (rs j).prio) ∧ (∀ i, i < 6 → w.cell? ⟨g, off + j * 8 + 1 + i, none⟩ = some (.int .i64 ((rs j).mt i))) ∧ w.cell? ⟨g, off + j * 8 + 7, none⟩ = some (av j) ∧ PkRow w (av j) (rs j).na (rs j).acts
theorem RuRow.slice {w : World} {v : Value} {n : Nat} {rs : Nat → Ru} {av : Nat → Value} (h : RuRow w v n rs av) : ∃ a cap, v = .slice a n cap := by
  rcases h with ⟨rfl, rfl⟩ | ⟨g, off, cap, rfl, _⟩
  · exact ⟨_, _, rfl⟩
  · exact ⟨_, _, rfl⟩
theorem RuRow.few {w : World} {v : Value} {n : Nat} {rs : Nat → Ru} {av : Nat → Value} (h : RuRow w v n rs av) : n ≤ 3000000000000 := by
  rcases h with ⟨rfl, rfl⟩ | ⟨g, off, cap, rfl, h, _⟩ <;> omega
theorem RuRow.grown {w w' : World} {v : Value} {n : Nat} {rs : Nat → Ru} {av : Nat → Value} (h : RuRow w v n rs av) (hg : w.grownBy w' none) : RuRow w' v n rs av := by
  rcases h with h | ⟨g, off, cap, h1, h2, h3⟩
  · exact .inl h
  · exact .inr ⟨g, off, cap, h1, h2, fun j hj => ⟨hg.cell (h3 j hj).1 (by simp), fun i hi => hg.cell ((h3 j hj).2.1 i hi) (by simp), hg.cell (h3 j hj).2.2.1 (by simp), (h3 j hj).2.2.2.grown hg⟩⟩
set_option maxRecDepth 100000 in
set_option maxHeartbeats 2000000 in
theorem sameR_true (va vb : Value) (n : Nat) (rs qs : Nat → Ru) (av bv : Nat → Value) (w : World) (ha : RuRow w va n rs av) (hb : RuRow w vb n qs bv) (hpq : ∀ j, j < n → SameRu (rs j) (qs j)) :
    Calls Try.prog 18 #[va, vb] w fun e w' => e = .returned (.bool true) ∧ w.grownBy w' none := by
  obtain ⟨a, ca, rfl⟩ := ha.slice
  obtain ⟨b, cb, rfl⟩ := hb.slice
  have HA := hide ha
  have HB := hide hb
  have HPQ := hide hpq
  have hfew := ha.few
  clear ha hb hpq
  go_enter Try.func18, Try.ntmps18
  go_wp2
  go_loopw [5] (fun v5 wr => ∃ (j : Nat), v5 = .int .i64 j ∧ j ≤ n ∧ w.grownBy wr none) (fun v5 _ => n - (intOf v5).toNat)
  case atStart => exact ⟨0, rfl, Nat.zero_le _, grown_refl _ _⟩
  case round =>
    obtain ⟨j, rfl, hj, hg⟩ := hrel
    have HG := hide hg
    clear hg
    by_cases hlt : j < n
    · have HS := HPQ.out j hlt
      rcases HA.out with ⟨_, h0⟩ | ⟨g, off, cap', hv, _, hcell⟩
      · omega
      rcases HB.out with ⟨_, h0⟩ | ⟨g2, off2, cap2, hv2, _, hcell2⟩
      · omega
      cases hv
      cases hv2
      obtain ⟨xp, xm, xa, xr⟩ := hcell j hlt
      obtain ⟨yp, ym, ya, yr⟩ := hcell2 j hlt
      obtain ⟨aa, ac, haa⟩ := xr.slice
      obtain ⟨ab, ad, hab⟩ := yr.slice
      rw [haa] at xa xr
      rw [hab] at ya yr
      rw [HS.na] at xr xa
      have HC : Hid (∀ wx, w.grownBy wx none → Calls Try.prog 7 #[.slice aa (qs j).na ac, .slice ab (qs j).na ad] wx fun e w' => e = .returned (.bool true) ∧ w.grownBy w' none) := by
        intro wx hg
        refine (sameP_true _ _ (qs j).na _ _ wx (xr.grown hg) (yr.grown hg) HS.acts).mono ?_
        rintro e w' ⟨rfl, hg2⟩
        exact ⟨rfl, grown_trans hg hg2⟩
      have cp := fun {wx} (hg : w.grownBy wx none) => hg.cell xp (by simp)
      obtain ⟨N, hN⟩ : ∃ N, N = (qs j).na := ⟨_, rfl⟩
      obtain ⟨k, hk⟩ : ∃ k, k = (rs j).mt := ⟨_, rfl⟩
      obtain ⟨p, hp⟩ : ∃ p, p = (rs j).prio := ⟨_, rfl⟩
      rw [← hN] at xa ya HC
      have HX : Hid (∀ wx, w.grownBy wx none → wx.cell? ⟨g, off + j * 8, none⟩ = some (.int .i64 p) ∧ (∀ i, i < 6 → wx.cell? ⟨g, off + j * 8 + 1 + i, none⟩ = some (.int .i64 (k i))) ∧ wx.cell? ⟨g, off + j * 8 + 7, none⟩ = some (.slice aa N ac) ∧ wx.cell? ⟨g2, off2 + j * 8, none⟩ = some (.int .i64 p) ∧ (∀ i, i < 6 → wx.cell? ⟨g2, off2 + j * 8 + 1 + i, none⟩ = some (.int .i64 (k i))) ∧ wx.cell? ⟨g2, off2 + j * 8 + 7, none⟩ = some (.slice ab N ad)) := by
        intro wx hg
        refine ⟨by rw [hp]; exact hg.cell xp (by simp), fun i hi => by rw [hk]; exact hg.cell (xm i hi) (by simp), hg.cell xa (by simp), by rw [hp, HS.prio]; exact hg.cell yp (by simp), fun i hi => by rw [hk, HS.mt i hi]; exact hg.cell (ym i hi) (by simp), hg.cell ya (by simp)⟩
      clear xp xm xa xr yp ym ya yr hN hk hp hcell hcell2 HS cp haa hab
      obtain ⟨c0, c1, c2, d0, d1, d2⟩ := HX.out wr HG.out
      have HG0 : Hid (w.grownBy wr.drew none) := grown_drew HG.out
      clear c1 d1 c0 d0
      have hltI : (j : Int) < n := by omega
      go_wp2_with fail
      go_region_with (go_at_call 7; refine (HC.out _ HG0.out).mono ?_; rintro e w3 ⟨rfl, hg3⟩; have G3 := hide hg3; clear hg3)
      all_goals
        obtain ⟨z0, z1, z2, y0, y1, y2⟩ := HX.out w3 G3.out
        have a0 := z1 0 (by omega)
        have a1 := z1 1 (by omega)
        have a2 := z1 2 (by omega)
        have a3 := z1 3 (by omega)
        have a4 := z1 4 (by omega)
        have a5 := z1 5 (by omega)
        have b0 := y1 0 (by omega)
        have b1 := y1 1 (by omega)
        have b2 := y1 2 (by omega)
        have b3 := y1 3 (by omega)
        have b4 := y1 4 (by omega)
        have b5 := y1 5 (by omega)
        rw [Nat.add_zero] at a0 b0
        clear z1 y1
        have he := eq6_same (k 0) (k 1) (k 2) (k 3) (k 4) (k 5)
        go_wp2_with fail
        go_quiet (fail)
        go_wp2
        go_roundw
        case rel => exact ⟨j + 1, by go_num, by omega, grown_drewN G3.out _⟩
        case measure => simp [intOf]; omega
    · go_wp2
      go_ret
      exact ⟨rfl, HG.out⟩
end Go.Proofs.Ytlhkfafdioakeaa
