/- Proved here: whether two lists of packets are equal, and whether two rules do the same. -/
import Derived.Test.YtlhkfafdioakeaaGreatDoorGKp
import Derived.Test.YtlhkfafdioakeaaGreatDoorTbC
namespace Go.Proofs.YtlhkfafdioakeaaGreatDoor
open Go.RowKit Go.Weft
set_option linter.unusedVariables false
set_option linter.unusedSimpArgs false
set_option maxRecDepth 100000 in
set_option maxHeartbeats 4000000 in
theorem eqP_any (va vb : Value) (na nb : Nat) (ps qs : Nat → Nat → Int) (A B : List (Nat → Int)) (w : World) (ha : PkR w va na ps) (hb : PkR w vb nb qs) (hA : Is A na ps) (hB : Is B nb qs) (hnA : ∀ x ∈ A, Nm x) (hnB : ∀ x ∈ B, Nm x) :
    Calls Tryz.prog 251 #[va, vb] w (Says (A = B) w) := by
  obtain ⟨a, ca, rfl⟩ := ha.slice
  obtain ⟨b, cb, rfl⟩ := hb.slice
  have HPA := hide ha
  have HPB := hide hb
  have hfew := ha.few
  have hfew2 := hb.few
  by_cases hn : na = nb
  case neg =>
    have HNE : Hid (¬ A = B) := fun e => hn (by rw [← hA.len, ← hB.len, e])
    have hnI : ((na : Int) != nb) = true := by rw [bne_iff_ne]; omega
    clear ha hb hA hB hnA hnB
    go_enter Tryz.func251, Tryz.ntmps251
    go_wp2
    go_ret
    exact no_says HNE.out (grown_refl _ _)
  subst hn
  have HXY : Hid (∀ j, j < na → Nm (ps j) ∧ Nm (qs j)) := fun j hj => ⟨hnA _ (hA.mem hj), hnB _ (hB.mem hj)⟩
  have HEQ : Hid (A = B ↔ ∀ j, j < na → ps j = qs j) := by
    constructor
    · intro e j hj
      have h1 := hA.get j hj
      have h2 := hB.get j hj
      rw [e, h2] at h1
      exact (Option.some.inj h1).symm
    · intro h
      refine List.ext_getElem? (fun j => ?_)
      by_cases hj : j < na
      · rw [hA.get j hj, hB.get j hj, h j hj]
      · rw [List.getElem?_eq_none (by rw [hA.len]; omega), List.getElem?_eq_none (by rw [hB.len]; omega)]
  obtain ⟨P, hP⟩ : ∃ P, P = (A = B) := ⟨_, rfl⟩
  rw [← hP] at HEQ ⊢
  clear ha hb hA hB hnA hnB hP
  go_enter Tryz.func251, Tryz.ntmps251
  go_wp2
  go_loopw [13] (fun v5 wr => ∃ (j : Nat), v5 = .int .i64 j ∧ j ≤ na ∧ (∀ i, i < j → ps i = qs i) ∧ w.grownBy wr none) (fun v5 _ => na - (intOf v5).toNat)
  case atStart => exact ⟨0, rfl, Nat.zero_le _, fun i hi => by omega, grown_refl _ _⟩
  case round =>
    obtain ⟨i, rfl, hj, hall, hg⟩ := hrel
    have HG := hide hg
    have HALL := hide hall
    clear hg hall
    by_cases hlt : i < na
    · rcases HPA.out with ⟨_, _, _, h0, _⟩ | ⟨g, off, capg, hvg, _, hcellg⟩
      · omega
      cases hvg
      rcases HPB.out with ⟨_, _, _, h0, _⟩ | ⟨g2, off2, capg2, hvg2, _, hcellg2⟩
      · omega
      cases hvg2
      obtain ⟨x, hx⟩ : ∃ x, x = ps i := ⟨_, rfl⟩
      obtain ⟨y, hy⟩ : ∃ y, y = qs i := ⟨_, rfl⟩
      have CX : Hid (∀ wx, w.grownBy wx none → ∀ t, t < 6 → wx.cell? ⟨g, off + i * 6 + t, none⟩ = some (.int .i64 (x t))) := fun wx hgx t ht => by rw [hx]; exact hgx.cell (hcellg i (by omega) t ht) (by simp)
      have CY : Hid (∀ wx, w.grownBy wx none → ∀ t, t < 6 → wx.cell? ⟨g2, off2 + i * 6 + t, none⟩ = some (.int .i64 (y t))) := fun wx hgx t ht => by rw [hy]; exact hgx.cell (hcellg2 i (by omega) t ht) (by simp)
      have hnm : Nm x ∧ Nm y := by rw [hx, hy]; exact HXY.out i hlt
      have HX := hide hx
      have HY := hide hy
      clear hcellg hcellg2 hx hy
      have cZ := CX.out wr HG.out
      have c0 : wr.cell? ⟨g, off + i * 6, none⟩ = some (.int .i64 (x 0)) := cZ 0 (by omega)
      have c1 : wr.cell? ⟨g, off + i * 6 + 1, none⟩ = some (.int .i64 (x 1)) := cZ 1 (by omega)
      have c2 : wr.cell? ⟨g, off + i * 6 + 2, none⟩ = some (.int .i64 (x 2)) := cZ 2 (by omega)
      have c3 : wr.cell? ⟨g, off + i * 6 + 3, none⟩ = some (.int .i64 (x 3)) := cZ 3 (by omega)
      have c4 : wr.cell? ⟨g, off + i * 6 + 4, none⟩ = some (.int .i64 (x 4)) := cZ 4 (by omega)
      have c5 : wr.cell? ⟨g, off + i * 6 + 5, none⟩ = some (.int .i64 (x 5)) := cZ 5 (by omega)
      clear cZ
      have dZ := CY.out wr HG.out
      have d0 : wr.cell? ⟨g2, off2 + i * 6, none⟩ = some (.int .i64 (y 0)) := dZ 0 (by omega)
      have d1 : wr.cell? ⟨g2, off2 + i * 6 + 1, none⟩ = some (.int .i64 (y 1)) := dZ 1 (by omega)
      have d2 : wr.cell? ⟨g2, off2 + i * 6 + 2, none⟩ = some (.int .i64 (y 2)) := dZ 2 (by omega)
      have d3 : wr.cell? ⟨g2, off2 + i * 6 + 3, none⟩ = some (.int .i64 (y 3)) := dZ 3 (by omega)
      have d4 : wr.cell? ⟨g2, off2 + i * 6 + 4, none⟩ = some (.int .i64 (y 4)) := dZ 4 (by omega)
      have d5 : wr.cell? ⟨g2, off2 + i * 6 + 5, none⟩ = some (.int .i64 (y 5)) := dZ 5 (by omega)
      clear dZ
      have hltI : (i : Int) < na := by omega
      by_cases hxy : x = y
      · have he : eq6 (x 0) (x 1) (x 2) (x 3) (x 4) (x 5) (y 0) (y 1) (y 2) (y 3) (y 4) (y 5) = true := eq6_true ((cmpP_zero x y).2 (fun t _ => by rw [hxy]))
        have HE := hide hxy
        clear hxy hnm
        go_wp2_with fail
        go_quiet (fail)
        go_wp2_with fail
        exact ⟨⟨i + 1, by go_num, by omega, fun t ht => (by
          by_cases e : t = i
          · subst e; rw [← HX.out, ← HY.out]; exact HE.out
          · exact HALL.out t (by omega)), grown_drewN HG.out _⟩, by simp [intOf]; omega⟩
      · have he : eq6 (x 0) (x 1) (x 2) (x 3) (x 4) (x 5) (y 0) (y 1) (y 2) (y 3) (y 4) (y 5) = false := eq6_false (fun h => hxy (hnm.1.ext hnm.2 ((cmpP_zero x y).1 h)))
        have HE : Hid (¬ P) := fun hp => hxy (by rw [HX.out, HY.out]; exact HEQ.out.1 hp i hlt)
        clear hxy hnm
        go_wp2_with fail
        go_quiet (fail)
        go_wp2
        go_ret
        exact no_says HE.out (grown_drewN HG.out _)
    · obtain rfl : i = na := by omega
      go_wp2
      go_ret
      exact yes_says (HEQ.out.2 HALL.out) HG.out
set_option maxRecDepth 100000 in
set_option maxHeartbeats 4000000 in
theorem doSame_any (p q : Int) (x y : Nat → Int) (a1 : Option Addr) (n1 c1 : Nat) (a2 : Option Addr) (n2 c2 : Nat) (ps qs : Nat → Nat → Int) (A B : List (Nat → Int)) (w : World) (hx : Nm x) (hy : Nm y) (ha : PkR w (.slice a1 n1 c1) n1 ps) (hb : PkR w (.slice a2 n2 c2) n2 qs) (hA : Is A n1 ps) (hB : Is B n2 qs) (hnA : ∀ x ∈ A, Nm x) (hnB : ∀ x ∈ B, Nm x) :
    Calls Tryz.prog 217 #[rlV p x (.slice a1 n1 c1), rlV q y (.slice a2 n2 c2)] w (Says (x = y ∧ A = B) w) := by
  obtain ⟨w1, hw1⟩ : ∃ w1, w1 = w.alloc (.cells #[.int .i64 p, .int .i64 (x 0), .int .i64 (x 1), .int .i64 (x 2), .int .i64 (x 3), .int .i64 (x 4), .int .i64 (x 5), .slice a1 n1 c1] 68) := ⟨_, rfl⟩
  obtain ⟨w2, hw2⟩ : ∃ w2, w2 = w1.alloc (.cells #[.int .i64 q, .int .i64 (y 0), .int .i64 (y 1), .int .i64 (y 2), .int .i64 (y 3), .int .i64 (y 4), .int .i64 (y 5), .slice a2 n2 c2] 68) := ⟨_, rfl⟩
  have hg2 : w.grownBy w2 none := by rw [hw2, hw1]; exact grown_trans (World.grownBy_alloc _ _ _) (World.grownBy_alloc _ _ _)
  have HE := hide (eqP_any _ _ n1 n2 ps qs A B w2 (ha.grown hg2) (hb.grown hg2) hA hB hnA hnB)
  have G2 := hide hg2
  rw [hw1] at hw2
  unfold rlV rlA
  by_cases hxy : x = y
  · have he : eq6 (x 0) (x 1) (x 2) (x 3) (x 4) (x 5) (y 0) (y 1) (y 2) (y 3) (y 4) (y 5) = true := eq6_true ((cmpP_zero x y).2 (fun t _ => by rw [hxy]))
    have HXY := hide hxy
    clear hxy hx hy ha hb hA hB hnA hnB hg2 hw1
    go_enter Tryz.func217, Tryz.ntmps217
    go_wp2_with fail
    rw [← hw2]
    refine HE.out.mono ?_
    rintro e w3 ⟨⟨bq, rfl, hq⟩, g3⟩
    have G3 := hide (grown_trans G2.out g3)
    have HQ := hide hq
    clear g3 hq hw2 HE G2
    go_wp2
    go_ret
    exact ⟨⟨bq, rfl, ⟨fun h => ⟨HXY.out, HQ.out.1 h⟩, fun h => HQ.out.2 h.2⟩⟩, G3.out⟩
  · have he : eq6 (x 0) (x 1) (x 2) (x 3) (x 4) (x 5) (y 0) (y 1) (y 2) (y 3) (y 4) (y 5) = false := eq6_false (fun h => hxy (hx.ext hy ((cmpP_zero x y).1 h)))
    have HXY := hide hxy
    clear hxy hx hy ha hb hA hB hnA hnB hg2 hw1 HE
    go_enter Tryz.func217, Tryz.ntmps217
    go_wp2
    go_ret
    rw [← hw2]
    exact no_says (fun h => HXY.out h.1) G2.out
end Go.Proofs.YtlhkfafdioakeaaGreatDoor
