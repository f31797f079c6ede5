/- Proved here: the law of tables, of what told tells. -/
import Derived.Test.YtlhkfafdioakeaaGreatDoorTbP
import Derived.Test.YtlhkfafdioakeaaGreatDoorGKq
import Derived.Test.YtlhkfafdioakeaaGreatDoorGKp
namespace Go.Proofs.YtlhkfafdioakeaaGreatDoor
open Go.RowKit Go.Weft
set_option linter.unusedVariables false
set_option linter.unusedSimpArgs false
/-- What told comes to. -/
def ToldC : Prop := ∀ (s : ByteArray) (t : Code) (w : World) (b : Nat) (z : Int), PolAt w b t → readS s = .ok t → Evy w → 0 ≤ z → z ≤ 31 →
  Calls Tryz.prog 32 #[.pointer (some ⟨b, 0, none⟩), .int .i64 z] w fun e w' => ∃ v, e = .returned (.tuple #[v, .bool true]) ∧ TblO (tstd (atomsC t)) (oT t) (acT t) (swK z) w.heap.size w' v ∧ w.grownBy w' none
set_option maxRecDepth 100000 in
set_option maxHeartbeats 4000000 in
theorem tabled_err (s : ByteArray) (c1 c2 : Int) (rv : Value) (w : World) (hn : Names w) (hs : s.size ≤ 9223372036854775807) (en : Int) (pl : Nat) (hr : readS s = .error (en, pl)) :
    Calls Tryz.prog 7 #[.string s, .int .i64 c1, .int .i64 c2, rv] w fun e w' => e = .returned (.bool true) ∧ w.grownBy w' none := by
  have P1 := hide (known_any w hn)
  have P3 := hide (fun (ww : World) (hg : w.grownBy ww none) => compile_err s ww (hn.kept hg) hs en pl hr)
  have hne := read_errno hr
  clear hn hr
  go_enter Tryz.func7, Tryz.ntmps7
  go_wp2_with fail
  refine P1.out.mono ?_
  rintro x w1 ⟨b0, rfl, g1⟩
  have G1 := hide g1
  clear g1
  go_wp2_with fail
  refine (P3.out w1 G1.out).mono ?_
  rintro x w3 ⟨rfl, g3⟩
  have G3 := hide (grown_trans G1.out g3)
  clear g3 G1 P3
  go_wp2
  go_ret
  exact ⟨rfl, G3.out⟩
theorem RdR.cells {w : World} {g N c : Nat} {rs : Nat → Rl} {AL : Nat → List (Nat → Int)} (h : RdR w (.slice (some ⟨g, 0, none⟩) N c) N rs AL) (j : Nat) (hj : j < N) : w.cell? ⟨g, j * 8, none⟩ = some (.int .i64 (rs j).prio) ∧ (∀ i, i < 6 → w.cell? ⟨g, j * 8 + 1 + i, none⟩ = some (.int .i64 ((rs j).mt i))) ∧ w.cell? ⟨g, j * 8 + 7, none⟩ = some (rs j).av ∧ PkR w (rs j).av (rs j).na (rs j).acts := by
  rcases h.row with ⟨_, _, _, h0⟩ | ⟨g', off, cap, e, _, hc⟩
  · omega
  · cases e
    obtain ⟨h1, h2, h3, h4⟩ := hc j hj
    simp only [Nat.zero_add] at h1 h2 h3
    exact ⟨h1, fun i hi => by rw [Nat.add_assoc]; exact h2 i hi, h3, h4⟩
theorem covers_own {o a b : Nat → Int} (h : matchS a b) : matchS a (ownX o b) := fun i h1 h2 => by
  unfold ownX
  rcases h i h1 h2 with e | e
  · exact .inl e
  · by_cases eb : b i = -1
    · exact .inl (by rw [e, eb])
    · right; rw [if_neg eb]; exact e
set_option maxRecDepth 100000 in
set_option maxHeartbeats 8000000 in
theorem tabled_ok (hTold : ToldC) (s : ByteArray) (c1 c2 : Int) (rv : Value) (m : Nat) (w : World) (hn : Names w) (he : Evy w) (hs : s.size ≤ 9223372036854775807) (hc1 : -9223372036854775808 ≤ c1 ∧ c1 ≤ 9223372036854775807) (t : Code) (hr : readS s = .ok t) (hrow : RRow w rv m) :
    Calls Tryz.prog 7 #[.string s, .int .i64 c1, .int .i64 c2, rv] w fun e w' => e = .returned (.bool true) ∧ w.grownBy w' none := by
  obtain ⟨⟨ra, rc, rfl⟩, hm⟩ := hrow.slice
  have HRW := hide hrow
  have P1 := hide (known_any w hn)
  have P3 := hide (fun (ww : World) (hg : w.grownBy ww none) => compile_ok s ww (hn.kept hg) hs t hr)
  obtain ⟨hz0, hz1⟩ := pickS_range c1 32 (by omega)
  obtain ⟨z, hz⟩ : ∃ z, z = pickS c1 32 := ⟨_, rfl⟩
  have P4 : Hid (∀ ww, Calls Tryz.prog 30 #[.int .i64 c1, .int .i64 32] ww fun e w' => e = .returned (.int .i64 z) ∧ w' = ww) := fun ww => by rw [hz]; exact pick_any c1 32 ww (by omega) (by omega) hc1.1 hc1.2
  rw [← hz] at hz0 hz1
  have HRF : Hid (∀ ww b, w.grownBy ww none → PolAt ww b t → Calls Tryz.prog 31 #[.pointer (some ⟨b, 0, none⟩), .int .i64 c2] ww fun e w' => e = .returned (.bool true) ∧ ww.grownBy w' none) := fun ww b hg hp => refusals_any hp hr (he.grown hg) c2
  have HTL : Hid (∀ ww b, w.grownBy ww none → PolAt ww b t → Calls Tryz.prog 32 #[.pointer (some ⟨b, 0, none⟩), .int .i64 z] ww fun e w' => ∃ v, e = .returned (.tuple #[v, .bool true]) ∧ TblO (tstd (atomsC t)) (oT t) (acT t) (swK z) ww.heap.size w' v ∧ ww.grownBy w' none) := fun ww b hg hp => hTold s t ww b z hp hr (he.grown hg) hz0 (by omega)
  have HRD := hide hr
  clear hn he hr hc1 hz hrow hTold
  go_enter Tryz.func7, Tryz.ntmps7
  go_wp2_with fail
  refine P1.out.mono ?_
  rintro x w1 ⟨b0, rfl, g1⟩
  have G1 := hide g1
  clear g1 P1
  go_wp2_with fail
  refine (P3.out w1 G1.out).mono ?_
  rintro x w3 ⟨b, rfl, hp3, _, g3⟩
  have G3 := hide (grown_trans G1.out g3)
  have PA3 := hide hp3
  clear g3 G1 P3 hp3
  go_wp2_with fail
  refine (P4.out w3).mono ?_
  rintro x w4 ⟨rfl, rfl⟩
  go_wp2_with fail
  refine (HRF.out w4 b G3.out PA3.out).mono ?_
  rintro x w5 ⟨rfl, g5⟩
  have G5 := hide (grown_trans G3.out g5)
  have PA5 := hide (PA3.out.grown g5)
  clear g5 G3 PA3 HRF P4
  go_wp2_with fail
  refine (HTL.out w5 b G5.out PA5.out).mono ?_
  rintro x w6 ⟨v, rfl, ⟨N, rs, AL, hN0, hNf, hQ, hpr, hPL⟩, g6⟩
  obtain ⟨va, c, rfl⟩ := ownsR_slice hQ.row
  obtain ⟨g, rfl, hg0, hgl, hcap, hcap2⟩ : ∃ g, va = some ⟨g, 0, none⟩ ∧ w5.heap.size ≤ g ∧ g < w6.heap.size ∧ N ≤ c ∧ c ≤ maxLen := by
    rcases hQ.row.2 with ⟨_, e⟩ | ⟨g, cap, cur, e, h0, h1, h2, h3, _⟩
    · omega
    · cases e; exact ⟨g, rfl, h0, (Array.getElem?_eq_some_iff.1 h1).1, h2, h3⟩
  have G6 := hide (grown_trans G5.out g6)
  have PA6 := hide (PA5.out.grown g6)
  have RD6 := hide (hQ.rd (by omega))
  have HPR := hide hpr
  have HTR := hide (table_rules HRD.out hPL)
  have HIS := hide hQ.is
  have HPL := hide hPL
  have hcap3 : c ≤ 9223372036854775807 := by unfold maxLen at hcap2; omega
  clear g6 G5 PA5 HTL hQ hpr hPL hcap2
  have HLK : Hid (∀ ww k, w6.grownBy ww none → Rt k → k 0 = z → Calls Tryz.prog 37 #[.slice (some ⟨g, 0, none⟩) N c, .agg #[.int .i64 (k 0), .int .i64 (k 1), .int .i64 (k 2), .int .i64 (k 3), .int .i64 (k 4), .int .i64 (k 5)]] ww fun e w' => ∃ a c n d L, e = .returned (.tuple #[.slice a n c, .bool true]) ∧ PkR w' (.slice a n c) n d ∧ Is L n d ∧ SetOf L (D t k) ∧ ww.grownBy w' none) := fun ww k hg hk hk0 => by
    refine (wLookup_any _ N rs k ww (RD6.out.grown hg).row hk.1).mono ?_
    rintro e w' ⟨L, bb, v, n, d, h1, h2, h3, rfl, h5⟩
    obtain ⟨rfl, hS⟩ := table_lookup HRD.out ⟨hz0, by omega⟩ HPL.out HIS.out hk hk0 h1
    obtain ⟨a, c, rfl⟩ := h3.slice
    exact ⟨a, c, n, d, L, rfl, h3.row.any, h2, hS, h5⟩
  have HEV : Hid (∀ ww k, w6.grownBy ww none → Rt k → Calls Tryz.prog 16 #[.pointer (some ⟨b, 0, none⟩), .agg #[.int .i64 (k 0), .int .i64 (k 1), .int .i64 (k 2), .int .i64 (k 3), .int .i64 (k 4), .int .i64 (k 5)]] ww fun e w' => ∃ a c n d A, e = .returned (.tuple #[.slice a n c, .int .i64 0]) ∧ PkR w' (.slice a n c) n d ∧ Is A n d ∧ SetOf A (D t k) ∧ ww.grownBy w' none) := fun ww k hg hk => by
    obtain ⟨⟨o1, o2, o3⟩, _, _, hcn⟩ := read_okT HRD.out
    refine (eval_any b t k ww (PA6.out.grown hg) hk.1 hcn o1 o2 o3).mono ?_
    rintro e w' ⟨v, n, d, A, h1, h2, h3, h4⟩
    obtain ⟨a, c, rfl⟩ := h2.slice
    rcases h1 with ⟨_, rfl, hs⟩ | ⟨hx, _⟩
    · exact ⟨a, c, n, d, A, rfl, h2.row.any, h3, hs, h4⟩
    · exact absurd hk.right hx
  have hN1 : ((N : Int) == 0) = false := by rw [beq_eq_false_iff_ne]; omega
  go_wp2_with fail
  go_loopw [17] (fun s17 wr => ∃ i : Nat, i ≤ N ∧ s17 = .int .i64 i ∧ w6.grownBy wr none) (fun s17 _ => N - (intOf s17).toNat)
  case atStart => exact ⟨0, by omega, rfl, grown_refl _ _⟩
  case round =>
    obtain ⟨i, hi, rfl, hg⟩ := hrel
    have HG := hide hg
    clear hg
    by_cases hlt : i < N
    · obtain ⟨k1, k2, k3, k4⟩ := (RD6.out.grown HG.out).cells i hlt
      obtain ⟨av, aq, hav⟩ := k4.slice
      obtain ⟨na, hna⟩ : ∃ na, na = (rs i).na := ⟨_, rfl⟩
      obtain ⟨pr, hpr⟩ : ∃ pr, pr = (rs i).prio := ⟨_, rfl⟩
      have hpr2 : pr = (N : Int) - 1 - (i : Int) := by rw [hpr]; exact HPR.out i hlt
      rw [hav, ← hna] at k3
      rw [← hpr] at k1
      obtain ⟨y, hy⟩ : ∃ y, y = (rs i).mt := ⟨_, rfl⟩
      rw [← hy] at k2
      have HRI := hide (rises_any (rs i).av (rs i).na (rs i).acts (AL i) wr k4 (HIS.out i hlt) (HTR.out.1 i hlt).2.2)
      rw [hav, ← hna] at HRI
      have HOP : Hid (∀ ww, Calls Tryz.prog 34 #[.agg #[.int .i64 (y 0), .int .i64 (y 1), .int .i64 (y 2), .int .i64 (y 3), .int .i64 (y 4), .int .i64 (y 5)]] ww fun e w' => e = .returned (.bool true) ∧ ww.grownBy w' none) := fun ww => open_any y ww (by rw [hy]; exact (HTR.out.1 i hlt).1) (fun j h1 h2 => by
        rcases (HTR.out.1 i hlt).2.1 j h1 h2 with e | e
        · rw [hy]; omega
        · rw [hy]; omega)
      have HCE : Hid (∀ ww, w6.grownBy ww none → ww.cell? ⟨g, i * 8, none⟩ = some (.int .i64 pr) ∧ ∀ j, j < 6 → ww.cell? ⟨g, i * 8 + 1 + j, none⟩ = some (.int .i64 (y j))) := fun ww hg => by
        obtain ⟨h1, h2, _, _⟩ := (RD6.out.grown hg).cells i hlt
        rw [hpr, hy]
        exact ⟨h1, h2⟩
      have hltI : (i : Int) < N := by omega
      have hprb : ((N : Int) - 1 - (i : Int) != pr) = false := by simp [hpr2]
      have hprb2 : (pr != (N : Int) - 1 - (i : Int)) = false := by simp [hpr2]
      have HY := hide hy
      clear k1 k2 k4 hav hna hpr hpr2 hy
      go_wp2_with fail
      refine HRI.out.mono ?_
      rintro e w7 ⟨rfl, g7⟩
      have G7 := hide (grown_trans HG.out g7)
      clear g7 HG HRI k3
      obtain ⟨k1, k2⟩ := HCE.out w7 G7.out
      have y0 : w7.cell? ⟨g, i * 8 + 1, none⟩ = some (.int .i64 (y 0)) := k2 0 (by omega)
      have y1 : w7.cell? ⟨g, i * 8 + 1 + 1, none⟩ = some (.int .i64 (y 1)) := k2 1 (by omega)
      have y2 : w7.cell? ⟨g, i * 8 + 1 + 2, none⟩ = some (.int .i64 (y 2)) := k2 2 (by omega)
      have y3 : w7.cell? ⟨g, i * 8 + 1 + 3, none⟩ = some (.int .i64 (y 3)) := k2 3 (by omega)
      have y4 : w7.cell? ⟨g, i * 8 + 1 + 4, none⟩ = some (.int .i64 (y 4)) := k2 4 (by omega)
      have y5 : w7.cell? ⟨g, i * 8 + 1 + 5, none⟩ = some (.int .i64 (y 5)) := k2 5 (by omega)
      clear k1 k2
      go_wp2_with fail
      refine (HOP.out _).mono ?_
      rintro e w8 ⟨rfl, g8⟩
      have G8 := hide (grown_trans G7.out g8)
      clear g8 G7 HOP y0 y1 y2 y3 y4 y5
      have k1 := (HCE.out w8 G8.out).1
      go_wp2_with fail
      clear k1
      go_loopw [20] (fun s20 wq => ∃ j : Nat, j ≤ i ∧ s20 = .int .i64 j ∧ w6.grownBy wq none) (fun s20 _ => i - (intOf s20).toNat)
      case atStart => exact ⟨0, by omega, rfl, G8.out⟩
      case round =>
        obtain ⟨j, hj, rfl, hg⟩ := hrel
        clear G8
        have HG := hide hg
        clear hg
        by_cases hji : j < i
        · have hjI : (j : Int) < i := by omega
          have hjN : (j : Int) < N := by omega
          obtain ⟨x, hx⟩ : ∃ x, x = (rs j).mt := ⟨_, rfl⟩
          have k2 := (HCE.out wr HG.out).2
          have y0 : wr.cell? ⟨g, i * 8 + 1, none⟩ = some (.int .i64 (y 0)) := k2 0 (by omega)
          have y1 : wr.cell? ⟨g, i * 8 + 1 + 1, none⟩ = some (.int .i64 (y 1)) := k2 1 (by omega)
          have y2 : wr.cell? ⟨g, i * 8 + 1 + 2, none⟩ = some (.int .i64 (y 2)) := k2 2 (by omega)
          have y3 : wr.cell? ⟨g, i * 8 + 1 + 3, none⟩ = some (.int .i64 (y 3)) := k2 3 (by omega)
          have y4 : wr.cell? ⟨g, i * 8 + 1 + 4, none⟩ = some (.int .i64 (y 4)) := k2 4 (by omega)
          have y5 : wr.cell? ⟨g, i * 8 + 1 + 5, none⟩ = some (.int .i64 (y 5)) := k2 5 (by omega)
          have x2 := ((RD6.out.grown HG.out).cells j (by omega)).2.1
          rw [← hx] at x2
          have x0 : wr.cell? ⟨g, j * 8 + 1, none⟩ = some (.int .i64 (x 0)) := x2 0 (by omega)
          have x1 : wr.cell? ⟨g, j * 8 + 1 + 1, none⟩ = some (.int .i64 (x 1)) := x2 1 (by omega)
          have x2' : wr.cell? ⟨g, j * 8 + 1 + 2, none⟩ = some (.int .i64 (x 2)) := x2 2 (by omega)
          have x3 : wr.cell? ⟨g, j * 8 + 1 + 3, none⟩ = some (.int .i64 (x 3)) := x2 3 (by omega)
          have x4 : wr.cell? ⟨g, j * 8 + 1 + 4, none⟩ = some (.int .i64 (x 4)) := x2 4 (by omega)
          have x5 : wr.cell? ⟨g, j * 8 + 1 + 5, none⟩ = some (.int .i64 (x 5)) := x2 5 (by omega)
          have HNM : Hid (¬ matchS x y) := fun hm => by
            rw [hx, HY.out] at hm
            exact HTR.out.2 j i hji hlt (covers_own hm)
          have HCV : Hid (∀ ww, Calls Tryz.prog 35 #[.agg #[.int .i64 (x 0), .int .i64 (x 1), .int .i64 (x 2), .int .i64 (x 3), .int .i64 (x 4), .int .i64 (x 5)], .agg #[.int .i64 (y 0), .int .i64 (y 1), .int .i64 (y 2), .int .i64 (y 3), .int .i64 (y 4), .int .i64 (y 5)]] ww (fun e w' => e = .returned (.bool false) ∧ ww.grownBy w' none)) := fun ww => (covers_any x y ww).mono (fun e w' ⟨⟨bq, h1, h2⟩, h3⟩ => ⟨by
            rw [h1]
            cases bq
            · rfl
            · exact absurd (h2.1 rfl) HNM.out, h3⟩)
          clear k2 x2 hx
          go_upto_region 22 with fail
          go_region_with (go_at_call 35; refine (HCV.out _).mono ?_; rintro e w9 ⟨rfl, g9⟩; have G9 := hide (grown_trans HG.out (show wr.grownBy w9 none by first | exact grown_undrew g9 | exact g9)); clear g9)
          all_goals
            go_wp2_with fail
            exact ⟨⟨j + 1, by omega, by go_num, G9.out⟩, by simp [intOf]; omega⟩
        · obtain rfl : j = i := by omega
          by_cases h200 : (200 : Int) < j
          · go_wp2_with fail
            exact ⟨⟨j + 1, by omega, by go_num, HG.out⟩, by simp [intOf]; omega⟩
          · have HRC := hide (reached_any (fun q => (rs q).mt) N g c j (fun f => (ownX (oT t) (rs j).mt f).toNat) wr hlt (by omega) hcap hcap3 (Nat.lt_of_lt_of_le hgl HG.out.size) (fun q hq f hf => ((RD6.out.grown HG.out).cells q hq).2.1 f hf) (fun q hq f h1 h2 => (HTR.out.1 q hq).2.1 f h1 h2) (fun f h1 h2 => by
              have ho := oT_right HRD.out f
              have hm := (HTR.out.1 j hlt).2.1 f h1 h2
              unfold ownX
              by_cases e : (rs j).mt f = -1
              · simp only [e, if_true]; exact ⟨by omega, .inl trivial⟩
              · rw [if_neg e]; omega) (fun q hq => by
              have hnm := HTR.out.2 q j hq hlt
              refine Classical.byContradiction fun hne => hnm (fun f h1 h2 => ?_)
              refine Classical.byContradiction fun hh => hne ⟨f, h1, h2, fun e => hh (.inl e), fun e => hh (.inr ?_)⟩
              rw [e]
              have ho := oT_right HRD.out f
              have hm := (HTR.out.1 j hlt).2.1 f h1 h2
              unfold ownX
              by_cases e2 : (rs j).mt f = -1
              · rw [if_pos e2]; omega
              · rw [if_neg e2]; omega))
            go_wp2_with fail
            refine HRC.out.mono ?_
            rintro e w9 ⟨rfl, g9⟩
            have G9 := hide (grown_trans HG.out g9)
            clear g9 HRC HG
            go_wp2_with fail
            exact ⟨⟨j + 1, by omega, by go_num, G9.out⟩, by simp [intOf]; omega⟩
    · obtain rfl : N = i := by omega
      go_wp2_with fail
      go_loopw [23] (fun s23 wq => ∃ i : Nat, i ≤ m ∧ s23 = .int .i64 i ∧ w6.grownBy wq none) (fun s23 _ => m - (intOf s23).toNat)
      case atStart => exact ⟨0, by omega, rfl, HG.out⟩
      case round =>
        obtain ⟨i, hi2, rfl, hg⟩ := hrel
        clear HG
        have HG := hide hg
        clear hg
        by_cases hlm : i < m
        · rcases HRW.out with ⟨_, _, _, h0⟩ | ⟨gr, off, cap', hv, _, hcell⟩
          · omega
          cases hv
          obtain ⟨u, l, hu, hI⟩ := hcell i hlm
          obtain ⟨⟨ua, uc, rfl⟩, _⟩ := hI.slice
          have hG := grown_trans G6.out HG.out
          have cu : wr.cell? ⟨gr, off + i, none⟩ = some (.slice ua l uc) := hG.cell hu (by simp)
          have HP := hide (packet_rt _ l wr (hI.grown hG))
          have hltI : (i : Int) < m := by omega
          clear hcell hu hI hG
          go_wp2_with fail
          refine HP.out.mono ?_
          rintro e w7 ⟨k, rfl, hk, hg7⟩
          obtain ⟨x, hx⟩ : ∃ x, x = putF k 0 z := ⟨_, rfl⟩
          have hxR : Rt x := by rw [hx]; exact putF_right hk 0 (by omega) z ⟨hz0, hz1⟩
          have hx0 : x 0 = z := by rw [hx]; rfl
          obtain ⟨W, hW⟩ : ∃ W, W = w7.alloc (.cells #[.int .i64 z, .int .i64 (k 1), .int .i64 (k 2), .int .i64 (k 3), .int .i64 (k 4), .int .i64 (k 5)] 46) := ⟨_, rfl⟩
          have hB : pkBlk W w7.heap.size x := by rw [hW, hx]; exact pkBlk.alloc w7 (putF k 0 z)
          have hgW : w7.grownBy W none := by rw [hW]; exact World.grownBy_alloc _ _ _
          have G7 := hide (grown_trans (grown_trans HG.out hg7) hgW)
          have HB := hide hB
          have HXR := hide hxR
          have HX0 := hide hx0
          clear hk hg7 hB hgW HP cu HG hx hxR hx0
          go_upto_region 33 with fail
          rw [← hW]
          clear hW
          obtain ⟨p0, p1, p2, p3, p4, p5⟩ := results2 HB.out
          have hzb : w7.heap.size < W.heap.size := World.block_lt_of_cell? W _ p0
          have E1 := hide (HLK.out W x G7.out HXR.out HX0.out)
          go_wp2_with fail
          refine E1.out.mono ?_
          rintro e w8 ⟨a8, c8, n8, d8, L8, rfl, hp8, hi8, hs8, hg8⟩
          have HB8 := hide (HB.out.grown hg8 (by simp))
          clear p0 p1 p2 p3 p4 p5
          obtain ⟨p0, p1, p2, p3, p4, p5⟩ := results2 HB8.out
          have hzb8 : w7.heap.size < w8.heap.size := World.block_lt_of_cell? w8 _ p0
          have G8 := hide (grown_trans G7.out hg8)
          have E2 := hide (HEV.out w8 x G8.out HXR.out)
          have P8 := hide hp8
          have I8 := hide hi8
          have S8 := hide hs8
          clear hp8 hi8 hs8 hg8 E1 HB hzb
          go_wp2_with fail
          refine E2.out.mono ?_
          rintro e w9 ⟨a9, c9, n9, d9, A9, rfl, hp9, hi9, hs9, hg9⟩
          obtain rfl := hs9.one S8.out
          have EQ : Hid (Calls Tryz.prog 26 #[.slice a8 n8 c8, .slice a9 n9 c9] w9 fun e w' => e = .returned (.bool true) ∧ w9.grownBy w' none) :=
            (equal_any _ _ n8 n9 d8 d9 _ _ w9 (P8.out.grown hg9) hp9 I8.out hi9 hs9.nm hs9.nm).mono (fun e w' ⟨⟨bq, h1, h2⟩, h3⟩ => ⟨by rw [h1, h2.2 rfl], h3⟩)
          have G9 := hide (grown_trans G8.out hg9)
          clear hp9 hi9 hs9 hg9 P8 I8 S8 G8 E2 p0 p1 p2 p3 p4 p5 hzb8 HB8
          go_wp2_with fail
          refine EQ.out.mono ?_
          rintro e w10 ⟨rfl, hg10⟩
          have G10 := hide (grown_trans G9.out hg10)
          clear hg10 G9 EQ
          go_wp2_with fail
          exact ⟨⟨i + 1, by omega, by go_num, G10.out⟩, by simp [intOf]; omega⟩
        · obtain rfl : m = i := by omega
          go_wp2_with fail
          go_loopw [30] (fun s30 wq => ∃ i : Nat, i ≤ N ∧ s30 = .int .i64 i ∧ w6.grownBy wq none) (fun s30 _ => N - (intOf s30).toNat)
          case atStart => exact ⟨0, by omega, rfl, HG.out⟩
          case round =>
            obtain ⟨i, hi3, rfl, hg⟩ := hrel
            clear HG
            have HG := hide hg
            clear hg
            by_cases hiN : i < N ∧ i < 60
            · have hiI : (i : Int) < N := by omega
              have hi60 : (i : Int) < 60 := by omega
              have hiN1 := hiN.1
              clear hiN
              go_wp2_with fail
              go_loopw [31] (fun s31 wq => ∃ j : Nat, j ≤ N ∧ s31 = .int .i64 j ∧ w6.grownBy wq none) (fun s31 _ => N - (intOf s31).toNat)
              case atStart => exact ⟨0, by omega, rfl, HG.out⟩
              case round =>
                obtain ⟨j, hj3, rfl, hg⟩ := hrel
                clear HG
                have HG := hide hg
                clear hg
                by_cases hjN : j < N ∧ j < 20
                · have hjI : (j : Int) < N := by omega
                  have hj20 : (j : Int) < 20 := by omega
                  have hjN1 := hjN.1
                  clear hjN
                  have hz6 : w6.heap.size ≤ wr.heap.size := HG.out.size
                  obtain ⟨W5, rfl⟩ : ∃ W5, W5 = wr := ⟨_, rfl⟩
                  go_wp2_with fail
                  go_loopw [33] (fun s33 wq => ∃ (f : Nat) (x : Nat → Int), 1 ≤ f ∧ f ≤ 6 ∧ s33 = .int .i64 f ∧ pkBlk wq W5.heap.size x ∧ Rt x ∧ w6.grownBy wq none) (fun s33 _ => 6 - (intOf s33).toNat)
                  case atStart => exact ⟨1, fun _ => 0, by omega, by omega, rfl, pkBlk.alloc _ (fun _ => 0), ⟨fun _ _ => rfl, fun _ _ => by show 0 ≤ (0 : Int) ∧ (0 : Int) < 32; omega⟩, grown_trans HG.out (World.grownBy_alloc _ _ _)⟩
                  case round =>
                    obtain ⟨f, x, hf1, hf6, rfl, hB, hR, hg⟩ := hrel
                    clear HG
                    have HG := hide hg
                    have HB := hide hB
                    have HR := hide hR
                    clear hg hB hR
                    by_cases hfl : f < 6
                    · have hfI : (f : Int) < 6 := by omega
                      obtain ⟨v1, hv1⟩ : ∃ v1, v1 = (rs j).mt f := ⟨_, rfl⟩
                      obtain ⟨v2, hv2⟩ : ∃ v2, v2 = (rs i).mt f := ⟨_, rfl⟩
                      have d1 : wr.cell? ⟨g, j * 8 + 1 + f, none⟩ = some (.int .i64 v1) := by rw [hv1]; exact ((RD6.out.grown HG.out).cells j hjN1).2.1 f hfl
                      have r1 : v1 = -1 ∨ (0 ≤ v1 ∧ v1 ≤ 31) := by rw [hv1]; exact (HTR.out.1 j hjN1).2.1 f hf1 hfl
                      have r2 : v2 = -1 ∨ (0 ≤ v2 ∧ v2 ≤ 31) := by rw [hv2]; exact (HTR.out.1 i hiN1).2.1 f hf1 hfl
                      have cx := HB.out.cell f hfl
                      have fx := HB.out.frozen f
                      have HV2 := hide hv2
                      clear hv1 hv2
                      obtain ⟨u1, hu1, hu2⟩ : ∃ u1, u1 = max 0 v1 ∧ (0 ≤ u1 ∧ u1 < 32) := ⟨_, rfl, by omega⟩
                      go_upto_region 49 with fail
                      obtain ⟨W7, hW7⟩ : ∃ W7, W7 = wr.setCell ⟨W5.heap.size, f, none⟩ (.int .i64 (max 0 v1)) := ⟨_, rfl⟩
                      obtain ⟨x7, hx7⟩ : ∃ x7, x7 = putF x f (max 0 v1) := ⟨_, rfl⟩
                      have HR7 : Hid (Rt x7) := by rw [hx7, ← hu1]; exact putF_right HR.out f hfl u1 hu2
                      have HB7 : Hid (pkBlk W7 W5.heap.size x7) := by rw [hW7, hx7]; exact HB.out.put f hfl _
                      have HG7 : Hid (w6.grownBy W7 none) := by rw [hW7]; exact grown_new HG.out (grown_set _ _ _ _) hz6
                      rw [← hW7]
                      clear hW7 hx7 hu1 hu2 HB HR HG d1 cx fx r1
                      have d2 : W7.cell? ⟨g, i * 8 + 1 + f, none⟩ = some (.int .i64 v2) := by rw [HV2.out]; exact ((RD6.out.grown HG7.out).cells i hiN1).2.1 f hfl
                      rcases r2 with rfl | ⟨hv0, hv1⟩
                      · go_wp2_with fail
                        go_roundw
                        case measure => simp [intOf]; omega
                        case rel => exact ⟨f + 1, x7, by omega, by omega, by first | rfl | go_num, HB7.out, HR7.out, HG7.out⟩
                      · have hvn : (v2 != -1) = true := by rw [bne_iff_ne]; omega
                        have cx := HB7.out.cell f hfl
                        have fx := HB7.out.frozen f
                        go_wp2_with fail
                        go_roundw
                        case measure => simp [intOf]; omega
                        case rel => exact ⟨f + 1, putF x7 f v2, by omega, by omega, by first | rfl | go_num, HB7.out.put f hfl v2, putF_right HR7.out f hfl v2 ⟨hv0, by omega⟩, grown_new HG7.out (grown_set _ _ _ _) hz6⟩
                    · obtain rfl : f = 6 := by omega
                      have c0 := HB.out.cell 0 (by omega)
                      have f0 := HB.out.frozen 0
                      go_upto_region 52 with fail
                      obtain ⟨W, hW⟩ : ∃ W, W = wr.setCell ⟨W5.heap.size, 0, none⟩ (.int .i64 z) := ⟨_, rfl⟩
                      obtain ⟨y, hy⟩ : ∃ y, y = putF x 0 z := ⟨_, rfl⟩
                      have HYR : Hid (Rt y) := by rw [hy]; exact putF_right HR.out 0 (by omega) z ⟨hz0, hz1⟩
                      have HY0 : Hid (y 0 = z) := by rw [hy]; rfl
                      have hB : pkBlk W W5.heap.size y := by rw [hW, hy]; exact HB.out.put 0 (by omega) z
                      have G7 : Hid (w6.grownBy W none) := by rw [hW]; exact grown_new HG.out (grown_set _ _ _ _) hz6
                      rw [← hW]
                      clear hW HB HG c0 f0 hy
                      have HB := hide hB
                      clear hB
                      obtain ⟨p0, p1, p2, p3, p4, p5⟩ := results2 HB.out
                      have hzb : W5.heap.size < W.heap.size := World.block_lt_of_cell? W _ p0
                      have E1 := hide (HLK.out W y G7.out HYR.out HY0.out)
                      go_wp2_with fail
                      refine E1.out.mono ?_
                      rintro e w8 ⟨a8, c8, n8, d8, L8, rfl, hp8, hi8, hs8, hg8⟩
                      have HB8 := hide (HB.out.grown hg8 (by simp))
                      clear p0 p1 p2 p3 p4 p5
                      obtain ⟨p0, p1, p2, p3, p4, p5⟩ := results2 HB8.out
                      have hzb8 : W5.heap.size < w8.heap.size := World.block_lt_of_cell? w8 _ p0
                      have G8 := hide (grown_trans G7.out hg8)
                      have E2 := hide (HEV.out w8 y G8.out HYR.out)
                      have P8 := hide hp8
                      have I8 := hide hi8
                      have S8 := hide hs8
                      clear hp8 hi8 hs8 hg8 E1 HB hzb
                      go_wp2_with fail
                      refine E2.out.mono ?_
                      rintro e w9 ⟨a9, c9, n9, d9, A9, rfl, hp9, hi9, hs9, hg9⟩
                      obtain rfl := hs9.one S8.out
                      have EQ : Hid (Calls Tryz.prog 26 #[.slice a8 n8 c8, .slice a9 n9 c9] w9 fun e w' => e = .returned (.bool true) ∧ w9.grownBy w' none) :=
                        (equal_any _ _ n8 n9 d8 d9 _ _ w9 (P8.out.grown hg9) hp9 I8.out hi9 hs9.nm hs9.nm).mono (fun e w' ⟨⟨bq, h1, h2⟩, h3⟩ => ⟨by rw [h1, h2.2 rfl], h3⟩)
                      have G9 := hide (grown_trans G8.out hg9)
                      clear hp9 hi9 hs9 hg9 P8 I8 S8 G8 E2 p0 p1 p2 p3 p4 p5 hzb8 HB8
                      go_wp2_with fail
                      refine EQ.out.mono ?_
                      rintro e w10 ⟨rfl, hg10⟩
                      have G10 := hide (grown_trans G9.out hg10)
                      clear hg10 G9 EQ
                      go_wp2_with fail
                      exact ⟨⟨j + 1, by omega, by go_num, G10.out⟩, by simp [intOf]; omega⟩
                · by_cases hjN2 : j < N
                  · have hjI : (j : Int) < N := by omega
                    have hj20 : ¬ (j : Int) < 20 := by omega
                    clear hjN
                    go_wp2_with fail
                    exact ⟨⟨i + 1, by omega, by go_num, HG.out⟩, by simp [intOf]; omega⟩
                  · have hjI : ¬ (j : Int) < N := by omega
                    clear hjN
                    go_wp2_with fail
                    exact ⟨⟨i + 1, by omega, by go_num, HG.out⟩, by simp [intOf]; omega⟩
            · by_cases hiN2 : i < N
              · have hiI : (i : Int) < N := by omega
                have hi60 : ¬ (i : Int) < 60 := by omega
                clear hiN
                go_wp2
                go_ret
                exact ⟨rfl, grown_trans G6.out HG.out⟩
              · have hiI : ¬ (i : Int) < N := by omega
                clear hiN
                go_wp2
                go_ret
                exact ⟨rfl, grown_trans G6.out HG.out⟩
end Go.Proofs.YtlhkfafdioakeaaGreatDoor
