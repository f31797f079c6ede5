/- Proved here: rules that are lent. -/
import Derived.Test.YtlhkfafdioakeaaLkQ
import Derived.Test.YtlhkfafdioakeaaLkM
namespace Go.Proofs.Ytlhkfafdioakeaa
open Go.RowKit
set_option linter.unusedVariables false
set_option linter.unusedSimpArgs false
theorem mkP_0 (z : Int) : mkP z 0 = z := rfl
theorem mkP_1 (z : Int) : mkP z 1 = 0 := rfl
theorem mkP_2 (z : Int) : mkP z 2 = 0 := rfl
theorem mkP_3 (z : Int) : mkP z 3 = 0 := rfl
theorem mkP_4 (z : Int) : mkP z 4 = 0 := rfl
theorem mkP_5 (z : Int) : mkP z 5 = 0 := rfl
/-- Rules copied by the built-in copy. -/
theorem copyRl {w : World} {g N n : Nat} {f : Nat → Nat → Value} {rs : Nat → Rl} {a : Option Addr} {ca : Nat} (h : RB w g N f) (hn : n ≤ N) (hs : RlRow w (.slice a n ca) n rs) (ht : blkT w g 29) :
    ∃ w2, (∀ ty, (Builtin.copy_ #[22, 22] ty #[.slice (some ⟨g, 0, none⟩) N N, .slice a n ca]).run Try.prog w = .ok (goInt n) w2) ∧ RB w2 g N (fun j i => if j < n then rlC (rs j).prio (rs j).mt (rs j).av i else f j i) ∧ w.grownBy w2 (some g) := by
  obtain ⟨i0, hi, hz0, hz1, hz2⟩ := info_parts Try.infoRl
  by_cases h0 : n = 0
  · subst h0
    exact ⟨w, fun ty => run_copy_zero w _ _ ty _ i0 g N N a ca Try.underlying22 hi, h.cong (fun j hj i hi => by rw [if_neg (by omega)]), grown_refl _ _⟩
  · have hs' := hs
    rcases hs with ⟨_, _, _, e⟩ | ⟨g', off', cap', hv, _, hc⟩
    · omega
    · cases hv
      have hone : ∀ j, j < n → ∃ a l c, (rs j).av = .slice a l c := fun j hj => by
        obtain ⟨a, c, e⟩ := (hc j hj).2.2.2.slice
        exact ⟨a, _, c, e⟩
      obtain ⟨c1, c2⟩ := h.copied hn rs
      refine ⟨_, fun ty => run_copy_many w _ _ ty _ i0 g N N _ n ca (flR rs n) Try.underlying22 hi hn (by rw [flR_len, hz1]) (hs'.cellAt (by omega)) (fun j hj => ?_) (fun j hj => h.frozen _) (flR_one rs n hone), c1, c2⟩
      rw [flR_len] at hj
      have := h.cell (j / 8) (by omega) (j % 8) (by omega)
      rw [show j / 8 * 8 + j % 8 = j by omega] at this
      rw [Nat.zero_add, this]
      rfl
theorem copyPk {w : World} {g N n : Nat} {d ps : Nat → Nat → Int} {a : Option Addr} {ca : Nat} (h : Own w g N N d) (hn : n ≤ N) (hs : PkR w (.slice a n ca) n ps) :
    ∃ w2, (∀ ty, (Builtin.copy_ #[23, 23] ty #[.slice (some ⟨g, 0, none⟩) N N, .slice a n ca]).run Try.prog w = .ok (goInt n) w2) ∧ Own w2 g N N (fun j => if j < n then ps j else d j) ∧ w.grownBy w2 (some g) := by
  obtain ⟨i0, hi, hz0, hz1, hz2⟩ := info_parts Try.infoPk6
  by_cases h0 : n = 0
  · subst h0
    exact ⟨w, fun ty => run_copy_zero w _ _ ty _ i0 g N N a ca Try.underlying23 hi, h.cong (fun j hj i hi => by rw [if_neg (by omega)]), grown_refl _ _⟩
  · rcases hs with ⟨_, _, _, e, _⟩ | ⟨g', off', cap', hv, _, hc⟩
    · omega
    · cases hv
      obtain ⟨c1, c2⟩ := h.copied hn ps
      refine ⟨_, fun ty => run_copy_many w _ _ ty _ i0 g N N _ n ca (fl ps n) Try.underlying23 hi hn (by rw [fl_len, hz1]) (fun j t hj => ?_) (fun j hj => ?_) (fun j hj => h.frozen _) (fl_one ps n), c1, c2⟩
      · have hlt : j < n * 6 := by
          rcases Nat.lt_or_ge j (n * 6) with e | e
          · exact e
          · rw [List.getElem?_eq_none (by rw [fl_len]; exact e)] at hj
            cases hj
        have h2 := fl_get ps n (j / 6) (j % 6) (by omega) (by omega)
        rw [show j / 6 * 6 + j % 6 = j by omega, hj] at h2
        rw [h2, show (⟨g', off', none⟩ : Addr).add j = ⟨g', off' + j, none⟩ by unfold Addr.add; split <;> simp_all]
        have := hc (j / 6) (by omega) (j % 6) (by omega)
        rw [show off' + j / 6 * 6 + j % 6 = off' + j by omega] at this
        exact this
      · rw [fl_len] at hj
        rw [Nat.zero_add]
        exact h.any _ (by omega)
/-- A rule that is lent: its actions in a list of their own, with room. -/
def lentC (rs : Nat → Rl) (A : Nat → Nat) (j : Nat) : Nat → Value := rlC (rs j).prio (rs j).mt (.slice (some ⟨A j, 0, none⟩) (rs j).na ((rs j).na + 8))
/-- The rules, as far as they are lent. -/
def lentF (n m i : Nat) (rs : Nat → Rl) (A : Nat → Nat) : Nat → Nat → Value := fun j u =>
  if j < i then lentC rs A j u else if j < n then rlC (rs j).prio (rs j).mt (rs j).av u else if j < m then rlC (-77) (fun _ => 0) (.slice none 0 0) u else rlC 0 (fun _ => 0) (.slice none 0 0) u
theorem lentF_step {n i ai N : Nat} {rs : Nat → Rl} {A : Nat → Nat} (hi : i < n) (hN : N = (rs i).na) (j u : Nat) (hu : u < 8) : (if j = i ∧ u = 7 then Value.slice (some ⟨ai, 0, none⟩) N (N + 8) else lentF n n i rs A j u) = lentF n n (i + 1) rs (fun j => if j < i then A j else ai) j u := by
  unfold lentF lentC rlC
  by_cases e1 : j < i
  · have e3 : ¬ (j = i ∧ u = 7) := by omega
    have e4 : j < i + 1 := by omega
    simp [e1, e3, e4]
  · by_cases e2 : j = i
    · subst e2
      by_cases e3 : u = 7
      · subst e3
        simp [hN]
      · have h7 : u < 7 := by omega
        simp [e3, hi, h7]
    · have e3 : ¬ j < i + 1 := by omega
      simp [e1, e2, e3]
theorem lentF_pad {i k : Nat} {rs : Nat → Rl} {A : Nat → Nat} (hk : i ≤ k) (j u : Nat) : (if j = k ∧ u = 0 then Value.int .i64 (-77) else lentF i k i rs A j u) = lentF i (k + 1) i rs A j u := by
  unfold lentF lentC rlC
  by_cases e1 : j < i
  · have e3 : ¬ (j = k ∧ u = 0) := by omega
    simp [e1, e3]
  · by_cases e2 : j = k
    · subst e2
      by_cases e3 : u = 0
      · subst e3
        simp [e1]
      · simp [e1, e3]
    · by_cases e3 : j < k
      · have e4 : j < k + 1 := by omega
        simp [e1, e2, e3, e4]
      · have e4 : ¬ j < k + 1 := by omega
        simp [e1, e2, e3, e4]
/-- Rules that are lent: in a block, their actions in blocks behind it. -/
structure Lent (w : World) (g n m i : Nat) (rs : Nat → Rl) (A : Nat → Nat) (E : Nat → Nat → Nat → Int) : Prop where
  rb : RB w g (n + 8) (lentF n m i rs A)
  own : ∀ j, j < i → Own w (A j) ((rs j).na + 8) ((rs j).na + 8) (E j)
  above : ∀ j, j < i → g < A j
  inc : ∀ j k, j < k → k < i → A j < A k
theorem Lent.grown {w w' : World} {g n m i : Nat} {rs : Nat → Rl} {A : Nat → Nat} {E : Nat → Nat → Nat → Int} (h : Lent w g n m i rs A E) (hg : w.grownBy w' none) : Lent w' g n m i rs A E :=
  ⟨h.rb.grown hg (by simp), fun j hj => (h.own j hj).grown hg (by simp), h.above, h.inc⟩
/-- The actions of a rule that is lent. -/
def lentE (rs : Nat → Rl) (j t : Nat) : Nat → Int := if t < (rs j).na then (rs j).acts t else mkP (-77)
set_option maxRecDepth 100000 in
set_option maxHeartbeats 4000000 in
theorem lent_any (v : Value) (n : Nat) (rs : Nat → Rl) (w : World) (h : RlRow w v n rs) (hn : n ≤ 1000000000) (hna : ∀ j, j < n → (rs j).na ≤ 1000000000) :
    Calls Try.prog 8 #[v] w fun e w' => ∃ A, e = .returned (.slice (some ⟨w.heap.size, 0, none⟩) (n + 8) (n + 8)) ∧ Lent w' w.heap.size n (n + 8) n rs A (lentE rs) ∧ w.grownBy w' none := by
  obtain ⟨a, ca, rfl⟩ := h.slice
  have HP := hide h
  have HNA := hide hna
  clear h hna
  obtain ⟨w1, hw1⟩ : ∃ w1, w1 = w.alloc (.cells (madeCells (rlA 0 (fun _ => 0) (.slice none 0 0)) ((n + 8) * 8)) 29) := ⟨_, rfl⟩
  have R1 : RB w1 w.heap.size (n + 8) (fun _ => rlC 0 (fun _ => 0) (.slice none 0 0)) := by rw [hw1]; exact RB.made w (n + 8)
  have G1 : w.grownBy w1 none := by rw [hw1]; exact World.grownBy_alloc _ _ _
  obtain ⟨w2, hcp, r2, g2⟩ := copyRl R1 (show n ≤ n + 8 by omega) (HP.out.grown G1) ⟨_, R1.choose_spec.1⟩
  have hmk : ∀ ww, (Instr.makeSlice 22 (.int .i64 ((n : Int) + 8)) (.int .i64 ((n : Int) + 8))).run Try.prog ww = .ok (.slice (some ⟨ww.heap.size, 0, none⟩) (n + 8) (n + 8)) (ww.alloc (.cells (madeCells (rlA 0 (fun _ => 0) (.slice none 0 0)) ((n + 8) * 8)) 29)) := fun ww => by
    have := run_makeRl ww (n + 8) (by omega)
    rwa [show (((n + 8 : Nat)) : Int) = (n : Int) + 8 by omega] at this
  obtain ⟨mc, hmc⟩ : ∃ mc, mc = madeCells (rlA 0 (fun _ => 0) (.slice none 0 0)) ((n + 8) * 8) := ⟨_, rfl⟩
  rw [← hmc] at hw1
  simp only [← hmc] at hmk
  have L2 : Hid (Lent w2 w.heap.size n n 0 rs (fun _ => 0) (lentE rs)) := ⟨r2.cong (fun j hj i hi => by
    show (if j < n then rlC (rs j).prio (rs j).mt (rs j).av i else rlC 0 (fun _ => 0) (.slice none 0 0) i) = _
    unfold lentF
    rw [if_neg (show ¬ j < 0 by omega)]
    by_cases e : j < n
    · rw [if_pos e, if_pos e]
    · rw [if_neg e, if_neg e, if_neg e]), fun j hj => by omega, fun j hj => by omega, fun j k _ hk => by omega⟩
  have G2 : Hid (w.grownBy w2 none) := grown_new G1 g2 (Nat.le_refl _)
  clear hmc R1 G1 r2 g2
  go_enter Try.func8, Try.ntmps8
  go_upto_region 2 with fail
  rw [← hw1]
  clear hw1 hmk
  go_wp2_with fail
  clear hcp
  go_loopw [4] (fun s4 wr => ∃ (i : Nat) (A : Nat → Nat), i ≤ n ∧ s4 = .int .i64 i ∧ Lent wr w.heap.size n n i rs A (lentE rs) ∧ w.grownBy wr none) (fun s4 _ => n - (intOf s4).toNat)
  case atStart => exact ⟨0, _, by omega, rfl, L2.out, G2.out⟩
  case round =>
    obtain ⟨i, A, hi, rfl, hL, hg⟩ := hrel
    clear L2 G2
    have HL := hide hL
    have HG := hide hg
    clear hL hg
    by_cases hlt : i < n
    · rcases HP.out with ⟨_, _, _, h0⟩ | ⟨g0, off, cap', hv, _, hcell⟩
      · omega
      cases hv
      obtain ⟨_, _, cv, cr⟩ := hcell i hlt
      obtain ⟨N, hN⟩ : ∃ N, N = (rs i).na := ⟨_, rfl⟩
      obtain ⟨ac, hac⟩ : ∃ ac, ac = (rs i).acts := ⟨_, rfl⟩
      obtain ⟨aa, aq, haa⟩ := cr.slice
      rw [haa] at cv cr
      rw [← hN] at cv cr
      rw [← hac] at cr
      have hNb : N ≤ 1000000000 := by rw [hN]; exact HNA.out i hlt
      have HE : Hid (N = (rs i).na ∧ ac = (rs i).acts) := ⟨hN, hac⟩
      have HCV : Hid (∀ wx, w.grownBy wx none → wx.cell? ⟨g0, off + i * 8 + 7, none⟩ = some (.slice aa N aq)) := fun wx hg => hg.cell cv (by simp)
      have HCR := hide cr
      have c7 := HCV.out wr HG.out
      clear hcell cv cr hN hac haa
      obtain ⟨wa, hwa⟩ : ∃ wa, wa = wr.alloc (.cells (madeCells (pkA fun _ => 0) ((N + 8) * 6)) 27) := ⟨_, rfl⟩
      have OA : Own wa wr.heap.size (N + 8) (N + 8) (fun _ _ => 0) := by rw [hwa]; exact Own.made wr (N + 8) (by omega)
      have GA : wr.grownBy wa none := by rw [hwa]; exact World.grownBy_alloc _ _ _
      obtain ⟨wb, hcp, ob, gb⟩ := copyPk OA (show N ≤ N + 8 by omega) (HCR.out.grown (grown_trans HG.out GA))
      have hmk : ∀ ww, (Instr.makeSlice 23 (.int .i64 ((N : Int) + 8)) (.int .i64 ((N : Int) + 8))).run Try.prog ww = .ok (.slice (some ⟨ww.heap.size, 0, none⟩) (N + 8) (N + 8)) (ww.alloc (.cells (madeCells (pkA fun _ => 0) ((N + 8) * 6)) 27)) := fun ww => by
        have := run_makePk ww (N + 8) (by omega)
        rwa [show (((N + 8 : Nat)) : Int) = (N : Int) + 8 by omega] at this
      obtain ⟨mc2, hmc⟩ : ∃ mc2, mc2 = madeCells (pkA fun _ => 0) ((N + 8) * 6) := ⟨_, rfl⟩
      rw [← hmc] at hwa
      simp only [← hmc] at hmk
      clear hmc
      have hltI : (i : Int) < n := by omega
      have hgw : w.heap.size < wr.heap.size := HL.out.rb.lt
      have LB := hide (HL.out.grown GA)
      have OB := hide ob
      have GB : Hid (wr.grownBy wb (some wr.heap.size)) := grown_trans (grown_some GA) gb
      have GWA := hide (grown_trans HG.out GA)
      go_upto_region 7 with fail
      rw [← hwa]
      clear hwa hmk c7
      have c7 := HCV.out wa GWA.out
      go_upto_region 8 with fail
      clear c7 hcp
      have GWB : Hid (w.grownBy wb none) := grown_new GWA.out gb (by omega)
      have c7 := HCV.out wb GWB.out
      clear GA gb ob OA
      go_wp2_with fail
      clear c7
      obtain ⟨ai, hai⟩ : ∃ ai, ai = wr.heap.size := ⟨_, rfl⟩
      rw [← hai] at OB GB hgw ⊢
      have HAI : Hid (∀ j, j < i → A j < ai) := fun j hj => by rw [hai]; exact (HL.out.own j hj).lt
      clear hai
      go_loopw [6] (fun s6 wq => ∃ k : Nat, N ≤ k ∧ k ≤ N + 8 ∧ s6 = .int .i64 k ∧ Own wq ai (N + 8) (N + 8) (fun t => if t < N then ac t else if t < k then mkP (-77) else fun _ => 0) ∧ wr.grownBy wq (some ai)) (fun s6 _ => N + 8 - (intOf s6).toNat)
      case atStart => exact ⟨N, by omega, by omega, rfl, OB.out.cong (fun t ht u hu => by by_cases e : t < N; rw [if_pos e, if_pos e]; rw [if_neg e, if_neg e, if_neg e]), GB.out⟩
      case round =>
        obtain ⟨k, hk1, hk2, rfl, hO, hgq⟩ := hrel
        obtain ⟨E, hE⟩ : ∃ E : Nat → Nat → Int, E = fun t => if t < N then ac t else if t < k then mkP (-77) else fun _ => 0 := ⟨_, rfl⟩
        rw [← hE] at hO
        have HEE := hide hE
        have HO := hide hO
        have HGQ := hide hgq
        clear hO hgq hE OB GB
        by_cases hlk : k < N + 8
        · have f0 : wr.cell? ⟨ai, k * 6, none⟩ = some (.int .i64 (E k 0)) := HO.out.cell k hlk 0 (by omega)
          have f1 := HO.out.cell k hlk 1 (by omega)
          have f2 := HO.out.cell k hlk 2 (by omega)
          have f3 := HO.out.cell k hlk 3 (by omega)
          have f4 := HO.out.cell k hlk 4 (by omega)
          have f5 := HO.out.cell k hlk 5 (by omega)
          have fz := HO.out.frozen
          have hlkI : (k : Int) < N + 8 := by omega
          go_wp2_with fail
          have hop := HO.out.put k hlk (mkP (-77))
          have hop2 := hop.cong (e := fun t => if t < N then ac t else if t < k + 1 then mkP (-77) else fun _ => 0) (fun t ht u hu => by
            show (if t = k then mkP (-77) else E t) u = (if t < N then ac t else if t < k + 1 then mkP (-77) else fun _ => 0) u
            rw [HEE.out]
            by_cases e : t = k
            · rw [if_pos e, if_neg (by omega), if_pos (by omega)]
            · rw [if_neg e]
              show (if t < N then ac t else if t < k then mkP (-77) else fun _ => 0) u = _
              by_cases e2 : t < N
              · rw [if_pos e2, if_pos e2]
              · rw [if_neg e2, if_neg e2]
                by_cases e3 : t < k
                · rw [if_pos e3, if_pos (by omega)]
                · rw [if_neg e3, if_neg (by omega)])
          have hg2 := lay6_grown wr ai (k * 6) (mkP (-77))
          simp only [lay6, mkP_0, mkP_1, mkP_2, mkP_3, mkP_4, mkP_5] at hop2 hg2
          exact ⟨⟨k + 1, by omega, by omega, by go_num, hop2, grown_trans HGQ.out hg2⟩, by simp [intOf]; omega⟩
        · obtain rfl : k = N + 8 := by omega
          have GQ := hide (grown_new HG.out HGQ.out (by omega))
          have c7 := HCV.out wr GQ.out
          have rb := HL.out.rb.grown HGQ.out (by simp; omega)
          have RBB := hide rb
          have h7 : wr.cell? ⟨w.heap.size, i * 8 + 7, none⟩ = some (lentF n n i rs A i 7) := rb.cell i (by omega) 7 (by omega)
          have fz := rb.frozen
          obtain ⟨L7, hL7⟩ : ∃ L7, L7 = lentF n n i rs A i 7 := ⟨_, rfl⟩
          rw [← hL7] at h7
          clear rb hL7
          have hNI : (N : Int) ≤ N + 8 := by omega
          go_wp2_with fail
          have hset := RBB.out.set i (by omega) 7 (by omega) (.slice (some ⟨ai, 0, none⟩) N (N + 8))
          refine ⟨⟨i + 1, fun j => if j < i then A j else ai, by omega, by go_num, ⟨hset.cong (fun j hj u hu => ?_), fun j hj => ?_, fun j hj => ?_, fun j k' h1 h2 => ?_⟩, grown_new GQ.out (grown_set _ _ _ _) (Nat.le_refl _)⟩, by simp [intOf]; omega⟩
          · exact lentF_step hlt HE.out.1 j u hu
          · show Own _ (if j < i then A j else ai) _ _ _
            by_cases e1 : j < i
            · rw [if_pos e1]
              have hA := HAI.out j e1
              have hb := HL.out.above j e1
              exact ((HL.out.own j e1).grown HGQ.out (by simp; omega)).grown (grown_set _ _ _ _) (by simp; omega)
            · obtain rfl : j = i := by omega
              rw [if_neg e1, ← HE.out.1]
              refine (HO.out.grown (grown_set _ _ _ _) (by simp; omega)).cong (fun t ht u hu => ?_)
              rw [HEE.out]
              show (if t < N then ac t else if t < N + 8 then mkP (-77) else fun _ => 0) u = lentE rs j t u
              unfold lentE
              rw [← HE.out.1, ← HE.out.2]
              by_cases e2 : t < N
              · rw [if_pos e2, if_pos e2]
              · rw [if_neg e2, if_neg e2, if_pos ht]
          · show _ < (if j < i then A j else ai)
            by_cases e1 : j < i
            · rw [if_pos e1]; exact HL.out.above j e1
            · rw [if_neg e1]; omega
          · show (if j < i then A j else ai) < (if k' < i then A k' else ai)
            by_cases e1 : k' < i
            · rw [if_pos (by omega), if_pos e1]; exact HL.out.inc j k' h1 e1
            · rw [if_pos (by omega), if_neg e1]; exact HAI.out j (by omega)
    · obtain rfl : i = n := by omega
      go_wp2_with fail
      go_loopw [7] (fun s7 wq => ∃ k : Nat, i ≤ k ∧ k ≤ i + 8 ∧ s7 = .int .i64 k ∧ Lent wq w.heap.size i k i rs A (lentE rs) ∧ w.grownBy wq none) (fun s7 _ => i + 8 - (intOf s7).toNat)
      case atStart => exact ⟨i, by omega, by omega, rfl, HL.out, HG.out⟩
      case round =>
        obtain ⟨k, hk1, hk2, rfl, hL, hg⟩ := hrel
        clear HL HG
        have HL := hide hL
        have HG := hide hg
        clear hL hg
        by_cases hlk : k < i + 8
        · have h0 : wr.cell? ⟨w.heap.size, k * 8, none⟩ = some (lentF i k i rs A k 0) := HL.out.rb.cell k hlk 0 (by omega)
          have fz := HL.out.rb.frozen
          obtain ⟨L0, hL0⟩ : ∃ L0, L0 = lentF i k i rs A k 0 := ⟨_, rfl⟩
          rw [← hL0] at h0
          clear hL0
          have hlkI : (k : Int) < i + 8 := by omega
          go_wp2_with fail
          have hset := HL.out.rb.set k hlk 0 (by omega) (.int .i64 (-77))
          refine ⟨⟨k + 1, by omega, by omega, by go_num, ⟨RB.cong hset (fun j hj u hu => ?_), fun j hj => (HL.out.own j hj).grown (grown_set _ _ _ _) (by have := HL.out.above j hj; simp; omega), HL.out.above, HL.out.inc⟩, grown_new HG.out (grown_set _ _ _ _) (Nat.le_refl _)⟩, by simp [intOf]; omega⟩
          exact lentF_pad hk1 j u
        · obtain rfl : k = i + 8 := by omega
          go_wp2
          go_ret
          exact ⟨A, rfl, HL.out, HG.out⟩
end Go.Proofs.Ytlhkfafdioakeaa
