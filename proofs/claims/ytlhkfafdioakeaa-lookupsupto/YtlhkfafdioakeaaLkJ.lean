/- Proved here: what the document's Lookup answers. -/
import Derived.Test.YtlhkfafdioakeaaLkI
namespace Go.Proofs.Ytlhkfafdioakeaa
open Go.RowKit
set_option linter.unusedVariables false
set_option linter.unusedSimpArgs false
theorem insS_len (k : Nat → Int) : ∀ l : List (Nat → Int), (insS k l).length ≤ l.length + 1
  | [] => by simp [insS]
  | x :: r => by
    have := insS_len k r
    unfold insS
    split
    · simp; omega
    · split <;> simp
theorem setS_snoc (l : List (Nat → Int)) (x : Nat → Int) : setS (l ++ [x]) = insS x (setS l) := by
  unfold setS
  rw [List.foldl_append]
  rfl
theorem setS_range (f : Nat → Nat → Int) (j : Nat) : setS ((List.range (j + 1)).map f) = insS (f j) (setS ((List.range j).map f)) := by
  rw [List.range_succ, List.map_append]
  exact setS_snoc _ _
theorem setS_len (f : Nat → Nat → Int) : ∀ j, (setS ((List.range j).map f)).length ≤ j
  | 0 => by simp [setS]
  | j + 1 => by
    have := setS_len f j
    have := insS_len (f j) (setS ((List.range j).map f))
    rw [setS_range]
    omega
/-- What the document's Lookup comes to. -/
def RkOut (rs : Nat → Rl) (n : Nat) (k : Nat → Int) (w : World) (e : Ending) (w' : World) : Prop :=
  ∃ L b v m d, LkS rs n k L b ∧ Is L m d ∧ OwnV w.heap.size w' v m d ∧ e = .returned (.tuple #[v, .bool b]) ∧ w.grownBy w' none
set_option maxRecDepth 100000 in
set_option maxHeartbeats 4000000 in
theorem rLookup_any (v : Value) (n : Nat) (rs : Nat → Rl) (k : Nat → Int) (w : World) (h : RlRow w v n rs) (hna : ∀ j, j < n → (rs j).na ≤ 1000000000000) :
    Calls Try.prog 9 #[v, pkV k] w (RkOut rs n k w) := by
  obtain ⟨a, ca, rfl⟩ := h.slice
  have hn := h.few
  have HP := hide h
  have HNA := hide hna
  clear h hna
  have HQ : Hid (∀ e w', RkOut rs n k w e w' ↔ ∃ L b v m d, LkS rs n k L b ∧ Is L m d ∧ OwnV w.heap.size w' v m d ∧ e = .returned (.tuple #[v, .bool b]) ∧ w.grownBy w' none) := fun _ _ => Iff.rfl
  generalize RkOut rs n k w = Q at HQ ⊢
  obtain ⟨w1, hw1⟩ : ∃ w1, w1 = w.alloc (.cells (pkA k) 27) := ⟨_, rfl⟩
  have B1 : Hid (pkBlk w1 w.heap.size k) := by rw [hw1]; exact pkBlk.alloc w k
  have G1 : Hid (w.grownBy w1 none) := by rw [hw1]; exact World.grownBy_alloc _ _ _
  unfold pkA at hw1
  unfold pkV pkA
  go_enter Try.func9, Try.ntmps9
  go_wp2
  rw [← hw1]
  clear hw1
  go_loopw [6] (fun i wr => ∃ j : Nat, j ≤ n ∧ i = .int .i64 j ∧ (∀ t, t < j → ¬ matchS (rs t).mt k) ∧ pkBlk wr w.heap.size k ∧ w.grownBy wr none) (fun i _ => n - (intOf i).toNat)
  case atStart => exact ⟨0, by omega, rfl, fun t ht => by omega, B1.out, G1.out⟩
  case round =>
    obtain ⟨j, hj, rfl, hno, hb, hg⟩ := hrel
    clear B1 G1
    have HNO := hide hno
    have HB := hide hb
    have HG := hide hg
    clear hno hb hg
    by_cases hlt : j < n
    · rcases HP.out with ⟨_, _, _, h0⟩ | ⟨g, off, cap', hv, _, hcell⟩
      · omega
      cases hv
      obtain ⟨cp, cm, cv, cr⟩ := hcell j hlt
      obtain ⟨p, hp⟩ : ∃ p, p = (rs j).prio := ⟨_, rfl⟩
      obtain ⟨x, hx⟩ : ∃ x, x = (rs j).mt := ⟨_, rfl⟩
      obtain ⟨av, hav⟩ : ∃ av, av = (rs j).av := ⟨_, rfl⟩
      obtain ⟨ac, hac⟩ : ∃ ac, ac = (rs j).acts := ⟨_, rfl⟩
      rw [← hp] at cp
      rw [← hx] at cm
      rw [← hav] at cv cr
      rw [← hac] at cr
      obtain ⟨aa, aq, haa⟩ := cr.slice
      rw [haa] at cv cr
      obtain ⟨N, hN⟩ : ∃ N, N = (rs j).na := ⟨_, rfl⟩
      rw [← hN] at cv cr
      have hNb : N ≤ 1000000000000 := by rw [hN]; exact HNA.out j hlt
      have HE : Hid (x = (rs j).mt ∧ N = (rs j).na ∧ ac = (rs j).acts) := ⟨hx, hN, hac⟩
      have c0 : wr.cell? ⟨g, off + j * 8, none⟩ = some (.int .i64 p) := HG.out.cell cp (by simp)
      have cc : ∀ i, i < 6 → wr.cell? ⟨g, off + j * 8 + (1 + i), none⟩ = some (.int .i64 (x i)) := fun i hi => HG.out.cell (cm i hi) (by simp)
      have c1 : wr.cell? ⟨g, off + j * 8 + 1, none⟩ = some (.int .i64 (x 0)) := cc 0 (by omega)
      have c2 : wr.cell? ⟨g, off + j * 8 + 2, none⟩ = some (.int .i64 (x 1)) := cc 1 (by omega)
      have c3 : wr.cell? ⟨g, off + j * 8 + 3, none⟩ = some (.int .i64 (x 2)) := cc 2 (by omega)
      have c4 : wr.cell? ⟨g, off + j * 8 + 4, none⟩ = some (.int .i64 (x 3)) := cc 3 (by omega)
      have c5 : wr.cell? ⟨g, off + j * 8 + 5, none⟩ = some (.int .i64 (x 4)) := cc 4 (by omega)
      have c6 : wr.cell? ⟨g, off + j * 8 + 6, none⟩ = some (.int .i64 (x 5)) := cc 5 (by omega)
      have HCV : Hid (∀ wx, w.grownBy wx none → wx.cell? ⟨g, off + j * 8 + 7, none⟩ = some (.slice aa N aq)) := fun wx hg => hg.cell cv (by simp)
      have c7 := HCV.out wr HG.out
      have HCR := hide cr
      clear cp cm cv cr cc hcell hp hx hav haa hN hac
      have d0 := HB.out.cell 0 (by omega)
      have d1 := HB.out.cell 1 (by omega)
      have d2 := HB.out.cell 2 (by omega)
      have d3 := HB.out.cell 3 (by omega)
      have d4 := HB.out.cell 4 (by omega)
      have d5 := HB.out.cell 5 (by omega)
      have hltI : (j : Int) < n := by omega
      have HG0 : Hid (wr.grownBy wr.drew none) := grown_drew (grown_refl _ _)
      have HM := hide (fun ww => rMatches_any p x k aa N aq ww)
      unfold pkV pkA rlV rlA at HM
      go_wp2_with fail
      go_region_with (go_at_call 23; refine (HM.out _).mono ?_; rintro e w3 ⟨⟨b, rfl, hb3⟩, hg3⟩; have HB3 := hide hb3; have HG3 := hide hg3; clear hb3 hg3)
      all_goals
        clear c0 c1 c2 c3 c4 c5 c6 c7 d0 d1 d2 d3 d4 d5
        have GG := hide (grown_trans HG.out (grown_trans HG0.out HG3.out))
        have BB := hide (HB.out.grown (grown_trans HG0.out HG3.out) (by simp))
        clear HG0 HG3 HB HG HM
        cases b
        · go_wp2
          go_roundw
          case rel => exact ⟨j + 1, by omega, by go_num, fun t ht => by
            by_cases e : t = j
            · subst e; intro hh; have := HB3.out.2 (by rw [HE.out.1]; exact hh); simp at this
            · exact HNO.out t (by omega), BB.out, GG.out⟩
          case measure => simp [intOf]; omega
        · go_wp2
          go_loopw [8, 9] (fun s8 s9 wr => ∃ (t : Nat) (vo : Option Addr) (mo co : Nat) (d : Nat → Nat → Int), t ≤ N ∧ s9 = .int .i64 t ∧ s8 = .slice vo mo co ∧ OwnV w.heap.size wr (.slice vo mo co) mo d ∧ Is (setS ((List.range t).map fun u => actS (ac u) k)) mo d ∧ pkBlk wr w.heap.size k ∧ w.grownBy wr none) (fun _ s9 _ => N - (intOf s9).toNat)
          case atStart => exact ⟨0, none, 0, 0, fun _ _ => 0, by omega, rfl, rfl, .inl ⟨rfl, rfl⟩, ⟨rfl, fun j hj => by omega⟩, BB.out, GG.out⟩
          case round =>
            obtain ⟨t, vo, mo, co, d, ht, rfl, rfl, ho, hI, hb, hg⟩ := hrel
            have HO := hide ho
            have HI := hide hI
            have HBQ := hide hb
            have HGQ := hide hg
            clear ho hI hb hg BB GG
            have c7 := HCV.out _ HGQ.out
            by_cases hlt2 : t < N
            · rcases HCR.out with ⟨_, _, _, h0, _⟩ | ⟨g2, off2, cap2, hv2, _, hcell2⟩
              · omega
              cases hv2
              obtain ⟨y, hy⟩ : ∃ y, y = ac t := ⟨_, rfl⟩
              have cc : ∀ i, i < 6 → wr.cell? ⟨g2, off2 + t * 6 + i, none⟩ = some (.int .i64 (y i)) := fun i hi => by rw [hy]; exact HGQ.out.cell (hcell2 t hlt2 i hi) (by simp)
              have c0 : wr.cell? ⟨g2, off2 + t * 6, none⟩ = some (.int .i64 (y 0)) := cc 0 (by omega)
              have c1 := cc 1 (by omega)
              have c2 := cc 2 (by omega)
              have c3 := cc 3 (by omega)
              have c4 := cc 4 (by omega)
              have c5 := cc 5 (by omega)
              have d0 := HBQ.out.cell 0 (by omega)
              have d1 := HBQ.out.cell 1 (by omega)
              have d2 := HBQ.out.cell 2 (by omega)
              have d3 := HBQ.out.cell 3 (by omega)
              have d4 := HBQ.out.cell 4 (by omega)
              have d5 := HBQ.out.cell 5 (by omega)
              have HY := hide hy
              clear cc hcell2 hy
              have hlt2I : (t : Int) < N := by omega
              have HG0 : Hid (wr.grownBy wr.drew none) := grown_drew (grown_refl _ _)
              obtain ⟨z, hz⟩ : ∃ z, z = actS y k := ⟨_, rfl⟩
              have HD := hide (fun ww => does_any y k ww)
              rw [← hz] at HD
              have HZ := hide hz
              clear hz
              have hmo : mo ≤ 1000000000000 := by
                have h1 := setS_len (fun u => actS (ac u) k) t
                rw [HI.out.len] at h1
                omega
              have HWI : Hid (∀ ww, wr.grownBy ww none → Calls Try.prog 24 #[.slice vo mo co, pkV z] ww fun e w' => ∃ v2 n2 c2 d2 b2, Is (insS z (setS ((List.range t).map fun u => actS (ac u) k))) n2 d2 ∧ OwnV w.heap.size w' (.slice v2 n2 c2) n2 d2 ∧ e = .returned (.tuple #[.slice v2 n2 c2, .bool b2]) ∧ ww.grownBy w' none) := by
                intro ww hgw
                refine (with_any w.heap.size _ mo d _ z ww (HO.out.grown hgw (fun b e => by cases e)) HI.out hmo (by have h1 := HGQ.out.size; have h2 := hgw.size; omega)).mono ?_
                rintro e w' ⟨v2, n2, d2, b2, h1, h2, h3, h4⟩
                obtain ⟨a2, q2, rfl⟩ := h2.slice
                exact ⟨a2, n2, q2, d2, b2, h1, h2, h3, h4⟩
              clear hmo
              unfold pkV pkA at HD HWI
              go_wp2_with fail
              go_region_with (first | (go_at_call 25; refine (HD.out _).mono ?_; rintro e w4 ⟨rfl, hg4⟩; have HG4 := hide (grown_trans HG0.out hg4); clear hg4) | (go_at_call 24; refine (HWI.out _ HG4.out).mono ?_; rintro e w5 ⟨v2, n2, q2, e2, b2, hi2, ho2, rfl, hg5⟩; have HI5 := hide hi2; have HO5 := hide ho2; have HG5 := hide hg5; clear hi2 ho2 hg5))
              all_goals
                clear c0 c1 c2 c3 c4 c5 c7 d0 d1 d2 d3 d4 d5
                go_wp2
                go_roundw
                case rel =>
                  refine ⟨t + 1, v2, n2, q2, e2, by omega, by go_num, rfl, HO5.out, ?_, HBQ.out.grown (grown_trans HG4.out HG5.out) (by simp), grown_trans HGQ.out (grown_trans HG4.out HG5.out)⟩
                  have := HI5.out
                  rw [HZ.out, HY.out] at this
                  rw [setS_range]
                  exact this
                case measure => simp [intOf]; omega
            · obtain rfl : t = N := by omega
              go_wp2
              refine (HQ.out _ _).2 ⟨_, true, _, mo, d, .inl ⟨j, hlt, HNO.out, ?_, rfl, rfl⟩, ?_, HO.out, rfl, HGQ.out⟩
              · rw [← HE.out.1]; exact HB3.out.1 (by first | trivial | rfl)
              · rw [← HE.out.2.1, ← HE.out.2.2]; exact HI.out
    · obtain rfl : j = n := by omega
      go_wp2
      exact (HQ.out _ _).2 ⟨[], false, .slice none 0 0, 0, fun _ _ => 0, .inr ⟨HNO.out, rfl, rfl⟩, ⟨rfl, fun j hj => by omega⟩, .inl ⟨rfl, rfl⟩, rfl, HG.out⟩
end Go.Proofs.Ytlhkfafdioakeaa
