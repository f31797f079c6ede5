/- GRefM: several parts, each with what it proves in plain words at its head. -/
import Derived.Test.YtlhkfafdioakeaaGreatDoorRefL
import Derived.Test.YtlhkfafdioakeaaGreatDoorGRefA
/- Proved here: what the document's reader makes of a test's sign with the sign of a setting behind it. -/
namespace Go.Proofs.YtlhkfafdioakeaaGreatDoor
open Go.RowKit Go.Weft
set_option linter.unusedVariables false
set_option linter.unusedSimpArgs false
theorem i64wr (x : Int) (h1 : -9223372036854775808 ≤ x) (h2 : x ≤ 9223372036854775807) : IntKind.i64.wrap x = x := by
  simp [IntKind.wrap, IntKind.bits, IntKind.signed]
  split <;> omega

set_option maxRecDepth 100000 in
set_option maxHeartbeats 4000000 in
theorem rpair_both (c : RCtx) (hc : c.Good) (d : Int) (f : Nat) (w0 w : World) (st : St) (nb : Nat) (h : Rq c w st.i 0 0 st.atoms d (badI st.bad)) (hi : st.i + 1 < c.ts.length) (hf : f ≤ 5) (ha : st.atoms ≤ 16) (hb : c.rb < nb) (hg : w0.grownBy w (some c.rb)) (hn : w0.heap.size ≤ nb)
    (hnd : nodeAt w nb #[.int .u8 100, .int .i64 0, .int .i64 0, .slice none 0 0]) (i1 i2 i3 : Nat) (j1 : i1 = st.i + 1) (j2 : i2 = st.i + 2) (j3 : i3 = st.i + 3) (hA : st.atoms ≤ 15) (hk1 : (tk c.ts (st.i + 1)).kind = 10) (hk2 : (tk c.ts i2).kind = 11) (hv : rNum c.s (tk c.ts i3) ≤ 31) :
    Calls Tryz.prog 245 #[.pointer (some ⟨c.rb, 0, none⟩), ptrV nb, .int .i64 f] w fun x w' => x = .returned (.tuple #[]) ∧ OutF c d st nb w0 (.error (3, (tk c.ts i2).at_)) w' := by
  have c0 : w.cell? ⟨c.rb, 0, none⟩ = some (.slice (some ⟨c.g, 0, none⟩) c.all.length c.cap) := h.cell 0
  have c1 : w.cell? ⟨c.rb, 1, none⟩ = some (.int .i64 st.i) := h.cell 1
  have c4 : w.cell? ⟨c.rb, 4, none⟩ = some (.int .i64 st.atoms) := h.cell 4
  have f1 : w.frozen? ⟨c.rb, 1, none⟩ = false := h.frozen 1
  have f4 : w.frozen? ⟨c.rb, 4, none⟩ = false := h.frozen 4
  have a1 := (hc.cell h (show st.i < c.ts.length by omega)).2.1
  have b0 := (hc.cell h (show st.i + 1 < c.ts.length by omega)).1
  have hfew := hc.few
  have hle := (hc.tk_eq hi).2
  have hl := hc.le
  have hm := hc.cap
  unfold maxLen at hm
  obtain ⟨l1, l2⟩ := h.lt
  have H := hide h
  have ND := hide hnd
  have G0 := hide hg
  have HI1 := hide j1
  have HI2 := hide j2
  have HI3 := hide j3
  have hi1 : i1 < c.ts.length := by omega
  have hi2 : i2 < c.ts.length := by rw [j2]; exact hc.closed.next hi (by omega) (by omega)
  have KA : Hid (rk (tk c.ts (st.i + 1)).kind = 61) := by show _ = _; rw [hk1]; rfl
  have hgd : f = 0 ∨ ((f : Int) == 0) = false := by rcases Nat.eq_zero_or_pos f with h | h; exact .inl h; exact .inr (by simp; omega)
  rw [hk1] at b0
  have KB : Hid (rk (tk c.ts i2).kind = 58) := by show _ = _; rw [hk2]; rfl
  have hi3 : i3 < c.ts.length := by have := hc.closed.next hi2 (by rw [hk2]; decide) (by rw [hk2]; decide); omega
  clear hk1 hk2
  clear h hnd hg j1 j2 j3
  unfold ptrV
  rcases hgd with rfl | hf0
  all_goals
    go_enter Tryz.func245, Tryz.ntmps245
    go_wp2
    go_quiet (fail)
    go_wp2
    go_quiet (fail)
    go_wp2_with fail
    refine (ris_yes c hc _ (st.i + 1) _ _ _ _ 61 ((((H.out.drewN _).set1 hc _).drewN _).set4 hc _) (by omega) KA.out).mono ?_
    rintro x w1 ⟨rfl, hR, hG⟩
    have R1 : Hid (Rq c w1 ((i2 : Nat) : Int) 0 0 ((st.atoms : Int) + 1) d (badI st.bad)) := by
      have hR2 := hR
      have := HI1.out; have := HI2.out; have := HI3.out
      first | exact hR2 | (show Rq c w1 ((i2 : Nat) : Int) 0 0 ((st.atoms : Int) + 1) d (badI st.bad); rw [show i2 = (st.i + 1) + 1 by omega]; exact hR2)
    have G1 := hide (grown_trans G0.out (grown_trans (grown_trans (grown_trans (grown_trans (grown_drewN (grown_refl _ _) _) (grown_set _ _ _ _)) (grown_drewN (grown_refl _ _) _)) (grown_set _ _ _ _)) hG))
    have N1 := hide (nodeAt.kept ND.out (grown_trans (grown_trans (grown_trans (grown_trans (grown_drewN (grown_refl _ _) _) (grown_set _ _ _ _)) (grown_drewN (grown_refl _ _) _)) (grown_set _ _ _ _)) hG) hb)
    clear hG hR
    clear c0 c1 c4 f1 f4 a1 b0
    go_wp2_with fail
    refine (ris_yes c hc _ i2 _ _ _ _ 58 R1.out hi2 KB.out).mono ?_
    rintro x w2 ⟨rfl, hR, hG⟩
    have R2 : Hid (Rq c w2 ((i3 : Nat) : Int) 0 0 ((st.atoms : Int) + 1) d (badI st.bad)) := by
      have hR2 := hR
      have := HI1.out; have := HI2.out; have := HI3.out
      first | exact hR2 | (show Rq c w2 ((i3 : Nat) : Int) 0 0 ((st.atoms : Int) + 1) d (badI st.bad); rw [show i3 = i2 + 1 by omega]; exact hR2)
    have G2 := hide (grown_trans G1.out (grown_trans (grown_refl _ _) hG))
    have N2 := hide (nodeAt.kept N1.out (grown_trans (grown_refl _ _) hG) hb)
    clear hG hR
    have n0 : w2.cell? ⟨nb, 0, none⟩ = some (.int .u8 100) := N2.out.cell 0
    have q0 : w2.frozen? ⟨nb, 0, none⟩ = false := N2.out.frozen 0
    have R3 := hide (Rq.setn (R2.out.setn hc hb 0 (.int .u8 61)) hc hb 0 (.int .u8 58))
    have N3 := hide (nodeAt.set (nodeAt.set N2.out 0 (.int .u8 61)) 0 (.int .u8 58))
    have G3 := hide (grown_node (grown_node G2.out hn 0 (.int .u8 61)) hn 0 (.int .u8 58))
    go_wp2
    obtain ⟨w3, hw3⟩ : ∃ w3, w3 = (w2.setCell ⟨nb, 0, none⟩ (.int .u8 61)).setCell ⟨nb, 0, none⟩ (.int .u8 58) := ⟨_, rfl⟩
    rw [← hw3] at R3 N3 G3 ⊢
    clear hw3 n0 q0
    have c0 : w3.cell? ⟨c.rb, 0, none⟩ = some (.slice (some ⟨c.g, 0, none⟩) c.all.length c.cap) := R3.out.cell 0
    have c1 : w3.cell? ⟨c.rb, 1, none⟩ = some (.int .i64 ((i2 : Int) + 1)) := by
      have h1 : w3.cell? ⟨c.rb, 1, none⟩ = some (.int .i64 (i3 : Nat)) := R3.out.cell 1
      rw [h1, show ((i3 : Nat) : Int) = (i2 : Int) + 1 by have := HI2.out; have := HI3.out; omega]
    obtain ⟨e0, e1, e2, e3⟩ := hc.cell R3.out hi2
    have hle2 := (hc.tk_eq hi2).2
    obtain ⟨l3, l4⟩ := R3.out.lt
    have hwr : IntKind.i64.wrap ((i2 : Int) + 1 - 1) = (i2 : Int) := by
      rw [show (i2 : Int) + 1 - 1 = (i2 : Int) by omega]
      exact i64wr _ (by omega) (by omega)
    have hwr2 : IntKind.i64.wrap (i2 : Int) = (i2 : Int) := i64wr _ (by omega) (by omega)
    go_region_with (go_at_call 54; refine (rfail_first c hc _ _ _ _ _ _ 3 _ R3.out.drew).mono ?_; rintro x w4 ⟨rfl, hR, hG0⟩; have hG := grown_undrew hG0; clear hG0)
    all_goals
      clear c0 c1 e0 e1 e2 e3 hle2 l3 l4 hwr hwr2
      have R4 : Hid (Rq c w4 ((i3 : Nat) : Int) 3 ((tk c.ts i2).at_ : Int) ((st.atoms : Int) + 1) d (badI st.bad)) := by
        have hR2 := hR
        have := HI1.out; have := HI2.out; have := HI3.out
        first | exact hR2 | (show Rq c w4 ((i3 : Nat) : Int) 3 ((tk c.ts i2).at_ : Int) ((st.atoms : Int) + 1) d (badI st.bad); rw [show i3 = i3 by omega]; exact hR2)
      have G4 := hide (grown_trans G3.out (grown_trans (grown_refl _ _) hG))
      have N4 := hide (nodeAt.kept N3.out (grown_trans (grown_refl _ _) hG) hb)
      clear hG hR
      go_wp2
      have c0 : w4.cell? ⟨c.rb, 0, none⟩ = some (.slice (some ⟨c.g, 0, none⟩) c.all.length c.cap) := R4.out.cell 0
      have c1 : w4.cell? ⟨c.rb, 1, none⟩ = some (.int .i64 (i3 : Nat)) := R4.out.cell 1
      obtain ⟨e0, e1, e2, e3⟩ := hc.cell R4.out hi3
      have hle2 := (hc.tk_eq hi3).2
      obtain ⟨l3, l4⟩ := R4.out.lt
      go_region
      all_goals
        have HAL := hide (World.grownBy_alloc w4 (.cells #[.int .u8 (rk (tk c.ts i3).kind), .int .i64 ((tk c.ts i3).at_ : Int), .string (rTxt c.s (tk c.ts i3)), .int .i64 (rNum c.s (tk c.ts i3) : Int)] 123) none)
        have HTB : Hid (c.rb < w4.heap.size) := l3
        have hne : nb ≠ w4.heap.size := by have := N4.out.lt; omega
        clear c0 c1 e0 e1 e2 e3 hle2 l3 l4
        go_wp2_with fail
        refine (ris_later c hc _ _ _ _ _ _ _ _ (by decide) ((R4.out.kept HAL.out).drew)).mono ?_
        rintro x w5 ⟨rfl, hG⟩
        have R5 : Hid (Rq c w5 ((i3 : Nat) : Int) 3 ((tk c.ts i2).at_ : Int) ((st.atoms : Int) + 1) d (badI st.bad)) := by
          have hR2 := Rq.kept ((R4.out.kept HAL.out).drew) hG
          have := HI1.out; have := HI2.out; have := HI3.out
          first | exact hR2 | (show Rq c w5 ((i3 : Nat) : Int) 3 ((tk c.ts i2).at_ : Int) ((st.atoms : Int) + 1) d (badI st.bad); rw [show i3 = i3 by omega]; exact hR2)
        have G5 := hide (grown_trans G4.out (grown_trans (grown_drew (grown_some HAL.out)) (grown_some hG)))
        have N5 := hide (nodeAt.kept N4.out (grown_trans (grown_drew (grown_some HAL.out)) (grown_some hG)) hb)
        have T5 := hide (rtokAt.kept (rtokAt_new w4 _) (grown_trans (grown_refl _ _) (grown_some hG)) HTB.out)
        clear hG
        have t1_5 : w5.cell? ⟨w4.heap.size, 1, none⟩ = some (.int .i64 ((tk c.ts i3).at_ : Int)) := T5.out.cell 1
        have t3_5 : w5.cell? ⟨w4.heap.size, 3, none⟩ = some (.int .i64 (rNum c.s (tk c.ts i3) : Int)) := T5.out.cell 3
        go_wp2_with fail
        refine (rfail_more c hc _ _ _ _ _ _ _ _ _ (by decide) R5.out).mono ?_
        rintro x w6 ⟨rfl, hG⟩
        have R6 : Hid (Rq c w6 ((i3 : Nat) : Int) 3 ((tk c.ts i2).at_ : Int) ((st.atoms : Int) + 1) d (badI st.bad)) := by
          have hR2 := Rq.kept R5.out hG
          have := HI1.out; have := HI2.out; have := HI3.out
          first | exact hR2 | (show Rq c w6 ((i3 : Nat) : Int) 3 ((tk c.ts i2).at_ : Int) ((st.atoms : Int) + 1) d (badI st.bad); rw [show i3 = i3 by omega]; exact hR2)
        have G6 := hide (grown_trans G5.out (grown_trans (grown_refl _ _) (grown_some hG)))
        have N6 := hide (nodeAt.kept N5.out (grown_trans (grown_refl _ _) (grown_some hG)) hb)
        have T6 := hide (rtokAt.kept T5.out (grown_trans (grown_refl _ _) (grown_some hG)) HTB.out)
        clear hG
        have t1_6 : w6.cell? ⟨w4.heap.size, 1, none⟩ = some (.int .i64 ((tk c.ts i3).at_ : Int)) := T6.out.cell 1
        have t3_6 : w6.cell? ⟨w4.heap.size, 3, none⟩ = some (.int .i64 (rNum c.s (tk c.ts i3) : Int)) := T6.out.cell 3
        have n1 : w6.cell? ⟨nb, 1, none⟩ = some (.int .i64 0) := N6.out.cell 1
        have q1 : w6.frozen? ⟨nb, 1, none⟩ = false := N6.out.frozen 1
        have n2 : w6.cell? ⟨nb, 2, none⟩ = some (.int .i64 0) := N6.out.cell 2
        have q2 : w6.frozen? ⟨nb, 2, none⟩ = false := N6.out.frozen 2
        go_wp2
        go_end0
        exact ⟨rfl, 387, _, i3, (N6.out.set 1 _).set 2 _, .inr ⟨by decide, _, _, rfl⟩, grown_node (grown_node G6.out hn _ _) hn _ _, hi3, by have := HI3.out; omega, rfl, _, _, _, (R6.out.setn hc hb _ _).setn hc hb _ _⟩

set_option maxRecDepth 100000 in
set_option maxHeartbeats 4000000 in
theorem rpair_both_big (c : RCtx) (hc : c.Good) (d : Int) (f : Nat) (w0 w : World) (st : St) (nb : Nat) (h : Rq c w st.i 0 0 st.atoms d (badI st.bad)) (hi : st.i + 1 < c.ts.length) (hf : f ≤ 5) (ha : st.atoms ≤ 16) (hb : c.rb < nb) (hg : w0.grownBy w (some c.rb)) (hn : w0.heap.size ≤ nb)
    (hnd : nodeAt w nb #[.int .u8 100, .int .i64 0, .int .i64 0, .slice none 0 0]) (i1 i2 i3 : Nat) (j1 : i1 = st.i + 1) (j2 : i2 = st.i + 2) (j3 : i3 = st.i + 3) (hA : st.atoms ≤ 15) (hk1 : (tk c.ts (st.i + 1)).kind = 10) (hk2 : (tk c.ts i2).kind = 11) (hv : 31 < rNum c.s (tk c.ts i3)) :
    Calls Tryz.prog 245 #[.pointer (some ⟨c.rb, 0, none⟩), ptrV nb, .int .i64 f] w fun x w' => x = .returned (.tuple #[]) ∧ OutF c d st nb w0 (.error (3, (tk c.ts i2).at_)) w' := by
  have c0 : w.cell? ⟨c.rb, 0, none⟩ = some (.slice (some ⟨c.g, 0, none⟩) c.all.length c.cap) := h.cell 0
  have c1 : w.cell? ⟨c.rb, 1, none⟩ = some (.int .i64 st.i) := h.cell 1
  have c4 : w.cell? ⟨c.rb, 4, none⟩ = some (.int .i64 st.atoms) := h.cell 4
  have f1 : w.frozen? ⟨c.rb, 1, none⟩ = false := h.frozen 1
  have f4 : w.frozen? ⟨c.rb, 4, none⟩ = false := h.frozen 4
  have a1 := (hc.cell h (show st.i < c.ts.length by omega)).2.1
  have b0 := (hc.cell h (show st.i + 1 < c.ts.length by omega)).1
  have hfew := hc.few
  have hle := (hc.tk_eq hi).2
  have hl := hc.le
  have hm := hc.cap
  unfold maxLen at hm
  obtain ⟨l1, l2⟩ := h.lt
  have H := hide h
  have ND := hide hnd
  have G0 := hide hg
  have HI1 := hide j1
  have HI2 := hide j2
  have HI3 := hide j3
  have hi1 : i1 < c.ts.length := by omega
  have hi2 : i2 < c.ts.length := by rw [j2]; exact hc.closed.next hi (by omega) (by omega)
  have KA : Hid (rk (tk c.ts (st.i + 1)).kind = 61) := by show _ = _; rw [hk1]; rfl
  have hgd : f = 0 ∨ ((f : Int) == 0) = false := by rcases Nat.eq_zero_or_pos f with h | h; exact .inl h; exact .inr (by simp; omega)
  rw [hk1] at b0
  have KB : Hid (rk (tk c.ts i2).kind = 58) := by show _ = _; rw [hk2]; rfl
  have hi3 : i3 < c.ts.length := by have := hc.closed.next hi2 (by rw [hk2]; decide) (by rw [hk2]; decide); omega
  clear hk1 hk2
  clear h hnd hg j1 j2 j3
  unfold ptrV
  rcases hgd with rfl | hf0
  all_goals
    go_enter Tryz.func245, Tryz.ntmps245
    go_wp2
    go_quiet (fail)
    go_wp2
    go_quiet (fail)
    go_wp2_with fail
    refine (ris_yes c hc _ (st.i + 1) _ _ _ _ 61 ((((H.out.drewN _).set1 hc _).drewN _).set4 hc _) (by omega) KA.out).mono ?_
    rintro x w1 ⟨rfl, hR, hG⟩
    have R1 : Hid (Rq c w1 ((i2 : Nat) : Int) 0 0 ((st.atoms : Int) + 1) d (badI st.bad)) := by
      have hR2 := hR
      have := HI1.out; have := HI2.out; have := HI3.out
      first | exact hR2 | (show Rq c w1 ((i2 : Nat) : Int) 0 0 ((st.atoms : Int) + 1) d (badI st.bad); rw [show i2 = (st.i + 1) + 1 by omega]; exact hR2)
    have G1 := hide (grown_trans G0.out (grown_trans (grown_trans (grown_trans (grown_trans (grown_drewN (grown_refl _ _) _) (grown_set _ _ _ _)) (grown_drewN (grown_refl _ _) _)) (grown_set _ _ _ _)) hG))
    have N1 := hide (nodeAt.kept ND.out (grown_trans (grown_trans (grown_trans (grown_trans (grown_drewN (grown_refl _ _) _) (grown_set _ _ _ _)) (grown_drewN (grown_refl _ _) _)) (grown_set _ _ _ _)) hG) hb)
    clear hG hR
    clear c0 c1 c4 f1 f4 a1 b0
    go_wp2_with fail
    refine (ris_yes c hc _ i2 _ _ _ _ 58 R1.out hi2 KB.out).mono ?_
    rintro x w2 ⟨rfl, hR, hG⟩
    have R2 : Hid (Rq c w2 ((i3 : Nat) : Int) 0 0 ((st.atoms : Int) + 1) d (badI st.bad)) := by
      have hR2 := hR
      have := HI1.out; have := HI2.out; have := HI3.out
      first | exact hR2 | (show Rq c w2 ((i3 : Nat) : Int) 0 0 ((st.atoms : Int) + 1) d (badI st.bad); rw [show i3 = i2 + 1 by omega]; exact hR2)
    have G2 := hide (grown_trans G1.out (grown_trans (grown_refl _ _) hG))
    have N2 := hide (nodeAt.kept N1.out (grown_trans (grown_refl _ _) hG) hb)
    clear hG hR
    have n0 : w2.cell? ⟨nb, 0, none⟩ = some (.int .u8 100) := N2.out.cell 0
    have q0 : w2.frozen? ⟨nb, 0, none⟩ = false := N2.out.frozen 0
    have R3 := hide (Rq.setn (R2.out.setn hc hb 0 (.int .u8 61)) hc hb 0 (.int .u8 58))
    have N3 := hide (nodeAt.set (nodeAt.set N2.out 0 (.int .u8 61)) 0 (.int .u8 58))
    have G3 := hide (grown_node (grown_node G2.out hn 0 (.int .u8 61)) hn 0 (.int .u8 58))
    go_wp2
    obtain ⟨w3, hw3⟩ : ∃ w3, w3 = (w2.setCell ⟨nb, 0, none⟩ (.int .u8 61)).setCell ⟨nb, 0, none⟩ (.int .u8 58) := ⟨_, rfl⟩
    rw [← hw3] at R3 N3 G3 ⊢
    clear hw3 n0 q0
    have c0 : w3.cell? ⟨c.rb, 0, none⟩ = some (.slice (some ⟨c.g, 0, none⟩) c.all.length c.cap) := R3.out.cell 0
    have c1 : w3.cell? ⟨c.rb, 1, none⟩ = some (.int .i64 ((i2 : Int) + 1)) := by
      have h1 : w3.cell? ⟨c.rb, 1, none⟩ = some (.int .i64 (i3 : Nat)) := R3.out.cell 1
      rw [h1, show ((i3 : Nat) : Int) = (i2 : Int) + 1 by have := HI2.out; have := HI3.out; omega]
    obtain ⟨e0, e1, e2, e3⟩ := hc.cell R3.out hi2
    have hle2 := (hc.tk_eq hi2).2
    obtain ⟨l3, l4⟩ := R3.out.lt
    have hwr : IntKind.i64.wrap ((i2 : Int) + 1 - 1) = (i2 : Int) := by
      rw [show (i2 : Int) + 1 - 1 = (i2 : Int) by omega]
      exact i64wr _ (by omega) (by omega)
    have hwr2 : IntKind.i64.wrap (i2 : Int) = (i2 : Int) := i64wr _ (by omega) (by omega)
    go_region_with (go_at_call 54; refine (rfail_first c hc _ _ _ _ _ _ 3 _ R3.out.drew).mono ?_; rintro x w4 ⟨rfl, hR, hG0⟩; have hG := grown_undrew hG0; clear hG0)
    all_goals
      clear c0 c1 e0 e1 e2 e3 hle2 l3 l4 hwr hwr2
      have R4 : Hid (Rq c w4 ((i3 : Nat) : Int) 3 ((tk c.ts i2).at_ : Int) ((st.atoms : Int) + 1) d (badI st.bad)) := by
        have hR2 := hR
        have := HI1.out; have := HI2.out; have := HI3.out
        first | exact hR2 | (show Rq c w4 ((i3 : Nat) : Int) 3 ((tk c.ts i2).at_ : Int) ((st.atoms : Int) + 1) d (badI st.bad); rw [show i3 = i3 by omega]; exact hR2)
      have G4 := hide (grown_trans G3.out (grown_trans (grown_refl _ _) hG))
      have N4 := hide (nodeAt.kept N3.out (grown_trans (grown_refl _ _) hG) hb)
      clear hG hR
      go_wp2
      have c0 : w4.cell? ⟨c.rb, 0, none⟩ = some (.slice (some ⟨c.g, 0, none⟩) c.all.length c.cap) := R4.out.cell 0
      have c1 : w4.cell? ⟨c.rb, 1, none⟩ = some (.int .i64 (i3 : Nat)) := R4.out.cell 1
      obtain ⟨e0, e1, e2, e3⟩ := hc.cell R4.out hi3
      have hle2 := (hc.tk_eq hi3).2
      obtain ⟨l3, l4⟩ := R4.out.lt
      go_region
      all_goals
        have HAL := hide (World.grownBy_alloc w4 (.cells #[.int .u8 (rk (tk c.ts i3).kind), .int .i64 ((tk c.ts i3).at_ : Int), .string (rTxt c.s (tk c.ts i3)), .int .i64 (rNum c.s (tk c.ts i3) : Int)] 123) none)
        have HTB : Hid (c.rb < w4.heap.size) := l3
        have hne : nb ≠ w4.heap.size := by have := N4.out.lt; omega
        clear c0 c1 e0 e1 e2 e3 hle2 l3 l4
        go_wp2_with fail
        refine (ris_later c hc _ _ _ _ _ _ _ _ (by decide) ((R4.out.kept HAL.out).drew)).mono ?_
        rintro x w5 ⟨rfl, hG⟩
        have R5 : Hid (Rq c w5 ((i3 : Nat) : Int) 3 ((tk c.ts i2).at_ : Int) ((st.atoms : Int) + 1) d (badI st.bad)) := by
          have hR2 := Rq.kept ((R4.out.kept HAL.out).drew) hG
          have := HI1.out; have := HI2.out; have := HI3.out
          first | exact hR2 | (show Rq c w5 ((i3 : Nat) : Int) 3 ((tk c.ts i2).at_ : Int) ((st.atoms : Int) + 1) d (badI st.bad); rw [show i3 = i3 by omega]; exact hR2)
        have G5 := hide (grown_trans G4.out (grown_trans (grown_drew (grown_some HAL.out)) (grown_some hG)))
        have N5 := hide (nodeAt.kept N4.out (grown_trans (grown_drew (grown_some HAL.out)) (grown_some hG)) hb)
        have T5 := hide (rtokAt.kept (rtokAt_new w4 _) (grown_trans (grown_refl _ _) (grown_some hG)) HTB.out)
        clear hG
        have t1_5 : w5.cell? ⟨w4.heap.size, 1, none⟩ = some (.int .i64 ((tk c.ts i3).at_ : Int)) := T5.out.cell 1
        have t3_5 : w5.cell? ⟨w4.heap.size, 3, none⟩ = some (.int .i64 (rNum c.s (tk c.ts i3) : Int)) := T5.out.cell 3
        go_wp2_with fail
        refine (rfail_more c hc _ _ _ _ _ _ _ _ _ (by decide) R5.out).mono ?_
        rintro x w6 ⟨rfl, hG⟩
        have R6 : Hid (Rq c w6 ((i3 : Nat) : Int) 3 ((tk c.ts i2).at_ : Int) ((st.atoms : Int) + 1) d (badI st.bad)) := by
          have hR2 := Rq.kept R5.out hG
          have := HI1.out; have := HI2.out; have := HI3.out
          first | exact hR2 | (show Rq c w6 ((i3 : Nat) : Int) 3 ((tk c.ts i2).at_ : Int) ((st.atoms : Int) + 1) d (badI st.bad); rw [show i3 = i3 by omega]; exact hR2)
        have G6 := hide (grown_trans G5.out (grown_trans (grown_refl _ _) (grown_some hG)))
        have N6 := hide (nodeAt.kept N5.out (grown_trans (grown_refl _ _) (grown_some hG)) hb)
        have T6 := hide (rtokAt.kept T5.out (grown_trans (grown_refl _ _) (grown_some hG)) HTB.out)
        clear hG
        have t1_6 : w6.cell? ⟨w4.heap.size, 1, none⟩ = some (.int .i64 ((tk c.ts i3).at_ : Int)) := T6.out.cell 1
        have t3_6 : w6.cell? ⟨w4.heap.size, 3, none⟩ = some (.int .i64 (rNum c.s (tk c.ts i3) : Int)) := T6.out.cell 3
        go_wp2_with fail
        refine (rfail_more c hc _ _ _ _ _ _ _ _ _ (by decide) R6.out).mono ?_
        rintro x w7 ⟨rfl, hG⟩
        have R7 : Hid (Rq c w7 ((i3 : Nat) : Int) 3 ((tk c.ts i2).at_ : Int) ((st.atoms : Int) + 1) d (badI st.bad)) := by
          have hR2 := Rq.kept R6.out hG
          have := HI1.out; have := HI2.out; have := HI3.out
          first | exact hR2 | (show Rq c w7 ((i3 : Nat) : Int) 3 ((tk c.ts i2).at_ : Int) ((st.atoms : Int) + 1) d (badI st.bad); rw [show i3 = i3 by omega]; exact hR2)
        have G7 := hide (grown_trans G6.out (grown_trans (grown_refl _ _) (grown_some hG)))
        have N7 := hide (nodeAt.kept N6.out (grown_trans (grown_refl _ _) (grown_some hG)) hb)
        have T7 := hide (rtokAt.kept T6.out (grown_trans (grown_refl _ _) (grown_some hG)) HTB.out)
        clear hG
        have t1_7 : w7.cell? ⟨w4.heap.size, 1, none⟩ = some (.int .i64 ((tk c.ts i3).at_ : Int)) := T7.out.cell 1
        have t3_7 : w7.cell? ⟨w4.heap.size, 3, none⟩ = some (.int .i64 (rNum c.s (tk c.ts i3) : Int)) := T7.out.cell 3
        have n1 : w7.cell? ⟨nb, 1, none⟩ = some (.int .i64 0) := N7.out.cell 1
        have q1 : w7.frozen? ⟨nb, 1, none⟩ = false := N7.out.frozen 1
        have n2 : w7.cell? ⟨nb, 2, none⟩ = some (.int .i64 0) := N7.out.cell 2
        have q2 : w7.frozen? ⟨nb, 2, none⟩ = false := N7.out.frozen 2
        go_wp2
        go_end0
        exact ⟨rfl, 387, _, i3, (N7.out.set 1 _).set 2 _, .inr ⟨by decide, _, _, rfl⟩, grown_node (grown_node G7.out hn _ _) hn _ _, hi3, by have := HI3.out; omega, rfl, _, _, _, (R7.out.setn hc hb _ _).setn hc hb _ _⟩

end Go.Proofs.YtlhkfafdioakeaaGreatDoor
/- Proved here: what the document's reader makes of a test or a setting, all ways together. -/
namespace Go.Proofs.YtlhkfafdioakeaaGreatDoor
open Go.RowKit Go.Weft
set_option linter.unusedVariables false
set_option linter.unusedSimpArgs false
theorem numVal_min (b : List UInt8) : numVal b = min (rVal b) 32 := by
  unfold numVal rVal
  have key : ∀ (l : List UInt8) (n m : Nat), n = min m 32 → l.foldl (fun n c => min (10 * n + digOf c) 32) n = min (l.foldl (fun n c => min (10 * n + digOf c) 1000) m) 32 := by
    intro l
    induction l with
    | nil => intro n m h; exact h
    | cons x l ih =>
      intro n m h
      rw [List.foldl_cons, List.foldl_cons]
      exact ih _ _ (by omega)
  exact key b 0 0 (by decide)
theorem rpair_any (c : RCtx) (hc : c.Good) (d : Int) (f : Nat) (w0 w : World) (st : St) (nb : Nat) (h : Rq c w st.i 0 0 st.atoms d (badI st.bad)) (hi : st.i + 1 < c.ts.length) (hf : f ≤ 5) (ha : st.atoms ≤ 16) (hb : c.rb < nb) (hg : w0.grownBy w (some c.rb)) (hn : w0.heap.size ≤ nb)
    (hnd : nodeAt w nb #[.int .u8 100, .int .i64 0, .int .i64 0, .slice none 0 0]) :
    Calls Tryz.prog 245 #[.pointer (some ⟨c.rb, 0, none⟩), ptrV nb, .int .i64 f] w fun x w' => x = .returned (.tuple #[]) ∧ OutF c d st nb w0 (pairP c.s c.ts f st) w' := by
  unfold pairP
  by_cases h1 : f = 0 ∧ (tk c.ts (st.i + 1)).kind = 11
  · rw [if_pos h1]
    by_cases hA : st.atoms = 16
    · exact rpair_field_many c hc d f w0 w st nb h hi hf ha hb hg hn hnd _ _ _ rfl rfl rfl hA h1.1 h1.2
    · exact rpair_field c hc d f w0 w st nb h hi hf ha hb hg hn hnd _ _ _ rfl rfl rfl (by omega) h1.1 h1.2
  rw [if_neg h1]
  by_cases hA : st.atoms = 16
  · rw [if_pos hA]
    have hs : (f = 0 ∧ ¬ (tk c.ts (st.i + 1)).kind = 11) ∨ ¬ f = 0 := by
      by_cases e : f = 0
      · exact .inl ⟨e, fun k => h1 ⟨e, k⟩⟩
      · exact .inr e
    by_cases hv : rNum c.s (tk c.ts (st.i + 1)) ≤ 31
    · exact rpair_many c hc d f w0 w st nb h hi hf ha hb hg hn hnd _ _ _ rfl rfl rfl hA hs hv
    · exact rpair_many_big c hc d f w0 w st nb h hi hf ha hb hg hn hnd _ _ _ rfl rfl rfl hA hs (by omega)
  rw [if_neg hA]
  have hA' : st.atoms ≤ 15 := by omega
  by_cases h2 : ¬ (tk c.ts (st.i + 1)).kind = 10 ∧ ¬ (tk c.ts (st.i + 1)).kind = 11
  · rw [if_pos h2]
    by_cases hv : rNum c.s (tk c.ts (st.i + 1)) ≤ 31
    · exact rpair_sign c hc d f w0 w st nb h hi hf ha hb hg hn hnd _ _ _ rfl rfl rfl hA' h2.1 h2.2 hv
    · exact rpair_sign_big c hc d f w0 w st nb h hi hf ha hb hg hn hnd _ _ _ rfl rfl rfl hA' h2.1 h2.2 (by omega)
  rw [if_neg h2]
  have hsg : (tk c.ts (st.i + 1)).kind = 10 ∨ (tk c.ts (st.i + 1)).kind = 11 := by
    by_cases e : (tk c.ts (st.i + 1)).kind = 10
    · exact .inl e
    · by_cases e2 : (tk c.ts (st.i + 1)).kind = 11
      · exact .inr e2
      · exact absurd ⟨e, e2⟩ h2
  have hi2 : st.i + 2 < c.ts.length := hc.closed.next hi (by rcases hsg with e | e <;> rw [e] <;> decide) (by rcases hsg with e | e <;> rw [e] <;> decide)
  have hf0 : (tk c.ts (st.i + 1)).kind = 11 → ¬ f = 0 := fun k e => h1 ⟨e, k⟩
  by_cases h3 : ¬ (tk c.ts (st.i + 2)).kind = 3
  · rw [if_pos h3]
    rcases hsg with e | e
    · by_cases h4 : (tk c.ts (st.i + 2)).kind = 11
      · by_cases hv : rNum c.s (tk c.ts (st.i + 3)) ≤ 31
        · exact rpair_both c hc d f w0 w st nb h hi hf ha hb hg hn hnd _ _ _ rfl rfl rfl hA' e h4 hv
        · exact rpair_both_big c hc d f w0 w st nb h hi hf ha hb hg hn hnd _ _ _ rfl rfl rfl hA' e h4 (by omega)
      · exact rpair_test_no c hc d f w0 w st nb h hi hf ha hb hg hn hnd _ _ _ rfl rfl rfl hA' e h3 h4
    · exact rpair_set_no c hc d f w0 w st nb h hi hf ha hb hg hn hnd _ _ _ rfl rfl rfl hA' (hf0 e) e h3
  rw [if_neg h3]
  have h3' : (tk c.ts (st.i + 2)).kind = 3 := by
    by_cases e : (tk c.ts (st.i + 2)).kind = 3
    · exact e
    · exact absurd e h3
  have hr : rNum c.s (tk c.ts (st.i + 2)) = rVal (txt c.s (tk c.ts (st.i + 2))) := by unfold rNum; rw [if_pos h3']
  have hm := numVal_min (txt c.s (tk c.ts (st.i + 2)))
  by_cases hv : 31 < numVal (txt c.s (tk c.ts (st.i + 2)))
  · rw [if_pos hv]
    have hv' : 31 < rNum c.s (tk c.ts (st.i + 2)) := by rw [hr]; omega
    rcases hsg with e | e
    · exact rpair_test_num c hc d f w0 w st nb h hi hf ha hb hg hn hnd _ _ _ rfl rfl rfl hA' e h3' hv'
    · exact rpair_set_num c hc d f w0 w st nb h hi hf ha hb hg hn hnd _ _ _ rfl rfl rfl hA' (hf0 e) e h3' hv'
  rw [if_neg hv]
  have hv' : rNum c.s (tk c.ts (st.i + 2)) ≤ 31 := by rw [hr]; omega
  have he : numVal (txt c.s (tk c.ts (st.i + 2))) = rNum c.s (tk c.ts (st.i + 2)) := by rw [hr]; omega
  rw [he]
  rcases hsg with e | e
  · unfold leafC
    rw [if_neg (by rw [e]; decide)]
    exact rpair_test c hc d f w0 w st nb h hi2 hf hA' hb hg hn hnd (Nat.eq_zero_or_pos f |>.imp id (fun e => by omega)) e h3' hv'
  · unfold leafC
    rw [if_pos e]
    exact rpair_set c hc d f w0 w st nb h hi hf ha hb hg hn hnd _ _ _ rfl rfl rfl hA' (hf0 e) e h3' hv'
end Go.Proofs.YtlhkfafdioakeaaGreatDoor
/- Proved here: what the document's reader makes of an atom, but for a field. -/
namespace Go.Proofs.YtlhkfafdioakeaaGreatDoor
open Go.RowKit Go.Weft
set_option linter.unusedVariables false
set_option linter.unusedSimpArgs false
/-- A token's cells in a block of its own. -/
def atok (w : World) (b : Nat) (s : ByteArray) (t : Tok) : Prop := w.heap[b]? = some (.cells #[.int .u8 (rk t.kind), .int .i64 (t.at_ : Int), .string (rTxt s t), .int .i64 (rNum s t : Int)] 123 (0, 0))
theorem atok.cell {w : World} {b : Nat} {s : ByteArray} {t : Tok} (h : atok w b s t) (j : Nat) : w.cell? ⟨b, j, none⟩ = (#[Value.int .u8 (rk t.kind), .int .i64 (t.at_ : Int), .string (rTxt s t), .int .i64 (rNum s t : Int)] : Array Value)[j]? := by unfold atok at h; simp [World.cell?, h]
theorem atok.lt {w : World} {b : Nat} {s : ByteArray} {t : Tok} (h : atok w b s t) : b < w.heap.size := (Array.getElem?_eq_some_iff.1 h).1
theorem atok.kept {w w' : World} {b : Nat} {s : ByteArray} {t : Tok} {row : Option Nat} (h : atok w b s t) (hg : w.grownBy w' row) (hr : row ≠ some b) : atok w' b s t :=
  (hg.block b h.lt hr.symm).trans h
theorem nodeAt.other {w w' : World} {b : Nat} {cs : Array Value} {row : Option Nat} (h : nodeAt w b cs) (hg : w.grownBy w' row) (hr : row ≠ some b) : nodeAt w' b cs :=
  (hg.block b h.lt hr.symm).trans h
theorem alloc_two (w : World) (o p : Obj) : ((w.alloc o).alloc p).drew.heap[w.heap.size + 1]? = some p := by
  have h := heap_alloc_new (w.alloc o) p
  rw [show (w.alloc o).heap.size = w.heap.size + 1 by simp] at h
  exact h
set_option maxRecDepth 100000 in
set_option maxHeartbeats 2000000 in
theorem ratom_later (c : RCtx) (hc : c.Good) : DoesE c 203 := by
  intro w i e p a d b he h hi
  have c0 : w.cell? ⟨c.rb, 0, none⟩ = some (.slice (some ⟨c.g, 0, none⟩) c.all.length c.cap) := h.cell 0
  have c1 : w.cell? ⟨c.rb, 1, none⟩ = some (.int .i64 i) := h.cell 1
  have c2 : w.cell? ⟨c.rb, 2, none⟩ = some (.int .i64 e) := h.cell 2
  obtain ⟨b0, b1, b2, b3⟩ := hc.cell h hi
  have hfew := hc.few
  have hle := (hc.tk_eq hi).2
  have hl := hc.le
  have hm := hc.cap
  unfold maxLen at hm
  obtain ⟨l1, l2⟩ := h.lt
  have H := hide h
  have HE := hide he
  clear h
  go_enter Tryz.func203, Tryz.ntmps203
  go_wp2_with fail
  go_region
  all_goals
    clear c0 c1 b0 b1 b2 b3
    go_wp2
    go_ret
    refine ⟨_, rfl, ⟨w.heap.size + 1, _, rfl, by omega, ?_, .inl ⟨by decide, rfl⟩⟩, grown_drew (grown_trans (World.grownBy_alloc _ _ none) (World.grownBy_alloc _ _ none))⟩
    exact alloc_two _ _ _
/-! ### the cases -/
theorem badI_min (bad p : Nat) (hp : p ≤ 400) (hb : bad ≤ 401) : (badI bad < 0 → badI (min bad p) = (p : Int)) ∧ (¬ badI bad < 0 → (p : Int) < badI bad → badI (min bad p) = (p : Int)) ∧ (¬ badI bad < 0 → ¬ (p : Int) < badI bad → badI (min bad p) = badI bad) := by
  unfold badI
  refine ⟨fun h => ?_, fun h1 h2 => ?_, fun h1 h2 => ?_⟩
  all_goals
    split <;> split at * <;> omega
set_option maxRecDepth 100000 in
set_option maxHeartbeats 2000000 in
theorem ratom_none (c : RCtx) (hc : c.Good) (d : Int) (w : World) (st : St) (h : Rq c w st.i 0 0 st.atoms d (badI st.bad)) (hi : st.i < c.ts.length) (h2 : ¬ (tk c.ts st.i).kind = 2) (h7 : ¬ (tk c.ts st.i).kind = 7) (h8 : ¬ (tk c.ts st.i).kind = 8) :
    Calls Tryz.prog 203 #[.pointer (some ⟨c.rb, 0, none⟩)] w (OutQ c d st (.error (3, (tk c.ts st.i).at_)) w) := by
  have c0 : w.cell? ⟨c.rb, 0, none⟩ = some (.slice (some ⟨c.g, 0, none⟩) c.all.length c.cap) := h.cell 0
  have c1 : w.cell? ⟨c.rb, 1, none⟩ = some (.int .i64 st.i) := h.cell 1
  obtain ⟨b0, b1, b2, b3⟩ := hc.cell h hi
  have hfew := hc.few
  have hle := (hc.tk_eq hi).2
  have hl := hc.le
  have hm := hc.cap
  unfold maxLen at hm
  obtain ⟨l1, l2⟩ := h.lt
  have k40 : (rk (tk c.ts st.i).kind == 40) = false := by rw [beq_eq_false_iff_ne]; exact fun e => h8 (rk_inj (n := 8) (by decide) (e.trans rfl))
  have k33 : (rk (tk c.ts st.i).kind == 33) = false := by rw [beq_eq_false_iff_ne]; exact fun e => h7 (rk_inj (n := 7) (by decide) (e.trans rfl))
  have k119 : (rk (tk c.ts st.i).kind == 119) = false := by rw [beq_eq_false_iff_ne]; exact fun e => h2 (rk_inj (n := 2) (by decide) (e.trans rfl))
  have H := hide h
  clear h h2 h7 h8
  go_enter Tryz.func203, Tryz.ntmps203
  go_wp2_with fail
  go_region
  clear c0 c1 b0 b1 b2 b3
  obtain ⟨w1, hw1⟩ : ∃ w1, w1 = (w.alloc (.cells #[.int .u8 (rk (tk c.ts st.i).kind), .int .i64 ((tk c.ts st.i).at_ : Int), .string (rTxt c.s (tk c.ts st.i)), .int .i64 (rNum c.s (tk c.ts st.i) : Int)] 123)).drew := ⟨_, rfl⟩
  rw [← hw1]
  have G1 : Hid (w.grownBy w1 none) := by rw [hw1]; exact grown_drew (World.grownBy_alloc _ _ _)
  have T1 : Hid (atok w1 w.heap.size c.s (tk c.ts st.i)) := by rw [hw1]; exact heap_alloc_new w _
  clear hw1
  have R1 := hide (H.out.kept G1.out)
  have c2 : w1.cell? ⟨c.rb, 2, none⟩ = some (.int .i64 0) := R1.out.cell 2
  have t2 : w1.cell? ⟨w.heap.size, 2, none⟩ = some (.string (rTxt c.s (tk c.ts st.i))) := T1.out.cell 2
  have l3 := R1.out.lt.1
  have l4 := T1.out.lt
  have HFI : Hid (∀ ww, Calls Tryz.prog 242 #[.string (rTxt c.s (tk c.ts st.i))] ww fun x w' => x = .returned (.int .i64 (fieldI (rTxt c.s (tk c.ts st.i)))) ∧ ww.grownBy w' none) := fun ww => rfield_any _ ww
  go_wp2_with fail
  refine (HFI.out _).mono ?_
  rintro x w3 ⟨rfl, hg3⟩
  have GA := hide (World.grownBy_alloc w1 (.cells #[.int .u8 100, .int .i64 0, .int .i64 0, .slice none 0 0] 167) none)
  have G3 := hide (grown_trans G1.out (grown_trans GA.out hg3))
  have R3 := hide (R1.out.kept (grown_trans GA.out hg3))
  have T3 := hide (T1.out.kept (grown_trans GA.out hg3) (by simp))
  have N3 : Hid (nodeAt w3 w1.heap.size #[.int .u8 100, .int .i64 0, .int .i64 0, .slice none 0 0]) := nodeAt.other (heap_alloc_new w1 _) hg3 (by simp)
  have hz : w.heap.size < w1.heap.size := T1.out.lt
  clear c2 t2 l3 l4 hg3 GA R1 T1 HFI
  obtain ⟨nb, hnb⟩ : ∃ nb, nb = w1.heap.size := ⟨_, rfl⟩
  rw [← hnb] at N3 hz ⊢
  clear hnb G1
  have t0 : w3.cell? ⟨w.heap.size, 0, none⟩ = some (.int .u8 (rk (tk c.ts st.i).kind)) := T3.out.cell 0
  have t1 : w3.cell? ⟨w.heap.size, 1, none⟩ = some (.int .i64 ((tk c.ts st.i).at_ : Int)) := T3.out.cell 1
  have t2 : w3.cell? ⟨w.heap.size, 2, none⟩ = some (.string (rTxt c.s (tk c.ts st.i))) := T3.out.cell 2
  go_wp2_with fail
  refine (rfail_first c hc _ _ _ _ _ _ 3 _ R3.out).mono ?_
  rintro x w4 ⟨rfl, hR4, hG4⟩
  have R4 := hide hR4
  have G4 := hide (grown_trans (grown_some G3.out) hG4)
  have N4 := hide (N3.out.other hG4 (by simp; omega))
  clear hR4 hG4 t0 t1 t2
  go_wp2
  go_ret
  exact ⟨_, .exit 1, st.i, rfl, ⟨nb, _, rfl, by omega, N4.out, .inl ⟨by decide, rfl⟩⟩, G4.out, hi, Nat.le_refl _, by show 1 + st.i ≤ _; omega, by decide, _, _, _, R4.out⟩
set_option maxRecDepth 100000 in
set_option maxHeartbeats 2000000 in
theorem ratom_id (c : RCtx) (hc : c.Good) (d : Int) (w : World) (st : St) (h : Rq c w st.i 0 0 st.atoms d (badI st.bad)) (hi : st.i < c.ts.length) (h2 : (tk c.ts st.i).kind = 2) (hid : txt c.s (tk c.ts st.i) = [105, 100]) (hi1 : st.i + 1 < c.ts.length) :
    Calls Tryz.prog 203 #[.pointer (some ⟨c.rb, 0, none⟩)] w (OutQ c d st (.ok (.exit 0, ⟨st.i + 1, st.atoms, st.bad⟩)) w) := by
  have c0 : w.cell? ⟨c.rb, 0, none⟩ = some (.slice (some ⟨c.g, 0, none⟩) c.all.length c.cap) := h.cell 0
  have c1 : w.cell? ⟨c.rb, 1, none⟩ = some (.int .i64 st.i) := h.cell 1
  obtain ⟨b0, b1, b2, b3⟩ := hc.cell h hi
  have hfew := hc.few
  have hle := (hc.tk_eq hi).2
  have hl := hc.le
  have hm := hc.cap
  unfold maxLen at hm
  obtain ⟨l1, l2⟩ := h.lt
  have k40 : (rk (tk c.ts st.i).kind == 40) = false := by rw [h2]; rfl
  have k33 : (rk (tk c.ts st.i).kind == 33) = false := by rw [h2]; rfl
  have k119 : (rk (tk c.ts st.i).kind == 119) = true := by rw [h2]; rfl
  have hx : rTxt c.s (tk c.ts st.i) = c.s.extract (tk c.ts st.i).at_ (tk c.ts st.i).to := by unfold rTxt; rw [if_pos h2]
  have he1 : ((rTxt c.s (tk c.ts st.i)).toList == ([105, 100] : List UInt8)) = true := by rw [beq_iff_eq, ByteArray.toList_eq, hx]; exact hid
  have H := hide h
  clear h h2 hid hx
  go_enter Tryz.func203, Tryz.ntmps203
  go_wp2_with fail
  go_region
  clear c0 c1 b0 b1 b2 b3
  obtain ⟨w1, hw1⟩ : ∃ w1, w1 = (w.alloc (.cells #[.int .u8 (rk (tk c.ts st.i).kind), .int .i64 ((tk c.ts st.i).at_ : Int), .string (rTxt c.s (tk c.ts st.i)), .int .i64 (rNum c.s (tk c.ts st.i) : Int)] 123)).drew := ⟨_, rfl⟩
  rw [← hw1]
  have G1 : Hid (w.grownBy w1 none) := by rw [hw1]; exact grown_drew (World.grownBy_alloc _ _ _)
  have T1 : Hid (atok w1 w.heap.size c.s (tk c.ts st.i)) := by rw [hw1]; exact heap_alloc_new w _
  clear hw1
  have R1 := hide (H.out.kept G1.out)
  have c2 : w1.cell? ⟨c.rb, 2, none⟩ = some (.int .i64 0) := R1.out.cell 2
  have t2 : w1.cell? ⟨w.heap.size, 2, none⟩ = some (.string (rTxt c.s (tk c.ts st.i))) := T1.out.cell 2
  have l3 := R1.out.lt.1
  have l4 := T1.out.lt
  have HFI : Hid (∀ ww, Calls Tryz.prog 242 #[.string (rTxt c.s (tk c.ts st.i))] ww fun x w' => x = .returned (.int .i64 (fieldI (rTxt c.s (tk c.ts st.i)))) ∧ ww.grownBy w' none) := fun ww => rfield_any _ ww
  go_wp2_with fail
  refine (HFI.out _).mono ?_
  rintro x w3 ⟨rfl, hg3⟩
  have GA := hide (World.grownBy_alloc w1 (.cells #[.int .u8 100, .int .i64 0, .int .i64 0, .slice none 0 0] 167) none)
  have G3 := hide (grown_trans G1.out (grown_trans GA.out hg3))
  have R3 := hide (R1.out.kept (grown_trans GA.out hg3))
  have T3 := hide (T1.out.kept (grown_trans GA.out hg3) (by simp))
  have N3 : Hid (nodeAt w3 w1.heap.size #[.int .u8 100, .int .i64 0, .int .i64 0, .slice none 0 0]) := nodeAt.other (heap_alloc_new w1 _) hg3 (by simp)
  have hz : w.heap.size < w1.heap.size := T1.out.lt
  clear c2 t2 l3 l4 hg3 GA R1 T1 HFI
  obtain ⟨nb, hnb⟩ : ∃ nb, nb = w1.heap.size := ⟨_, rfl⟩
  rw [← hnb] at N3 hz ⊢
  clear hnb G1
  have t0 : w3.cell? ⟨w.heap.size, 0, none⟩ = some (.int .u8 (rk (tk c.ts st.i).kind)) := T3.out.cell 0
  have t1 : w3.cell? ⟨w.heap.size, 1, none⟩ = some (.int .i64 ((tk c.ts st.i).at_ : Int)) := T3.out.cell 1
  have t2 : w3.cell? ⟨w.heap.size, 2, none⟩ = some (.string (rTxt c.s (tk c.ts st.i))) := T3.out.cell 2
  have c1 : w3.cell? ⟨c.rb, 1, none⟩ = some (.int .i64 st.i) := R3.out.cell 1
  have f1 : w3.frozen? ⟨c.rb, 1, none⟩ = false := R3.out.frozen 1
  have n0 : w3.cell? ⟨nb, 0, none⟩ = some (.int .u8 100) := N3.out.cell 0
  have q0 : w3.frozen? ⟨nb, 0, none⟩ = false := N3.out.frozen 0
  have hne : nb ≠ c.rb := by omega
  go_wp2
  go_ret
  have e1 : ((st.i + 1 : Nat) : Int) = (st.i : Int) + 1 := by omega
  refine ⟨_, .exit 0, st.i + 1, rfl, ⟨nb, _, rfl, by omega, (nodeAt.set (N3.out.other (grown_set _ _ _ _) (by simp; omega)) 0 _), .inl ⟨by decide, rfl⟩⟩, grown_node (grown_trans (grown_some G3.out) (grown_set _ _ _ _)) (by omega) _ _, hi1, by omega, by show 1 + st.i ≤ _; omega, rfl, rfl, by show 1 + st.i ≤ _; omega, ?_⟩
  rw [e1]
  exact (R3.out.set1 hc _).setn hc (by omega) 0 _
set_option maxRecDepth 100000 in
set_option maxHeartbeats 2000000 in
theorem ratom_drop (c : RCtx) (hc : c.Good) (d : Int) (w : World) (st : St) (h : Rq c w st.i 0 0 st.atoms d (badI st.bad)) (hi : st.i < c.ts.length) (h2 : (tk c.ts st.i).kind = 2) (hid : ¬ txt c.s (tk c.ts st.i) = [105, 100]) (hdr : txt c.s (tk c.ts st.i) = [100, 114, 111, 112]) (hi1 : st.i + 1 < c.ts.length) :
    Calls Tryz.prog 203 #[.pointer (some ⟨c.rb, 0, none⟩)] w (OutQ c d st (.ok (.exit 1, ⟨st.i + 1, st.atoms, st.bad⟩)) w) := by
  have c0 : w.cell? ⟨c.rb, 0, none⟩ = some (.slice (some ⟨c.g, 0, none⟩) c.all.length c.cap) := h.cell 0
  have c1 : w.cell? ⟨c.rb, 1, none⟩ = some (.int .i64 st.i) := h.cell 1
  obtain ⟨b0, b1, b2, b3⟩ := hc.cell h hi
  have hfew := hc.few
  have hle := (hc.tk_eq hi).2
  have hl := hc.le
  have hm := hc.cap
  unfold maxLen at hm
  obtain ⟨l1, l2⟩ := h.lt
  have k40 : (rk (tk c.ts st.i).kind == 40) = false := by rw [h2]; rfl
  have k33 : (rk (tk c.ts st.i).kind == 33) = false := by rw [h2]; rfl
  have k119 : (rk (tk c.ts st.i).kind == 119) = true := by rw [h2]; rfl
  have hx : rTxt c.s (tk c.ts st.i) = c.s.extract (tk c.ts st.i).at_ (tk c.ts st.i).to := by unfold rTxt; rw [if_pos h2]
  have he1 : ((rTxt c.s (tk c.ts st.i)).toList == ([105, 100] : List UInt8)) = false := by rw [beq_eq_false_iff_ne, ByteArray.toList_eq, hx]; exact hid
  have he2 : ((rTxt c.s (tk c.ts st.i)).toList == ([100, 114, 111, 112] : List UInt8)) = true := by rw [beq_iff_eq, ByteArray.toList_eq, hx]; exact hdr
  have H := hide h
  clear h h2 hid hdr hx
  go_enter Tryz.func203, Tryz.ntmps203
  go_wp2_with fail
  go_region
  clear c0 c1 b0 b1 b2 b3
  obtain ⟨w1, hw1⟩ : ∃ w1, w1 = (w.alloc (.cells #[.int .u8 (rk (tk c.ts st.i).kind), .int .i64 ((tk c.ts st.i).at_ : Int), .string (rTxt c.s (tk c.ts st.i)), .int .i64 (rNum c.s (tk c.ts st.i) : Int)] 123)).drew := ⟨_, rfl⟩
  rw [← hw1]
  have G1 : Hid (w.grownBy w1 none) := by rw [hw1]; exact grown_drew (World.grownBy_alloc _ _ _)
  have T1 : Hid (atok w1 w.heap.size c.s (tk c.ts st.i)) := by rw [hw1]; exact heap_alloc_new w _
  clear hw1
  have R1 := hide (H.out.kept G1.out)
  have c2 : w1.cell? ⟨c.rb, 2, none⟩ = some (.int .i64 0) := R1.out.cell 2
  have t2 : w1.cell? ⟨w.heap.size, 2, none⟩ = some (.string (rTxt c.s (tk c.ts st.i))) := T1.out.cell 2
  have l3 := R1.out.lt.1
  have l4 := T1.out.lt
  have HFI : Hid (∀ ww, Calls Tryz.prog 242 #[.string (rTxt c.s (tk c.ts st.i))] ww fun x w' => x = .returned (.int .i64 (fieldI (rTxt c.s (tk c.ts st.i)))) ∧ ww.grownBy w' none) := fun ww => rfield_any _ ww
  go_wp2_with fail
  refine (HFI.out _).mono ?_
  rintro x w3 ⟨rfl, hg3⟩
  have GA := hide (World.grownBy_alloc w1 (.cells #[.int .u8 100, .int .i64 0, .int .i64 0, .slice none 0 0] 167) none)
  have G3 := hide (grown_trans G1.out (grown_trans GA.out hg3))
  have R3 := hide (R1.out.kept (grown_trans GA.out hg3))
  have T3 := hide (T1.out.kept (grown_trans GA.out hg3) (by simp))
  have N3 : Hid (nodeAt w3 w1.heap.size #[.int .u8 100, .int .i64 0, .int .i64 0, .slice none 0 0]) := nodeAt.other (heap_alloc_new w1 _) hg3 (by simp)
  have hz : w.heap.size < w1.heap.size := T1.out.lt
  clear c2 t2 l3 l4 hg3 GA R1 T1 HFI
  obtain ⟨nb, hnb⟩ : ∃ nb, nb = w1.heap.size := ⟨_, rfl⟩
  rw [← hnb] at N3 hz ⊢
  clear hnb G1
  have t0 : w3.cell? ⟨w.heap.size, 0, none⟩ = some (.int .u8 (rk (tk c.ts st.i).kind)) := T3.out.cell 0
  have t1 : w3.cell? ⟨w.heap.size, 1, none⟩ = some (.int .i64 ((tk c.ts st.i).at_ : Int)) := T3.out.cell 1
  have t2 : w3.cell? ⟨w.heap.size, 2, none⟩ = some (.string (rTxt c.s (tk c.ts st.i))) := T3.out.cell 2
  have c1 : w3.cell? ⟨c.rb, 1, none⟩ = some (.int .i64 st.i) := R3.out.cell 1
  have f1 : w3.frozen? ⟨c.rb, 1, none⟩ = false := R3.out.frozen 1
  go_wp2
  go_ret
  have e1 : ((st.i + 1 : Nat) : Int) = (st.i : Int) + 1 := by omega
  refine ⟨_, .exit 1, st.i + 1, rfl, ⟨nb, _, rfl, by omega, N3.out.other (grown_set _ _ _ _) (by simp; omega), .inl ⟨by decide, rfl⟩⟩, grown_trans (grown_some G3.out) (grown_set _ _ _ _), hi1, by omega, by show 1 + st.i ≤ _; omega, rfl, rfl, by show 1 + st.i ≤ _; omega, ?_⟩
  rw [e1]
  exact R3.out.set1 hc _
set_option maxRecDepth 100000 in
set_option maxHeartbeats 2000000 in
theorem ratom_word (c : RCtx) (hc : c.Good) (d : Int) (w : World) (st : St) (h : Rq c w st.i 0 0 st.atoms d (badI st.bad)) (hi : st.i < c.ts.length) (h2 : (tk c.ts st.i).kind = 2) (hid : ¬ txt c.s (tk c.ts st.i) = [105, 100]) (hdr : ¬ txt c.s (tk c.ts st.i) = [100, 114, 111, 112]) (hfn : fieldNo (txt c.s (tk c.ts st.i)) = none) :
    Calls Tryz.prog 203 #[.pointer (some ⟨c.rb, 0, none⟩)] w (OutQ c d st (.error (3, (tk c.ts st.i).at_)) w) := by
  have c0 : w.cell? ⟨c.rb, 0, none⟩ = some (.slice (some ⟨c.g, 0, none⟩) c.all.length c.cap) := h.cell 0
  have c1 : w.cell? ⟨c.rb, 1, none⟩ = some (.int .i64 st.i) := h.cell 1
  obtain ⟨b0, b1, b2, b3⟩ := hc.cell h hi
  have hfew := hc.few
  have hle := (hc.tk_eq hi).2
  have hl := hc.le
  have hm := hc.cap
  unfold maxLen at hm
  obtain ⟨l1, l2⟩ := h.lt
  have k40 : (rk (tk c.ts st.i).kind == 40) = false := by rw [h2]; rfl
  have k33 : (rk (tk c.ts st.i).kind == 33) = false := by rw [h2]; rfl
  have k119 : (rk (tk c.ts st.i).kind == 119) = true := by rw [h2]; rfl
  have hx : rTxt c.s (tk c.ts st.i) = c.s.extract (tk c.ts st.i).at_ (tk c.ts st.i).to := by unfold rTxt; rw [if_pos h2]
  have he1 : ((rTxt c.s (tk c.ts st.i)).toList == ([105, 100] : List UInt8)) = false := by rw [beq_eq_false_iff_ne, ByteArray.toList_eq, hx]; exact hid
  have he2 : ((rTxt c.s (tk c.ts st.i)).toList == ([100, 114, 111, 112] : List UInt8)) = false := by rw [beq_eq_false_iff_ne, ByteArray.toList_eq, hx]; exact hdr
  have HF : Hid (fieldI (rTxt c.s (tk c.ts st.i)) = -1) := by show fieldI _ = -1; rw [hx]; unfold fieldI; unfold txt at hfn; rw [hfn]
  have H := hide h
  clear h h2 hid hdr hx hfn
  go_enter Tryz.func203, Tryz.ntmps203
  go_wp2_with fail
  go_region
  clear c0 c1 b0 b1 b2 b3
  obtain ⟨w1, hw1⟩ : ∃ w1, w1 = (w.alloc (.cells #[.int .u8 (rk (tk c.ts st.i).kind), .int .i64 ((tk c.ts st.i).at_ : Int), .string (rTxt c.s (tk c.ts st.i)), .int .i64 (rNum c.s (tk c.ts st.i) : Int)] 123)).drew := ⟨_, rfl⟩
  rw [← hw1]
  have G1 : Hid (w.grownBy w1 none) := by rw [hw1]; exact grown_drew (World.grownBy_alloc _ _ _)
  have T1 : Hid (atok w1 w.heap.size c.s (tk c.ts st.i)) := by rw [hw1]; exact heap_alloc_new w _
  clear hw1
  have R1 := hide (H.out.kept G1.out)
  have c2 : w1.cell? ⟨c.rb, 2, none⟩ = some (.int .i64 0) := R1.out.cell 2
  have t2 : w1.cell? ⟨w.heap.size, 2, none⟩ = some (.string (rTxt c.s (tk c.ts st.i))) := T1.out.cell 2
  have l3 := R1.out.lt.1
  have l4 := T1.out.lt
  have HFI : Hid (∀ ww, Calls Tryz.prog 242 #[.string (rTxt c.s (tk c.ts st.i))] ww fun x w' => x = .returned (.int .i64 (-1)) ∧ ww.grownBy w' none) := fun ww => by rw [← HF.out]; exact rfield_any _ ww
  go_wp2_with fail
  refine (HFI.out _).mono ?_
  rintro x w3 ⟨rfl, hg3⟩
  have GA := hide (World.grownBy_alloc w1 (.cells #[.int .u8 100, .int .i64 0, .int .i64 0, .slice none 0 0] 167) none)
  have G3 := hide (grown_trans G1.out (grown_trans GA.out hg3))
  have R3 := hide (R1.out.kept (grown_trans GA.out hg3))
  have T3 := hide (T1.out.kept (grown_trans GA.out hg3) (by simp))
  have N3 : Hid (nodeAt w3 w1.heap.size #[.int .u8 100, .int .i64 0, .int .i64 0, .slice none 0 0]) := nodeAt.other (heap_alloc_new w1 _) hg3 (by simp)
  have hz : w.heap.size < w1.heap.size := T1.out.lt
  clear c2 t2 l3 l4 hg3 GA R1 T1 HFI
  obtain ⟨nb, hnb⟩ : ∃ nb, nb = w1.heap.size := ⟨_, rfl⟩
  rw [← hnb] at N3 hz ⊢
  clear hnb G1
  have t0 : w3.cell? ⟨w.heap.size, 0, none⟩ = some (.int .u8 (rk (tk c.ts st.i).kind)) := T3.out.cell 0
  have t1 : w3.cell? ⟨w.heap.size, 1, none⟩ = some (.int .i64 ((tk c.ts st.i).at_ : Int)) := T3.out.cell 1
  have t2 : w3.cell? ⟨w.heap.size, 2, none⟩ = some (.string (rTxt c.s (tk c.ts st.i))) := T3.out.cell 2
  go_wp2_with fail
  refine (rfail_first c hc _ _ _ _ _ _ 3 _ R3.out).mono ?_
  rintro x w4 ⟨rfl, hR4, hG4⟩
  have R4 := hide hR4
  have G4 := hide (grown_trans (grown_some G3.out) hG4)
  have N4 := hide (N3.out.other hG4 (by simp; omega))
  clear hR4 hG4 t0 t1 t2
  go_wp2
  go_ret
  exact ⟨_, .exit 1, st.i, rfl, ⟨nb, _, rfl, by omega, N4.out, .inl ⟨by decide, rfl⟩⟩, G4.out, hi, Nat.le_refl _, by show 1 + st.i ≤ _; omega, by decide, _, _, _, R4.out⟩
set_option maxRecDepth 100000 in
set_option maxHeartbeats 2000000 in
theorem ratom_not (c : RCtx) (hc : c.Good) (d : Int) (w : World) (st : St) (h : Rq c w st.i 0 0 st.atoms d (badI st.bad)) (hi : st.i < c.ts.length) (h7 : (tk c.ts st.i).kind = 7) (hi1 : st.i + 1 < c.ts.length) (hd0 : 0 ≤ d) (hd : d < 12) (ha : st.atoms ≤ 16) (hbad : st.bad ≤ 401) (D : Nat) (HA : DoesQ c 203 (d + 1) (atomP c.s c.ts D)) :
    Calls Tryz.prog 203 #[.pointer (some ⟨c.rb, 0, none⟩)] w (OutQ c d st (notP (tk c.ts st.i).at_ (atomP c.s c.ts D ⟨st.i + 1, st.atoms, st.bad⟩)) w) := by
  have c0 : w.cell? ⟨c.rb, 0, none⟩ = some (.slice (some ⟨c.g, 0, none⟩) c.all.length c.cap) := h.cell 0
  have c1 : w.cell? ⟨c.rb, 1, none⟩ = some (.int .i64 st.i) := h.cell 1
  obtain ⟨b0, b1, b2, b3⟩ := hc.cell h hi
  have hfew := hc.few
  have hle := (hc.tk_eq hi).2
  have hl := hc.le
  have hm := hc.cap
  unfold maxLen at hm
  obtain ⟨l1, l2⟩ := h.lt
  have k40 : (rk (tk c.ts st.i).kind == 40) = false := by rw [h7]; rfl
  have k33 : (rk (tk c.ts st.i).kind == 33) = true := by rw [h7]; rfl
  have k119 : (rk (tk c.ts st.i).kind == 119) = false := by rw [h7]; rfl
  have HAA := hide HA
  have H := hide h
  clear h h7 HA
  go_enter Tryz.func203, Tryz.ntmps203
  go_wp2_with fail
  go_region
  clear c0 c1 b0 b1 b2 b3
  obtain ⟨w1, hw1⟩ : ∃ w1, w1 = (w.alloc (.cells #[.int .u8 (rk (tk c.ts st.i).kind), .int .i64 ((tk c.ts st.i).at_ : Int), .string (rTxt c.s (tk c.ts st.i)), .int .i64 (rNum c.s (tk c.ts st.i) : Int)] 123)).drew := ⟨_, rfl⟩
  rw [← hw1]
  have G1 : Hid (w.grownBy w1 none) := by rw [hw1]; exact grown_drew (World.grownBy_alloc _ _ _)
  have T1 : Hid (atok w1 w.heap.size c.s (tk c.ts st.i)) := by rw [hw1]; exact heap_alloc_new w _
  clear hw1
  have R1 := hide (H.out.kept G1.out)
  have c2 : w1.cell? ⟨c.rb, 2, none⟩ = some (.int .i64 0) := R1.out.cell 2
  have t2 : w1.cell? ⟨w.heap.size, 2, none⟩ = some (.string (rTxt c.s (tk c.ts st.i))) := T1.out.cell 2
  have l3 := R1.out.lt.1
  have l4 := T1.out.lt
  have HFI : Hid (∀ ww, Calls Tryz.prog 242 #[.string (rTxt c.s (tk c.ts st.i))] ww fun x w' => x = .returned (.int .i64 (fieldI (rTxt c.s (tk c.ts st.i)))) ∧ ww.grownBy w' none) := fun ww => rfield_any _ ww
  go_wp2_with fail
  refine (HFI.out _).mono ?_
  rintro x w3 ⟨rfl, hg3⟩
  have GA := hide (World.grownBy_alloc w1 (.cells #[.int .u8 100, .int .i64 0, .int .i64 0, .slice none 0 0] 167) none)
  have G3 := hide (grown_trans G1.out (grown_trans GA.out hg3))
  have R3 := hide (R1.out.kept (grown_trans GA.out hg3))
  have T3 := hide (T1.out.kept (grown_trans GA.out hg3) (by simp))
  have N3 : Hid (nodeAt w3 w1.heap.size #[.int .u8 100, .int .i64 0, .int .i64 0, .slice none 0 0]) := nodeAt.other (heap_alloc_new w1 _) hg3 (by simp)
  have hz : w.heap.size < w1.heap.size := T1.out.lt
  clear c2 t2 l3 l4 hg3 GA R1 T1 HFI
  obtain ⟨nb, hnb⟩ : ∃ nb, nb = w1.heap.size := ⟨_, rfl⟩
  rw [← hnb] at N3 hz ⊢
  clear hnb G1
  have t0 : w3.cell? ⟨w.heap.size, 0, none⟩ = some (.int .u8 (rk (tk c.ts st.i).kind)) := T3.out.cell 0
  have t1 : w3.cell? ⟨w.heap.size, 1, none⟩ = some (.int .i64 ((tk c.ts st.i).at_ : Int)) := T3.out.cell 1
  have t2 : w3.cell? ⟨w.heap.size, 2, none⟩ = some (.string (rTxt c.s (tk c.ts st.i))) := T3.out.cell 2
  go_wp2_with fail
  refine (rinner_go c hc _ st.i _ _ _ R3.out hi1 hd0 hd).mono ?_
  rintro x w4 ⟨rfl, hR4, hG4⟩
  have G4 := hide (grown_trans (grown_some G3.out) hG4)
  have hz4 : w.heap.size ≤ w4.heap.size := G4.out.size
  have T4 := hide (T3.out.kept hG4 (by simp; omega))
  have HAC := hide (HAA.out w4 ⟨st.i + 1, st.atoms, st.bad⟩ hR4 hi1 ha hbad)
  clear hR4 hG4 t0 t1 t2 HAA R3 N3 T3 G3
  generalize hr : atomP c.s c.ts D ⟨st.i + 1, st.atoms, st.bad⟩ = r at HAC ⊢
  go_wp2_with fail
  refine HAC.out.mono ?_
  rintro x w5 ⟨v, tr, i', rfl, hv, hg5, hi', hle', hlv, hm5⟩
  obtain ⟨bx, rfl, hbx, _⟩ := RV_ptr hv
  have G5 := hide (grown_trans G4.out hg5)
  have T5 := hide (T4.out.kept hg5 (by simp; omega))
  have V5 := hide hv
  clear hv hg5 G4 T4 HAC
  rcases r with ⟨en, pl⟩ | ⟨t, st'⟩
  · obtain ⟨hen, a', d', b', hR5⟩ := hm5
    have R5 := hide hR5
    have HEN := hide hen
    have c5 : w5.cell? ⟨c.rb, 5, none⟩ = some (.int .i64 d') := hR5.cell 5
    have f5 : w5.frozen? ⟨c.rb, 5, none⟩ = false := hR5.frozen 5
    have HRR := hide hr
    clear hR5 hen hr
    unfold ptrV
    obtain ⟨w6, hw6⟩ : ∃ w6, w6 = w5.setCell ⟨c.rb, 5, none⟩ (.int .i64 (wrap64 (d' - 1))) := ⟨_, rfl⟩
    have hz6 : w6.heap.size = w5.heap.size := by rw [hw6]; simp [World.setCell]
    have R6 : Hid (Rq c w6 i' en pl a' (wrap64 (d' - 1)) b') := by rw [hw6]; exact R5.out.set5 hc _
    have g56 : w5.grownBy w6 (some c.rb) := by rw [hw6]; exact grown_set _ _ _ _
    have G6 := hide (grown_trans G5.out g56)
    have T6 := hide (T5.out.kept g56 (by simp; omega))
    have hB6 : w.heap.size ≤ w6.heap.size := G6.out.size
    have V6 := hide (RV_weak (RV_grown V5.out g56 (fun b hb e => by cases e; omega)) (ok' := fun b => w.heap.size ≤ b) (fun b _ hb => by omega))
    have S6 : Hid ((RV (fun b => w.heap.size ≤ b) ((w6.alloc (.cells #[ptrV bx] 31)).alloc (.cells (rGroup 33 w6.heap.size 1 1) 167)) (.scope tr)).1 (ptrV (w6.heap.size + 1))) := one_new (k := 33) hB6 V6.out
    have g67 : w6.grownBy ((w6.alloc (.cells #[ptrV bx] 31)).alloc (.cells (rGroup 33 w6.heap.size 1 1) 167)) none := grown_trans (World.grownBy_alloc _ _ none) (World.grownBy_alloc _ _ none)
    obtain ⟨w7, hw7⟩ : ∃ w7, w7 = (w6.alloc (.cells #[ptrV bx] 31)).alloc (.cells (rGroup 33 w6.heap.size 1 1) 167) := ⟨_, rfl⟩
    rw [← hw7] at S6 g67
    rw [hz6] at S6 hw7
    have R7 := hide (R6.out.kept g67)
    have G7 := hide (grown_trans G6.out (grown_some g67))
    have T7 := hide (T6.out.kept g67 (by simp))
    have V7 := hide (RV_kept V6.out g67)
    have S7 := S6
    unfold ptrV rGroup at hw7
    clear g56 g67 R5 R6 G5 G6 T5 T6 V5 V6 S6 hz6 hB6
    go_wp2_with fail
    rw [← hw6, ← hw7]
    clear c5 f5 hw6 hw7
    refine (risTest_any _ (szC tr) tr _ w7 (Nat.le_refl _) V7.out).mono ?_
    rintro x w8 ⟨rfl, hw8⟩
    subst hw8
    have c6 : w8.cell? ⟨c.rb, 6, none⟩ = some (.int .i64 b') := R7.out.cell 6
    have f6 : w8.frozen? ⟨c.rb, 6, none⟩ = false := R7.out.frozen 6
    have t1 : w8.cell? ⟨w.heap.size, 1, none⟩ = some (.int .i64 ((tk c.ts st.i).at_ : Int)) := T7.out.cell 1
    obtain ⟨at_, hat⟩ : ∃ a : Nat, a = (tk c.ts st.i).at_ := ⟨_, rfl⟩
    rw [← hat] at t1
    clear hat
    have hfin : ∀ w9 b9, w8.grownBy w9 (some c.rb) → Rq c w9 i' en pl a' (wrap64 (d' - 1)) b9 → OutQ c d st (notP (tk c.ts st.i).at_ (.error (en, pl))) w (.returned (.pointer (some ⟨w5.heap.size + 1, 0, none⟩))) w9 := fun w9 b9 hg9 hr9 =>
      ⟨_, .scope tr, i', rfl, RV_grown S7.out hg9 (fun b hb e => by cases e; omega), grown_trans G7.out hg9, hi', by have h1 : st.i + 1 ≤ i' := hle'; omega, by show lv tr + st.i ≤ _; have h1 : lv tr + (st.i + 1) ≤ i' + 1 := hlv; omega, HEN.out, _, _, _, hr9⟩
    have HFIN := hide hfin
    have HT : Hid (isT tr = true ∨ isT tr = false) := by cases isT tr <;> simp [Hid]
    clear hfin
    generalize isT tr = bt at HT ⊢
    rcases HT.out with rfl | rfl
    · go_wp2_with fail
      go_quiet (fail)
      go_wp2
      go_ret
      rw [HRR.out]; exact HFIN.out _ _ (grown_drewN (grown_refl _ _) _) (R7.out.drewN _)
    · by_cases hb1 : b' < 0
      · go_wp2_with fail
        go_quiet (fail)
        go_wp2
        go_ret
        rw [HRR.out]; exact HFIN.out _ _ (grown_trans (grown_drewN (grown_refl _ _) _) (grown_set _ _ _ _)) ((R7.out.drewN _).set6 hc _)
      · by_cases hb2 : (at_ : Int) < b'
        · go_wp2_with fail
          go_quiet (fail)
          go_wp2
          go_ret
          rw [HRR.out]; exact HFIN.out _ _ (grown_trans (grown_drewN (grown_refl _ _) _) (grown_set _ _ _ _)) ((R7.out.drewN _).set6 hc _)
        · go_wp2_with fail
          go_quiet (fail)
          go_wp2
          go_ret
          rw [HRR.out]; exact HFIN.out _ _ (grown_drewN (grown_refl _ _) _) (R7.out.drewN _)
  · obtain ⟨htr, hii, hlv2, hR5⟩ := hm5
    obtain ⟨b', hb'⟩ : ∃ b', b' = badI st'.bad := ⟨_, rfl⟩
    obtain ⟨a', ha'⟩ : ∃ a', a' = (st'.atoms : Int) := ⟨_, rfl⟩
    rw [← hb', ← ha'] at hR5
    have hgo := goes_atom hc.closed D ⟨st.i + 1, st.atoms, st.bad⟩ t st' hi1 ha hr
    have hbd : st'.bad ≤ 401 := Nat.le_trans hgo.2.2.2 hbad
    have hiT : isT tr = isT t := by rw [htr]; exact isT_flat (wf_atom D _ t st' hr)
    have hat4 : (tk c.ts st.i).at_ ≤ 400 := by
      have h1 := toks_at c.s true st.i
      rw [← hc.toks] at h1
      have := hc.size
      omega
    have HOK : Hid (b' = badI st'.bad ∧ a' = (st'.atoms : Int) ∧ st'.bad ≤ 401 ∧ isT tr = isT t ∧ (tk c.ts st.i).at_ ≤ 400 ∧ tr = flat t ∧ i' = st'.i ∧ lv tr + (st.i + 1) ≤ i') := ⟨hb', ha', hbd, hiT, hat4, htr, hii, hlv2⟩
    clear hb' ha' hbd hiT hat4 htr hii hlv2 hgo
    have R5 := hide hR5
    have c5 : w5.cell? ⟨c.rb, 5, none⟩ = some (.int .i64 (d + 1)) := hR5.cell 5
    have f5 : w5.frozen? ⟨c.rb, 5, none⟩ = false := hR5.frozen 5
    have HRR := hide hr
    clear hR5 hr
    unfold ptrV
    obtain ⟨w6, hw6⟩ : ∃ w6, w6 = w5.setCell ⟨c.rb, 5, none⟩ (.int .i64 d) := ⟨_, rfl⟩
    have hz6 : w6.heap.size = w5.heap.size := by rw [hw6]; simp [World.setCell]
    have R6 : Hid (Rq c w6 i' 0 0 a' d b') := by rw [hw6]; exact R5.out.set5 hc _
    have g56 : w5.grownBy w6 (some c.rb) := by rw [hw6]; exact grown_set _ _ _ _
    have G6 := hide (grown_trans G5.out g56)
    have T6 := hide (T5.out.kept g56 (by simp; omega))
    have hB6 : w.heap.size ≤ w6.heap.size := G6.out.size
    have V6 := hide (RV_weak (RV_grown V5.out g56 (fun b hb e => by cases e; omega)) (ok' := fun b => w.heap.size ≤ b) (fun b _ hb => by omega))
    have S6 : Hid ((RV (fun b => w.heap.size ≤ b) ((w6.alloc (.cells #[ptrV bx] 31)).alloc (.cells (rGroup 33 w6.heap.size 1 1) 167)) (.scope tr)).1 (ptrV (w6.heap.size + 1))) := one_new (k := 33) hB6 V6.out
    have g67 : w6.grownBy ((w6.alloc (.cells #[ptrV bx] 31)).alloc (.cells (rGroup 33 w6.heap.size 1 1) 167)) none := grown_trans (World.grownBy_alloc _ _ none) (World.grownBy_alloc _ _ none)
    obtain ⟨w7, hw7⟩ : ∃ w7, w7 = (w6.alloc (.cells #[ptrV bx] 31)).alloc (.cells (rGroup 33 w6.heap.size 1 1) 167) := ⟨_, rfl⟩
    rw [← hw7] at S6 g67
    rw [hz6] at S6 hw7
    have R7 := hide (R6.out.kept g67)
    have G7 := hide (grown_trans G6.out (grown_some g67))
    have T7 := hide (T6.out.kept g67 (by simp))
    have V7 := hide (RV_kept V6.out g67)
    have S7 := S6
    unfold ptrV rGroup at hw7
    clear g56 g67 R5 R6 G5 G6 T5 T6 V5 V6 S6 hz6 hB6
    go_wp2_with fail
    rw [← hw6, ← hw7]
    clear c5 f5 hw6 hw7
    refine (risTest_any _ (szC tr) tr _ w7 (Nat.le_refl _) V7.out).mono ?_
    rintro x w8 ⟨rfl, hw8⟩
    subst hw8
    have c6 : w8.cell? ⟨c.rb, 6, none⟩ = some (.int .i64 b') := R7.out.cell 6
    have f6 : w8.frozen? ⟨c.rb, 6, none⟩ = false := R7.out.frozen 6
    have t1 : w8.cell? ⟨w.heap.size, 1, none⟩ = some (.int .i64 ((tk c.ts st.i).at_ : Int)) := T7.out.cell 1
    obtain ⟨at_, hat⟩ : ∃ a : Nat, a = (tk c.ts st.i).at_ := ⟨_, rfl⟩
    rw [← hat] at t1
    have HAT := hide hat
    clear hat
    have HFIN : Hid (∀ w9 b9, w8.grownBy w9 (some c.rb) → Rq c w9 i' 0 0 a' d b9 → b9 = badI (if isT t then st'.bad else min st'.bad (tk c.ts st.i).at_) → OutQ c d st (notP (tk c.ts st.i).at_ (.ok (t, st'))) w (.returned (.pointer (some ⟨w5.heap.size + 1, 0, none⟩))) w9) := fun w9 b9 hg9 hr9 hb9 => by
      obtain ⟨o1, o2, o3, o4, o5, o6, o7, o8⟩ := HOK.out
      refine ⟨_, .scope tr, i', rfl, RV_grown S7.out hg9 (fun b hb e => by cases e; omega), grown_trans G7.out hg9, hi', by have h1 : st.i + 1 ≤ i' := hle'; omega, by show lv tr + st.i ≤ _; omega, ?_, o7, by show lv tr + st.i ≤ _; omega, ?_⟩
      · rw [o6]; rfl
      · rw [← hb9, ← o2]; exact hr9
    have HT : Hid (isT tr = true ∨ isT tr = false) := by cases isT tr <;> simp [Hid]
    obtain ⟨bt, hbt⟩ : ∃ bt, bt = isT tr := ⟨_, rfl⟩
    rw [← hbt] at HT ⊢
    have HBT := hide hbt
    clear hbt
    rcases HT.out with rfl | rfl
    · go_wp2_with fail
      go_quiet (fail)
      go_wp2
      go_ret
      rw [HRR.out]; exact HFIN.out _ _ (grown_drewN (grown_refl _ _) _) (R7.out.drewN _) (by have o := HOK.out; rw [if_pos (by rw [← o.2.2.2.1, ← HBT.out]), ← o.1])
    · by_cases hb1 : b' < 0
      · go_wp2_with fail
        go_quiet (fail)
        go_wp2
        go_ret
        rw [HRR.out]; exact HFIN.out _ _ (grown_trans (grown_drewN (grown_refl _ _) _) (grown_set _ _ _ _)) ((R7.out.drewN _).set6 hc _) (by have o := HOK.out; rw [if_neg (by rw [← o.2.2.2.1, ← HBT.out]; decide), (badI_min _ _ o.2.2.2.2.1 o.2.2.1).1 (by rw [← o.1]; omega), HAT.out])
      · by_cases hb2 : (at_ : Int) < b'
        · go_wp2_with fail
          go_quiet (fail)
          go_wp2
          go_ret
          rw [HRR.out]; exact HFIN.out _ _ (grown_trans (grown_drewN (grown_refl _ _) _) (grown_set _ _ _ _)) ((R7.out.drewN _).set6 hc _) (by have o := HOK.out; rw [if_neg (by rw [← o.2.2.2.1, ← HBT.out]; decide), (badI_min _ _ o.2.2.2.2.1 o.2.2.1).2.1 (by rw [← o.1]; omega) (by rw [← o.1, ← HAT.out]; omega), HAT.out])
        · go_wp2_with fail
          go_quiet (fail)
          go_wp2
          go_ret
          rw [HRR.out]; exact HFIN.out _ _ (grown_drewN (grown_refl _ _) _) (R7.out.drewN _) (by have o := HOK.out; rw [if_neg (by rw [← o.2.2.2.1, ← HBT.out]; decide), (badI_min _ _ o.2.2.2.2.1 o.2.2.1).2.2 (by rw [← o.1]; omega) (by rw [← o.1, ← HAT.out]; omega), ← o.1])
end Go.Proofs.YtlhkfafdioakeaaGreatDoor
/- Proved here: what the document's reader makes of an atom: brackets, the limit of depth, a field; all together. -/
namespace Go.Proofs.YtlhkfafdioakeaaGreatDoor
open Go.RowKit Go.Weft
set_option linter.unusedVariables false
set_option linter.unusedSimpArgs false
theorem fieldNo_le {b : List UInt8} {f : Nat} (h : fieldNo b = some f) : f ≤ 5 := by
  unfold fieldNo at h
  repeat' split at h
  all_goals first | (cases h; done) | (cases h; omega)
set_option maxRecDepth 100000 in
set_option maxHeartbeats 2000000 in
theorem ratom_field (c : RCtx) (hc : c.Good) (d : Int) (w : World) (st : St) (h : Rq c w st.i 0 0 st.atoms d (badI st.bad)) (hi : st.i < c.ts.length) (h2 : (tk c.ts st.i).kind = 2) (hid : ¬ txt c.s (tk c.ts st.i) = [105, 100]) (hdr : ¬ txt c.s (tk c.ts st.i) = [100, 114, 111, 112]) (f : Nat) (hfn : fieldNo (txt c.s (tk c.ts st.i)) = some f) (hi1 : st.i + 1 < c.ts.length) (ha : st.atoms ≤ 16) :
    Calls Tryz.prog 203 #[.pointer (some ⟨c.rb, 0, none⟩)] w (OutQ c d st (pairP c.s c.ts f st) w) := by
  have c0 : w.cell? ⟨c.rb, 0, none⟩ = some (.slice (some ⟨c.g, 0, none⟩) c.all.length c.cap) := h.cell 0
  have c1 : w.cell? ⟨c.rb, 1, none⟩ = some (.int .i64 st.i) := h.cell 1
  obtain ⟨b0, b1, b2, b3⟩ := hc.cell h hi
  have hfew := hc.few
  have hle := (hc.tk_eq hi).2
  have hl := hc.le
  have hm := hc.cap
  unfold maxLen at hm
  obtain ⟨l1, l2⟩ := h.lt
  have k40 : (rk (tk c.ts st.i).kind == 40) = false := by rw [h2]; rfl
  have k33 : (rk (tk c.ts st.i).kind == 33) = false := by rw [h2]; rfl
  have k119 : (rk (tk c.ts st.i).kind == 119) = true := by rw [h2]; rfl
  have hx : rTxt c.s (tk c.ts st.i) = c.s.extract (tk c.ts st.i).at_ (tk c.ts st.i).to := by unfold rTxt; rw [if_pos h2]
  have he1 : ((rTxt c.s (tk c.ts st.i)).toList == ([105, 100] : List UInt8)) = false := by rw [beq_eq_false_iff_ne, ByteArray.toList_eq, hx]; exact hid
  have he2 : ((rTxt c.s (tk c.ts st.i)).toList == ([100, 114, 111, 112] : List UInt8)) = false := by rw [beq_eq_false_iff_ne, ByteArray.toList_eq, hx]; exact hdr
  have hf5 := fieldNo_le hfn
  have HF : Hid (fieldI (rTxt c.s (tk c.ts st.i)) = (f : Int)) := by show fieldI _ = _; rw [hx]; unfold fieldI; unfold txt at hfn; rw [hfn]
  have H := hide h
  clear h h2 hid hdr hx hfn
  go_enter Tryz.func203, Tryz.ntmps203
  go_wp2_with fail
  go_region
  clear c0 c1 b0 b1 b2 b3
  obtain ⟨w1, hw1⟩ : ∃ w1, w1 = (w.alloc (.cells #[.int .u8 (rk (tk c.ts st.i).kind), .int .i64 ((tk c.ts st.i).at_ : Int), .string (rTxt c.s (tk c.ts st.i)), .int .i64 (rNum c.s (tk c.ts st.i) : Int)] 123)).drew := ⟨_, rfl⟩
  rw [← hw1]
  have G1 : Hid (w.grownBy w1 none) := by rw [hw1]; exact grown_drew (World.grownBy_alloc _ _ _)
  have T1 : Hid (atok w1 w.heap.size c.s (tk c.ts st.i)) := by rw [hw1]; exact heap_alloc_new w _
  clear hw1
  have R1 := hide (H.out.kept G1.out)
  have c2 : w1.cell? ⟨c.rb, 2, none⟩ = some (.int .i64 0) := R1.out.cell 2
  have t2 : w1.cell? ⟨w.heap.size, 2, none⟩ = some (.string (rTxt c.s (tk c.ts st.i))) := T1.out.cell 2
  have l3 := R1.out.lt.1
  have l4 := T1.out.lt
  have HFI : Hid (∀ ww, Calls Tryz.prog 242 #[.string (rTxt c.s (tk c.ts st.i))] ww fun x w' => x = .returned (.int .i64 (f : Int)) ∧ ww.grownBy w' none) := fun ww => by rw [← HF.out]; exact rfield_any _ ww
  go_wp2_with fail
  refine (HFI.out _).mono ?_
  rintro x w3 ⟨rfl, hg3⟩
  have GA := hide (World.grownBy_alloc w1 (.cells #[.int .u8 100, .int .i64 0, .int .i64 0, .slice none 0 0] 167) none)
  have G3 := hide (grown_trans G1.out (grown_trans GA.out hg3))
  have R3 := hide (R1.out.kept (grown_trans GA.out hg3))
  have T3 := hide (T1.out.kept (grown_trans GA.out hg3) (by simp))
  have N3 : Hid (nodeAt w3 w1.heap.size #[.int .u8 100, .int .i64 0, .int .i64 0, .slice none 0 0]) := nodeAt.other (heap_alloc_new w1 _) hg3 (by simp)
  have hz : w.heap.size < w1.heap.size := T1.out.lt
  clear c2 t2 l3 l4 hg3 GA R1 T1 HFI
  obtain ⟨nb, hnb⟩ : ∃ nb, nb = w1.heap.size := ⟨_, rfl⟩
  rw [← hnb] at N3 hz ⊢
  clear hnb G1
  have t0 : w3.cell? ⟨w.heap.size, 0, none⟩ = some (.int .u8 (rk (tk c.ts st.i).kind)) := T3.out.cell 0
  have t1 : w3.cell? ⟨w.heap.size, 1, none⟩ = some (.int .i64 ((tk c.ts st.i).at_ : Int)) := T3.out.cell 1
  have t2 : w3.cell? ⟨w.heap.size, 2, none⟩ = some (.string (rTxt c.s (tk c.ts st.i))) := T3.out.cell 2
  go_wp2_with fail
  refine (rpair_any c hc d f w w3 st nb R3.out hi1 hf5 ha (by omega) (grown_some G3.out) (by omega) N3.out).mono ?_
  rintro x w4 ⟨rfl, n', cs, i', hn4, hl4, hg4, hi4, hlt4, hm4⟩
  have N4 := hide hn4
  have L4 := hide hl4
  have G4 := hide hg4
  have M4 := hide hm4
  clear hn4 hl4 hg4 hm4 t0 t1 t2
  go_wp2
  go_ret
  have hm4 := M4.out
  generalize pairP c.s c.ts f st = r at hm4 ⊢
  rcases r with ⟨en, pl⟩ | ⟨t, st'⟩
  · exact ⟨_, .exit n', i', rfl, ⟨nb, cs, rfl, by omega, N4.out, L4.out⟩, G4.out, hi4, by omega, by show 1 + st.i ≤ _; omega, hm4.1, hm4.2⟩
  · exact ⟨_, .exit n', i', rfl, ⟨nb, cs, rfl, by omega, N4.out, L4.out⟩, G4.out, hi4, by omega, by show 1 + st.i ≤ _; omega, by rw [hm4.1]; rfl, hm4.2.1, by show 1 + st.i ≤ _; omega, hm4.2.2⟩
set_option maxRecDepth 100000 in
set_option maxHeartbeats 2000000 in
theorem ratom_brack (c : RCtx) (hc : c.Good) (d : Int) (w : World) (st : St) (h : Rq c w st.i 0 0 st.atoms d (badI st.bad)) (hi : st.i < c.ts.length) (h8 : (tk c.ts st.i).kind = 8) (hi1 : st.i + 1 < c.ts.length) (hd0 : 0 ≤ d) (hd : d < 12) (ha : st.atoms ≤ 16) (hbad : st.bad ≤ 401) (D : Nat) (HS : DoesQ c 53 (d + 1) (sumP c.ts (atomP c.s c.ts D))) :
    Calls Tryz.prog 203 #[.pointer (some ⟨c.rb, 0, none⟩)] w (OutQ c d st (brackP c.ts (sumP c.ts (atomP c.s c.ts D) ⟨st.i + 1, st.atoms, st.bad⟩)) w) := by
  have c0 : w.cell? ⟨c.rb, 0, none⟩ = some (.slice (some ⟨c.g, 0, none⟩) c.all.length c.cap) := h.cell 0
  have c1 : w.cell? ⟨c.rb, 1, none⟩ = some (.int .i64 st.i) := h.cell 1
  obtain ⟨b0, b1, b2, b3⟩ := hc.cell h hi
  have hfew := hc.few
  have hle := (hc.tk_eq hi).2
  have hl := hc.le
  have hm := hc.cap
  unfold maxLen at hm
  obtain ⟨l1, l2⟩ := h.lt
  have k40 : (rk (tk c.ts st.i).kind == 40) = true := by rw [h8]; rfl
  have k33 : (rk (tk c.ts st.i).kind == 33) = false := by rw [h8]; rfl
  have k119 : (rk (tk c.ts st.i).kind == 119) = false := by rw [h8]; rfl
  have HSS := hide HS
  have H := hide h
  clear h h8 HS
  go_enter Tryz.func203, Tryz.ntmps203
  go_wp2_with fail
  go_region
  clear c0 c1 b0 b1 b2 b3
  obtain ⟨w1, hw1⟩ : ∃ w1, w1 = (w.alloc (.cells #[.int .u8 (rk (tk c.ts st.i).kind), .int .i64 ((tk c.ts st.i).at_ : Int), .string (rTxt c.s (tk c.ts st.i)), .int .i64 (rNum c.s (tk c.ts st.i) : Int)] 123)).drew := ⟨_, rfl⟩
  rw [← hw1]
  have G1 : Hid (w.grownBy w1 none) := by rw [hw1]; exact grown_drew (World.grownBy_alloc _ _ _)
  have T1 : Hid (atok w1 w.heap.size c.s (tk c.ts st.i)) := by rw [hw1]; exact heap_alloc_new w _
  clear hw1
  have R1 := hide (H.out.kept G1.out)
  have c2 : w1.cell? ⟨c.rb, 2, none⟩ = some (.int .i64 0) := R1.out.cell 2
  have t2 : w1.cell? ⟨w.heap.size, 2, none⟩ = some (.string (rTxt c.s (tk c.ts st.i))) := T1.out.cell 2
  have l3 := R1.out.lt.1
  have l4 := T1.out.lt
  have HFI : Hid (∀ ww, Calls Tryz.prog 242 #[.string (rTxt c.s (tk c.ts st.i))] ww fun x w' => x = .returned (.int .i64 (fieldI (rTxt c.s (tk c.ts st.i)))) ∧ ww.grownBy w' none) := fun ww => rfield_any _ ww
  go_wp2_with fail
  refine (HFI.out _).mono ?_
  rintro x w3 ⟨rfl, hg3⟩
  have GA := hide (World.grownBy_alloc w1 (.cells #[.int .u8 100, .int .i64 0, .int .i64 0, .slice none 0 0] 167) none)
  have G3 := hide (grown_trans G1.out (grown_trans GA.out hg3))
  have R3 := hide (R1.out.kept (grown_trans GA.out hg3))
  have T3 := hide (T1.out.kept (grown_trans GA.out hg3) (by simp))
  have N3 : Hid (nodeAt w3 w1.heap.size #[.int .u8 100, .int .i64 0, .int .i64 0, .slice none 0 0]) := nodeAt.other (heap_alloc_new w1 _) hg3 (by simp)
  have hz : w.heap.size < w1.heap.size := T1.out.lt
  clear c2 t2 l3 l4 hg3 GA R1 T1 HFI
  obtain ⟨nb, hnb⟩ : ∃ nb, nb = w1.heap.size := ⟨_, rfl⟩
  rw [← hnb] at N3 hz ⊢
  clear hnb G1
  have t0 : w3.cell? ⟨w.heap.size, 0, none⟩ = some (.int .u8 (rk (tk c.ts st.i).kind)) := T3.out.cell 0
  have t1 : w3.cell? ⟨w.heap.size, 1, none⟩ = some (.int .i64 ((tk c.ts st.i).at_ : Int)) := T3.out.cell 1
  have t2 : w3.cell? ⟨w.heap.size, 2, none⟩ = some (.string (rTxt c.s (tk c.ts st.i))) := T3.out.cell 2
  go_wp2_with fail
  refine (rinner_go c hc _ st.i _ _ _ R3.out hi1 hd0 hd).mono ?_
  rintro x w4 ⟨rfl, hR4, hG4⟩
  have G4 := hide (grown_trans (grown_some G3.out) hG4)
  have hz4 : w.heap.size ≤ w4.heap.size := G4.out.size
  have HAC := hide (HSS.out w4 ⟨st.i + 1, st.atoms, st.bad⟩ hR4 hi1 ha hbad)
  clear hR4 hG4 t0 t1 t2 HSS R3 N3 T3 G3
  generalize hr : sumP c.ts (atomP c.s c.ts D) ⟨st.i + 1, st.atoms, st.bad⟩ = r at HAC ⊢
  go_wp2_with fail
  refine HAC.out.mono ?_
  rintro x w5 ⟨v, tr, i', rfl, hv, hg5, hi', hle', hlv, hm5⟩
  obtain ⟨bx, rfl, hbx, _⟩ := RV_ptr hv
  have G5 := hide (grown_trans G4.out hg5)
  have V5 := hide hv
  clear hv hg5 G4 HAC
  rcases r with ⟨en, pl⟩ | ⟨t, st'⟩
  · obtain ⟨hen, a', d', b', hR5⟩ := hm5
    have R5 := hide hR5
    have HEN := hide hen
    have HRR := hide hr
    have c5 : w5.cell? ⟨c.rb, 5, none⟩ = some (.int .i64 d') := hR5.cell 5
    have f5 : w5.frozen? ⟨c.rb, 5, none⟩ = false := hR5.frozen 5
    clear hR5 hen hr
    unfold ptrV
    obtain ⟨w6, hw6⟩ : ∃ w6, w6 = w5.setCell ⟨c.rb, 5, none⟩ (.int .i64 (wrap64 (d' - 1))) := ⟨_, rfl⟩
    have R6 : Hid (Rq c w6 i' en pl a' (wrap64 (d' - 1)) b') := by rw [hw6]; exact R5.out.set5 hc _
    have g56 : w5.grownBy w6 (some c.rb) := by rw [hw6]; exact grown_set _ _ _ _
    have G6 := hide (grown_trans G5.out g56)
    have V6 := hide (RV_weak (RV_grown V5.out g56 (fun b hb e => by cases e; omega)) (ok' := fun b => w.heap.size ≤ b) (fun b _ hb => by omega))
    clear g56 R5 G5 V5
    go_wp2_with fail
    rw [← hw6]
    clear hw6
    refine (ris_later c hc _ _ _ _ _ _ _ _ HEN.out R6.out).mono ?_
    rintro x w7 ⟨rfl, hg7⟩
    have R7 := hide (R6.out.kept hg7)
    have G7 := hide (grown_trans G6.out (grown_some hg7))
    have V7 := hide (RV_kept V6.out hg7)
    have c0 : w7.cell? ⟨c.rb, 0, none⟩ = some (.slice (some ⟨c.g, 0, none⟩) c.all.length c.cap) := R7.out.cell 0
    have c1 : w7.cell? ⟨c.rb, 1, none⟩ = some (.int .i64 (i' : Nat)) := R7.out.cell 1
    obtain ⟨e0, e1, e2, e3⟩ := hc.cell R7.out hi'
    have hle2 := (hc.tk_eq hi').2
    obtain ⟨l3, l4⟩ := R7.out.lt
    clear hg7 c5 f5
    go_wp2_with fail
    go_region_with (go_at_call 54; refine (rfail_more c hc _ _ _ _ _ _ _ _ _ HEN.out R7.out.drew).mono ?_; rintro x w8 ⟨rfl, hG0⟩; have hG := grown_undrew hG0; clear hG0)
    all_goals
      clear c0 c1 e0 e1 e2 e3 hle2 l3 l4
      go_wp2
      go_ret
      rw [HRR.out]; exact ⟨_, tr, i', rfl, RV_kept V7.out hG, grown_trans G7.out (grown_some hG), hi', by have h1 : st.i + 1 ≤ i' := hle'; omega, by have h1 : lv tr + (st.i + 1) ≤ i' + 1 := hlv; omega, HEN.out, _, _, _, R7.out.kept hG⟩
  · obtain ⟨htr, hii, hlv2, hR5⟩ := hm5
    have R5 := hide hR5
    have HRR := hide hr
    have HOK : Hid (tr = flat t ∧ i' = st'.i ∧ lv tr + (st.i + 1) ≤ i') := ⟨htr, hii, hlv2⟩
    have c5 : w5.cell? ⟨c.rb, 5, none⟩ = some (.int .i64 (d + 1)) := hR5.cell 5
    have f5 : w5.frozen? ⟨c.rb, 5, none⟩ = false := hR5.frozen 5
    clear hR5 hr htr hii hlv2
    unfold ptrV
    obtain ⟨w6, hw6⟩ : ∃ w6, w6 = w5.setCell ⟨c.rb, 5, none⟩ (.int .i64 d) := ⟨_, rfl⟩
    have R6 : Hid (Rq c w6 i' 0 0 st'.atoms d (badI st'.bad)) := by rw [hw6]; exact R5.out.set5 hc _
    have g56 : w5.grownBy w6 (some c.rb) := by rw [hw6]; exact grown_set _ _ _ _
    have G6 := hide (grown_trans G5.out g56)
    have V6 := hide (RV_weak (RV_grown V5.out g56 (fun b hb e => by cases e; omega)) (ok' := fun b => w.heap.size ≤ b) (fun b _ hb => by omega))
    clear g56 R5 G5 V5
    go_wp2_with fail
    rw [← hw6]
    clear hw6
    by_cases hk9 : (tk c.ts i').kind = 9
    · have hi3 : i' + 1 < c.ts.length := hc.closed.next hi' (by rw [hk9]; decide) (by rw [hk9]; decide)
      have hk : rk (tk c.ts i').kind = 41 := by rw [hk9]; rfl
      refine (ris_yes c hc _ i' _ _ _ _ 41 R6.out hi' hk).mono ?_
      rintro x w7 ⟨rfl, hR7, hG7⟩
      have R7 := hide hR7
      have HK9 := hide hk9
      have G7 := hide (grown_trans G6.out hG7)
      have V7 := hide (RV_grown V6.out hG7 (fun b hb e => by cases e; omega))
      clear hR7 hG7 c5 f5 hk hk9
      go_wp2
      go_ret
      obtain ⟨o1, o2, o3⟩ := HOK.out
      rw [HRR.out]
      unfold brackP
      simp only []
      rw [if_pos (by rw [← o2]; exact HK9.out)]
      exact ⟨_, tr, i' + 1, rfl, V7.out, G7.out, hi3, by have h1 : st.i + 1 ≤ i' := hle'; omega, by omega, o1, by rw [o2], by omega, R7.out⟩
    · have hk : ¬ rk (tk c.ts i').kind = 41 := fun e => hk9 (rk_inj (n := 9) (by decide) (e.trans rfl))
      refine (ris_no c hc _ i' _ _ _ _ 41 R6.out hi' hk).mono ?_
      rintro x w7 ⟨rfl, hg7⟩
      have R7 := hide (R6.out.kept hg7)
      have HK9 := hide hk9
      have G7 := hide (grown_trans G6.out (grown_some hg7))
      have V7 := hide (RV_kept V6.out hg7)
      have c0 : w7.cell? ⟨c.rb, 0, none⟩ = some (.slice (some ⟨c.g, 0, none⟩) c.all.length c.cap) := R7.out.cell 0
      have c1 : w7.cell? ⟨c.rb, 1, none⟩ = some (.int .i64 (i' : Nat)) := R7.out.cell 1
      obtain ⟨e0, e1, e2, e3⟩ := hc.cell R7.out hi'
      have hle2 := (hc.tk_eq hi').2
      obtain ⟨l3, l4⟩ := R7.out.lt
      clear hg7 c5 f5 hk hk9
      go_wp2_with fail
      go_region_with (go_at_call 54; refine (rfail_first c hc _ _ _ _ _ _ 3 _ R7.out.drew).mono ?_; rintro x w8 ⟨rfl, hR8, hG0⟩; have hG := grown_undrew hG0; clear hG0)
      all_goals
        have R8 := hide hR8
        have G8 := hide hG
        clear c0 c1 e0 e1 e2 e3 hle2 l3 l4 hR8 hG
        go_wp2
        go_ret
        obtain ⟨o1, o2, o3⟩ := HOK.out
        rw [HRR.out]
        unfold brackP
        simp only []
        rw [if_neg (by rw [← o2]; exact HK9.out), ← o2]
        exact ⟨_, tr, i', rfl, RV_grown V7.out G8.out (fun b hb e => by cases e; omega), grown_trans G7.out G8.out, hi', by have h1 : st.i + 1 ≤ i' := hle'; omega, by omega, by decide, _, _, _, R8.out⟩
set_option maxRecDepth 100000 in
set_option maxHeartbeats 2000000 in
theorem ratom_brack_many (c : RCtx) (hc : c.Good) (d : Int) (w : World) (st : St) (h : Rq c w st.i 0 0 st.atoms d (badI st.bad)) (hi : st.i < c.ts.length) (hd : d = 12) (h8 : (tk c.ts st.i).kind = 8) (hi1 : st.i + 1 < c.ts.length) :
    Calls Tryz.prog 203 #[.pointer (some ⟨c.rb, 0, none⟩)] w (OutQ c d st (.error (7, (tk c.ts st.i).at_)) w) := by
  have c0 : w.cell? ⟨c.rb, 0, none⟩ = some (.slice (some ⟨c.g, 0, none⟩) c.all.length c.cap) := h.cell 0
  have c1 : w.cell? ⟨c.rb, 1, none⟩ = some (.int .i64 st.i) := h.cell 1
  obtain ⟨b0, b1, b2, b3⟩ := hc.cell h hi
  have hfew := hc.few
  have hle := (hc.tk_eq hi).2
  have hl := hc.le
  have hm := hc.cap
  unfold maxLen at hm
  obtain ⟨l1, l2⟩ := h.lt
  have k40 : (rk (tk c.ts st.i).kind == 40) = true := by rw [h8]; rfl
  have k33 : (rk (tk c.ts st.i).kind == 33) = false := by rw [h8]; rfl
  have k119 : (rk (tk c.ts st.i).kind == 119) = false := by rw [h8]; rfl
  subst hd
  have H := hide h
  clear h h8
  go_enter Tryz.func203, Tryz.ntmps203
  go_wp2_with fail
  go_region
  clear c0 c1 b0 b1 b2 b3
  obtain ⟨w1, hw1⟩ : ∃ w1, w1 = (w.alloc (.cells #[.int .u8 (rk (tk c.ts st.i).kind), .int .i64 ((tk c.ts st.i).at_ : Int), .string (rTxt c.s (tk c.ts st.i)), .int .i64 (rNum c.s (tk c.ts st.i) : Int)] 123)).drew := ⟨_, rfl⟩
  rw [← hw1]
  have G1 : Hid (w.grownBy w1 none) := by rw [hw1]; exact grown_drew (World.grownBy_alloc _ _ _)
  have T1 : Hid (atok w1 w.heap.size c.s (tk c.ts st.i)) := by rw [hw1]; exact heap_alloc_new w _
  clear hw1
  have R1 := hide (H.out.kept G1.out)
  have c2 : w1.cell? ⟨c.rb, 2, none⟩ = some (.int .i64 0) := R1.out.cell 2
  have t2 : w1.cell? ⟨w.heap.size, 2, none⟩ = some (.string (rTxt c.s (tk c.ts st.i))) := T1.out.cell 2
  have l3 := R1.out.lt.1
  have l4 := T1.out.lt
  have HFI : Hid (∀ ww, Calls Tryz.prog 242 #[.string (rTxt c.s (tk c.ts st.i))] ww fun x w' => x = .returned (.int .i64 (fieldI (rTxt c.s (tk c.ts st.i)))) ∧ ww.grownBy w' none) := fun ww => rfield_any _ ww
  go_wp2_with fail
  refine (HFI.out _).mono ?_
  rintro x w3 ⟨rfl, hg3⟩
  have GA := hide (World.grownBy_alloc w1 (.cells #[.int .u8 100, .int .i64 0, .int .i64 0, .slice none 0 0] 167) none)
  have G3 := hide (grown_trans G1.out (grown_trans GA.out hg3))
  have R3 := hide (R1.out.kept (grown_trans GA.out hg3))
  have T3 := hide (T1.out.kept (grown_trans GA.out hg3) (by simp))
  have N3 : Hid (nodeAt w3 w1.heap.size #[.int .u8 100, .int .i64 0, .int .i64 0, .slice none 0 0]) := nodeAt.other (heap_alloc_new w1 _) hg3 (by simp)
  have hz : w.heap.size < w1.heap.size := T1.out.lt
  clear c2 t2 l3 l4 hg3 GA R1 T1 HFI
  obtain ⟨nb, hnb⟩ : ∃ nb, nb = w1.heap.size := ⟨_, rfl⟩
  rw [← hnb] at N3 hz ⊢
  clear hnb G1
  have t0 : w3.cell? ⟨w.heap.size, 0, none⟩ = some (.int .u8 (rk (tk c.ts st.i).kind)) := T3.out.cell 0
  have t1 : w3.cell? ⟨w.heap.size, 1, none⟩ = some (.int .i64 ((tk c.ts st.i).at_ : Int)) := T3.out.cell 1
  have t2 : w3.cell? ⟨w.heap.size, 2, none⟩ = some (.string (rTxt c.s (tk c.ts st.i))) := T3.out.cell 2
  go_wp2_with fail
  refine (rinner_many c hc _ st.i _ _ R3.out hi1).mono ?_
  rintro x w4 ⟨rfl, hR4, hG4⟩
  have G4 := hide (grown_trans (grown_some G3.out) hG4)
  have R4 := hide hR4
  have HEN : Hid (((7 : Int) == 0) = false) := rfl
  have hz4 : w.heap.size ≤ w4.heap.size := G4.out.size
  obtain ⟨i', hii⟩ : ∃ i', i' = st.i + 1 := ⟨_, rfl⟩
  rw [← hii] at R4
  have hi' : i' < c.ts.length := by omega
  have HII := hide hii
  have HAC := hide (rsum_later c hc (rseq_later c hc (rpart_later c hc (ratom_later c hc))) w4 i' 7 _ _ _ _ rfl R4.out hi')
  clear hR4 hG4 t0 t1 t2 R3 N3 T3 G3 hii
  go_wp2_with fail
  refine HAC.out.mono ?_
  rintro x w5 ⟨v, rfl, hv, hg5⟩
  obtain ⟨bx, rfl, hbx, _⟩ := RV_ptr hv
  have G5 := hide (grown_trans G4.out (grown_some hg5))
  have R5 := hide (R4.out.kept hg5)
  have V5 := hide hv
  have c5 : w5.cell? ⟨c.rb, 5, none⟩ = some (.int .i64 13) := R5.out.cell 5
  have f5 : w5.frozen? ⟨c.rb, 5, none⟩ = false := R5.out.frozen 5
  clear hv hg5 G4 R4 HAC
  unfold ptrV
  obtain ⟨w6, hw6⟩ : ∃ w6, w6 = w5.setCell ⟨c.rb, 5, none⟩ (.int .i64 12) := ⟨_, rfl⟩
  have hz6 : w6.heap.size = w5.heap.size := by rw [hw6]; simp [World.setCell]
  have R6 : Hid (Rq c w6 (i' : Nat) 7 (tk c.ts st.i).at_ st.atoms 12 (badI st.bad)) := by rw [hw6]; exact R5.out.set5 hc _
  have g56 : w5.grownBy w6 (some c.rb) := by rw [hw6]; exact grown_set _ _ _ _
  have G6 := hide (grown_trans G5.out g56)
  have V6 := hide (RV_weak (RV_grown V5.out g56 (fun b hb e => by cases e; omega)) (ok' := fun b => w.heap.size ≤ b) (fun b _ hb => by omega))
  clear g56 R5 G5 V5 hz6
  go_wp2_with fail
  rw [← hw6]
  clear hw6
  refine (ris_later c hc _ _ _ _ _ _ _ _ HEN.out R6.out).mono ?_
  rintro x w7 ⟨rfl, hg7⟩
  have R7 := hide (R6.out.kept hg7)
  have G7 := hide (grown_trans G6.out (grown_some hg7))
  have V7 := hide (RV_kept V6.out hg7)
  have c0 : w7.cell? ⟨c.rb, 0, none⟩ = some (.slice (some ⟨c.g, 0, none⟩) c.all.length c.cap) := R7.out.cell 0
  have c1 : w7.cell? ⟨c.rb, 1, none⟩ = some (.int .i64 (i' : Nat)) := R7.out.cell 1
  obtain ⟨e0, e1, e2, e3⟩ := hc.cell R7.out hi'
  have hle2 := (hc.tk_eq hi').2
  obtain ⟨l3, l4⟩ := R7.out.lt
  clear hg7 c5 f5
  go_wp2_with fail
  go_region_with (go_at_call 54; refine (rfail_more c hc _ _ _ _ _ _ _ _ _ HEN.out R7.out.drew).mono ?_; rintro x w8 ⟨rfl, hG0⟩; have hG := grown_undrew hG0; clear hG0)
  all_goals
    clear c0 c1 e0 e1 e2 e3 hle2 l3 l4
    go_wp2
    go_ret
    exact ⟨_, .exit 1, i', rfl, RV_kept V7.out hG, grown_trans G7.out (grown_some hG), hi', by have := HII.out; omega, by show 1 + st.i ≤ _; have := HII.out; omega, HEN.out, _, _, _, R7.out.kept hG⟩
set_option maxRecDepth 100000 in
set_option maxHeartbeats 2000000 in
theorem ratom_not_many (c : RCtx) (hc : c.Good) (d : Int) (w : World) (st : St) (h : Rq c w st.i 0 0 st.atoms d (badI st.bad)) (hi : st.i < c.ts.length) (hd : d = 12) (h7 : (tk c.ts st.i).kind = 7) (hi1 : st.i + 1 < c.ts.length) :
    Calls Tryz.prog 203 #[.pointer (some ⟨c.rb, 0, none⟩)] w (OutQ c d st (.error (7, (tk c.ts st.i).at_)) w) := by
  have c0 : w.cell? ⟨c.rb, 0, none⟩ = some (.slice (some ⟨c.g, 0, none⟩) c.all.length c.cap) := h.cell 0
  have c1 : w.cell? ⟨c.rb, 1, none⟩ = some (.int .i64 st.i) := h.cell 1
  obtain ⟨b0, b1, b2, b3⟩ := hc.cell h hi
  have hfew := hc.few
  have hle := (hc.tk_eq hi).2
  have hl := hc.le
  have hm := hc.cap
  unfold maxLen at hm
  obtain ⟨l1, l2⟩ := h.lt
  have k40 : (rk (tk c.ts st.i).kind == 40) = false := by rw [h7]; rfl
  have k33 : (rk (tk c.ts st.i).kind == 33) = true := by rw [h7]; rfl
  have k119 : (rk (tk c.ts st.i).kind == 119) = false := by rw [h7]; rfl
  subst hd
  have H := hide h
  clear h h7
  go_enter Tryz.func203, Tryz.ntmps203
  go_wp2_with fail
  go_region
  clear c0 c1 b0 b1 b2 b3
  obtain ⟨w1, hw1⟩ : ∃ w1, w1 = (w.alloc (.cells #[.int .u8 (rk (tk c.ts st.i).kind), .int .i64 ((tk c.ts st.i).at_ : Int), .string (rTxt c.s (tk c.ts st.i)), .int .i64 (rNum c.s (tk c.ts st.i) : Int)] 123)).drew := ⟨_, rfl⟩
  rw [← hw1]
  have G1 : Hid (w.grownBy w1 none) := by rw [hw1]; exact grown_drew (World.grownBy_alloc _ _ _)
  have T1 : Hid (atok w1 w.heap.size c.s (tk c.ts st.i)) := by rw [hw1]; exact heap_alloc_new w _
  clear hw1
  have R1 := hide (H.out.kept G1.out)
  have c2 : w1.cell? ⟨c.rb, 2, none⟩ = some (.int .i64 0) := R1.out.cell 2
  have t2 : w1.cell? ⟨w.heap.size, 2, none⟩ = some (.string (rTxt c.s (tk c.ts st.i))) := T1.out.cell 2
  have l3 := R1.out.lt.1
  have l4 := T1.out.lt
  have HFI : Hid (∀ ww, Calls Tryz.prog 242 #[.string (rTxt c.s (tk c.ts st.i))] ww fun x w' => x = .returned (.int .i64 (fieldI (rTxt c.s (tk c.ts st.i)))) ∧ ww.grownBy w' none) := fun ww => rfield_any _ ww
  go_wp2_with fail
  refine (HFI.out _).mono ?_
  rintro x w3 ⟨rfl, hg3⟩
  have GA := hide (World.grownBy_alloc w1 (.cells #[.int .u8 100, .int .i64 0, .int .i64 0, .slice none 0 0] 167) none)
  have G3 := hide (grown_trans G1.out (grown_trans GA.out hg3))
  have R3 := hide (R1.out.kept (grown_trans GA.out hg3))
  have T3 := hide (T1.out.kept (grown_trans GA.out hg3) (by simp))
  have N3 : Hid (nodeAt w3 w1.heap.size #[.int .u8 100, .int .i64 0, .int .i64 0, .slice none 0 0]) := nodeAt.other (heap_alloc_new w1 _) hg3 (by simp)
  have hz : w.heap.size < w1.heap.size := T1.out.lt
  clear c2 t2 l3 l4 hg3 GA R1 T1 HFI
  obtain ⟨nb, hnb⟩ : ∃ nb, nb = w1.heap.size := ⟨_, rfl⟩
  rw [← hnb] at N3 hz ⊢
  clear hnb G1
  have t0 : w3.cell? ⟨w.heap.size, 0, none⟩ = some (.int .u8 (rk (tk c.ts st.i).kind)) := T3.out.cell 0
  have t1 : w3.cell? ⟨w.heap.size, 1, none⟩ = some (.int .i64 ((tk c.ts st.i).at_ : Int)) := T3.out.cell 1
  have t2 : w3.cell? ⟨w.heap.size, 2, none⟩ = some (.string (rTxt c.s (tk c.ts st.i))) := T3.out.cell 2
  go_wp2_with fail
  refine (rinner_many c hc _ st.i _ _ R3.out hi1).mono ?_
  rintro x w4 ⟨rfl, hR4, hG4⟩
  have G4 := hide (grown_trans (grown_some G3.out) hG4)
  have R4 := hide hR4
  have HEN : Hid (((7 : Int) == 0) = false) := rfl
  have hz4 : w.heap.size ≤ w4.heap.size := G4.out.size
  obtain ⟨i', hii⟩ : ∃ i', i' = st.i + 1 := ⟨_, rfl⟩
  rw [← hii] at R4
  have hi' : i' < c.ts.length := by omega
  have HII := hide hii
  have HAC := hide (ratom_later c hc w4 i' 7 _ _ _ _ rfl R4.out hi')
  clear hR4 hG4 t0 t1 t2 R3 N3 T3 G3 hii
  go_wp2_with fail
  refine HAC.out.mono ?_
  rintro x w5 ⟨v, rfl, hv, hg5⟩
  obtain ⟨bx, rfl, hbx, _⟩ := RV_ptr hv
  have G5 := hide (grown_trans G4.out (grown_some hg5))
  have R5 := hide (R4.out.kept hg5)
  have V5 := hide hv
  have c5 : w5.cell? ⟨c.rb, 5, none⟩ = some (.int .i64 13) := R5.out.cell 5
  have f5 : w5.frozen? ⟨c.rb, 5, none⟩ = false := R5.out.frozen 5
  clear hv hg5 G4 R4 HAC
  unfold ptrV
  obtain ⟨w6, hw6⟩ : ∃ w6, w6 = w5.setCell ⟨c.rb, 5, none⟩ (.int .i64 12) := ⟨_, rfl⟩
  have hz6 : w6.heap.size = w5.heap.size := by rw [hw6]; simp [World.setCell]
  have R6 : Hid (Rq c w6 (i' : Nat) 7 (tk c.ts st.i).at_ st.atoms 12 (badI st.bad)) := by rw [hw6]; exact R5.out.set5 hc _
  have g56 : w5.grownBy w6 (some c.rb) := by rw [hw6]; exact grown_set _ _ _ _
  have G6 := hide (grown_trans G5.out g56)
  have V6 := hide (RV_weak (RV_grown V5.out g56 (fun b hb e => by cases e; omega)) (ok' := fun b => w.heap.size ≤ b) (fun b _ hb => by omega))
  have hB6 : w.heap.size ≤ w6.heap.size := G6.out.size
  have S6 : Hid ((RV (fun b => w.heap.size ≤ b) ((w6.alloc (.cells #[ptrV bx] 31)).alloc (.cells (rGroup 33 w6.heap.size 1 1) 167)) (.scope (.exit 1))).1 (ptrV (w6.heap.size + 1))) := one_new (k := 33) hB6 V6.out
  have g67 : w6.grownBy ((w6.alloc (.cells #[ptrV bx] 31)).alloc (.cells (rGroup 33 w6.heap.size 1 1) 167)) none := grown_trans (World.grownBy_alloc _ _ none) (World.grownBy_alloc _ _ none)
  obtain ⟨w7, hw7⟩ : ∃ w7, w7 = (w6.alloc (.cells #[ptrV bx] 31)).alloc (.cells (rGroup 33 w6.heap.size 1 1) 167) := ⟨_, rfl⟩
  rw [← hw7] at S6 g67
  rw [hz6] at S6 hw7
  have R7 := hide (R6.out.kept g67)
  have G7 := hide (grown_trans G6.out (grown_some g67))
  have V7 := hide (RV_kept V6.out g67)
  unfold ptrV rGroup at hw7
  clear g56 g67 R5 R6 G5 G6 V5 V6 hz6 hB6
  go_wp2_with fail
  rw [← hw6, ← hw7]
  clear c5 f5 hw6 hw7
  refine (risTest_any _ (szC (.exit 1)) (.exit 1) _ w7 (Nat.le_refl _) V7.out).mono ?_
  rintro x w8 ⟨rfl, hw8⟩
  subst hw8
  rw [show isT (.exit 1) = true from rfl]
  go_wp2_with fail
  go_quiet (fail)
  go_wp2
  go_ret
  exact ⟨_, .scope (.exit 1), i', rfl, RV_grown S6.out (grown_drewN (grown_refl _ none) _) (fun b hb => by simp), grown_drewN G7.out _, hi', by have := HII.out; omega, by show 1 + st.i ≤ _; have := HII.out; omega, HEN.out, _, _, _, R7.out.drewN _⟩
/-- An atom, all ways together. -/
theorem ratom_any (c : RCtx) (hc : c.Good) : ∀ D : Nat, D ≤ 12 → DoesQ c 203 ((12 : Int) - D) (atomP c.s c.ts D) := by
  have word : ∀ (d : Int) (w : World) (st : St), Rq c w st.i 0 0 st.atoms d (badI st.bad) → st.i < c.ts.length → st.atoms ≤ 16 → (tk c.ts st.i).kind = 2 → Calls Tryz.prog 203 #[.pointer (some ⟨c.rb, 0, none⟩)] w (OutQ c d st (wordP c.s c.ts st) w) := by
    intro d w st h hi ha hk
    have hi1 : st.i + 1 < c.ts.length := hc.closed.next hi (by rw [hk]; decide) (by rw [hk]; decide)
    unfold wordP
    by_cases h1 : txt c.s (tk c.ts st.i) = [105, 100]
    · rw [if_pos h1]; exact ratom_id c hc d w st h hi hk h1 hi1
    rw [if_neg h1]
    by_cases h2 : txt c.s (tk c.ts st.i) = [100, 114, 111, 112]
    · rw [if_pos h2]; exact ratom_drop c hc d w st h hi hk h1 h2 hi1
    rw [if_neg h2]
    cases hf : fieldNo (txt c.s (tk c.ts st.i)) with
    | none => exact ratom_word c hc d w st h hi hk h1 h2 hf
    | some f => exact ratom_field c hc d w st h hi hk h1 h2 f hf hi1 ha
  intro D
  induction D with
  | zero =>
    intro _ w st h hi ha hb
    unfold atomP
    by_cases h2 : (tk c.ts st.i).kind = 2
    · rw [if_pos h2]; exact word _ w st h hi ha h2
    rw [if_neg h2]
    by_cases h7 : (tk c.ts st.i).kind = 7
    · rw [if_pos h7]; exact ratom_not_many c hc _ w st h hi rfl h7 (hc.closed.next hi (by rw [h7]; decide) (by rw [h7]; decide))
    rw [if_neg h7]
    by_cases h8 : (tk c.ts st.i).kind = 8
    · rw [if_pos h8]; exact ratom_brack_many c hc _ w st h hi rfl h8 (hc.closed.next hi (by rw [h8]; decide) (by rw [h8]; decide))
    rw [if_neg h8]
    exact ratom_none c hc _ w st h hi h2 h7 h8
  | succ D ih =>
    intro hD w st h hi ha hb
    have ih' := ih (by omega)
    have e : ((12 : Int) - ((D + 1 : Nat) : Int)) + 1 = (12 : Int) - D := by omega
    rw [← e] at ih'
    unfold atomP
    by_cases h2 : (tk c.ts st.i).kind = 2
    · rw [if_pos h2]; exact word _ w st h hi ha h2
    rw [if_neg h2]
    by_cases h7 : (tk c.ts st.i).kind = 7
    · rw [if_pos h7]; exact ratom_not c hc _ w st h hi h7 (hc.closed.next hi (by rw [h7]; decide) (by rw [h7]; decide)) (by omega) (by omega) ha hb D ih'
    rw [if_neg h7]
    by_cases h8 : (tk c.ts st.i).kind = 8
    · rw [if_pos h8]
      exact ratom_brack c hc _ w st h hi h8 (hc.closed.next hi (by rw [h8]; decide) (by rw [h8]; decide)) (by omega) (by omega) ha hb D (rsum_any c hc _ (rseq_any c hc _ (rpart_any c hc _ ih' (goes_atom hc.closed D)) (goes_part hc.closed (goes_atom hc.closed D))) (goes_seq hc.closed (goes_atom hc.closed D)))
    rw [if_neg h8]
    exact ratom_none c hc _ w st h hi h2 h7 h8
end Go.Proofs.YtlhkfafdioakeaaGreatDoor
/- Proved here: what the document's reader makes of a text, given what its tokens are. -/
namespace Go.Proofs.YtlhkfafdioakeaaGreatDoor
open Go.RowKit Go.Weft
set_option linter.unusedVariables false
set_option linter.unusedSimpArgs false
theorem lex_prefix (s : ByteArray) : ∀ f i, ∃ r, lex s false f i = lex s true f i ++ r
  | 0, i => ⟨[], rfl⟩
  | f + 1, i => by
    unfold lex
    split
    · exact ⟨[], rfl⟩
    · split
      · exact lex_prefix s f (i + 1)
      · split
        · obtain ⟨r, e⟩ := lex_prefix s f (runEnd s true s.size (i + 1))
          exact ⟨r, by rw [e]; rfl⟩
        · split
          · obtain ⟨r, e⟩ := lex_prefix s f (i + 1)
            exact ⟨r, by rw [e]; rfl⟩
          · split
            · obtain ⟨r, e⟩ := lex_prefix s f (runEnd s false s.size (i + 1))
              exact ⟨r, by rw [e]; rfl⟩
            · split
              · split
                · obtain ⟨r, e⟩ := lex_prefix s f (i + 2)
                  exact ⟨r, by rw [e]; rfl⟩
                · exact ⟨_, rfl⟩
              · split
                · exact ⟨_, rfl⟩
                · obtain ⟨r, e⟩ := lex_prefix s f (i + 1)
                  exact ⟨r, by rw [e]; rfl⟩
theorem toks_prefix (s : ByteArray) : ∃ r, toks s false 0 = toks s true 0 ++ r := lex_prefix s s.size 0
theorem signK_range (c : Int) : 0 ≤ signK c ∧ signK c ≤ 11 := by
  unfold signK
  repeat' split
  all_goals decide
theorem lex_kind (s : ByteArray) : ∀ f i, ∀ t ∈ lex s true f i, 0 ≤ t.kind ∧ t.kind ≤ 11
  | 0, i, t, ht => by
    rw [lex, List.mem_singleton] at ht
    rw [ht]; simp
  | f + 1, i, t, ht => by
    unfold lex at ht
    split at ht
    · rw [List.mem_singleton] at ht
      rw [ht]; simp
    · split at ht
      · exact lex_kind s f _ t ht
      · split at ht
        · rcases List.mem_cons.1 ht with rfl | ht
          · simp
          · exact lex_kind s f _ t ht
        · split at ht
          · rcases List.mem_cons.1 ht with rfl | ht
            · simp
            · exact lex_kind s f _ t ht
          · split at ht
            · rcases List.mem_cons.1 ht with rfl | ht
              · simp
              · exact lex_kind s f _ t ht
            · split at ht
              · split at ht
                · rcases List.mem_cons.1 ht with rfl | ht
                  · simp
                  · exact lex_kind s f _ t ht
                · rcases List.mem_cons.1 ht with rfl | ht
                  · simp
                  · cases ht
              · split at ht
                · rcases List.mem_cons.1 ht with rfl | ht
                  · simp
                  · cases ht
                · rcases List.mem_cons.1 ht with rfl | ht
                  · exact signK_range _
                  · exact lex_kind s f _ t ht
theorem tk_kind (s : ByteArray) (i : Nat) : 0 ≤ (tk (toks s true 0) i).kind ∧ (tk (toks s true 0) i).kind ≤ 11 := by
  unfold tk
  rw [List.getD_eq_getElem?_getD]
  cases h : (toks s true 0)[i]? with
  | none => decide
  | some t => exact lex_kind s _ _ t (List.mem_of_getElem? h)
theorem rk_zero {k : Int} (h : 0 ≤ k ∧ k ≤ 11) (h0 : ¬ k = 0) : ¬ rk k = 0 := by
  have : k = 1 ∨ k = 2 ∨ k = 3 ∨ k = 4 ∨ k = 5 ∨ k = 6 ∨ k = 7 ∨ k = 8 ∨ k = 9 ∨ k = 10 ∨ k = 11 := by omega
  rcases this with rfl | rfl | rfl | rfl | rfl | rfl | rfl | rfl | rfl | rfl | rfl <;> decide
/-- What the document's Read answers. -/
def OutRR (r : Except (Int × Nat) Code) (w : World) (x : Ending) (w' : World) : Prop :=
  w.grownBy w' none ∧ match r with
  | .ok t => ∃ b, x = .returned (.tuple #[ptrV b, .int .i64 0, .int .i64 0]) ∧ (RV (fun b => w.heap.size ≤ b) w' (flat t)).1 (ptrV b)
  | .error (en, pl) => x = .returned (.tuple #[.pointer none, .int .i64 en, .int .i64 pl])
set_option maxRecDepth 100000 in
set_option maxHeartbeats 400000 in
theorem rread_long (s : ByteArray) (w : World) (hs : 400 < s.size) (hs2 : s.size ≤ 9223372036854775807) :
    Calls Tryz.prog 15 #[.string s] w (OutRR (.error (2, 0)) w) := by
  go_enter Tryz.func15, Tryz.ntmps15
  go_wp2
  go_ret3
  exact ⟨grown_refl _ _, rfl⟩
set_option maxRecDepth 100000 in
set_option maxHeartbeats 1000000 in
theorem rread_short (s : ByteArray) (w : World) (hs : s.size ≤ 400)
    (HTK : Calls Tryz.prog 52 #[.string s] w fun e w' => ∃ v, e = .returned v ∧ w'.ownsRow w.heap.size 123 4 v (toks s false 0).length (rCells s (toks s false 0)) ∧ Below w.heap.size w w') :
    Calls Tryz.prog 15 #[.string s] w (OutRR (readP s (toks s true 0)) w) := by
  obtain ⟨r0, hr0⟩ : ∃ r0, r0 = readP s (toks s true 0) := ⟨_, rfl⟩
  rw [← hr0]
  have HR0 := hide hr0
  have HTT := hide HTK
  clear hr0 HTK
  go_enter Tryz.func15, Tryz.ntmps15
  go_wp2_with fail
  refine HTT.out.mono ?_
  rintro x w1 ⟨v, rfl, hown, hbel⟩
  obtain ⟨rest, hpre⟩ := toks_prefix s
  have hlen : 0 < (toks s true 0).length := (toks_closed s 0).1
  have hlen2 : (toks s true 0).length ≤ (toks s false 0).length := by rw [hpre]; simp
  rcases hown.2 with ⟨_, h0⟩ | ⟨g, cap, cur, rfl, hbg, hgg, hnc, hcm, hcs, htake⟩
  · omega
  have hG1 := grown_below hbel
  have hgl : g < w1.heap.size := (Array.getElem?_eq_some_iff.1 hgg).1
  have hsz1 := hbel.size
  let c : RCtx := ⟨s, toks s true 0, toks s false 0, g, cap, w1.heap.size, cur⟩
  have hc : c.Good := ⟨hgl, hcs, hnc, hcm, htake, hs, rfl, rest, hpre⟩
  have hRq : Rq c (w1.alloc (.cells #[.slice (some ⟨g, 0, none⟩) (toks s false 0).length cap, .int .i64 0, .int .i64 0, .int .i64 0, .int .i64 0, .int .i64 0, .int .i64 (-1)] 120)) (0 : Nat) 0 0 (0 : Nat) ((12 : Int) - (12 : Nat)) (badI 401) :=
    ⟨by show (w1.alloc _).heap[g]? = _; rw [Below.heap_alloc w1 _ g hgl]; exact hgg, heap_alloc_new w1 _⟩
  have ha := ratom_any c hc 12 (by decide)
  have hdo := rsum_any c hc _ (rseq_any c hc _ (rpart_any c hc _ ha (goes_atom hc.closed 12)) (goes_part hc.closed (goes_atom hc.closed 12))) (goes_seq hc.closed (goes_atom hc.closed 12))
  have hcall : Hid (Calls Tryz.prog 53 #[.pointer (some ⟨c.rb, 0, none⟩)] (w1.alloc (.cells #[.slice (some ⟨g, 0, none⟩) (toks s false 0).length cap, .int .i64 0, .int .i64 0, .int .i64 0, .int .i64 0, .int .i64 0, .int .i64 (-1)] 120)) (OutQ c ((12 : Int) - (12 : Nat)) ⟨0, 0, 401⟩ (sumP c.ts (atomP c.s c.ts 12) ⟨0, 0, 401⟩) (w1.alloc (.cells #[.slice (some ⟨g, 0, none⟩) (toks s false 0).length cap, .int .i64 0, .int .i64 0, .int .i64 0, .int .i64 0, .int .i64 0, .int .i64 (-1)] 120)))) := hdo _ ⟨0, 0, 401⟩ hRq hlen (by decide) (by decide)
  have hgo := goes_sum hc.closed (goes_atom (s := c.s) hc.closed 12) ⟨0, 0, 401⟩
  have hrp : readP s (toks s true 0) = match sumP c.ts (atomP c.s c.ts 12) ⟨0, 0, 401⟩ with
    | .error e => .error e
    | .ok (t, st) => if (tk c.ts st.i).kind = 0 then (if st.bad = 401 then .ok t else .error (6, st.bad)) else .error (3, (tk c.ts st.i).at_) := rfl
  generalize sumP c.ts (atomP c.s c.ts 12) ⟨0, 0, 401⟩ = r at hcall hgo hrp
  have HC := hide hc
  have HRP := hide hrp
  have HGO := hide hgo
  have hrbv : c.rb = w1.heap.size := rfl
  have htv : c.ts = toks s true 0 := rfl
  have hgv : c.g = g := rfl
  have hcv : c.cap = cap := rfl
  have hav : c.all = toks s false 0 := rfl
  have HALL := hide (And.intro hrbv (And.intro htv (And.intro hgv (And.intro hcv hav))))
  obtain ⟨w2, hw2⟩ : ∃ w2, w2 = (w1.alloc (.cells #[.slice (some ⟨g, 0, none⟩) (toks s false 0).length cap, .int .i64 0, .int .i64 0, .int .i64 0, .int .i64 0, .int .i64 0, .int .i64 (-1)] 120)) := ⟨_, rfl⟩
  have HG2 : Hid (w.grownBy w2 none) := by rw [hw2]; exact grown_trans hG1 (World.grownBy_alloc _ _ _)
  have hrbw : w.heap.size ≤ c.rb := hsz1
  rw [← hw2] at hcall
  have HW2 := hide hw2
  have hw2s : w.heap.size ≤ w2.heap.size := HG2.out.size
  have hrb2 : c.rb < w2.heap.size := by rw [hw2, hrbv]; simp
  clear hpre hrbv htv hgv hcv hav hRq ha hdo hG1 hc hown hbel htake hgg hrp hgo hnc hcs hw2 hcm hgl
  clear_value c
  go_wp2_with fail
  rw [← HALL.out.1, ← HW2.out]
  refine hcall.out.mono ?_
  clear hcall HW2
  rintro x w3 ⟨v, tr, i', rfl, hv, hg3, hi', _, _, hm3⟩
  obtain ⟨bx, rfl, hbx, _⟩ := RV_ptr hv
  have G3 := hide (grown_new HG2.out hg3 hrbw)
  have V3 := hide (RV_weak hv (ok' := fun b => w.heap.size ≤ b) (fun b _ hb => by omega))
  clear hv hg3
  unfold ptrV
  rcases r with ⟨en, pl⟩ | ⟨t, st2⟩
  · obtain ⟨hen, a', d', b', hR3⟩ := hm3
    have HF : Hid (r0 = .error (en, pl)) := HR0.out.trans HRP.out
    have c2 : w3.cell? ⟨c.rb, 2, none⟩ = some (.int .i64 en) := hR3.cell 2
    have c3 : w3.cell? ⟨c.rb, 3, none⟩ = some (.int .i64 pl) := hR3.cell 3
    clear hR3
    go_wp2_with fail
    go_quiet (fail)
    go_wp2_with fail
    go_quiet (fail)
    go_wp2
    go_ret3
    rw [HF.out]
    exact ⟨by first | exact grown_drewN (grown_drewN (grown_drewN G3.out _) _) _ | exact grown_drewN (grown_drewN G3.out _) _ | exact grown_drewN G3.out _, rfl⟩
  · obtain ⟨htr, hii, _, hR3⟩ := hm3
    obtain ⟨_, hi2, _, hb2⟩ := HGO.out t st2 (by rw [HALL.out.2.1]; exact hlen) (by decide) rfl
    have R3 := hide hR3
    have c0 : w3.cell? ⟨c.rb, 0, none⟩ = some (.slice (some ⟨c.g, 0, none⟩) c.all.length c.cap) := hR3.cell 0
    have c1 : w3.cell? ⟨c.rb, 1, none⟩ = some (.int .i64 (i' : Nat)) := hR3.cell 1
    have c2 : w3.cell? ⟨c.rb, 2, none⟩ = some (.int .i64 0) := hR3.cell 2
    obtain ⟨e0, e1, e2, e3⟩ := HC.out.cell hR3 hi'
    have hle2 := (HC.out.tk_eq hi').2
    have hl := HC.out.le
    have hm := HC.out.cap
    unfold maxLen at hm
    obtain ⟨l3, l4⟩ := hR3.lt
    have hkr := tk_kind s i'
    rw [← HALL.out.2.1] at hkr
    have HT : Hid (tr = flat t ∧ i' = st2.i) := ⟨htr, hii⟩
    clear hR3 htr hii
    by_cases hk : (tk c.ts i').kind = 0
    · have hk0 : (rk (tk c.ts i').kind != 0) = false := by rw [hk]; rfl
      have HK : Hid ((tk c.ts st2.i).kind = 0) := by rw [← HT.out.2]; exact hk
      clear hk
      by_cases hb : st2.bad = 401
      · have HF : Hid (r0 = .ok t) := (HR0.out.trans HRP.out).trans (by simp only [if_pos HK.out, if_pos hb])
        have c6 : w3.cell? ⟨c.rb, 6, none⟩ = some (.int .i64 (-1)) := by
          have := R3.out.cell 6
          rw [hb] at this
          exact this
        clear hb
        go_wp2_with fail
        go_quiet (fail)
        go_wp2
        go_ret3
        rw [HF.out]
        exact ⟨grown_drewN G3.out _, bx, rfl, by have h1 := V3.out; rw [HT.out.1] at h1; exact RV_kept h1 (grown_drewN (grown_refl _ _) _)⟩
      · have HF : Hid (r0 = .error (6, st2.bad)) := (HR0.out.trans HRP.out).trans (by simp only [if_pos HK.out, if_neg hb])
        have c6 : w3.cell? ⟨c.rb, 6, none⟩ = some (.int .i64 (st2.bad : Nat)) := by
          have h1 : w3.cell? ⟨c.rb, 6, none⟩ = some (.int .i64 (badI st2.bad)) := R3.out.cell 6
          rw [h1]
          unfold badI
          rw [if_neg hb]
        clear hb
        go_wp2_with fail
        go_quiet (fail)
        go_wp2_with fail
        go_quiet (fail)
        go_wp2
        go_ret3
        rw [HF.out]
        exact ⟨by first | exact grown_drewN (grown_drewN (grown_drewN G3.out _) _) _ | exact grown_drewN (grown_drewN G3.out _) _ | exact grown_drewN G3.out _, rfl⟩
    · have hk0 : (rk (tk c.ts i').kind != 0) = true := by rw [bne_iff_ne]; exact rk_zero hkr hk
      have HF : Hid (r0 = .error (3, (tk c.ts i').at_)) := by
        show r0 = _
        rw [HT.out.2]
        exact (HR0.out.trans HRP.out).trans (by simp only [if_neg (show ¬ (tk c.ts st2.i).kind = 0 by rw [← HT.out.2]; exact hk)])
      clear hk
      go_wp2_with fail
      go_quiet (fail)
      go_wp2_with fail
      go_region_with (go_at_call 54; refine (rfail_first c HC.out _ _ _ _ _ _ 3 _ (R3.out.drewN nq).drew).mono ?_; rintro x w8 ⟨rfl, hR8, hG0⟩; have hG := grown_undrew hG0; clear hG0)
      all_goals
        have c2 : w8.cell? ⟨c.rb, 2, none⟩ = some (.int .i64 3) := hR8.cell 2
        have c3 : w8.cell? ⟨c.rb, 3, none⟩ = some (.int .i64 ((tk c.ts i').at_ : Int)) := hR8.cell 3
        have G8 := hide (grown_new (grown_drewN G3.out nq) hG hrbw)
        clear hR8 hG c0 c1 e0 e1 e2 e3 hle2 l3 l4
        go_wp2_with fail
        go_quiet (fail)
        go_wp2
        go_ret3
        rw [HF.out]
        exact ⟨by first | exact grown_drewN G8.out _ | exact grown_drewN (grown_drewN G8.out _) _, rfl⟩
/-- The document's Read, of any text, given its tokens. -/
theorem rread_given (s : ByteArray) (w : World) (hs : s.size ≤ 9223372036854775807)
    (HTK : s.size ≤ 400 → Calls Tryz.prog 52 #[.string s] w fun e w' => ∃ v, e = .returned v ∧ w'.ownsRow w.heap.size 123 4 v (toks s false 0).length (rCells s (toks s false 0)) ∧ Below w.heap.size w w') :
    Calls Tryz.prog 15 #[.string s] w (OutRR (readS s) w) := by
  unfold readS
  by_cases h : 400 < s.size
  · rw [if_pos h]; exact rread_long s w h hs
  · rw [if_neg h]; exact rread_short s w (by omega) (HTK (by omega))
end Go.Proofs.YtlhkfafdioakeaaGreatDoor
