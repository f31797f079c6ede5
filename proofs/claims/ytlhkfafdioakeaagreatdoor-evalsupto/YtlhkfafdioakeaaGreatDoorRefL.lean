/- Proved here: what the document's reader makes of a test or a setting, way by way. -/
import Derived.Test.YtlhkfafdioakeaaGreatDoorGRefA
namespace Go.Proofs.YtlhkfafdioakeaaGreatDoor
open Go.RowKit Go.Weft
set_option linter.unusedVariables false
set_option linter.unusedSimpArgs false
theorem rfail_more (c : RCtx) (hc : c.Good) (w : World) (i e p a d b en pl : Int) (he : (e == 0) = false) (h : Rq c w i e p a d b) :
    Calls Tryz.prog 54 #[.pointer (some ⟨c.rb, 0, none⟩), .int .i64 en, .int .i64 pl] w fun x w' => x = .returned (.tuple #[]) ∧ w.grownBy w' none :=
  (rfail_later c hc w i e p a d b en pl he h).mono (fun x w' ⟨h1, h2⟩ => ⟨h1, h2 ▸ grown_refl _ _⟩)
def rtokAt (w : World) (b : Nat) (cs : Array Value) : Prop := w.heap[b]? = some (.cells cs 123 (0, 0))
theorem rtokAt.lt {w : World} {b : Nat} {cs : Array Value} (h : rtokAt w b cs) : b < w.heap.size := (Array.getElem?_eq_some_iff.1 h).1
theorem rtokAt.cell {w : World} {b : Nat} {cs : Array Value} (h : rtokAt w b cs) (j : Nat) : w.cell? ⟨b, j, none⟩ = cs[j]? := by unfold rtokAt at h; simp [World.cell?, h]
theorem rtokAt.kept {w w' : World} {b rb : Nat} {cs : Array Value} (h : rtokAt w b cs) (hg : w.grownBy w' (some rb)) (hb : rb < b) : rtokAt w' b cs :=
  (hg.block b h.lt (by simp; omega)).trans h
theorem rtokAt_new (w : World) (cs : Array Value) : rtokAt (w.alloc (.cells cs 123)).drew w.heap.size cs := heap_alloc_new w _
theorem rk_ne {k n : Int} (hn : 1 ≤ n ∧ n ≤ 11) (h : ¬ k = n) : ¬ rk k = rk n := fun e => h (rk_inj hn e)

set_option maxRecDepth 100000 in
set_option maxHeartbeats 4000000 in
theorem rpair_set (c : RCtx) (hc : c.Good) (d : Int) (f : Nat) (w0 w : World) (st : St) (nb : Nat) (h : Rq c w st.i 0 0 st.atoms d (badI st.bad)) (hi : st.i + 1 < c.ts.length) (hf : f ≤ 5) (ha : st.atoms ≤ 16) (hb : c.rb < nb) (hg : w0.grownBy w (some c.rb)) (hn : w0.heap.size ≤ nb)
    (hnd : nodeAt w nb #[.int .u8 100, .int .i64 0, .int .i64 0, .slice none 0 0]) (i1 i2 i3 : Nat) (j1 : i1 = st.i + 1) (j2 : i2 = st.i + 2) (j3 : i3 = st.i + 3) (hA : st.atoms ≤ 15) (hf0 : ¬ f = 0) (hk1 : (tk c.ts (st.i + 1)).kind = 11) (hk2 : (tk c.ts i2).kind = 3) (hv : rNum c.s (tk c.ts i2) ≤ 31) :
    Calls Tryz.prog 245 #[.pointer (some ⟨c.rb, 0, none⟩), ptrV nb, .int .i64 f] w fun x w' => x = .returned (.tuple #[]) ∧ OutF c d st nb w0 (.ok (.exit (3 + 2 * (32 * f + rNum c.s (tk c.ts (st.i + 2)))), ⟨st.i + 3, st.atoms + 1, st.bad⟩)) w' := by
  have c0 : w.cell? ⟨c.rb, 0, none⟩ = some (.slice (some ⟨c.g, 0, none⟩) c.all.length c.cap) := h.cell 0
  have c1 : w.cell? ⟨c.rb, 1, none⟩ = some (.int .i64 st.i) := h.cell 1
  have c4 : w.cell? ⟨c.rb, 4, none⟩ = some (.int .i64 st.atoms) := h.cell 4
  have f1 : w.frozen? ⟨c.rb, 1, none⟩ = false := h.frozen 1
  have f4 : w.frozen? ⟨c.rb, 4, none⟩ = false := h.frozen 4
  have a1 := (hc.cell h (show st.i < c.ts.length by omega)).2.1
  have b0 := (hc.cell h (show st.i + 1 < c.ts.length by omega)).1
  have hfew := hc.few
  have hle := (hc.tk_eq hi).2
  have hl := hc.le
  have hm := hc.cap
  unfold maxLen at hm
  obtain ⟨l1, l2⟩ := h.lt
  have H := hide h
  have ND := hide hnd
  have G0 := hide hg
  have HI1 := hide j1
  have HI2 := hide j2
  have HI3 := hide j3
  have hi1 : i1 < c.ts.length := by omega
  have hi2 : i2 < c.ts.length := by rw [j2]; exact hc.closed.next hi (by omega) (by omega)
  have KA : Hid (¬ rk (tk c.ts (st.i + 1)).kind = 61) := by show ¬ _; rw [hk1]; decide
  have KB : Hid (rk (tk c.ts i1).kind = 58) := by show _ = _; rw [HI1.out, hk1]; rfl
  have KC : Hid (rk (tk c.ts i2).kind = 110) := by show _ = _; rw [hk2]; rfl
  have hi3 : i3 < c.ts.length := by have := hc.closed.next hi2 (by rw [hk2]; decide) (by rw [hk2]; decide); omega
  have hf0' : ((f : Int) == 0) = false := by simp; omega
  rw [hk1] at b0
  clear hk1 hk2
  clear h hnd hg j1 j2 j3
  unfold ptrV
  all_goals
    go_enter Tryz.func245, Tryz.ntmps245
    go_wp2
    go_quiet (fail)
    go_wp2
    go_quiet (fail)
    go_wp2_with fail
    refine (ris_no c hc _ (st.i + 1) _ _ _ _ 61 ((((H.out.drewN _).set1 hc _).drewN _).set4 hc _) (by omega) KA.out).mono ?_
    rintro x w1 ⟨rfl, hG⟩
    have R1 : Hid (Rq c w1 ((i1 : Nat) : Int) 0 0 ((st.atoms : Int) + 1) d (badI st.bad)) := by
      have hR2 := Rq.kept ((((H.out.drewN _).set1 hc _).drewN _).set4 hc _) hG
      have := HI1.out; have := HI2.out; have := HI3.out
      first | exact hR2 | (show Rq c w1 ((i1 : Nat) : Int) 0 0 ((st.atoms : Int) + 1) d (badI st.bad); rw [show i1 = (st.i + 1) by omega]; exact hR2)
    have G1 := hide (grown_trans G0.out (grown_trans (grown_trans (grown_trans (grown_trans (grown_drewN (grown_refl _ _) _) (grown_set _ _ _ _)) (grown_drewN (grown_refl _ _) _)) (grown_set _ _ _ _)) (grown_some hG)))
    have N1 := hide (nodeAt.kept ND.out (grown_trans (grown_trans (grown_trans (grown_trans (grown_drewN (grown_refl _ _) _) (grown_set _ _ _ _)) (grown_drewN (grown_refl _ _) _)) (grown_set _ _ _ _)) (grown_some hG)) hb)
    clear hG
    clear c0 c1 c4 f1 f4 a1 b0
    go_wp2_with fail
    refine (ris_yes c hc _ i1 _ _ _ _ 58 R1.out hi1 KB.out).mono ?_
    rintro x w2 ⟨rfl, hR, hG⟩
    have R2 : Hid (Rq c w2 ((i2 : Nat) : Int) 0 0 ((st.atoms : Int) + 1) d (badI st.bad)) := by
      have hR2 := hR
      have := HI1.out; have := HI2.out; have := HI3.out
      first | exact hR2 | (show Rq c w2 ((i2 : Nat) : Int) 0 0 ((st.atoms : Int) + 1) d (badI st.bad); rw [show i2 = i1 + 1 by omega]; exact hR2)
    have G2 := hide (grown_trans G1.out (grown_trans (grown_refl _ _) hG))
    have N2 := hide (nodeAt.kept N1.out (grown_trans (grown_refl _ _) hG) hb)
    clear hG hR
    have n0 : w2.cell? ⟨nb, 0, none⟩ = some (.int .u8 100) := N2.out.cell 0
    have q0 : w2.frozen? ⟨nb, 0, none⟩ = false := N2.out.frozen 0
    have R3 := hide (Rq.setn (R2.out.setn hc hb 0 (.int .u8 61)) hc hb 0 (.int .u8 58))
    have N3 := hide (nodeAt.set (nodeAt.set N2.out 0 (.int .u8 61)) 0 (.int .u8 58))
    have G3 := hide (grown_node (grown_node G2.out hn 0 (.int .u8 61)) hn 0 (.int .u8 58))
    go_wp2
    obtain ⟨w3, hw3⟩ : ∃ w3, w3 = (w2.setCell ⟨nb, 0, none⟩ (.int .u8 61)).setCell ⟨nb, 0, none⟩ (.int .u8 58) := ⟨_, rfl⟩
    rw [← hw3] at R3 N3 G3 ⊢
    clear hw3 n0 q0
    have c0 : w3.cell? ⟨c.rb, 0, none⟩ = some (.slice (some ⟨c.g, 0, none⟩) c.all.length c.cap) := R3.out.cell 0
    have c1 : w3.cell? ⟨c.rb, 1, none⟩ = some (.int .i64 (i2 : Nat)) := R3.out.cell 1
    obtain ⟨e0, e1, e2, e3⟩ := hc.cell R3.out hi2
    have hle2 := (hc.tk_eq hi2).2
    obtain ⟨l3, l4⟩ := R3.out.lt
    go_region
    all_goals
      have HAL := hide (World.grownBy_alloc w3 (.cells #[.int .u8 (rk (tk c.ts i2).kind), .int .i64 ((tk c.ts i2).at_ : Int), .string (rTxt c.s (tk c.ts i2)), .int .i64 (rNum c.s (tk c.ts i2) : Int)] 123) none)
      have HTB : Hid (c.rb < w3.heap.size) := l3
      have hne : nb ≠ w3.heap.size := by have := N3.out.lt; omega
      clear c0 c1 e0 e1 e2 e3 hle2 l3 l4
      go_wp2_with fail
      refine (ris_yes c hc _ i2 _ _ _ _ 110 ((R3.out.kept HAL.out).drew) hi2 KC.out).mono ?_
      rintro x w4 ⟨rfl, hR, hG⟩
      have R4 : Hid (Rq c w4 ((i3 : Nat) : Int) 0 0 ((st.atoms : Int) + 1) d (badI st.bad)) := by
        have hR2 := hR
        have := HI1.out; have := HI2.out; have := HI3.out
        first | exact hR2 | (show Rq c w4 ((i3 : Nat) : Int) 0 0 ((st.atoms : Int) + 1) d (badI st.bad); rw [show i3 = i2 + 1 by omega]; exact hR2)
      have G4 := hide (grown_trans G3.out (grown_trans (grown_drew (grown_some HAL.out)) hG))
      have N4 := hide (nodeAt.kept N3.out (grown_trans (grown_drew (grown_some HAL.out)) hG) hb)
      have T4 := hide (rtokAt.kept (rtokAt_new w3 _) (grown_trans (grown_refl _ _) hG) HTB.out)
      clear hG hR
      have t1_4 : w4.cell? ⟨w3.heap.size, 1, none⟩ = some (.int .i64 ((tk c.ts i2).at_ : Int)) := T4.out.cell 1
      have t3_4 : w4.cell? ⟨w3.heap.size, 3, none⟩ = some (.int .i64 (rNum c.s (tk c.ts i2) : Int)) := T4.out.cell 3
      have n1 : w4.cell? ⟨nb, 1, none⟩ = some (.int .i64 0) := N4.out.cell 1
      have q1 : w4.frozen? ⟨nb, 1, none⟩ = false := N4.out.frozen 1
      have n2 : w4.cell? ⟨nb, 2, none⟩ = some (.int .i64 0) := N4.out.cell 2
      have q2 : w4.frozen? ⟨nb, 2, none⟩ = false := N4.out.frozen 2
      go_wp2
      go_end0
      refine ⟨rfl, 3 + 2 * (32 * f + rNum c.s (tk c.ts i2)), _, i3, (N4.out.set 1 _).set 2 _, ?_, grown_node (grown_node G4.out hn _ _) hn _ _, hi3, by have := HI3.out; omega, ?_, ?_, (R4.out.setn hc hb _ _).setn hc hb _ _⟩
      · exact .inl ⟨by omega, leaf_set _ _ (by omega)⟩
      · rw [← HI2.out]
      · exact HI3.out

set_option maxRecDepth 100000 in
set_option maxHeartbeats 4000000 in
theorem rpair_test_num (c : RCtx) (hc : c.Good) (d : Int) (f : Nat) (w0 w : World) (st : St) (nb : Nat) (h : Rq c w st.i 0 0 st.atoms d (badI st.bad)) (hi : st.i + 1 < c.ts.length) (hf : f ≤ 5) (ha : st.atoms ≤ 16) (hb : c.rb < nb) (hg : w0.grownBy w (some c.rb)) (hn : w0.heap.size ≤ nb)
    (hnd : nodeAt w nb #[.int .u8 100, .int .i64 0, .int .i64 0, .slice none 0 0]) (i1 i2 i3 : Nat) (j1 : i1 = st.i + 1) (j2 : i2 = st.i + 2) (j3 : i3 = st.i + 3) (hA : st.atoms ≤ 15) (hk1 : (tk c.ts (st.i + 1)).kind = 10) (hk2 : (tk c.ts i2).kind = 3) (hv : 31 < rNum c.s (tk c.ts i2)) :
    Calls Tryz.prog 245 #[.pointer (some ⟨c.rb, 0, none⟩), ptrV nb, .int .i64 f] w fun x w' => x = .returned (.tuple #[]) ∧ OutF c d st nb w0 (.error (4, (tk c.ts i2).at_)) w' := by
  have c0 : w.cell? ⟨c.rb, 0, none⟩ = some (.slice (some ⟨c.g, 0, none⟩) c.all.length c.cap) := h.cell 0
  have c1 : w.cell? ⟨c.rb, 1, none⟩ = some (.int .i64 st.i) := h.cell 1
  have c4 : w.cell? ⟨c.rb, 4, none⟩ = some (.int .i64 st.atoms) := h.cell 4
  have f1 : w.frozen? ⟨c.rb, 1, none⟩ = false := h.frozen 1
  have f4 : w.frozen? ⟨c.rb, 4, none⟩ = false := h.frozen 4
  have a1 := (hc.cell h (show st.i < c.ts.length by omega)).2.1
  have b0 := (hc.cell h (show st.i + 1 < c.ts.length by omega)).1
  have hfew := hc.few
  have hle := (hc.tk_eq hi).2
  have hl := hc.le
  have hm := hc.cap
  unfold maxLen at hm
  obtain ⟨l1, l2⟩ := h.lt
  have H := hide h
  have ND := hide hnd
  have G0 := hide hg
  have HI1 := hide j1
  have HI2 := hide j2
  have HI3 := hide j3
  have hi1 : i1 < c.ts.length := by omega
  have hi2 : i2 < c.ts.length := by rw [j2]; exact hc.closed.next hi (by omega) (by omega)
  have KA : Hid (rk (tk c.ts (st.i + 1)).kind = 61) := by show _ = _; rw [hk1]; rfl
  have hgd : f = 0 ∨ ((f : Int) == 0) = false := by rcases Nat.eq_zero_or_pos f with h | h; exact .inl h; exact .inr (by simp; omega)
  rw [hk1] at b0
  have KB : Hid (¬ rk (tk c.ts i2).kind = 58) := by show ¬ _; rw [hk2]; decide
  have KC : Hid (rk (tk c.ts i2).kind = 110) := by show _ = _; rw [hk2]; rfl
  have hi3 : i3 < c.ts.length := by have := hc.closed.next hi2 (by rw [hk2]; decide) (by rw [hk2]; decide); omega
  clear hk1 hk2
  clear h hnd hg j1 j2 j3
  unfold ptrV
  rcases hgd with rfl | hf0
  all_goals
    go_enter Tryz.func245, Tryz.ntmps245
    go_wp2
    go_quiet (fail)
    go_wp2
    go_quiet (fail)
    go_wp2_with fail
    refine (ris_yes c hc _ (st.i + 1) _ _ _ _ 61 ((((H.out.drewN _).set1 hc _).drewN _).set4 hc _) (by omega) KA.out).mono ?_
    rintro x w1 ⟨rfl, hR, hG⟩
    have R1 : Hid (Rq c w1 ((i2 : Nat) : Int) 0 0 ((st.atoms : Int) + 1) d (badI st.bad)) := by
      have hR2 := hR
      have := HI1.out; have := HI2.out; have := HI3.out
      first | exact hR2 | (show Rq c w1 ((i2 : Nat) : Int) 0 0 ((st.atoms : Int) + 1) d (badI st.bad); rw [show i2 = (st.i + 1) + 1 by omega]; exact hR2)
    have G1 := hide (grown_trans G0.out (grown_trans (grown_trans (grown_trans (grown_trans (grown_drewN (grown_refl _ _) _) (grown_set _ _ _ _)) (grown_drewN (grown_refl _ _) _)) (grown_set _ _ _ _)) hG))
    have N1 := hide (nodeAt.kept ND.out (grown_trans (grown_trans (grown_trans (grown_trans (grown_drewN (grown_refl _ _) _) (grown_set _ _ _ _)) (grown_drewN (grown_refl _ _) _)) (grown_set _ _ _ _)) hG) hb)
    clear hG hR
    clear c0 c1 c4 f1 f4 a1 b0
    go_wp2_with fail
    refine (ris_no c hc _ i2 _ _ _ _ 58 R1.out hi2 KB.out).mono ?_
    rintro x w2 ⟨rfl, hG⟩
    have R2 : Hid (Rq c w2 ((i2 : Nat) : Int) 0 0 ((st.atoms : Int) + 1) d (badI st.bad)) := by
      have hR2 := Rq.kept R1.out hG
      have := HI1.out; have := HI2.out; have := HI3.out
      first | exact hR2 | (show Rq c w2 ((i2 : Nat) : Int) 0 0 ((st.atoms : Int) + 1) d (badI st.bad); rw [show i2 = i2 by omega]; exact hR2)
    have G2 := hide (grown_trans G1.out (grown_trans (grown_refl _ _) (grown_some hG)))
    have N2 := hide (nodeAt.kept N1.out (grown_trans (grown_refl _ _) (grown_some hG)) hb)
    clear hG
    have n0 : w2.cell? ⟨nb, 0, none⟩ = some (.int .u8 100) := N2.out.cell 0
    have q0 : w2.frozen? ⟨nb, 0, none⟩ = false := N2.out.frozen 0
    have R3 := hide (R2.out.setn hc hb 0 (.int .u8 61))
    have N3 := hide (nodeAt.set N2.out 0 (.int .u8 61))
    have G3 := hide (grown_node G2.out hn 0 (.int .u8 61))
    go_wp2
    obtain ⟨w3, hw3⟩ : ∃ w3, w3 = w2.setCell ⟨nb, 0, none⟩ (.int .u8 61) := ⟨_, rfl⟩
    rw [← hw3] at R3 N3 G3 ⊢
    clear hw3 n0 q0
    have c0 : w3.cell? ⟨c.rb, 0, none⟩ = some (.slice (some ⟨c.g, 0, none⟩) c.all.length c.cap) := R3.out.cell 0
    have c1 : w3.cell? ⟨c.rb, 1, none⟩ = some (.int .i64 (i2 : Nat)) := R3.out.cell 1
    obtain ⟨e0, e1, e2, e3⟩ := hc.cell R3.out hi2
    have hle2 := (hc.tk_eq hi2).2
    obtain ⟨l3, l4⟩ := R3.out.lt
    go_region
    all_goals
      have HAL := hide (World.grownBy_alloc w3 (.cells #[.int .u8 (rk (tk c.ts i2).kind), .int .i64 ((tk c.ts i2).at_ : Int), .string (rTxt c.s (tk c.ts i2)), .int .i64 (rNum c.s (tk c.ts i2) : Int)] 123) none)
      have HTB : Hid (c.rb < w3.heap.size) := l3
      have hne : nb ≠ w3.heap.size := by have := N3.out.lt; omega
      clear c0 c1 e0 e1 e2 e3 hle2 l3 l4
      go_wp2_with fail
      refine (ris_yes c hc _ i2 _ _ _ _ 110 ((R3.out.kept HAL.out).drew) hi2 KC.out).mono ?_
      rintro x w4 ⟨rfl, hR, hG⟩
      have R4 : Hid (Rq c w4 ((i3 : Nat) : Int) 0 0 ((st.atoms : Int) + 1) d (badI st.bad)) := by
        have hR2 := hR
        have := HI1.out; have := HI2.out; have := HI3.out
        first | exact hR2 | (show Rq c w4 ((i3 : Nat) : Int) 0 0 ((st.atoms : Int) + 1) d (badI st.bad); rw [show i3 = i2 + 1 by omega]; exact hR2)
      have G4 := hide (grown_trans G3.out (grown_trans (grown_drew (grown_some HAL.out)) hG))
      have N4 := hide (nodeAt.kept N3.out (grown_trans (grown_drew (grown_some HAL.out)) hG) hb)
      have T4 := hide (rtokAt.kept (rtokAt_new w3 _) (grown_trans (grown_refl _ _) hG) HTB.out)
      clear hG hR
      have t1_4 : w4.cell? ⟨w3.heap.size, 1, none⟩ = some (.int .i64 ((tk c.ts i2).at_ : Int)) := T4.out.cell 1
      have t3_4 : w4.cell? ⟨w3.heap.size, 3, none⟩ = some (.int .i64 (rNum c.s (tk c.ts i2) : Int)) := T4.out.cell 3
      go_wp2_with fail
      refine (rfail_first c hc _ _ _ _ _ _ 4 _ R4.out).mono ?_
      rintro x w5 ⟨rfl, hR, hG⟩
      have R5 : Hid (Rq c w5 ((i3 : Nat) : Int) 4 ((tk c.ts i2).at_ : Int) ((st.atoms : Int) + 1) d (badI st.bad)) := by
        have hR2 := hR
        have := HI1.out; have := HI2.out; have := HI3.out
        first | exact hR2 | (show Rq c w5 ((i3 : Nat) : Int) 4 ((tk c.ts i2).at_ : Int) ((st.atoms : Int) + 1) d (badI st.bad); rw [show i3 = i3 by omega]; exact hR2)
      have G5 := hide (grown_trans G4.out (grown_trans (grown_refl _ _) hG))
      have N5 := hide (nodeAt.kept N4.out (grown_trans (grown_refl _ _) hG) hb)
      have T5 := hide (rtokAt.kept T4.out (grown_trans (grown_refl _ _) hG) HTB.out)
      clear hG hR
      have t1_5 : w5.cell? ⟨w3.heap.size, 1, none⟩ = some (.int .i64 ((tk c.ts i2).at_ : Int)) := T5.out.cell 1
      have t3_5 : w5.cell? ⟨w3.heap.size, 3, none⟩ = some (.int .i64 (rNum c.s (tk c.ts i2) : Int)) := T5.out.cell 3
      have n1 : w5.cell? ⟨nb, 1, none⟩ = some (.int .i64 0) := N5.out.cell 1
      have q1 : w5.frozen? ⟨nb, 1, none⟩ = false := N5.out.frozen 1
      have n2 : w5.cell? ⟨nb, 2, none⟩ = some (.int .i64 0) := N5.out.cell 2
      have q2 : w5.frozen? ⟨nb, 2, none⟩ = false := N5.out.frozen 2
      go_wp2
      go_end0
      exact ⟨rfl, 386, _, i3, (N5.out.set 1 _).set 2 _, .inr ⟨by decide, _, _, rfl⟩, grown_node (grown_node G5.out hn _ _) hn _ _, hi3, by have := HI3.out; omega, rfl, _, _, _, (R5.out.setn hc hb _ _).setn hc hb _ _⟩

set_option maxRecDepth 100000 in
set_option maxHeartbeats 4000000 in
theorem rpair_set_num (c : RCtx) (hc : c.Good) (d : Int) (f : Nat) (w0 w : World) (st : St) (nb : Nat) (h : Rq c w st.i 0 0 st.atoms d (badI st.bad)) (hi : st.i + 1 < c.ts.length) (hf : f ≤ 5) (ha : st.atoms ≤ 16) (hb : c.rb < nb) (hg : w0.grownBy w (some c.rb)) (hn : w0.heap.size ≤ nb)
    (hnd : nodeAt w nb #[.int .u8 100, .int .i64 0, .int .i64 0, .slice none 0 0]) (i1 i2 i3 : Nat) (j1 : i1 = st.i + 1) (j2 : i2 = st.i + 2) (j3 : i3 = st.i + 3) (hA : st.atoms ≤ 15) (hf0 : ¬ f = 0) (hk1 : (tk c.ts (st.i + 1)).kind = 11) (hk2 : (tk c.ts i2).kind = 3) (hv : 31 < rNum c.s (tk c.ts i2)) :
    Calls Tryz.prog 245 #[.pointer (some ⟨c.rb, 0, none⟩), ptrV nb, .int .i64 f] w fun x w' => x = .returned (.tuple #[]) ∧ OutF c d st nb w0 (.error (4, (tk c.ts i2).at_)) w' := by
  have c0 : w.cell? ⟨c.rb, 0, none⟩ = some (.slice (some ⟨c.g, 0, none⟩) c.all.length c.cap) := h.cell 0
  have c1 : w.cell? ⟨c.rb, 1, none⟩ = some (.int .i64 st.i) := h.cell 1
  have c4 : w.cell? ⟨c.rb, 4, none⟩ = some (.int .i64 st.atoms) := h.cell 4
  have f1 : w.frozen? ⟨c.rb, 1, none⟩ = false := h.frozen 1
  have f4 : w.frozen? ⟨c.rb, 4, none⟩ = false := h.frozen 4
  have a1 := (hc.cell h (show st.i < c.ts.length by omega)).2.1
  have b0 := (hc.cell h (show st.i + 1 < c.ts.length by omega)).1
  have hfew := hc.few
  have hle := (hc.tk_eq hi).2
  have hl := hc.le
  have hm := hc.cap
  unfold maxLen at hm
  obtain ⟨l1, l2⟩ := h.lt
  have H := hide h
  have ND := hide hnd
  have G0 := hide hg
  have HI1 := hide j1
  have HI2 := hide j2
  have HI3 := hide j3
  have hi1 : i1 < c.ts.length := by omega
  have hi2 : i2 < c.ts.length := by rw [j2]; exact hc.closed.next hi (by omega) (by omega)
  have KA : Hid (¬ rk (tk c.ts (st.i + 1)).kind = 61) := by show ¬ _; rw [hk1]; decide
  have KB : Hid (rk (tk c.ts i1).kind = 58) := by show _ = _; rw [HI1.out, hk1]; rfl
  have KC : Hid (rk (tk c.ts i2).kind = 110) := by show _ = _; rw [hk2]; rfl
  have hi3 : i3 < c.ts.length := by have := hc.closed.next hi2 (by rw [hk2]; decide) (by rw [hk2]; decide); omega
  have hf0' : ((f : Int) == 0) = false := by simp; omega
  rw [hk1] at b0
  clear hk1 hk2
  clear h hnd hg j1 j2 j3
  unfold ptrV
  all_goals
    go_enter Tryz.func245, Tryz.ntmps245
    go_wp2
    go_quiet (fail)
    go_wp2
    go_quiet (fail)
    go_wp2_with fail
    refine (ris_no c hc _ (st.i + 1) _ _ _ _ 61 ((((H.out.drewN _).set1 hc _).drewN _).set4 hc _) (by omega) KA.out).mono ?_
    rintro x w1 ⟨rfl, hG⟩
    have R1 : Hid (Rq c w1 ((i1 : Nat) : Int) 0 0 ((st.atoms : Int) + 1) d (badI st.bad)) := by
      have hR2 := Rq.kept ((((H.out.drewN _).set1 hc _).drewN _).set4 hc _) hG
      have := HI1.out; have := HI2.out; have := HI3.out
      first | exact hR2 | (show Rq c w1 ((i1 : Nat) : Int) 0 0 ((st.atoms : Int) + 1) d (badI st.bad); rw [show i1 = (st.i + 1) by omega]; exact hR2)
    have G1 := hide (grown_trans G0.out (grown_trans (grown_trans (grown_trans (grown_trans (grown_drewN (grown_refl _ _) _) (grown_set _ _ _ _)) (grown_drewN (grown_refl _ _) _)) (grown_set _ _ _ _)) (grown_some hG)))
    have N1 := hide (nodeAt.kept ND.out (grown_trans (grown_trans (grown_trans (grown_trans (grown_drewN (grown_refl _ _) _) (grown_set _ _ _ _)) (grown_drewN (grown_refl _ _) _)) (grown_set _ _ _ _)) (grown_some hG)) hb)
    clear hG
    clear c0 c1 c4 f1 f4 a1 b0
    go_wp2_with fail
    refine (ris_yes c hc _ i1 _ _ _ _ 58 R1.out hi1 KB.out).mono ?_
    rintro x w2 ⟨rfl, hR, hG⟩
    have R2 : Hid (Rq c w2 ((i2 : Nat) : Int) 0 0 ((st.atoms : Int) + 1) d (badI st.bad)) := by
      have hR2 := hR
      have := HI1.out; have := HI2.out; have := HI3.out
      first | exact hR2 | (show Rq c w2 ((i2 : Nat) : Int) 0 0 ((st.atoms : Int) + 1) d (badI st.bad); rw [show i2 = i1 + 1 by omega]; exact hR2)
    have G2 := hide (grown_trans G1.out (grown_trans (grown_refl _ _) hG))
    have N2 := hide (nodeAt.kept N1.out (grown_trans (grown_refl _ _) hG) hb)
    clear hG hR
    have n0 : w2.cell? ⟨nb, 0, none⟩ = some (.int .u8 100) := N2.out.cell 0
    have q0 : w2.frozen? ⟨nb, 0, none⟩ = false := N2.out.frozen 0
    have R3 := hide (Rq.setn (R2.out.setn hc hb 0 (.int .u8 61)) hc hb 0 (.int .u8 58))
    have N3 := hide (nodeAt.set (nodeAt.set N2.out 0 (.int .u8 61)) 0 (.int .u8 58))
    have G3 := hide (grown_node (grown_node G2.out hn 0 (.int .u8 61)) hn 0 (.int .u8 58))
    go_wp2
    obtain ⟨w3, hw3⟩ : ∃ w3, w3 = (w2.setCell ⟨nb, 0, none⟩ (.int .u8 61)).setCell ⟨nb, 0, none⟩ (.int .u8 58) := ⟨_, rfl⟩
    rw [← hw3] at R3 N3 G3 ⊢
    clear hw3 n0 q0
    have c0 : w3.cell? ⟨c.rb, 0, none⟩ = some (.slice (some ⟨c.g, 0, none⟩) c.all.length c.cap) := R3.out.cell 0
    have c1 : w3.cell? ⟨c.rb, 1, none⟩ = some (.int .i64 (i2 : Nat)) := R3.out.cell 1
    obtain ⟨e0, e1, e2, e3⟩ := hc.cell R3.out hi2
    have hle2 := (hc.tk_eq hi2).2
    obtain ⟨l3, l4⟩ := R3.out.lt
    go_region
    all_goals
      have HAL := hide (World.grownBy_alloc w3 (.cells #[.int .u8 (rk (tk c.ts i2).kind), .int .i64 ((tk c.ts i2).at_ : Int), .string (rTxt c.s (tk c.ts i2)), .int .i64 (rNum c.s (tk c.ts i2) : Int)] 123) none)
      have HTB : Hid (c.rb < w3.heap.size) := l3
      have hne : nb ≠ w3.heap.size := by have := N3.out.lt; omega
      clear c0 c1 e0 e1 e2 e3 hle2 l3 l4
      go_wp2_with fail
      refine (ris_yes c hc _ i2 _ _ _ _ 110 ((R3.out.kept HAL.out).drew) hi2 KC.out).mono ?_
      rintro x w4 ⟨rfl, hR, hG⟩
      have R4 : Hid (Rq c w4 ((i3 : Nat) : Int) 0 0 ((st.atoms : Int) + 1) d (badI st.bad)) := by
        have hR2 := hR
        have := HI1.out; have := HI2.out; have := HI3.out
        first | exact hR2 | (show Rq c w4 ((i3 : Nat) : Int) 0 0 ((st.atoms : Int) + 1) d (badI st.bad); rw [show i3 = i2 + 1 by omega]; exact hR2)
      have G4 := hide (grown_trans G3.out (grown_trans (grown_drew (grown_some HAL.out)) hG))
      have N4 := hide (nodeAt.kept N3.out (grown_trans (grown_drew (grown_some HAL.out)) hG) hb)
      have T4 := hide (rtokAt.kept (rtokAt_new w3 _) (grown_trans (grown_refl _ _) hG) HTB.out)
      clear hG hR
      have t1_4 : w4.cell? ⟨w3.heap.size, 1, none⟩ = some (.int .i64 ((tk c.ts i2).at_ : Int)) := T4.out.cell 1
      have t3_4 : w4.cell? ⟨w3.heap.size, 3, none⟩ = some (.int .i64 (rNum c.s (tk c.ts i2) : Int)) := T4.out.cell 3
      go_wp2_with fail
      refine (rfail_first c hc _ _ _ _ _ _ 4 _ R4.out).mono ?_
      rintro x w5 ⟨rfl, hR, hG⟩
      have R5 : Hid (Rq c w5 ((i3 : Nat) : Int) 4 ((tk c.ts i2).at_ : Int) ((st.atoms : Int) + 1) d (badI st.bad)) := by
        have hR2 := hR
        have := HI1.out; have := HI2.out; have := HI3.out
        first | exact hR2 | (show Rq c w5 ((i3 : Nat) : Int) 4 ((tk c.ts i2).at_ : Int) ((st.atoms : Int) + 1) d (badI st.bad); rw [show i3 = i3 by omega]; exact hR2)
      have G5 := hide (grown_trans G4.out (grown_trans (grown_refl _ _) hG))
      have N5 := hide (nodeAt.kept N4.out (grown_trans (grown_refl _ _) hG) hb)
      have T5 := hide (rtokAt.kept T4.out (grown_trans (grown_refl _ _) hG) HTB.out)
      clear hG hR
      have t1_5 : w5.cell? ⟨w3.heap.size, 1, none⟩ = some (.int .i64 ((tk c.ts i2).at_ : Int)) := T5.out.cell 1
      have t3_5 : w5.cell? ⟨w3.heap.size, 3, none⟩ = some (.int .i64 (rNum c.s (tk c.ts i2) : Int)) := T5.out.cell 3
      have n1 : w5.cell? ⟨nb, 1, none⟩ = some (.int .i64 0) := N5.out.cell 1
      have q1 : w5.frozen? ⟨nb, 1, none⟩ = false := N5.out.frozen 1
      have n2 : w5.cell? ⟨nb, 2, none⟩ = some (.int .i64 0) := N5.out.cell 2
      have q2 : w5.frozen? ⟨nb, 2, none⟩ = false := N5.out.frozen 2
      go_wp2
      go_end0
      exact ⟨rfl, 387, _, i3, (N5.out.set 1 _).set 2 _, .inr ⟨by decide, _, _, rfl⟩, grown_node (grown_node G5.out hn _ _) hn _ _, hi3, by have := HI3.out; omega, rfl, _, _, _, (R5.out.setn hc hb _ _).setn hc hb _ _⟩

set_option maxRecDepth 100000 in
set_option maxHeartbeats 4000000 in
theorem rpair_test_no (c : RCtx) (hc : c.Good) (d : Int) (f : Nat) (w0 w : World) (st : St) (nb : Nat) (h : Rq c w st.i 0 0 st.atoms d (badI st.bad)) (hi : st.i + 1 < c.ts.length) (hf : f ≤ 5) (ha : st.atoms ≤ 16) (hb : c.rb < nb) (hg : w0.grownBy w (some c.rb)) (hn : w0.heap.size ≤ nb)
    (hnd : nodeAt w nb #[.int .u8 100, .int .i64 0, .int .i64 0, .slice none 0 0]) (i1 i2 i3 : Nat) (j1 : i1 = st.i + 1) (j2 : i2 = st.i + 2) (j3 : i3 = st.i + 3) (hA : st.atoms ≤ 15) (hk1 : (tk c.ts (st.i + 1)).kind = 10) (hk2 : ¬ (tk c.ts i2).kind = 3) (hk3 : ¬ (tk c.ts i2).kind = 11) :
    Calls Tryz.prog 245 #[.pointer (some ⟨c.rb, 0, none⟩), ptrV nb, .int .i64 f] w fun x w' => x = .returned (.tuple #[]) ∧ OutF c d st nb w0 (.error (3, (tk c.ts i2).at_)) w' := by
  have c0 : w.cell? ⟨c.rb, 0, none⟩ = some (.slice (some ⟨c.g, 0, none⟩) c.all.length c.cap) := h.cell 0
  have c1 : w.cell? ⟨c.rb, 1, none⟩ = some (.int .i64 st.i) := h.cell 1
  have c4 : w.cell? ⟨c.rb, 4, none⟩ = some (.int .i64 st.atoms) := h.cell 4
  have f1 : w.frozen? ⟨c.rb, 1, none⟩ = false := h.frozen 1
  have f4 : w.frozen? ⟨c.rb, 4, none⟩ = false := h.frozen 4
  have a1 := (hc.cell h (show st.i < c.ts.length by omega)).2.1
  have b0 := (hc.cell h (show st.i + 1 < c.ts.length by omega)).1
  have hfew := hc.few
  have hle := (hc.tk_eq hi).2
  have hl := hc.le
  have hm := hc.cap
  unfold maxLen at hm
  obtain ⟨l1, l2⟩ := h.lt
  have H := hide h
  have ND := hide hnd
  have G0 := hide hg
  have HI1 := hide j1
  have HI2 := hide j2
  have HI3 := hide j3
  have hi1 : i1 < c.ts.length := by omega
  have hi2 : i2 < c.ts.length := by rw [j2]; exact hc.closed.next hi (by omega) (by omega)
  have KA : Hid (rk (tk c.ts (st.i + 1)).kind = 61) := by show _ = _; rw [hk1]; rfl
  have hgd : f = 0 ∨ ((f : Int) == 0) = false := by rcases Nat.eq_zero_or_pos f with h | h; exact .inl h; exact .inr (by simp; omega)
  rw [hk1] at b0
  have KB : Hid (¬ rk (tk c.ts i2).kind = 58) := rk_ne (n := 11) (by decide) hk3
  have KC : Hid (¬ rk (tk c.ts i2).kind = 110) := rk_ne (n := 3) (by decide) hk2
  have hv : rNum c.s (tk c.ts i2) ≤ 31 := by unfold rNum; rw [if_neg hk2]; omega
  clear hk1 hk2 hk3
  clear h hnd hg j1 j2 j3
  unfold ptrV
  rcases hgd with rfl | hf0
  all_goals
    go_enter Tryz.func245, Tryz.ntmps245
    go_wp2
    go_quiet (fail)
    go_wp2
    go_quiet (fail)
    go_wp2_with fail
    refine (ris_yes c hc _ (st.i + 1) _ _ _ _ 61 ((((H.out.drewN _).set1 hc _).drewN _).set4 hc _) (by omega) KA.out).mono ?_
    rintro x w1 ⟨rfl, hR, hG⟩
    have R1 : Hid (Rq c w1 ((i2 : Nat) : Int) 0 0 ((st.atoms : Int) + 1) d (badI st.bad)) := by
      have hR2 := hR
      have := HI1.out; have := HI2.out; have := HI3.out
      first | exact hR2 | (show Rq c w1 ((i2 : Nat) : Int) 0 0 ((st.atoms : Int) + 1) d (badI st.bad); rw [show i2 = (st.i + 1) + 1 by omega]; exact hR2)
    have G1 := hide (grown_trans G0.out (grown_trans (grown_trans (grown_trans (grown_trans (grown_drewN (grown_refl _ _) _) (grown_set _ _ _ _)) (grown_drewN (grown_refl _ _) _)) (grown_set _ _ _ _)) hG))
    have N1 := hide (nodeAt.kept ND.out (grown_trans (grown_trans (grown_trans (grown_trans (grown_drewN (grown_refl _ _) _) (grown_set _ _ _ _)) (grown_drewN (grown_refl _ _) _)) (grown_set _ _ _ _)) hG) hb)
    clear hG hR
    clear c0 c1 c4 f1 f4 a1 b0
    go_wp2_with fail
    refine (ris_no c hc _ i2 _ _ _ _ 58 R1.out hi2 KB.out).mono ?_
    rintro x w2 ⟨rfl, hG⟩
    have R2 : Hid (Rq c w2 ((i2 : Nat) : Int) 0 0 ((st.atoms : Int) + 1) d (badI st.bad)) := by
      have hR2 := Rq.kept R1.out hG
      have := HI1.out; have := HI2.out; have := HI3.out
      first | exact hR2 | (show Rq c w2 ((i2 : Nat) : Int) 0 0 ((st.atoms : Int) + 1) d (badI st.bad); rw [show i2 = i2 by omega]; exact hR2)
    have G2 := hide (grown_trans G1.out (grown_trans (grown_refl _ _) (grown_some hG)))
    have N2 := hide (nodeAt.kept N1.out (grown_trans (grown_refl _ _) (grown_some hG)) hb)
    clear hG
    have n0 : w2.cell? ⟨nb, 0, none⟩ = some (.int .u8 100) := N2.out.cell 0
    have q0 : w2.frozen? ⟨nb, 0, none⟩ = false := N2.out.frozen 0
    have R3 := hide (R2.out.setn hc hb 0 (.int .u8 61))
    have N3 := hide (nodeAt.set N2.out 0 (.int .u8 61))
    have G3 := hide (grown_node G2.out hn 0 (.int .u8 61))
    go_wp2
    obtain ⟨w3, hw3⟩ : ∃ w3, w3 = w2.setCell ⟨nb, 0, none⟩ (.int .u8 61) := ⟨_, rfl⟩
    rw [← hw3] at R3 N3 G3 ⊢
    clear hw3 n0 q0
    have c0 : w3.cell? ⟨c.rb, 0, none⟩ = some (.slice (some ⟨c.g, 0, none⟩) c.all.length c.cap) := R3.out.cell 0
    have c1 : w3.cell? ⟨c.rb, 1, none⟩ = some (.int .i64 (i2 : Nat)) := R3.out.cell 1
    obtain ⟨e0, e1, e2, e3⟩ := hc.cell R3.out hi2
    have hle2 := (hc.tk_eq hi2).2
    obtain ⟨l3, l4⟩ := R3.out.lt
    go_region
    all_goals
      have HAL := hide (World.grownBy_alloc w3 (.cells #[.int .u8 (rk (tk c.ts i2).kind), .int .i64 ((tk c.ts i2).at_ : Int), .string (rTxt c.s (tk c.ts i2)), .int .i64 (rNum c.s (tk c.ts i2) : Int)] 123) none)
      have HTB : Hid (c.rb < w3.heap.size) := l3
      have hne : nb ≠ w3.heap.size := by have := N3.out.lt; omega
      clear c0 c1 e0 e1 e2 e3 hle2 l3 l4
      go_wp2_with fail
      refine (ris_no c hc _ i2 _ _ _ _ 110 ((R3.out.kept HAL.out).drew) hi2 KC.out).mono ?_
      rintro x w4 ⟨rfl, hG⟩
      have R4 : Hid (Rq c w4 ((i2 : Nat) : Int) 0 0 ((st.atoms : Int) + 1) d (badI st.bad)) := by
        have hR2 := Rq.kept ((R3.out.kept HAL.out).drew) hG
        have := HI1.out; have := HI2.out; have := HI3.out
        first | exact hR2 | (show Rq c w4 ((i2 : Nat) : Int) 0 0 ((st.atoms : Int) + 1) d (badI st.bad); rw [show i2 = i2 by omega]; exact hR2)
      have G4 := hide (grown_trans G3.out (grown_trans (grown_drew (grown_some HAL.out)) (grown_some hG)))
      have N4 := hide (nodeAt.kept N3.out (grown_trans (grown_drew (grown_some HAL.out)) (grown_some hG)) hb)
      have T4 := hide (rtokAt.kept (rtokAt_new w3 _) (grown_trans (grown_refl _ _) (grown_some hG)) HTB.out)
      clear hG
      have t1_4 : w4.cell? ⟨w3.heap.size, 1, none⟩ = some (.int .i64 ((tk c.ts i2).at_ : Int)) := T4.out.cell 1
      have t3_4 : w4.cell? ⟨w3.heap.size, 3, none⟩ = some (.int .i64 (rNum c.s (tk c.ts i2) : Int)) := T4.out.cell 3
      go_wp2_with fail
      refine (rfail_first c hc _ _ _ _ _ _ 3 _ R4.out).mono ?_
      rintro x w5 ⟨rfl, hR, hG⟩
      have R5 : Hid (Rq c w5 ((i2 : Nat) : Int) 3 ((tk c.ts i2).at_ : Int) ((st.atoms : Int) + 1) d (badI st.bad)) := by
        have hR2 := hR
        have := HI1.out; have := HI2.out; have := HI3.out
        first | exact hR2 | (show Rq c w5 ((i2 : Nat) : Int) 3 ((tk c.ts i2).at_ : Int) ((st.atoms : Int) + 1) d (badI st.bad); rw [show i2 = i2 by omega]; exact hR2)
      have G5 := hide (grown_trans G4.out (grown_trans (grown_refl _ _) hG))
      have N5 := hide (nodeAt.kept N4.out (grown_trans (grown_refl _ _) hG) hb)
      have T5 := hide (rtokAt.kept T4.out (grown_trans (grown_refl _ _) hG) HTB.out)
      clear hG hR
      have t1_5 : w5.cell? ⟨w3.heap.size, 1, none⟩ = some (.int .i64 ((tk c.ts i2).at_ : Int)) := T5.out.cell 1
      have t3_5 : w5.cell? ⟨w3.heap.size, 3, none⟩ = some (.int .i64 (rNum c.s (tk c.ts i2) : Int)) := T5.out.cell 3
      have n1 : w5.cell? ⟨nb, 1, none⟩ = some (.int .i64 0) := N5.out.cell 1
      have q1 : w5.frozen? ⟨nb, 1, none⟩ = false := N5.out.frozen 1
      have n2 : w5.cell? ⟨nb, 2, none⟩ = some (.int .i64 0) := N5.out.cell 2
      have q2 : w5.frozen? ⟨nb, 2, none⟩ = false := N5.out.frozen 2
      go_wp2
      go_end0
      exact ⟨rfl, 386, _, i2, (N5.out.set 1 _).set 2 _, .inr ⟨by decide, _, _, rfl⟩, grown_node (grown_node G5.out hn _ _) hn _ _, hi2, by have := HI2.out; omega, rfl, _, _, _, (R5.out.setn hc hb _ _).setn hc hb _ _⟩

set_option maxRecDepth 100000 in
set_option maxHeartbeats 4000000 in
theorem rpair_set_no (c : RCtx) (hc : c.Good) (d : Int) (f : Nat) (w0 w : World) (st : St) (nb : Nat) (h : Rq c w st.i 0 0 st.atoms d (badI st.bad)) (hi : st.i + 1 < c.ts.length) (hf : f ≤ 5) (ha : st.atoms ≤ 16) (hb : c.rb < nb) (hg : w0.grownBy w (some c.rb)) (hn : w0.heap.size ≤ nb)
    (hnd : nodeAt w nb #[.int .u8 100, .int .i64 0, .int .i64 0, .slice none 0 0]) (i1 i2 i3 : Nat) (j1 : i1 = st.i + 1) (j2 : i2 = st.i + 2) (j3 : i3 = st.i + 3) (hA : st.atoms ≤ 15) (hf0 : ¬ f = 0) (hk1 : (tk c.ts (st.i + 1)).kind = 11) (hk2 : ¬ (tk c.ts i2).kind = 3) :
    Calls Tryz.prog 245 #[.pointer (some ⟨c.rb, 0, none⟩), ptrV nb, .int .i64 f] w fun x w' => x = .returned (.tuple #[]) ∧ OutF c d st nb w0 (.error (3, (tk c.ts i2).at_)) w' := by
  have c0 : w.cell? ⟨c.rb, 0, none⟩ = some (.slice (some ⟨c.g, 0, none⟩) c.all.length c.cap) := h.cell 0
  have c1 : w.cell? ⟨c.rb, 1, none⟩ = some (.int .i64 st.i) := h.cell 1
  have c4 : w.cell? ⟨c.rb, 4, none⟩ = some (.int .i64 st.atoms) := h.cell 4
  have f1 : w.frozen? ⟨c.rb, 1, none⟩ = false := h.frozen 1
  have f4 : w.frozen? ⟨c.rb, 4, none⟩ = false := h.frozen 4
  have a1 := (hc.cell h (show st.i < c.ts.length by omega)).2.1
  have b0 := (hc.cell h (show st.i + 1 < c.ts.length by omega)).1
  have hfew := hc.few
  have hle := (hc.tk_eq hi).2
  have hl := hc.le
  have hm := hc.cap
  unfold maxLen at hm
  obtain ⟨l1, l2⟩ := h.lt
  have H := hide h
  have ND := hide hnd
  have G0 := hide hg
  have HI1 := hide j1
  have HI2 := hide j2
  have HI3 := hide j3
  have hi1 : i1 < c.ts.length := by omega
  have hi2 : i2 < c.ts.length := by rw [j2]; exact hc.closed.next hi (by omega) (by omega)
  have KA : Hid (¬ rk (tk c.ts (st.i + 1)).kind = 61) := by show ¬ _; rw [hk1]; decide
  have KB : Hid (rk (tk c.ts i1).kind = 58) := by show _ = _; rw [HI1.out, hk1]; rfl
  have KC : Hid (¬ rk (tk c.ts i2).kind = 110) := rk_ne (n := 3) (by decide) hk2
  have hv : rNum c.s (tk c.ts i2) ≤ 31 := by unfold rNum; rw [if_neg hk2]; omega
  have hf0' : ((f : Int) == 0) = false := by simp; omega
  rw [hk1] at b0
  clear hk1 hk2
  clear h hnd hg j1 j2 j3
  unfold ptrV
  all_goals
    go_enter Tryz.func245, Tryz.ntmps245
    go_wp2
    go_quiet (fail)
    go_wp2
    go_quiet (fail)
    go_wp2_with fail
    refine (ris_no c hc _ (st.i + 1) _ _ _ _ 61 ((((H.out.drewN _).set1 hc _).drewN _).set4 hc _) (by omega) KA.out).mono ?_
    rintro x w1 ⟨rfl, hG⟩
    have R1 : Hid (Rq c w1 ((i1 : Nat) : Int) 0 0 ((st.atoms : Int) + 1) d (badI st.bad)) := by
      have hR2 := Rq.kept ((((H.out.drewN _).set1 hc _).drewN _).set4 hc _) hG
      have := HI1.out; have := HI2.out; have := HI3.out
      first | exact hR2 | (show Rq c w1 ((i1 : Nat) : Int) 0 0 ((st.atoms : Int) + 1) d (badI st.bad); rw [show i1 = (st.i + 1) by omega]; exact hR2)
    have G1 := hide (grown_trans G0.out (grown_trans (grown_trans (grown_trans (grown_trans (grown_drewN (grown_refl _ _) _) (grown_set _ _ _ _)) (grown_drewN (grown_refl _ _) _)) (grown_set _ _ _ _)) (grown_some hG)))
    have N1 := hide (nodeAt.kept ND.out (grown_trans (grown_trans (grown_trans (grown_trans (grown_drewN (grown_refl _ _) _) (grown_set _ _ _ _)) (grown_drewN (grown_refl _ _) _)) (grown_set _ _ _ _)) (grown_some hG)) hb)
    clear hG
    clear c0 c1 c4 f1 f4 a1 b0
    go_wp2_with fail
    refine (ris_yes c hc _ i1 _ _ _ _ 58 R1.out hi1 KB.out).mono ?_
    rintro x w2 ⟨rfl, hR, hG⟩
    have R2 : Hid (Rq c w2 ((i2 : Nat) : Int) 0 0 ((st.atoms : Int) + 1) d (badI st.bad)) := by
      have hR2 := hR
      have := HI1.out; have := HI2.out; have := HI3.out
      first | exact hR2 | (show Rq c w2 ((i2 : Nat) : Int) 0 0 ((st.atoms : Int) + 1) d (badI st.bad); rw [show i2 = i1 + 1 by omega]; exact hR2)
    have G2 := hide (grown_trans G1.out (grown_trans (grown_refl _ _) hG))
    have N2 := hide (nodeAt.kept N1.out (grown_trans (grown_refl _ _) hG) hb)
    clear hG hR
    have n0 : w2.cell? ⟨nb, 0, none⟩ = some (.int .u8 100) := N2.out.cell 0
    have q0 : w2.frozen? ⟨nb, 0, none⟩ = false := N2.out.frozen 0
    have R3 := hide (Rq.setn (R2.out.setn hc hb 0 (.int .u8 61)) hc hb 0 (.int .u8 58))
    have N3 := hide (nodeAt.set (nodeAt.set N2.out 0 (.int .u8 61)) 0 (.int .u8 58))
    have G3 := hide (grown_node (grown_node G2.out hn 0 (.int .u8 61)) hn 0 (.int .u8 58))
    go_wp2
    obtain ⟨w3, hw3⟩ : ∃ w3, w3 = (w2.setCell ⟨nb, 0, none⟩ (.int .u8 61)).setCell ⟨nb, 0, none⟩ (.int .u8 58) := ⟨_, rfl⟩
    rw [← hw3] at R3 N3 G3 ⊢
    clear hw3 n0 q0
    have c0 : w3.cell? ⟨c.rb, 0, none⟩ = some (.slice (some ⟨c.g, 0, none⟩) c.all.length c.cap) := R3.out.cell 0
    have c1 : w3.cell? ⟨c.rb, 1, none⟩ = some (.int .i64 (i2 : Nat)) := R3.out.cell 1
    obtain ⟨e0, e1, e2, e3⟩ := hc.cell R3.out hi2
    have hle2 := (hc.tk_eq hi2).2
    obtain ⟨l3, l4⟩ := R3.out.lt
    go_region
    all_goals
      have HAL := hide (World.grownBy_alloc w3 (.cells #[.int .u8 (rk (tk c.ts i2).kind), .int .i64 ((tk c.ts i2).at_ : Int), .string (rTxt c.s (tk c.ts i2)), .int .i64 (rNum c.s (tk c.ts i2) : Int)] 123) none)
      have HTB : Hid (c.rb < w3.heap.size) := l3
      have hne : nb ≠ w3.heap.size := by have := N3.out.lt; omega
      clear c0 c1 e0 e1 e2 e3 hle2 l3 l4
      go_wp2_with fail
      refine (ris_no c hc _ i2 _ _ _ _ 110 ((R3.out.kept HAL.out).drew) hi2 KC.out).mono ?_
      rintro x w4 ⟨rfl, hG⟩
      have R4 : Hid (Rq c w4 ((i2 : Nat) : Int) 0 0 ((st.atoms : Int) + 1) d (badI st.bad)) := by
        have hR2 := Rq.kept ((R3.out.kept HAL.out).drew) hG
        have := HI1.out; have := HI2.out; have := HI3.out
        first | exact hR2 | (show Rq c w4 ((i2 : Nat) : Int) 0 0 ((st.atoms : Int) + 1) d (badI st.bad); rw [show i2 = i2 by omega]; exact hR2)
      have G4 := hide (grown_trans G3.out (grown_trans (grown_drew (grown_some HAL.out)) (grown_some hG)))
      have N4 := hide (nodeAt.kept N3.out (grown_trans (grown_drew (grown_some HAL.out)) (grown_some hG)) hb)
      have T4 := hide (rtokAt.kept (rtokAt_new w3 _) (grown_trans (grown_refl _ _) (grown_some hG)) HTB.out)
      clear hG
      have t1_4 : w4.cell? ⟨w3.heap.size, 1, none⟩ = some (.int .i64 ((tk c.ts i2).at_ : Int)) := T4.out.cell 1
      have t3_4 : w4.cell? ⟨w3.heap.size, 3, none⟩ = some (.int .i64 (rNum c.s (tk c.ts i2) : Int)) := T4.out.cell 3
      go_wp2_with fail
      refine (rfail_first c hc _ _ _ _ _ _ 3 _ R4.out).mono ?_
      rintro x w5 ⟨rfl, hR, hG⟩
      have R5 : Hid (Rq c w5 ((i2 : Nat) : Int) 3 ((tk c.ts i2).at_ : Int) ((st.atoms : Int) + 1) d (badI st.bad)) := by
        have hR2 := hR
        have := HI1.out; have := HI2.out; have := HI3.out
        first | exact hR2 | (show Rq c w5 ((i2 : Nat) : Int) 3 ((tk c.ts i2).at_ : Int) ((st.atoms : Int) + 1) d (badI st.bad); rw [show i2 = i2 by omega]; exact hR2)
      have G5 := hide (grown_trans G4.out (grown_trans (grown_refl _ _) hG))
      have N5 := hide (nodeAt.kept N4.out (grown_trans (grown_refl _ _) hG) hb)
      have T5 := hide (rtokAt.kept T4.out (grown_trans (grown_refl _ _) hG) HTB.out)
      clear hG hR
      have t1_5 : w5.cell? ⟨w3.heap.size, 1, none⟩ = some (.int .i64 ((tk c.ts i2).at_ : Int)) := T5.out.cell 1
      have t3_5 : w5.cell? ⟨w3.heap.size, 3, none⟩ = some (.int .i64 (rNum c.s (tk c.ts i2) : Int)) := T5.out.cell 3
      have n1 : w5.cell? ⟨nb, 1, none⟩ = some (.int .i64 0) := N5.out.cell 1
      have q1 : w5.frozen? ⟨nb, 1, none⟩ = false := N5.out.frozen 1
      have n2 : w5.cell? ⟨nb, 2, none⟩ = some (.int .i64 0) := N5.out.cell 2
      have q2 : w5.frozen? ⟨nb, 2, none⟩ = false := N5.out.frozen 2
      go_wp2
      go_end0
      exact ⟨rfl, 387, _, i2, (N5.out.set 1 _).set 2 _, .inr ⟨by decide, _, _, rfl⟩, grown_node (grown_node G5.out hn _ _) hn _ _, hi2, by have := HI2.out; omega, rfl, _, _, _, (R5.out.setn hc hb _ _).setn hc hb _ _⟩

set_option maxRecDepth 100000 in
set_option maxHeartbeats 4000000 in
theorem rpair_sign (c : RCtx) (hc : c.Good) (d : Int) (f : Nat) (w0 w : World) (st : St) (nb : Nat) (h : Rq c w st.i 0 0 st.atoms d (badI st.bad)) (hi : st.i + 1 < c.ts.length) (hf : f ≤ 5) (ha : st.atoms ≤ 16) (hb : c.rb < nb) (hg : w0.grownBy w (some c.rb)) (hn : w0.heap.size ≤ nb)
    (hnd : nodeAt w nb #[.int .u8 100, .int .i64 0, .int .i64 0, .slice none 0 0]) (i1 i2 i3 : Nat) (j1 : i1 = st.i + 1) (j2 : i2 = st.i + 2) (j3 : i3 = st.i + 3) (hA : st.atoms ≤ 15) (hk1 : ¬ (tk c.ts (st.i + 1)).kind = 10) (hk2 : ¬ (tk c.ts (st.i + 1)).kind = 11) (hv : rNum c.s (tk c.ts i1) ≤ 31) :
    Calls Tryz.prog 245 #[.pointer (some ⟨c.rb, 0, none⟩), ptrV nb, .int .i64 f] w fun x w' => x = .returned (.tuple #[]) ∧ OutF c d st nb w0 (.error (3, (tk c.ts i1).at_)) w' := by
  have c0 : w.cell? ⟨c.rb, 0, none⟩ = some (.slice (some ⟨c.g, 0, none⟩) c.all.length c.cap) := h.cell 0
  have c1 : w.cell? ⟨c.rb, 1, none⟩ = some (.int .i64 st.i) := h.cell 1
  have c4 : w.cell? ⟨c.rb, 4, none⟩ = some (.int .i64 st.atoms) := h.cell 4
  have f1 : w.frozen? ⟨c.rb, 1, none⟩ = false := h.frozen 1
  have f4 : w.frozen? ⟨c.rb, 4, none⟩ = false := h.frozen 4
  have a1 := (hc.cell h (show st.i < c.ts.length by omega)).2.1
  have b0 := (hc.cell h (show st.i + 1 < c.ts.length by omega)).1
  have hfew := hc.few
  have hle := (hc.tk_eq hi).2
  have hl := hc.le
  have hm := hc.cap
  unfold maxLen at hm
  obtain ⟨l1, l2⟩ := h.lt
  have H := hide h
  have ND := hide hnd
  have G0 := hide hg
  have HI1 := hide j1
  have HI2 := hide j2
  have HI3 := hide j3
  have hi1 : i1 < c.ts.length := by omega
  have KA : Hid (¬ rk (tk c.ts (st.i + 1)).kind = 61) := rk_ne (n := 10) (by decide) hk1
  have KB : Hid (¬ rk (tk c.ts i1).kind = 58) := by rw [j1]; exact rk_ne (n := 11) (by decide) hk2
  have hgd : (f = 0 ∧ (rk (tk c.ts (st.i + 1)).kind == 58) = false) ∨ ((f : Int) == 0) = false := by
    rcases Nat.eq_zero_or_pos f with h | h
    · exact .inl ⟨h, by rw [beq_eq_false_iff_ne]; exact rk_ne (n := 11) (by decide) hk2⟩
    · exact .inr (by simp; omega)
  clear hk1 hk2
  clear h hnd hg j1 j2 j3
  unfold ptrV
  rcases hgd with ⟨rfl, hkk⟩ | hf0
  all_goals
    go_enter Tryz.func245, Tryz.ntmps245
    go_wp2
    go_quiet (fail)
    go_wp2
    go_quiet (fail)
    go_wp2_with fail
    refine (ris_no c hc _ (st.i + 1) _ _ _ _ 61 ((((H.out.drewN _).set1 hc _).drewN _).set4 hc _) (by omega) KA.out).mono ?_
    rintro x w1 ⟨rfl, hG⟩
    have R1 : Hid (Rq c w1 ((i1 : Nat) : Int) 0 0 ((st.atoms : Int) + 1) d (badI st.bad)) := by
      have hR2 := Rq.kept ((((H.out.drewN _).set1 hc _).drewN _).set4 hc _) hG
      have := HI1.out; have := HI2.out; have := HI3.out
      first | exact hR2 | (show Rq c w1 ((i1 : Nat) : Int) 0 0 ((st.atoms : Int) + 1) d (badI st.bad); rw [show i1 = (st.i + 1) by omega]; exact hR2)
    have G1 := hide (grown_trans G0.out (grown_trans (grown_trans (grown_trans (grown_trans (grown_drewN (grown_refl _ _) _) (grown_set _ _ _ _)) (grown_drewN (grown_refl _ _) _)) (grown_set _ _ _ _)) (grown_some hG)))
    have N1 := hide (nodeAt.kept ND.out (grown_trans (grown_trans (grown_trans (grown_trans (grown_drewN (grown_refl _ _) _) (grown_set _ _ _ _)) (grown_drewN (grown_refl _ _) _)) (grown_set _ _ _ _)) (grown_some hG)) hb)
    clear hG
    clear c0 c1 c4 f1 f4 a1 b0
    go_wp2_with fail
    refine (ris_no c hc _ i1 _ _ _ _ 58 R1.out hi1 KB.out).mono ?_
    rintro x w2 ⟨rfl, hG⟩
    have R2 : Hid (Rq c w2 ((i1 : Nat) : Int) 0 0 ((st.atoms : Int) + 1) d (badI st.bad)) := by
      have hR2 := Rq.kept R1.out hG
      have := HI1.out; have := HI2.out; have := HI3.out
      first | exact hR2 | (show Rq c w2 ((i1 : Nat) : Int) 0 0 ((st.atoms : Int) + 1) d (badI st.bad); rw [show i1 = i1 by omega]; exact hR2)
    have G2 := hide (grown_trans G1.out (grown_trans (grown_refl _ _) (grown_some hG)))
    have N2 := hide (nodeAt.kept N1.out (grown_trans (grown_refl _ _) (grown_some hG)) hb)
    clear hG
    have n0 : w2.cell? ⟨nb, 0, none⟩ = some (.int .u8 100) := N2.out.cell 0
    have q0 : w2.frozen? ⟨nb, 0, none⟩ = false := N2.out.frozen 0
    have R3 := hide (R2.out.setn hc hb 0 (.int .u8 61))
    have N3 := hide (nodeAt.set N2.out 0 (.int .u8 61))
    have G3 := hide (grown_node G2.out hn 0 (.int .u8 61))
    go_wp2
    obtain ⟨w3, hw3⟩ : ∃ w3, w3 = w2.setCell ⟨nb, 0, none⟩ (.int .u8 61) := ⟨_, rfl⟩
    rw [← hw3] at R3 N3 G3 ⊢
    clear hw3 n0 q0
    have c0 : w3.cell? ⟨c.rb, 0, none⟩ = some (.slice (some ⟨c.g, 0, none⟩) c.all.length c.cap) := R3.out.cell 0
    have c1 : w3.cell? ⟨c.rb, 1, none⟩ = some (.int .i64 (i1 : Nat)) := R3.out.cell 1
    obtain ⟨e0, e1, e2, e3⟩ := hc.cell R3.out hi1
    have hle2 := (hc.tk_eq hi1).2
    obtain ⟨l3, l4⟩ := R3.out.lt
    go_region_with (go_at_call 54; refine (rfail_first c hc _ _ _ _ _ _ 3 _ R3.out.drew).mono ?_; rintro x w4 ⟨rfl, hR, hG0⟩; have hG := grown_undrew hG0; clear hG0)
    all_goals
      clear c0 c1 e0 e1 e2 e3 hle2 l3 l4
      have R4 : Hid (Rq c w4 ((i1 : Nat) : Int) 3 ((tk c.ts i1).at_ : Int) ((st.atoms : Int) + 1) d (badI st.bad)) := by
        have hR2 := hR
        have := HI1.out; have := HI2.out; have := HI3.out
        first | exact hR2 | (show Rq c w4 ((i1 : Nat) : Int) 3 ((tk c.ts i1).at_ : Int) ((st.atoms : Int) + 1) d (badI st.bad); rw [show i1 = i1 by omega]; exact hR2)
      have G4 := hide (grown_trans G3.out (grown_trans (grown_refl _ _) hG))
      have N4 := hide (nodeAt.kept N3.out (grown_trans (grown_refl _ _) hG) hb)
      clear hG hR
      go_wp2
      have c0 : w4.cell? ⟨c.rb, 0, none⟩ = some (.slice (some ⟨c.g, 0, none⟩) c.all.length c.cap) := R4.out.cell 0
      have c1 : w4.cell? ⟨c.rb, 1, none⟩ = some (.int .i64 (i1 : Nat)) := R4.out.cell 1
      obtain ⟨e0, e1, e2, e3⟩ := hc.cell R4.out hi1
      have hle2 := (hc.tk_eq hi1).2
      obtain ⟨l3, l4⟩ := R4.out.lt
      go_region
      all_goals
        have HAL := hide (World.grownBy_alloc w4 (.cells #[.int .u8 (rk (tk c.ts i1).kind), .int .i64 ((tk c.ts i1).at_ : Int), .string (rTxt c.s (tk c.ts i1)), .int .i64 (rNum c.s (tk c.ts i1) : Int)] 123) none)
        have HTB : Hid (c.rb < w4.heap.size) := l3
        have hne : nb ≠ w4.heap.size := by have := N4.out.lt; omega
        clear c0 c1 e0 e1 e2 e3 hle2 l3 l4
        go_wp2_with fail
        refine (ris_later c hc _ _ _ _ _ _ _ _ (by decide) ((R4.out.kept HAL.out).drew)).mono ?_
        rintro x w5 ⟨rfl, hG⟩
        have R5 : Hid (Rq c w5 ((i1 : Nat) : Int) 3 ((tk c.ts i1).at_ : Int) ((st.atoms : Int) + 1) d (badI st.bad)) := by
          have hR2 := Rq.kept ((R4.out.kept HAL.out).drew) hG
          have := HI1.out; have := HI2.out; have := HI3.out
          first | exact hR2 | (show Rq c w5 ((i1 : Nat) : Int) 3 ((tk c.ts i1).at_ : Int) ((st.atoms : Int) + 1) d (badI st.bad); rw [show i1 = i1 by omega]; exact hR2)
        have G5 := hide (grown_trans G4.out (grown_trans (grown_drew (grown_some HAL.out)) (grown_some hG)))
        have N5 := hide (nodeAt.kept N4.out (grown_trans (grown_drew (grown_some HAL.out)) (grown_some hG)) hb)
        have T5 := hide (rtokAt.kept (rtokAt_new w4 _) (grown_trans (grown_refl _ _) (grown_some hG)) HTB.out)
        clear hG
        have t1_5 : w5.cell? ⟨w4.heap.size, 1, none⟩ = some (.int .i64 ((tk c.ts i1).at_ : Int)) := T5.out.cell 1
        have t3_5 : w5.cell? ⟨w4.heap.size, 3, none⟩ = some (.int .i64 (rNum c.s (tk c.ts i1) : Int)) := T5.out.cell 3
        go_wp2_with fail
        refine (rfail_more c hc _ _ _ _ _ _ _ _ _ (by decide) R5.out).mono ?_
        rintro x w6 ⟨rfl, hG⟩
        have R6 : Hid (Rq c w6 ((i1 : Nat) : Int) 3 ((tk c.ts i1).at_ : Int) ((st.atoms : Int) + 1) d (badI st.bad)) := by
          have hR2 := Rq.kept R5.out hG
          have := HI1.out; have := HI2.out; have := HI3.out
          first | exact hR2 | (show Rq c w6 ((i1 : Nat) : Int) 3 ((tk c.ts i1).at_ : Int) ((st.atoms : Int) + 1) d (badI st.bad); rw [show i1 = i1 by omega]; exact hR2)
        have G6 := hide (grown_trans G5.out (grown_trans (grown_refl _ _) (grown_some hG)))
        have N6 := hide (nodeAt.kept N5.out (grown_trans (grown_refl _ _) (grown_some hG)) hb)
        have T6 := hide (rtokAt.kept T5.out (grown_trans (grown_refl _ _) (grown_some hG)) HTB.out)
        clear hG
        have t1_6 : w6.cell? ⟨w4.heap.size, 1, none⟩ = some (.int .i64 ((tk c.ts i1).at_ : Int)) := T6.out.cell 1
        have t3_6 : w6.cell? ⟨w4.heap.size, 3, none⟩ = some (.int .i64 (rNum c.s (tk c.ts i1) : Int)) := T6.out.cell 3
        have n1 : w6.cell? ⟨nb, 1, none⟩ = some (.int .i64 0) := N6.out.cell 1
        have q1 : w6.frozen? ⟨nb, 1, none⟩ = false := N6.out.frozen 1
        have n2 : w6.cell? ⟨nb, 2, none⟩ = some (.int .i64 0) := N6.out.cell 2
        have q2 : w6.frozen? ⟨nb, 2, none⟩ = false := N6.out.frozen 2
        go_wp2
        go_end0
        exact ⟨rfl, 386, _, i1, (N6.out.set 1 _).set 2 _, .inr ⟨by decide, _, _, rfl⟩, grown_node (grown_node G6.out hn _ _) hn _ _, hi1, by have := HI1.out; omega, rfl, _, _, _, (R6.out.setn hc hb _ _).setn hc hb _ _⟩

set_option maxRecDepth 100000 in
set_option maxHeartbeats 4000000 in
theorem rpair_many (c : RCtx) (hc : c.Good) (d : Int) (f : Nat) (w0 w : World) (st : St) (nb : Nat) (h : Rq c w st.i 0 0 st.atoms d (badI st.bad)) (hi : st.i + 1 < c.ts.length) (hf : f ≤ 5) (ha : st.atoms ≤ 16) (hb : c.rb < nb) (hg : w0.grownBy w (some c.rb)) (hn : w0.heap.size ≤ nb)
    (hnd : nodeAt w nb #[.int .u8 100, .int .i64 0, .int .i64 0, .slice none 0 0]) (i1 i2 i3 : Nat) (j1 : i1 = st.i + 1) (j2 : i2 = st.i + 2) (j3 : i3 = st.i + 3) (hA : st.atoms = 16) (hs : (f = 0 ∧ ¬ (tk c.ts (st.i + 1)).kind = 11) ∨ ¬ f = 0) (hv : rNum c.s (tk c.ts i1) ≤ 31) :
    Calls Tryz.prog 245 #[.pointer (some ⟨c.rb, 0, none⟩), ptrV nb, .int .i64 f] w fun x w' => x = .returned (.tuple #[]) ∧ OutF c d st nb w0 (.error (7, (tk c.ts st.i).at_)) w' := by
  have c0 : w.cell? ⟨c.rb, 0, none⟩ = some (.slice (some ⟨c.g, 0, none⟩) c.all.length c.cap) := h.cell 0
  have c1 : w.cell? ⟨c.rb, 1, none⟩ = some (.int .i64 st.i) := h.cell 1
  have c4 : w.cell? ⟨c.rb, 4, none⟩ = some (.int .i64 st.atoms) := h.cell 4
  have f1 : w.frozen? ⟨c.rb, 1, none⟩ = false := h.frozen 1
  have f4 : w.frozen? ⟨c.rb, 4, none⟩ = false := h.frozen 4
  have a1 := (hc.cell h (show st.i < c.ts.length by omega)).2.1
  have b0 := (hc.cell h (show st.i + 1 < c.ts.length by omega)).1
  have hfew := hc.few
  have hle := (hc.tk_eq hi).2
  have hl := hc.le
  have hm := hc.cap
  unfold maxLen at hm
  obtain ⟨l1, l2⟩ := h.lt
  have H := hide h
  have ND := hide hnd
  have G0 := hide hg
  have HI1 := hide j1
  have HI2 := hide j2
  have HI3 := hide j3
  have hi1 : i1 < c.ts.length := by omega
  have hgd : (f = 0 ∧ (rk (tk c.ts (st.i + 1)).kind == 58) = false) ∨ ((f : Int) == 0) = false := by
    rcases hs with ⟨h1, h2⟩ | h1
    · exact .inl ⟨h1, by rw [beq_eq_false_iff_ne]; exact rk_ne (n := 11) (by decide) h2⟩
    · exact .inr (by simp; omega)

  clear h hnd hg j1 j2 j3
  unfold ptrV
  rcases hgd with ⟨rfl, hkk⟩ | hf0
  all_goals
    go_enter Tryz.func245, Tryz.ntmps245
    go_wp2
    go_quiet (fail)
    go_wp2
    go_quiet (fail)
    go_wp2_with fail
    refine (rfail_first c hc _ _ _ _ _ _ 7 _ ((((H.out.drewN _).set1 hc _).drewN _).set4 hc _)).mono ?_
    rintro x w1 ⟨rfl, hR, hG⟩
    have R1 : Hid (Rq c w1 ((i1 : Nat) : Int) 7 ((tk c.ts st.i).at_ : Int) 17 d (badI st.bad)) := by
      have hR2 := hR
      have := HI1.out; have := HI2.out; have := HI3.out
      first | exact hR2 | (show Rq c w1 ((i1 : Nat) : Int) 7 ((tk c.ts st.i).at_ : Int) 17 d (badI st.bad); rw [show i1 = (st.i + 1) by omega]; exact hR2)
    have G1 := hide (grown_trans G0.out (grown_trans (grown_trans (grown_trans (grown_trans (grown_drewN (grown_refl _ _) _) (grown_set _ _ _ _)) (grown_drewN (grown_refl _ _) _)) (grown_set _ _ _ _)) hG))
    have N1 := hide (nodeAt.kept ND.out (grown_trans (grown_trans (grown_trans (grown_trans (grown_drewN (grown_refl _ _) _) (grown_set _ _ _ _)) (grown_drewN (grown_refl _ _) _)) (grown_set _ _ _ _)) hG) hb)
    clear hG hR
    clear c0 c1 c4 f1 f4 a1 b0
    go_wp2_with fail
    refine (ris_later c hc _ _ _ _ _ _ _ _ (by decide) R1.out).mono ?_
    rintro x w2 ⟨rfl, hG⟩
    have R2 : Hid (Rq c w2 ((i1 : Nat) : Int) 7 ((tk c.ts st.i).at_ : Int) 17 d (badI st.bad)) := by
      have hR2 := Rq.kept R1.out hG
      have := HI1.out; have := HI2.out; have := HI3.out
      first | exact hR2 | (show Rq c w2 ((i1 : Nat) : Int) 7 ((tk c.ts st.i).at_ : Int) 17 d (badI st.bad); rw [show i1 = i1 by omega]; exact hR2)
    have G2 := hide (grown_trans G1.out (grown_trans (grown_refl _ _) (grown_some hG)))
    have N2 := hide (nodeAt.kept N1.out (grown_trans (grown_refl _ _) (grown_some hG)) hb)
    clear hG
    go_wp2_with fail
    refine (ris_later c hc _ _ _ _ _ _ _ _ (by decide) R2.out).mono ?_
    rintro x w3 ⟨rfl, hG⟩
    have R3 : Hid (Rq c w3 ((i1 : Nat) : Int) 7 ((tk c.ts st.i).at_ : Int) 17 d (badI st.bad)) := by
      have hR2 := Rq.kept R2.out hG
      have := HI1.out; have := HI2.out; have := HI3.out
      first | exact hR2 | (show Rq c w3 ((i1 : Nat) : Int) 7 ((tk c.ts st.i).at_ : Int) 17 d (badI st.bad); rw [show i1 = i1 by omega]; exact hR2)
    have G3 := hide (grown_trans G2.out (grown_trans (grown_refl _ _) (grown_some hG)))
    have N3 := hide (nodeAt.kept N2.out (grown_trans (grown_refl _ _) (grown_some hG)) hb)
    clear hG
    have n0 : w3.cell? ⟨nb, 0, none⟩ = some (.int .u8 100) := N3.out.cell 0
    have q0 : w3.frozen? ⟨nb, 0, none⟩ = false := N3.out.frozen 0
    have R4 := hide (R3.out.setn hc hb 0 (.int .u8 61))
    have N4 := hide (nodeAt.set N3.out 0 (.int .u8 61))
    have G4 := hide (grown_node G3.out hn 0 (.int .u8 61))
    go_wp2
    obtain ⟨w4, hw4⟩ : ∃ w4, w4 = w3.setCell ⟨nb, 0, none⟩ (.int .u8 61) := ⟨_, rfl⟩
    rw [← hw4] at R4 N4 G4 ⊢
    clear hw4 n0 q0
    have c0 : w4.cell? ⟨c.rb, 0, none⟩ = some (.slice (some ⟨c.g, 0, none⟩) c.all.length c.cap) := R4.out.cell 0
    have c1 : w4.cell? ⟨c.rb, 1, none⟩ = some (.int .i64 (i1 : Nat)) := R4.out.cell 1
    obtain ⟨e0, e1, e2, e3⟩ := hc.cell R4.out hi1
    have hle2 := (hc.tk_eq hi1).2
    obtain ⟨l3, l4⟩ := R4.out.lt
    go_region_with (go_at_call 54; refine (rfail_more c hc _ _ _ _ _ _ _ _ _ (by decide) R4.out.drew).mono ?_; rintro x w5 ⟨rfl, hG0⟩; have hG := grown_undrew hG0; clear hG0)
    all_goals
      clear c0 c1 e0 e1 e2 e3 hle2 l3 l4
      have R5 : Hid (Rq c w5 ((i1 : Nat) : Int) 7 ((tk c.ts st.i).at_ : Int) 17 d (badI st.bad)) := by
        have hR2 := Rq.kept R4.out hG
        have := HI1.out; have := HI2.out; have := HI3.out
        first | exact hR2 | (show Rq c w5 ((i1 : Nat) : Int) 7 ((tk c.ts st.i).at_ : Int) 17 d (badI st.bad); rw [show i1 = i1 by omega]; exact hR2)
      have G5 := hide (grown_trans G4.out (grown_trans (grown_refl _ _) (grown_some hG)))
      have N5 := hide (nodeAt.kept N4.out (grown_trans (grown_refl _ _) (grown_some hG)) hb)
      clear hG
      go_wp2
      have c0 : w5.cell? ⟨c.rb, 0, none⟩ = some (.slice (some ⟨c.g, 0, none⟩) c.all.length c.cap) := R5.out.cell 0
      have c1 : w5.cell? ⟨c.rb, 1, none⟩ = some (.int .i64 (i1 : Nat)) := R5.out.cell 1
      obtain ⟨e0, e1, e2, e3⟩ := hc.cell R5.out hi1
      have hle2 := (hc.tk_eq hi1).2
      obtain ⟨l3, l4⟩ := R5.out.lt
      go_region
      all_goals
        have HAL := hide (World.grownBy_alloc w5 (.cells #[.int .u8 (rk (tk c.ts i1).kind), .int .i64 ((tk c.ts i1).at_ : Int), .string (rTxt c.s (tk c.ts i1)), .int .i64 (rNum c.s (tk c.ts i1) : Int)] 123) none)
        have HTB : Hid (c.rb < w5.heap.size) := l3
        have hne : nb ≠ w5.heap.size := by have := N5.out.lt; omega
        clear c0 c1 e0 e1 e2 e3 hle2 l3 l4
        go_wp2_with fail
        refine (ris_later c hc _ _ _ _ _ _ _ _ (by decide) ((R5.out.kept HAL.out).drew)).mono ?_
        rintro x w6 ⟨rfl, hG⟩
        have R6 : Hid (Rq c w6 ((i1 : Nat) : Int) 7 ((tk c.ts st.i).at_ : Int) 17 d (badI st.bad)) := by
          have hR2 := Rq.kept ((R5.out.kept HAL.out).drew) hG
          have := HI1.out; have := HI2.out; have := HI3.out
          first | exact hR2 | (show Rq c w6 ((i1 : Nat) : Int) 7 ((tk c.ts st.i).at_ : Int) 17 d (badI st.bad); rw [show i1 = i1 by omega]; exact hR2)
        have G6 := hide (grown_trans G5.out (grown_trans (grown_drew (grown_some HAL.out)) (grown_some hG)))
        have N6 := hide (nodeAt.kept N5.out (grown_trans (grown_drew (grown_some HAL.out)) (grown_some hG)) hb)
        have T6 := hide (rtokAt.kept (rtokAt_new w5 _) (grown_trans (grown_refl _ _) (grown_some hG)) HTB.out)
        clear hG
        have t1_6 : w6.cell? ⟨w5.heap.size, 1, none⟩ = some (.int .i64 ((tk c.ts i1).at_ : Int)) := T6.out.cell 1
        have t3_6 : w6.cell? ⟨w5.heap.size, 3, none⟩ = some (.int .i64 (rNum c.s (tk c.ts i1) : Int)) := T6.out.cell 3
        go_wp2_with fail
        refine (rfail_more c hc _ _ _ _ _ _ _ _ _ (by decide) R6.out).mono ?_
        rintro x w7 ⟨rfl, hG⟩
        have R7 : Hid (Rq c w7 ((i1 : Nat) : Int) 7 ((tk c.ts st.i).at_ : Int) 17 d (badI st.bad)) := by
          have hR2 := Rq.kept R6.out hG
          have := HI1.out; have := HI2.out; have := HI3.out
          first | exact hR2 | (show Rq c w7 ((i1 : Nat) : Int) 7 ((tk c.ts st.i).at_ : Int) 17 d (badI st.bad); rw [show i1 = i1 by omega]; exact hR2)
        have G7 := hide (grown_trans G6.out (grown_trans (grown_refl _ _) (grown_some hG)))
        have N7 := hide (nodeAt.kept N6.out (grown_trans (grown_refl _ _) (grown_some hG)) hb)
        have T7 := hide (rtokAt.kept T6.out (grown_trans (grown_refl _ _) (grown_some hG)) HTB.out)
        clear hG
        have t1_7 : w7.cell? ⟨w5.heap.size, 1, none⟩ = some (.int .i64 ((tk c.ts i1).at_ : Int)) := T7.out.cell 1
        have t3_7 : w7.cell? ⟨w5.heap.size, 3, none⟩ = some (.int .i64 (rNum c.s (tk c.ts i1) : Int)) := T7.out.cell 3
        have n1 : w7.cell? ⟨nb, 1, none⟩ = some (.int .i64 0) := N7.out.cell 1
        have q1 : w7.frozen? ⟨nb, 1, none⟩ = false := N7.out.frozen 1
        have n2 : w7.cell? ⟨nb, 2, none⟩ = some (.int .i64 0) := N7.out.cell 2
        have q2 : w7.frozen? ⟨nb, 2, none⟩ = false := N7.out.frozen 2
        go_wp2
        go_end0
        exact ⟨rfl, 386, _, i1, (N7.out.set 1 _).set 2 _, .inr ⟨by decide, _, _, rfl⟩, grown_node (grown_node G7.out hn _ _) hn _ _, hi1, by have := HI1.out; omega, rfl, _, _, _, (R7.out.setn hc hb _ _).setn hc hb _ _⟩

set_option maxRecDepth 100000 in
set_option maxHeartbeats 4000000 in
theorem rpair_sign_big (c : RCtx) (hc : c.Good) (d : Int) (f : Nat) (w0 w : World) (st : St) (nb : Nat) (h : Rq c w st.i 0 0 st.atoms d (badI st.bad)) (hi : st.i + 1 < c.ts.length) (hf : f ≤ 5) (ha : st.atoms ≤ 16) (hb : c.rb < nb) (hg : w0.grownBy w (some c.rb)) (hn : w0.heap.size ≤ nb)
    (hnd : nodeAt w nb #[.int .u8 100, .int .i64 0, .int .i64 0, .slice none 0 0]) (i1 i2 i3 : Nat) (j1 : i1 = st.i + 1) (j2 : i2 = st.i + 2) (j3 : i3 = st.i + 3) (hA : st.atoms ≤ 15) (hk1 : ¬ (tk c.ts (st.i + 1)).kind = 10) (hk2 : ¬ (tk c.ts (st.i + 1)).kind = 11) (hv : 31 < rNum c.s (tk c.ts i1)) :
    Calls Tryz.prog 245 #[.pointer (some ⟨c.rb, 0, none⟩), ptrV nb, .int .i64 f] w fun x w' => x = .returned (.tuple #[]) ∧ OutF c d st nb w0 (.error (3, (tk c.ts i1).at_)) w' := by
  have c0 : w.cell? ⟨c.rb, 0, none⟩ = some (.slice (some ⟨c.g, 0, none⟩) c.all.length c.cap) := h.cell 0
  have c1 : w.cell? ⟨c.rb, 1, none⟩ = some (.int .i64 st.i) := h.cell 1
  have c4 : w.cell? ⟨c.rb, 4, none⟩ = some (.int .i64 st.atoms) := h.cell 4
  have f1 : w.frozen? ⟨c.rb, 1, none⟩ = false := h.frozen 1
  have f4 : w.frozen? ⟨c.rb, 4, none⟩ = false := h.frozen 4
  have a1 := (hc.cell h (show st.i < c.ts.length by omega)).2.1
  have b0 := (hc.cell h (show st.i + 1 < c.ts.length by omega)).1
  have hfew := hc.few
  have hle := (hc.tk_eq hi).2
  have hl := hc.le
  have hm := hc.cap
  unfold maxLen at hm
  obtain ⟨l1, l2⟩ := h.lt
  have H := hide h
  have ND := hide hnd
  have G0 := hide hg
  have HI1 := hide j1
  have HI2 := hide j2
  have HI3 := hide j3
  have hi1 : i1 < c.ts.length := by omega
  have KA : Hid (¬ rk (tk c.ts (st.i + 1)).kind = 61) := rk_ne (n := 10) (by decide) hk1
  have KB : Hid (¬ rk (tk c.ts i1).kind = 58) := by rw [j1]; exact rk_ne (n := 11) (by decide) hk2
  have hgd : (f = 0 ∧ (rk (tk c.ts (st.i + 1)).kind == 58) = false) ∨ ((f : Int) == 0) = false := by
    rcases Nat.eq_zero_or_pos f with h | h
    · exact .inl ⟨h, by rw [beq_eq_false_iff_ne]; exact rk_ne (n := 11) (by decide) hk2⟩
    · exact .inr (by simp; omega)
  clear hk1 hk2
  clear h hnd hg j1 j2 j3
  unfold ptrV
  rcases hgd with ⟨rfl, hkk⟩ | hf0
  all_goals
    go_enter Tryz.func245, Tryz.ntmps245
    go_wp2
    go_quiet (fail)
    go_wp2
    go_quiet (fail)
    go_wp2_with fail
    refine (ris_no c hc _ (st.i + 1) _ _ _ _ 61 ((((H.out.drewN _).set1 hc _).drewN _).set4 hc _) (by omega) KA.out).mono ?_
    rintro x w1 ⟨rfl, hG⟩
    have R1 : Hid (Rq c w1 ((i1 : Nat) : Int) 0 0 ((st.atoms : Int) + 1) d (badI st.bad)) := by
      have hR2 := Rq.kept ((((H.out.drewN _).set1 hc _).drewN _).set4 hc _) hG
      have := HI1.out; have := HI2.out; have := HI3.out
      first | exact hR2 | (show Rq c w1 ((i1 : Nat) : Int) 0 0 ((st.atoms : Int) + 1) d (badI st.bad); rw [show i1 = (st.i + 1) by omega]; exact hR2)
    have G1 := hide (grown_trans G0.out (grown_trans (grown_trans (grown_trans (grown_trans (grown_drewN (grown_refl _ _) _) (grown_set _ _ _ _)) (grown_drewN (grown_refl _ _) _)) (grown_set _ _ _ _)) (grown_some hG)))
    have N1 := hide (nodeAt.kept ND.out (grown_trans (grown_trans (grown_trans (grown_trans (grown_drewN (grown_refl _ _) _) (grown_set _ _ _ _)) (grown_drewN (grown_refl _ _) _)) (grown_set _ _ _ _)) (grown_some hG)) hb)
    clear hG
    clear c0 c1 c4 f1 f4 a1 b0
    go_wp2_with fail
    refine (ris_no c hc _ i1 _ _ _ _ 58 R1.out hi1 KB.out).mono ?_
    rintro x w2 ⟨rfl, hG⟩
    have R2 : Hid (Rq c w2 ((i1 : Nat) : Int) 0 0 ((st.atoms : Int) + 1) d (badI st.bad)) := by
      have hR2 := Rq.kept R1.out hG
      have := HI1.out; have := HI2.out; have := HI3.out
      first | exact hR2 | (show Rq c w2 ((i1 : Nat) : Int) 0 0 ((st.atoms : Int) + 1) d (badI st.bad); rw [show i1 = i1 by omega]; exact hR2)
    have G2 := hide (grown_trans G1.out (grown_trans (grown_refl _ _) (grown_some hG)))
    have N2 := hide (nodeAt.kept N1.out (grown_trans (grown_refl _ _) (grown_some hG)) hb)
    clear hG
    have n0 : w2.cell? ⟨nb, 0, none⟩ = some (.int .u8 100) := N2.out.cell 0
    have q0 : w2.frozen? ⟨nb, 0, none⟩ = false := N2.out.frozen 0
    have R3 := hide (R2.out.setn hc hb 0 (.int .u8 61))
    have N3 := hide (nodeAt.set N2.out 0 (.int .u8 61))
    have G3 := hide (grown_node G2.out hn 0 (.int .u8 61))
    go_wp2
    obtain ⟨w3, hw3⟩ : ∃ w3, w3 = w2.setCell ⟨nb, 0, none⟩ (.int .u8 61) := ⟨_, rfl⟩
    rw [← hw3] at R3 N3 G3 ⊢
    clear hw3 n0 q0
    have c0 : w3.cell? ⟨c.rb, 0, none⟩ = some (.slice (some ⟨c.g, 0, none⟩) c.all.length c.cap) := R3.out.cell 0
    have c1 : w3.cell? ⟨c.rb, 1, none⟩ = some (.int .i64 (i1 : Nat)) := R3.out.cell 1
    obtain ⟨e0, e1, e2, e3⟩ := hc.cell R3.out hi1
    have hle2 := (hc.tk_eq hi1).2
    obtain ⟨l3, l4⟩ := R3.out.lt
    go_region_with (go_at_call 54; refine (rfail_first c hc _ _ _ _ _ _ 3 _ R3.out.drew).mono ?_; rintro x w4 ⟨rfl, hR, hG0⟩; have hG := grown_undrew hG0; clear hG0)
    all_goals
      clear c0 c1 e0 e1 e2 e3 hle2 l3 l4
      have R4 : Hid (Rq c w4 ((i1 : Nat) : Int) 3 ((tk c.ts i1).at_ : Int) ((st.atoms : Int) + 1) d (badI st.bad)) := by
        have hR2 := hR
        have := HI1.out; have := HI2.out; have := HI3.out
        first | exact hR2 | (show Rq c w4 ((i1 : Nat) : Int) 3 ((tk c.ts i1).at_ : Int) ((st.atoms : Int) + 1) d (badI st.bad); rw [show i1 = i1 by omega]; exact hR2)
      have G4 := hide (grown_trans G3.out (grown_trans (grown_refl _ _) hG))
      have N4 := hide (nodeAt.kept N3.out (grown_trans (grown_refl _ _) hG) hb)
      clear hG hR
      go_wp2
      have c0 : w4.cell? ⟨c.rb, 0, none⟩ = some (.slice (some ⟨c.g, 0, none⟩) c.all.length c.cap) := R4.out.cell 0
      have c1 : w4.cell? ⟨c.rb, 1, none⟩ = some (.int .i64 (i1 : Nat)) := R4.out.cell 1
      obtain ⟨e0, e1, e2, e3⟩ := hc.cell R4.out hi1
      have hle2 := (hc.tk_eq hi1).2
      obtain ⟨l3, l4⟩ := R4.out.lt
      go_region
      all_goals
        have HAL := hide (World.grownBy_alloc w4 (.cells #[.int .u8 (rk (tk c.ts i1).kind), .int .i64 ((tk c.ts i1).at_ : Int), .string (rTxt c.s (tk c.ts i1)), .int .i64 (rNum c.s (tk c.ts i1) : Int)] 123) none)
        have HTB : Hid (c.rb < w4.heap.size) := l3
        have hne : nb ≠ w4.heap.size := by have := N4.out.lt; omega
        clear c0 c1 e0 e1 e2 e3 hle2 l3 l4
        go_wp2_with fail
        refine (ris_later c hc _ _ _ _ _ _ _ _ (by decide) ((R4.out.kept HAL.out).drew)).mono ?_
        rintro x w5 ⟨rfl, hG⟩
        have R5 : Hid (Rq c w5 ((i1 : Nat) : Int) 3 ((tk c.ts i1).at_ : Int) ((st.atoms : Int) + 1) d (badI st.bad)) := by
          have hR2 := Rq.kept ((R4.out.kept HAL.out).drew) hG
          have := HI1.out; have := HI2.out; have := HI3.out
          first | exact hR2 | (show Rq c w5 ((i1 : Nat) : Int) 3 ((tk c.ts i1).at_ : Int) ((st.atoms : Int) + 1) d (badI st.bad); rw [show i1 = i1 by omega]; exact hR2)
        have G5 := hide (grown_trans G4.out (grown_trans (grown_drew (grown_some HAL.out)) (grown_some hG)))
        have N5 := hide (nodeAt.kept N4.out (grown_trans (grown_drew (grown_some HAL.out)) (grown_some hG)) hb)
        have T5 := hide (rtokAt.kept (rtokAt_new w4 _) (grown_trans (grown_refl _ _) (grown_some hG)) HTB.out)
        clear hG
        have t1_5 : w5.cell? ⟨w4.heap.size, 1, none⟩ = some (.int .i64 ((tk c.ts i1).at_ : Int)) := T5.out.cell 1
        have t3_5 : w5.cell? ⟨w4.heap.size, 3, none⟩ = some (.int .i64 (rNum c.s (tk c.ts i1) : Int)) := T5.out.cell 3
        go_wp2_with fail
        refine (rfail_more c hc _ _ _ _ _ _ _ _ _ (by decide) R5.out).mono ?_
        rintro x w6 ⟨rfl, hG⟩
        have R6 : Hid (Rq c w6 ((i1 : Nat) : Int) 3 ((tk c.ts i1).at_ : Int) ((st.atoms : Int) + 1) d (badI st.bad)) := by
          have hR2 := Rq.kept R5.out hG
          have := HI1.out; have := HI2.out; have := HI3.out
          first | exact hR2 | (show Rq c w6 ((i1 : Nat) : Int) 3 ((tk c.ts i1).at_ : Int) ((st.atoms : Int) + 1) d (badI st.bad); rw [show i1 = i1 by omega]; exact hR2)
        have G6 := hide (grown_trans G5.out (grown_trans (grown_refl _ _) (grown_some hG)))
        have N6 := hide (nodeAt.kept N5.out (grown_trans (grown_refl _ _) (grown_some hG)) hb)
        have T6 := hide (rtokAt.kept T5.out (grown_trans (grown_refl _ _) (grown_some hG)) HTB.out)
        clear hG
        have t1_6 : w6.cell? ⟨w4.heap.size, 1, none⟩ = some (.int .i64 ((tk c.ts i1).at_ : Int)) := T6.out.cell 1
        have t3_6 : w6.cell? ⟨w4.heap.size, 3, none⟩ = some (.int .i64 (rNum c.s (tk c.ts i1) : Int)) := T6.out.cell 3
        go_wp2_with fail
        refine (rfail_more c hc _ _ _ _ _ _ _ _ _ (by decide) R6.out).mono ?_
        rintro x w7 ⟨rfl, hG⟩
        have R7 : Hid (Rq c w7 ((i1 : Nat) : Int) 3 ((tk c.ts i1).at_ : Int) ((st.atoms : Int) + 1) d (badI st.bad)) := by
          have hR2 := Rq.kept R6.out hG
          have := HI1.out; have := HI2.out; have := HI3.out
          first | exact hR2 | (show Rq c w7 ((i1 : Nat) : Int) 3 ((tk c.ts i1).at_ : Int) ((st.atoms : Int) + 1) d (badI st.bad); rw [show i1 = i1 by omega]; exact hR2)
        have G7 := hide (grown_trans G6.out (grown_trans (grown_refl _ _) (grown_some hG)))
        have N7 := hide (nodeAt.kept N6.out (grown_trans (grown_refl _ _) (grown_some hG)) hb)
        have T7 := hide (rtokAt.kept T6.out (grown_trans (grown_refl _ _) (grown_some hG)) HTB.out)
        clear hG
        have t1_7 : w7.cell? ⟨w4.heap.size, 1, none⟩ = some (.int .i64 ((tk c.ts i1).at_ : Int)) := T7.out.cell 1
        have t3_7 : w7.cell? ⟨w4.heap.size, 3, none⟩ = some (.int .i64 (rNum c.s (tk c.ts i1) : Int)) := T7.out.cell 3
        have n1 : w7.cell? ⟨nb, 1, none⟩ = some (.int .i64 0) := N7.out.cell 1
        have q1 : w7.frozen? ⟨nb, 1, none⟩ = false := N7.out.frozen 1
        have n2 : w7.cell? ⟨nb, 2, none⟩ = some (.int .i64 0) := N7.out.cell 2
        have q2 : w7.frozen? ⟨nb, 2, none⟩ = false := N7.out.frozen 2
        go_wp2
        go_end0
        exact ⟨rfl, 386, _, i1, (N7.out.set 1 _).set 2 _, .inr ⟨by decide, _, _, rfl⟩, grown_node (grown_node G7.out hn _ _) hn _ _, hi1, by have := HI1.out; omega, rfl, _, _, _, (R7.out.setn hc hb _ _).setn hc hb _ _⟩

set_option maxRecDepth 100000 in
set_option maxHeartbeats 4000000 in
theorem rpair_many_big (c : RCtx) (hc : c.Good) (d : Int) (f : Nat) (w0 w : World) (st : St) (nb : Nat) (h : Rq c w st.i 0 0 st.atoms d (badI st.bad)) (hi : st.i + 1 < c.ts.length) (hf : f ≤ 5) (ha : st.atoms ≤ 16) (hb : c.rb < nb) (hg : w0.grownBy w (some c.rb)) (hn : w0.heap.size ≤ nb)
    (hnd : nodeAt w nb #[.int .u8 100, .int .i64 0, .int .i64 0, .slice none 0 0]) (i1 i2 i3 : Nat) (j1 : i1 = st.i + 1) (j2 : i2 = st.i + 2) (j3 : i3 = st.i + 3) (hA : st.atoms = 16) (hs : (f = 0 ∧ ¬ (tk c.ts (st.i + 1)).kind = 11) ∨ ¬ f = 0) (hv : 31 < rNum c.s (tk c.ts i1)) :
    Calls Tryz.prog 245 #[.pointer (some ⟨c.rb, 0, none⟩), ptrV nb, .int .i64 f] w fun x w' => x = .returned (.tuple #[]) ∧ OutF c d st nb w0 (.error (7, (tk c.ts st.i).at_)) w' := by
  have c0 : w.cell? ⟨c.rb, 0, none⟩ = some (.slice (some ⟨c.g, 0, none⟩) c.all.length c.cap) := h.cell 0
  have c1 : w.cell? ⟨c.rb, 1, none⟩ = some (.int .i64 st.i) := h.cell 1
  have c4 : w.cell? ⟨c.rb, 4, none⟩ = some (.int .i64 st.atoms) := h.cell 4
  have f1 : w.frozen? ⟨c.rb, 1, none⟩ = false := h.frozen 1
  have f4 : w.frozen? ⟨c.rb, 4, none⟩ = false := h.frozen 4
  have a1 := (hc.cell h (show st.i < c.ts.length by omega)).2.1
  have b0 := (hc.cell h (show st.i + 1 < c.ts.length by omega)).1
  have hfew := hc.few
  have hle := (hc.tk_eq hi).2
  have hl := hc.le
  have hm := hc.cap
  unfold maxLen at hm
  obtain ⟨l1, l2⟩ := h.lt
  have H := hide h
  have ND := hide hnd
  have G0 := hide hg
  have HI1 := hide j1
  have HI2 := hide j2
  have HI3 := hide j3
  have hi1 : i1 < c.ts.length := by omega
  have hgd : (f = 0 ∧ (rk (tk c.ts (st.i + 1)).kind == 58) = false) ∨ ((f : Int) == 0) = false := by
    rcases hs with ⟨h1, h2⟩ | h1
    · exact .inl ⟨h1, by rw [beq_eq_false_iff_ne]; exact rk_ne (n := 11) (by decide) h2⟩
    · exact .inr (by simp; omega)

  clear h hnd hg j1 j2 j3
  unfold ptrV
  rcases hgd with ⟨rfl, hkk⟩ | hf0
  all_goals
    go_enter Tryz.func245, Tryz.ntmps245
    go_wp2
    go_quiet (fail)
    go_wp2
    go_quiet (fail)
    go_wp2_with fail
    refine (rfail_first c hc _ _ _ _ _ _ 7 _ ((((H.out.drewN _).set1 hc _).drewN _).set4 hc _)).mono ?_
    rintro x w1 ⟨rfl, hR, hG⟩
    have R1 : Hid (Rq c w1 ((i1 : Nat) : Int) 7 ((tk c.ts st.i).at_ : Int) 17 d (badI st.bad)) := by
      have hR2 := hR
      have := HI1.out; have := HI2.out; have := HI3.out
      first | exact hR2 | (show Rq c w1 ((i1 : Nat) : Int) 7 ((tk c.ts st.i).at_ : Int) 17 d (badI st.bad); rw [show i1 = (st.i + 1) by omega]; exact hR2)
    have G1 := hide (grown_trans G0.out (grown_trans (grown_trans (grown_trans (grown_trans (grown_drewN (grown_refl _ _) _) (grown_set _ _ _ _)) (grown_drewN (grown_refl _ _) _)) (grown_set _ _ _ _)) hG))
    have N1 := hide (nodeAt.kept ND.out (grown_trans (grown_trans (grown_trans (grown_trans (grown_drewN (grown_refl _ _) _) (grown_set _ _ _ _)) (grown_drewN (grown_refl _ _) _)) (grown_set _ _ _ _)) hG) hb)
    clear hG hR
    clear c0 c1 c4 f1 f4 a1 b0
    go_wp2_with fail
    refine (ris_later c hc _ _ _ _ _ _ _ _ (by decide) R1.out).mono ?_
    rintro x w2 ⟨rfl, hG⟩
    have R2 : Hid (Rq c w2 ((i1 : Nat) : Int) 7 ((tk c.ts st.i).at_ : Int) 17 d (badI st.bad)) := by
      have hR2 := Rq.kept R1.out hG
      have := HI1.out; have := HI2.out; have := HI3.out
      first | exact hR2 | (show Rq c w2 ((i1 : Nat) : Int) 7 ((tk c.ts st.i).at_ : Int) 17 d (badI st.bad); rw [show i1 = i1 by omega]; exact hR2)
    have G2 := hide (grown_trans G1.out (grown_trans (grown_refl _ _) (grown_some hG)))
    have N2 := hide (nodeAt.kept N1.out (grown_trans (grown_refl _ _) (grown_some hG)) hb)
    clear hG
    go_wp2_with fail
    refine (ris_later c hc _ _ _ _ _ _ _ _ (by decide) R2.out).mono ?_
    rintro x w3 ⟨rfl, hG⟩
    have R3 : Hid (Rq c w3 ((i1 : Nat) : Int) 7 ((tk c.ts st.i).at_ : Int) 17 d (badI st.bad)) := by
      have hR2 := Rq.kept R2.out hG
      have := HI1.out; have := HI2.out; have := HI3.out
      first | exact hR2 | (show Rq c w3 ((i1 : Nat) : Int) 7 ((tk c.ts st.i).at_ : Int) 17 d (badI st.bad); rw [show i1 = i1 by omega]; exact hR2)
    have G3 := hide (grown_trans G2.out (grown_trans (grown_refl _ _) (grown_some hG)))
    have N3 := hide (nodeAt.kept N2.out (grown_trans (grown_refl _ _) (grown_some hG)) hb)
    clear hG
    have n0 : w3.cell? ⟨nb, 0, none⟩ = some (.int .u8 100) := N3.out.cell 0
    have q0 : w3.frozen? ⟨nb, 0, none⟩ = false := N3.out.frozen 0
    have R4 := hide (R3.out.setn hc hb 0 (.int .u8 61))
    have N4 := hide (nodeAt.set N3.out 0 (.int .u8 61))
    have G4 := hide (grown_node G3.out hn 0 (.int .u8 61))
    go_wp2
    obtain ⟨w4, hw4⟩ : ∃ w4, w4 = w3.setCell ⟨nb, 0, none⟩ (.int .u8 61) := ⟨_, rfl⟩
    rw [← hw4] at R4 N4 G4 ⊢
    clear hw4 n0 q0
    have c0 : w4.cell? ⟨c.rb, 0, none⟩ = some (.slice (some ⟨c.g, 0, none⟩) c.all.length c.cap) := R4.out.cell 0
    have c1 : w4.cell? ⟨c.rb, 1, none⟩ = some (.int .i64 (i1 : Nat)) := R4.out.cell 1
    obtain ⟨e0, e1, e2, e3⟩ := hc.cell R4.out hi1
    have hle2 := (hc.tk_eq hi1).2
    obtain ⟨l3, l4⟩ := R4.out.lt
    go_region_with (go_at_call 54; refine (rfail_more c hc _ _ _ _ _ _ _ _ _ (by decide) R4.out.drew).mono ?_; rintro x w5 ⟨rfl, hG0⟩; have hG := grown_undrew hG0; clear hG0)
    all_goals
      clear c0 c1 e0 e1 e2 e3 hle2 l3 l4
      have R5 : Hid (Rq c w5 ((i1 : Nat) : Int) 7 ((tk c.ts st.i).at_ : Int) 17 d (badI st.bad)) := by
        have hR2 := Rq.kept R4.out hG
        have := HI1.out; have := HI2.out; have := HI3.out
        first | exact hR2 | (show Rq c w5 ((i1 : Nat) : Int) 7 ((tk c.ts st.i).at_ : Int) 17 d (badI st.bad); rw [show i1 = i1 by omega]; exact hR2)
      have G5 := hide (grown_trans G4.out (grown_trans (grown_refl _ _) (grown_some hG)))
      have N5 := hide (nodeAt.kept N4.out (grown_trans (grown_refl _ _) (grown_some hG)) hb)
      clear hG
      go_wp2
      have c0 : w5.cell? ⟨c.rb, 0, none⟩ = some (.slice (some ⟨c.g, 0, none⟩) c.all.length c.cap) := R5.out.cell 0
      have c1 : w5.cell? ⟨c.rb, 1, none⟩ = some (.int .i64 (i1 : Nat)) := R5.out.cell 1
      obtain ⟨e0, e1, e2, e3⟩ := hc.cell R5.out hi1
      have hle2 := (hc.tk_eq hi1).2
      obtain ⟨l3, l4⟩ := R5.out.lt
      go_region
      all_goals
        have HAL := hide (World.grownBy_alloc w5 (.cells #[.int .u8 (rk (tk c.ts i1).kind), .int .i64 ((tk c.ts i1).at_ : Int), .string (rTxt c.s (tk c.ts i1)), .int .i64 (rNum c.s (tk c.ts i1) : Int)] 123) none)
        have HTB : Hid (c.rb < w5.heap.size) := l3
        have hne : nb ≠ w5.heap.size := by have := N5.out.lt; omega
        clear c0 c1 e0 e1 e2 e3 hle2 l3 l4
        go_wp2_with fail
        refine (ris_later c hc _ _ _ _ _ _ _ _ (by decide) ((R5.out.kept HAL.out).drew)).mono ?_
        rintro x w6 ⟨rfl, hG⟩
        have R6 : Hid (Rq c w6 ((i1 : Nat) : Int) 7 ((tk c.ts st.i).at_ : Int) 17 d (badI st.bad)) := by
          have hR2 := Rq.kept ((R5.out.kept HAL.out).drew) hG
          have := HI1.out; have := HI2.out; have := HI3.out
          first | exact hR2 | (show Rq c w6 ((i1 : Nat) : Int) 7 ((tk c.ts st.i).at_ : Int) 17 d (badI st.bad); rw [show i1 = i1 by omega]; exact hR2)
        have G6 := hide (grown_trans G5.out (grown_trans (grown_drew (grown_some HAL.out)) (grown_some hG)))
        have N6 := hide (nodeAt.kept N5.out (grown_trans (grown_drew (grown_some HAL.out)) (grown_some hG)) hb)
        have T6 := hide (rtokAt.kept (rtokAt_new w5 _) (grown_trans (grown_refl _ _) (grown_some hG)) HTB.out)
        clear hG
        have t1_6 : w6.cell? ⟨w5.heap.size, 1, none⟩ = some (.int .i64 ((tk c.ts i1).at_ : Int)) := T6.out.cell 1
        have t3_6 : w6.cell? ⟨w5.heap.size, 3, none⟩ = some (.int .i64 (rNum c.s (tk c.ts i1) : Int)) := T6.out.cell 3
        go_wp2_with fail
        refine (rfail_more c hc _ _ _ _ _ _ _ _ _ (by decide) R6.out).mono ?_
        rintro x w7 ⟨rfl, hG⟩
        have R7 : Hid (Rq c w7 ((i1 : Nat) : Int) 7 ((tk c.ts st.i).at_ : Int) 17 d (badI st.bad)) := by
          have hR2 := Rq.kept R6.out hG
          have := HI1.out; have := HI2.out; have := HI3.out
          first | exact hR2 | (show Rq c w7 ((i1 : Nat) : Int) 7 ((tk c.ts st.i).at_ : Int) 17 d (badI st.bad); rw [show i1 = i1 by omega]; exact hR2)
        have G7 := hide (grown_trans G6.out (grown_trans (grown_refl _ _) (grown_some hG)))
        have N7 := hide (nodeAt.kept N6.out (grown_trans (grown_refl _ _) (grown_some hG)) hb)
        have T7 := hide (rtokAt.kept T6.out (grown_trans (grown_refl _ _) (grown_some hG)) HTB.out)
        clear hG
        have t1_7 : w7.cell? ⟨w5.heap.size, 1, none⟩ = some (.int .i64 ((tk c.ts i1).at_ : Int)) := T7.out.cell 1
        have t3_7 : w7.cell? ⟨w5.heap.size, 3, none⟩ = some (.int .i64 (rNum c.s (tk c.ts i1) : Int)) := T7.out.cell 3
        go_wp2_with fail
        refine (rfail_more c hc _ _ _ _ _ _ _ _ _ (by decide) R7.out).mono ?_
        rintro x w8 ⟨rfl, hG⟩
        have R8 : Hid (Rq c w8 ((i1 : Nat) : Int) 7 ((tk c.ts st.i).at_ : Int) 17 d (badI st.bad)) := by
          have hR2 := Rq.kept R7.out hG
          have := HI1.out; have := HI2.out; have := HI3.out
          first | exact hR2 | (show Rq c w8 ((i1 : Nat) : Int) 7 ((tk c.ts st.i).at_ : Int) 17 d (badI st.bad); rw [show i1 = i1 by omega]; exact hR2)
        have G8 := hide (grown_trans G7.out (grown_trans (grown_refl _ _) (grown_some hG)))
        have N8 := hide (nodeAt.kept N7.out (grown_trans (grown_refl _ _) (grown_some hG)) hb)
        have T8 := hide (rtokAt.kept T7.out (grown_trans (grown_refl _ _) (grown_some hG)) HTB.out)
        clear hG
        have t1_8 : w8.cell? ⟨w5.heap.size, 1, none⟩ = some (.int .i64 ((tk c.ts i1).at_ : Int)) := T8.out.cell 1
        have t3_8 : w8.cell? ⟨w5.heap.size, 3, none⟩ = some (.int .i64 (rNum c.s (tk c.ts i1) : Int)) := T8.out.cell 3
        have n1 : w8.cell? ⟨nb, 1, none⟩ = some (.int .i64 0) := N8.out.cell 1
        have q1 : w8.frozen? ⟨nb, 1, none⟩ = false := N8.out.frozen 1
        have n2 : w8.cell? ⟨nb, 2, none⟩ = some (.int .i64 0) := N8.out.cell 2
        have q2 : w8.frozen? ⟨nb, 2, none⟩ = false := N8.out.frozen 2
        go_wp2
        go_end0
        exact ⟨rfl, 386, _, i1, (N8.out.set 1 _).set 2 _, .inr ⟨by decide, _, _, rfl⟩, grown_node (grown_node G8.out hn _ _) hn _ _, hi1, by have := HI1.out; omega, rfl, _, _, _, (R8.out.setn hc hb _ _).setn hc hb _ _⟩

set_option maxRecDepth 100000 in
set_option maxHeartbeats 4000000 in
theorem rpair_field (c : RCtx) (hc : c.Good) (d : Int) (f : Nat) (w0 w : World) (st : St) (nb : Nat) (h : Rq c w st.i 0 0 st.atoms d (badI st.bad)) (hi : st.i + 1 < c.ts.length) (hf : f ≤ 5) (ha : st.atoms ≤ 16) (hb : c.rb < nb) (hg : w0.grownBy w (some c.rb)) (hn : w0.heap.size ≤ nb)
    (hnd : nodeAt w nb #[.int .u8 100, .int .i64 0, .int .i64 0, .slice none 0 0]) (i1 i2 i3 : Nat) (j1 : i1 = st.i + 1) (j2 : i2 = st.i + 2) (j3 : i3 = st.i + 3) (hA : st.atoms ≤ 15) (hf0 : f = 0) (hk1 : (tk c.ts (st.i + 1)).kind = 11) :
    Calls Tryz.prog 245 #[.pointer (some ⟨c.rb, 0, none⟩), ptrV nb, .int .i64 f] w fun x w' => x = .returned (.tuple #[]) ∧ OutF c d st nb w0 (.error (5, (tk c.ts st.i).at_)) w' := by
  have c0 : w.cell? ⟨c.rb, 0, none⟩ = some (.slice (some ⟨c.g, 0, none⟩) c.all.length c.cap) := h.cell 0
  have c1 : w.cell? ⟨c.rb, 1, none⟩ = some (.int .i64 st.i) := h.cell 1
  have c4 : w.cell? ⟨c.rb, 4, none⟩ = some (.int .i64 st.atoms) := h.cell 4
  have f1 : w.frozen? ⟨c.rb, 1, none⟩ = false := h.frozen 1
  have f4 : w.frozen? ⟨c.rb, 4, none⟩ = false := h.frozen 4
  have a1 := (hc.cell h (show st.i < c.ts.length by omega)).2.1
  have b0 := (hc.cell h (show st.i + 1 < c.ts.length by omega)).1
  have hfew := hc.few
  have hle := (hc.tk_eq hi).2
  have hl := hc.le
  have hm := hc.cap
  unfold maxLen at hm
  obtain ⟨l1, l2⟩ := h.lt
  have H := hide h
  have ND := hide hnd
  have G0 := hide hg
  have HI1 := hide j1
  have HI2 := hide j2
  have HI3 := hide j3
  have hi1 : i1 < c.ts.length := by omega
  have hv : rNum c.s (tk c.ts i1) ≤ 31 := by unfold rNum; rw [j1, if_neg (by omega)]; omega
  rw [hk1] at b0
  clear hk1
  clear h hnd hg j1 j2 j3
  unfold ptrV
  subst hf0
  all_goals
    go_enter Tryz.func245, Tryz.ntmps245
    go_wp2
    go_quiet (fail)
    go_wp2
    go_quiet (fail)
    go_wp2_with fail
    refine (rfail_first c hc _ _ _ _ _ _ 5 _ (((H.out.drewN _).set1 hc _).drewN _)).mono ?_
    rintro x w1 ⟨rfl, hR, hG⟩
    have R1 : Hid (Rq c w1 ((i1 : Nat) : Int) 5 ((tk c.ts st.i).at_ : Int) (st.atoms : Int) d (badI st.bad)) := by
      have hR2 := hR
      have := HI1.out; have := HI2.out; have := HI3.out
      first | exact hR2 | (show Rq c w1 ((i1 : Nat) : Int) 5 ((tk c.ts st.i).at_ : Int) (st.atoms : Int) d (badI st.bad); rw [show i1 = (st.i + 1) by omega]; exact hR2)
    have G1 := hide (grown_trans G0.out (grown_trans (grown_trans (grown_trans (grown_drewN (grown_refl _ _) _) (grown_set _ _ _ _)) (grown_drewN (grown_refl _ _) _)) hG))
    have N1 := hide (nodeAt.kept ND.out (grown_trans (grown_trans (grown_trans (grown_drewN (grown_refl _ _) _) (grown_set _ _ _ _)) (grown_drewN (grown_refl _ _) _)) hG) hb)
    clear hG hR
    clear c0 c1 c4 f1 f4 a1 b0
    have c4 : w1.cell? ⟨c.rb, 4, none⟩ = some (.int .i64 st.atoms) := R1.out.cell 4
    have f4 : w1.frozen? ⟨c.rb, 4, none⟩ = false := R1.out.frozen 4
    go_wp2_with fail
    refine (ris_later c hc _ _ _ _ _ _ _ _ (by decide) (R1.out.set4 hc _)).mono ?_
    rintro x w2 ⟨rfl, hG⟩
    have R2 : Hid (Rq c w2 ((i1 : Nat) : Int) 5 ((tk c.ts st.i).at_ : Int) ((st.atoms : Int) + 1) d (badI st.bad)) := by
      have hR2 := Rq.kept (R1.out.set4 hc _) hG
      have := HI1.out; have := HI2.out; have := HI3.out
      first | exact hR2 | (show Rq c w2 ((i1 : Nat) : Int) 5 ((tk c.ts st.i).at_ : Int) ((st.atoms : Int) + 1) d (badI st.bad); rw [show i1 = i1 by omega]; exact hR2)
    have G2 := hide (grown_trans G1.out (grown_trans (grown_set _ _ _ _) (grown_some hG)))
    have N2 := hide (nodeAt.kept N1.out (grown_trans (grown_set _ _ _ _) (grown_some hG)) hb)
    clear hG
    go_wp2_with fail
    refine (ris_later c hc _ _ _ _ _ _ _ _ (by decide) R2.out).mono ?_
    rintro x w3 ⟨rfl, hG⟩
    have R3 : Hid (Rq c w3 ((i1 : Nat) : Int) 5 ((tk c.ts st.i).at_ : Int) ((st.atoms : Int) + 1) d (badI st.bad)) := by
      have hR2 := Rq.kept R2.out hG
      have := HI1.out; have := HI2.out; have := HI3.out
      first | exact hR2 | (show Rq c w3 ((i1 : Nat) : Int) 5 ((tk c.ts st.i).at_ : Int) ((st.atoms : Int) + 1) d (badI st.bad); rw [show i1 = i1 by omega]; exact hR2)
    have G3 := hide (grown_trans G2.out (grown_trans (grown_refl _ _) (grown_some hG)))
    have N3 := hide (nodeAt.kept N2.out (grown_trans (grown_refl _ _) (grown_some hG)) hb)
    clear hG
    have n0 : w3.cell? ⟨nb, 0, none⟩ = some (.int .u8 100) := N3.out.cell 0
    have q0 : w3.frozen? ⟨nb, 0, none⟩ = false := N3.out.frozen 0
    have R4 := hide (R3.out.setn hc hb 0 (.int .u8 61))
    have N4 := hide (nodeAt.set N3.out 0 (.int .u8 61))
    have G4 := hide (grown_node G3.out hn 0 (.int .u8 61))
    go_wp2
    obtain ⟨w4, hw4⟩ : ∃ w4, w4 = w3.setCell ⟨nb, 0, none⟩ (.int .u8 61) := ⟨_, rfl⟩
    rw [← hw4] at R4 N4 G4 ⊢
    clear hw4 n0 q0
    have c0 : w4.cell? ⟨c.rb, 0, none⟩ = some (.slice (some ⟨c.g, 0, none⟩) c.all.length c.cap) := R4.out.cell 0
    have c1 : w4.cell? ⟨c.rb, 1, none⟩ = some (.int .i64 (i1 : Nat)) := R4.out.cell 1
    obtain ⟨e0, e1, e2, e3⟩ := hc.cell R4.out hi1
    have hle2 := (hc.tk_eq hi1).2
    obtain ⟨l3, l4⟩ := R4.out.lt
    go_region_with (go_at_call 54; refine (rfail_more c hc _ _ _ _ _ _ _ _ _ (by decide) R4.out.drew).mono ?_; rintro x w5 ⟨rfl, hG0⟩; have hG := grown_undrew hG0; clear hG0)
    all_goals
      clear c0 c1 e0 e1 e2 e3 hle2 l3 l4
      have R5 : Hid (Rq c w5 ((i1 : Nat) : Int) 5 ((tk c.ts st.i).at_ : Int) ((st.atoms : Int) + 1) d (badI st.bad)) := by
        have hR2 := Rq.kept R4.out hG
        have := HI1.out; have := HI2.out; have := HI3.out
        first | exact hR2 | (show Rq c w5 ((i1 : Nat) : Int) 5 ((tk c.ts st.i).at_ : Int) ((st.atoms : Int) + 1) d (badI st.bad); rw [show i1 = i1 by omega]; exact hR2)
      have G5 := hide (grown_trans G4.out (grown_trans (grown_refl _ _) (grown_some hG)))
      have N5 := hide (nodeAt.kept N4.out (grown_trans (grown_refl _ _) (grown_some hG)) hb)
      clear hG
      go_wp2
      have c0 : w5.cell? ⟨c.rb, 0, none⟩ = some (.slice (some ⟨c.g, 0, none⟩) c.all.length c.cap) := R5.out.cell 0
      have c1 : w5.cell? ⟨c.rb, 1, none⟩ = some (.int .i64 (i1 : Nat)) := R5.out.cell 1
      obtain ⟨e0, e1, e2, e3⟩ := hc.cell R5.out hi1
      have hle2 := (hc.tk_eq hi1).2
      obtain ⟨l3, l4⟩ := R5.out.lt
      go_region
      all_goals
        have HAL := hide (World.grownBy_alloc w5 (.cells #[.int .u8 (rk (tk c.ts i1).kind), .int .i64 ((tk c.ts i1).at_ : Int), .string (rTxt c.s (tk c.ts i1)), .int .i64 (rNum c.s (tk c.ts i1) : Int)] 123) none)
        have HTB : Hid (c.rb < w5.heap.size) := l3
        have hne : nb ≠ w5.heap.size := by have := N5.out.lt; omega
        clear c0 c1 e0 e1 e2 e3 hle2 l3 l4
        go_wp2_with fail
        refine (ris_later c hc _ _ _ _ _ _ _ _ (by decide) ((R5.out.kept HAL.out).drew)).mono ?_
        rintro x w6 ⟨rfl, hG⟩
        have R6 : Hid (Rq c w6 ((i1 : Nat) : Int) 5 ((tk c.ts st.i).at_ : Int) ((st.atoms : Int) + 1) d (badI st.bad)) := by
          have hR2 := Rq.kept ((R5.out.kept HAL.out).drew) hG
          have := HI1.out; have := HI2.out; have := HI3.out
          first | exact hR2 | (show Rq c w6 ((i1 : Nat) : Int) 5 ((tk c.ts st.i).at_ : Int) ((st.atoms : Int) + 1) d (badI st.bad); rw [show i1 = i1 by omega]; exact hR2)
        have G6 := hide (grown_trans G5.out (grown_trans (grown_drew (grown_some HAL.out)) (grown_some hG)))
        have N6 := hide (nodeAt.kept N5.out (grown_trans (grown_drew (grown_some HAL.out)) (grown_some hG)) hb)
        have T6 := hide (rtokAt.kept (rtokAt_new w5 _) (grown_trans (grown_refl _ _) (grown_some hG)) HTB.out)
        clear hG
        have t1_6 : w6.cell? ⟨w5.heap.size, 1, none⟩ = some (.int .i64 ((tk c.ts i1).at_ : Int)) := T6.out.cell 1
        have t3_6 : w6.cell? ⟨w5.heap.size, 3, none⟩ = some (.int .i64 (rNum c.s (tk c.ts i1) : Int)) := T6.out.cell 3
        go_wp2_with fail
        refine (rfail_more c hc _ _ _ _ _ _ _ _ _ (by decide) R6.out).mono ?_
        rintro x w7 ⟨rfl, hG⟩
        have R7 : Hid (Rq c w7 ((i1 : Nat) : Int) 5 ((tk c.ts st.i).at_ : Int) ((st.atoms : Int) + 1) d (badI st.bad)) := by
          have hR2 := Rq.kept R6.out hG
          have := HI1.out; have := HI2.out; have := HI3.out
          first | exact hR2 | (show Rq c w7 ((i1 : Nat) : Int) 5 ((tk c.ts st.i).at_ : Int) ((st.atoms : Int) + 1) d (badI st.bad); rw [show i1 = i1 by omega]; exact hR2)
        have G7 := hide (grown_trans G6.out (grown_trans (grown_refl _ _) (grown_some hG)))
        have N7 := hide (nodeAt.kept N6.out (grown_trans (grown_refl _ _) (grown_some hG)) hb)
        have T7 := hide (rtokAt.kept T6.out (grown_trans (grown_refl _ _) (grown_some hG)) HTB.out)
        clear hG
        have t1_7 : w7.cell? ⟨w5.heap.size, 1, none⟩ = some (.int .i64 ((tk c.ts i1).at_ : Int)) := T7.out.cell 1
        have t3_7 : w7.cell? ⟨w5.heap.size, 3, none⟩ = some (.int .i64 (rNum c.s (tk c.ts i1) : Int)) := T7.out.cell 3
        have n1 : w7.cell? ⟨nb, 1, none⟩ = some (.int .i64 0) := N7.out.cell 1
        have q1 : w7.frozen? ⟨nb, 1, none⟩ = false := N7.out.frozen 1
        have n2 : w7.cell? ⟨nb, 2, none⟩ = some (.int .i64 0) := N7.out.cell 2
        have q2 : w7.frozen? ⟨nb, 2, none⟩ = false := N7.out.frozen 2
        go_wp2
        go_end0
        exact ⟨rfl, 386, _, i1, (N7.out.set 1 _).set 2 _, .inr ⟨by decide, _, _, rfl⟩, grown_node (grown_node G7.out hn _ _) hn _ _, hi1, by have := HI1.out; omega, rfl, _, _, _, (R7.out.setn hc hb _ _).setn hc hb _ _⟩

set_option maxRecDepth 100000 in
set_option maxHeartbeats 4000000 in
theorem rpair_field_many (c : RCtx) (hc : c.Good) (d : Int) (f : Nat) (w0 w : World) (st : St) (nb : Nat) (h : Rq c w st.i 0 0 st.atoms d (badI st.bad)) (hi : st.i + 1 < c.ts.length) (hf : f ≤ 5) (ha : st.atoms ≤ 16) (hb : c.rb < nb) (hg : w0.grownBy w (some c.rb)) (hn : w0.heap.size ≤ nb)
    (hnd : nodeAt w nb #[.int .u8 100, .int .i64 0, .int .i64 0, .slice none 0 0]) (i1 i2 i3 : Nat) (j1 : i1 = st.i + 1) (j2 : i2 = st.i + 2) (j3 : i3 = st.i + 3) (hA : st.atoms = 16) (hf0 : f = 0) (hk1 : (tk c.ts (st.i + 1)).kind = 11) :
    Calls Tryz.prog 245 #[.pointer (some ⟨c.rb, 0, none⟩), ptrV nb, .int .i64 f] w fun x w' => x = .returned (.tuple #[]) ∧ OutF c d st nb w0 (.error (5, (tk c.ts st.i).at_)) w' := by
  have c0 : w.cell? ⟨c.rb, 0, none⟩ = some (.slice (some ⟨c.g, 0, none⟩) c.all.length c.cap) := h.cell 0
  have c1 : w.cell? ⟨c.rb, 1, none⟩ = some (.int .i64 st.i) := h.cell 1
  have c4 : w.cell? ⟨c.rb, 4, none⟩ = some (.int .i64 st.atoms) := h.cell 4
  have f1 : w.frozen? ⟨c.rb, 1, none⟩ = false := h.frozen 1
  have f4 : w.frozen? ⟨c.rb, 4, none⟩ = false := h.frozen 4
  have a1 := (hc.cell h (show st.i < c.ts.length by omega)).2.1
  have b0 := (hc.cell h (show st.i + 1 < c.ts.length by omega)).1
  have hfew := hc.few
  have hle := (hc.tk_eq hi).2
  have hl := hc.le
  have hm := hc.cap
  unfold maxLen at hm
  obtain ⟨l1, l2⟩ := h.lt
  have H := hide h
  have ND := hide hnd
  have G0 := hide hg
  have HI1 := hide j1
  have HI2 := hide j2
  have HI3 := hide j3
  have hi1 : i1 < c.ts.length := by omega
  have hv : rNum c.s (tk c.ts i1) ≤ 31 := by unfold rNum; rw [j1, if_neg (by omega)]; omega
  rw [hk1] at b0
  clear hk1
  clear h hnd hg j1 j2 j3
  unfold ptrV
  subst hf0
  all_goals
    go_enter Tryz.func245, Tryz.ntmps245
    go_wp2
    go_quiet (fail)
    go_wp2
    go_quiet (fail)
    go_wp2_with fail
    refine (rfail_first c hc _ _ _ _ _ _ 5 _ (((H.out.drewN _).set1 hc _).drewN _)).mono ?_
    rintro x w1 ⟨rfl, hR, hG⟩
    have R1 : Hid (Rq c w1 ((i1 : Nat) : Int) 5 ((tk c.ts st.i).at_ : Int) (st.atoms : Int) d (badI st.bad)) := by
      have hR2 := hR
      have := HI1.out; have := HI2.out; have := HI3.out
      first | exact hR2 | (show Rq c w1 ((i1 : Nat) : Int) 5 ((tk c.ts st.i).at_ : Int) (st.atoms : Int) d (badI st.bad); rw [show i1 = (st.i + 1) by omega]; exact hR2)
    have G1 := hide (grown_trans G0.out (grown_trans (grown_trans (grown_trans (grown_drewN (grown_refl _ _) _) (grown_set _ _ _ _)) (grown_drewN (grown_refl _ _) _)) hG))
    have N1 := hide (nodeAt.kept ND.out (grown_trans (grown_trans (grown_trans (grown_drewN (grown_refl _ _) _) (grown_set _ _ _ _)) (grown_drewN (grown_refl _ _) _)) hG) hb)
    clear hG hR
    clear c0 c1 c4 f1 f4 a1 b0
    have c4 : w1.cell? ⟨c.rb, 4, none⟩ = some (.int .i64 st.atoms) := R1.out.cell 4
    have f4 : w1.frozen? ⟨c.rb, 4, none⟩ = false := R1.out.frozen 4
    go_wp2_with fail
    refine (rfail_more c hc _ _ _ _ _ _ _ _ _ (by decide) (R1.out.set4 hc _)).mono ?_
    rintro x w2 ⟨rfl, hG⟩
    have R2 : Hid (Rq c w2 ((i1 : Nat) : Int) 5 ((tk c.ts st.i).at_ : Int) 17 d (badI st.bad)) := by
      have hR2 := Rq.kept (R1.out.set4 hc _) hG
      have := HI1.out; have := HI2.out; have := HI3.out
      first | exact hR2 | (show Rq c w2 ((i1 : Nat) : Int) 5 ((tk c.ts st.i).at_ : Int) 17 d (badI st.bad); rw [show i1 = i1 by omega]; exact hR2)
    have G2 := hide (grown_trans G1.out (grown_trans (grown_set _ _ _ _) (grown_some hG)))
    have N2 := hide (nodeAt.kept N1.out (grown_trans (grown_set _ _ _ _) (grown_some hG)) hb)
    clear hG
    go_wp2_with fail
    refine (ris_later c hc _ _ _ _ _ _ _ _ (by decide) R2.out).mono ?_
    rintro x w3 ⟨rfl, hG⟩
    have R3 : Hid (Rq c w3 ((i1 : Nat) : Int) 5 ((tk c.ts st.i).at_ : Int) 17 d (badI st.bad)) := by
      have hR2 := Rq.kept R2.out hG
      have := HI1.out; have := HI2.out; have := HI3.out
      first | exact hR2 | (show Rq c w3 ((i1 : Nat) : Int) 5 ((tk c.ts st.i).at_ : Int) 17 d (badI st.bad); rw [show i1 = i1 by omega]; exact hR2)
    have G3 := hide (grown_trans G2.out (grown_trans (grown_refl _ _) (grown_some hG)))
    have N3 := hide (nodeAt.kept N2.out (grown_trans (grown_refl _ _) (grown_some hG)) hb)
    clear hG
    go_wp2_with fail
    refine (ris_later c hc _ _ _ _ _ _ _ _ (by decide) R3.out).mono ?_
    rintro x w4 ⟨rfl, hG⟩
    have R4 : Hid (Rq c w4 ((i1 : Nat) : Int) 5 ((tk c.ts st.i).at_ : Int) 17 d (badI st.bad)) := by
      have hR2 := Rq.kept R3.out hG
      have := HI1.out; have := HI2.out; have := HI3.out
      first | exact hR2 | (show Rq c w4 ((i1 : Nat) : Int) 5 ((tk c.ts st.i).at_ : Int) 17 d (badI st.bad); rw [show i1 = i1 by omega]; exact hR2)
    have G4 := hide (grown_trans G3.out (grown_trans (grown_refl _ _) (grown_some hG)))
    have N4 := hide (nodeAt.kept N3.out (grown_trans (grown_refl _ _) (grown_some hG)) hb)
    clear hG
    have n0 : w4.cell? ⟨nb, 0, none⟩ = some (.int .u8 100) := N4.out.cell 0
    have q0 : w4.frozen? ⟨nb, 0, none⟩ = false := N4.out.frozen 0
    have R5 := hide (R4.out.setn hc hb 0 (.int .u8 61))
    have N5 := hide (nodeAt.set N4.out 0 (.int .u8 61))
    have G5 := hide (grown_node G4.out hn 0 (.int .u8 61))
    go_wp2
    obtain ⟨w5, hw5⟩ : ∃ w5, w5 = w4.setCell ⟨nb, 0, none⟩ (.int .u8 61) := ⟨_, rfl⟩
    rw [← hw5] at R5 N5 G5 ⊢
    clear hw5 n0 q0
    have c0 : w5.cell? ⟨c.rb, 0, none⟩ = some (.slice (some ⟨c.g, 0, none⟩) c.all.length c.cap) := R5.out.cell 0
    have c1 : w5.cell? ⟨c.rb, 1, none⟩ = some (.int .i64 (i1 : Nat)) := R5.out.cell 1
    obtain ⟨e0, e1, e2, e3⟩ := hc.cell R5.out hi1
    have hle2 := (hc.tk_eq hi1).2
    obtain ⟨l3, l4⟩ := R5.out.lt
    go_region_with (go_at_call 54; refine (rfail_more c hc _ _ _ _ _ _ _ _ _ (by decide) R5.out.drew).mono ?_; rintro x w6 ⟨rfl, hG0⟩; have hG := grown_undrew hG0; clear hG0)
    all_goals
      clear c0 c1 e0 e1 e2 e3 hle2 l3 l4
      have R6 : Hid (Rq c w6 ((i1 : Nat) : Int) 5 ((tk c.ts st.i).at_ : Int) 17 d (badI st.bad)) := by
        have hR2 := Rq.kept R5.out hG
        have := HI1.out; have := HI2.out; have := HI3.out
        first | exact hR2 | (show Rq c w6 ((i1 : Nat) : Int) 5 ((tk c.ts st.i).at_ : Int) 17 d (badI st.bad); rw [show i1 = i1 by omega]; exact hR2)
      have G6 := hide (grown_trans G5.out (grown_trans (grown_refl _ _) (grown_some hG)))
      have N6 := hide (nodeAt.kept N5.out (grown_trans (grown_refl _ _) (grown_some hG)) hb)
      clear hG
      go_wp2
      have c0 : w6.cell? ⟨c.rb, 0, none⟩ = some (.slice (some ⟨c.g, 0, none⟩) c.all.length c.cap) := R6.out.cell 0
      have c1 : w6.cell? ⟨c.rb, 1, none⟩ = some (.int .i64 (i1 : Nat)) := R6.out.cell 1
      obtain ⟨e0, e1, e2, e3⟩ := hc.cell R6.out hi1
      have hle2 := (hc.tk_eq hi1).2
      obtain ⟨l3, l4⟩ := R6.out.lt
      go_region
      all_goals
        have HAL := hide (World.grownBy_alloc w6 (.cells #[.int .u8 (rk (tk c.ts i1).kind), .int .i64 ((tk c.ts i1).at_ : Int), .string (rTxt c.s (tk c.ts i1)), .int .i64 (rNum c.s (tk c.ts i1) : Int)] 123) none)
        have HTB : Hid (c.rb < w6.heap.size) := l3
        have hne : nb ≠ w6.heap.size := by have := N6.out.lt; omega
        clear c0 c1 e0 e1 e2 e3 hle2 l3 l4
        go_wp2_with fail
        refine (ris_later c hc _ _ _ _ _ _ _ _ (by decide) ((R6.out.kept HAL.out).drew)).mono ?_
        rintro x w7 ⟨rfl, hG⟩
        have R7 : Hid (Rq c w7 ((i1 : Nat) : Int) 5 ((tk c.ts st.i).at_ : Int) 17 d (badI st.bad)) := by
          have hR2 := Rq.kept ((R6.out.kept HAL.out).drew) hG
          have := HI1.out; have := HI2.out; have := HI3.out
          first | exact hR2 | (show Rq c w7 ((i1 : Nat) : Int) 5 ((tk c.ts st.i).at_ : Int) 17 d (badI st.bad); rw [show i1 = i1 by omega]; exact hR2)
        have G7 := hide (grown_trans G6.out (grown_trans (grown_drew (grown_some HAL.out)) (grown_some hG)))
        have N7 := hide (nodeAt.kept N6.out (grown_trans (grown_drew (grown_some HAL.out)) (grown_some hG)) hb)
        have T7 := hide (rtokAt.kept (rtokAt_new w6 _) (grown_trans (grown_refl _ _) (grown_some hG)) HTB.out)
        clear hG
        have t1_7 : w7.cell? ⟨w6.heap.size, 1, none⟩ = some (.int .i64 ((tk c.ts i1).at_ : Int)) := T7.out.cell 1
        have t3_7 : w7.cell? ⟨w6.heap.size, 3, none⟩ = some (.int .i64 (rNum c.s (tk c.ts i1) : Int)) := T7.out.cell 3
        go_wp2_with fail
        refine (rfail_more c hc _ _ _ _ _ _ _ _ _ (by decide) R7.out).mono ?_
        rintro x w8 ⟨rfl, hG⟩
        have R8 : Hid (Rq c w8 ((i1 : Nat) : Int) 5 ((tk c.ts st.i).at_ : Int) 17 d (badI st.bad)) := by
          have hR2 := Rq.kept R7.out hG
          have := HI1.out; have := HI2.out; have := HI3.out
          first | exact hR2 | (show Rq c w8 ((i1 : Nat) : Int) 5 ((tk c.ts st.i).at_ : Int) 17 d (badI st.bad); rw [show i1 = i1 by omega]; exact hR2)
        have G8 := hide (grown_trans G7.out (grown_trans (grown_refl _ _) (grown_some hG)))
        have N8 := hide (nodeAt.kept N7.out (grown_trans (grown_refl _ _) (grown_some hG)) hb)
        have T8 := hide (rtokAt.kept T7.out (grown_trans (grown_refl _ _) (grown_some hG)) HTB.out)
        clear hG
        have t1_8 : w8.cell? ⟨w6.heap.size, 1, none⟩ = some (.int .i64 ((tk c.ts i1).at_ : Int)) := T8.out.cell 1
        have t3_8 : w8.cell? ⟨w6.heap.size, 3, none⟩ = some (.int .i64 (rNum c.s (tk c.ts i1) : Int)) := T8.out.cell 3
        have n1 : w8.cell? ⟨nb, 1, none⟩ = some (.int .i64 0) := N8.out.cell 1
        have q1 : w8.frozen? ⟨nb, 1, none⟩ = false := N8.out.frozen 1
        have n2 : w8.cell? ⟨nb, 2, none⟩ = some (.int .i64 0) := N8.out.cell 2
        have q2 : w8.frozen? ⟨nb, 2, none⟩ = false := N8.out.frozen 2
        go_wp2
        go_end0
        exact ⟨rfl, 386, _, i1, (N8.out.set 1 _).set 2 _, .inr ⟨by decide, _, _, rfl⟩, grown_node (grown_node G8.out hn _ _) hn _ _, hi1, by have := HI1.out; omega, rfl, _, _, _, (R8.out.setn hc hb _ _).setn hc hb _ _⟩

end Go.Proofs.YtlhkfafdioakeaaGreatDoor
