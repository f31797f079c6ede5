/- Proved here: the walk of the statement Wires. -/
import Derived.Test.YtlhkfafdioakeaaRwQ
import Derived.Test.YtlhkfafdioakeaaRwR
namespace Go.Proofs.Ytlhkfafdioakeaa
open Go.RowKit
set_option linter.unusedVariables false
set_option linter.unusedSimpArgs false
/-- A Barrier. -/
def barM : Msg := ⟨2, 0, fun _ => 0, 0, fun _ _ => 0, 0, fun _ _ => 0⟩
theorem bar_can : canS barM := ⟨.inr (.inr (.inr ⟨.inl rfl, ⟨rfl, fun _ _ => rfl, rfl⟩, rfl⟩)), by decide⟩
theorem bar_enc : encB barM = [2, 0, 0] := by decide
theorem bar_str : strB (encB barM) = ⟨#[2, 0, 0]⟩ := by rw [bar_enc]; rfl
theorem dec_of_can (m : Msg) (hc : canS m) : DecS (strB (encB m)) m 0 := by
  have h := read_sameR m hc
  have hl := enc_len m
  refine .inr (.inr (.inr ⟨by rw [strB_size]; omega, by rw [enc_lenS m hc.2, strB_size]; omega, ?_, h.symm, rfl⟩))
  exact ⟨(h.can hc).1, by rw [(h.can hc).2]⟩
theorem bar_encode (wx : World) : Calls Try.prog 14 #[msgV barM (.slice none 0 0) (.slice none 0 0)] wx fun e w' => e = .returned (.tuple #[.string ⟨#[2, 0, 0]⟩, .int .i64 0]) ∧ wx.grownBy w' none := by
  refine (wEncode_any barM none none 0 0 wx (PkRow.nil _ _) (PkRow.nil _ _) (RowIn.nil _) (RowIn.nil _)).mono ?_
  rintro e w' ⟨hg, ⟨_, rfl⟩ | ⟨hn, _⟩⟩
  · exact ⟨by rw [strI_eq, bar_str], hg⟩
  · exact absurd bar_can hn
theorem bar_decode (wx : World) : Calls Try.prog 15 #[.string ⟨#[2, 0, 0]⟩] wx fun e w' => ∃ M a b ca cb, M.kind = 2 ∧ e = .returned (.tuple #[msgV M (.slice a M.na ca) (.slice b M.np cb), .int .i64 0]) ∧ wx.grownBy w' none := by
  refine (wDecode_out _ wx (by decide)).mono ?_
  rintro e w' ⟨M, en, a, b, ca, cb, hd, _, _, _, _, rfl, hg⟩
  have h := dec_of_can barM bar_can
  rw [bar_str] at h
  obtain ⟨rfl, hs⟩ := hd.one h
  exact ⟨M, a, b, ca, cb, hs.kind, rfl, hg⟩
theorem enc_one (m : Msg) : ∃ sv en, ∀ wx e w', EncOut m wx e w' → e = .returned (.tuple #[.string sv, .int .i64 en]) ∧ wx.grownBy w' none := by
  by_cases h : canS m
  · refine ⟨strB (encB m), 0, fun wx e w' he => ?_⟩
    rcases he with ⟨hg, ⟨_, rfl⟩ | ⟨hn, _⟩⟩
    · exact ⟨by rw [strI_eq], hg⟩
    · exact absurd h hn
  · refine ⟨ByteArray.empty, 9, fun wx e w' he => ?_⟩
    rcases he with ⟨hg, ⟨hc, _⟩ | ⟨_, rfl⟩⟩
    · exact absurd hc h
    · exact ⟨rfl, hg⟩
/-- The cells of one rule. -/
def ruA (p : Int) (mt : Nat → Int) (v : Value) : Array Value := #[.int .i64 p, .int .i64 (mt 0), .int .i64 (mt 1), .int .i64 (mt 2), .int .i64 (mt 3), .int .i64 (mt 4), .int .i64 (mt 5), v]
theorem ruRow_one (w w' : World) (p : Int) (mt : Nat → Int) (na : Nat) (acts : Nat → Nat → Int) (a : Option Addr) (ca b : Nat) (hb : w.heap[b]? = some (.cells (ruA p mt (.slice a na ca)) 29 (0, 0))) (hp : PkRow w (.slice a na ca) na acts) :
    RuRow w (.slice (some ⟨b, 0, none⟩) 1 1) 1 (fun _ => ⟨p, mt, na, acts⟩) (fun _ => .slice a na ca) := by
  have cell : ∀ i, w.cell? ⟨b, i, none⟩ = (ruA p mt (.slice a na ca))[i]? := fun i => by
    simp [World.cell?, hb]
  refine .inr ⟨b, 0, 1, rfl, by omega, fun j hj => ?_⟩
  obtain rfl : j = 0 := by omega
  refine ⟨by rw [cell]; rfl, fun i hi => ?_, by rw [cell]; rfl, hp⟩
  rw [cell]
  rcases (show i = 0 ∨ i = 1 ∨ i = 2 ∨ i = 3 ∨ i = 4 ∨ i = 5 by omega) with rfl | rfl | rfl | rfl | rfl | rfl <;> rfl
set_option maxRecDepth 100000 in
set_option maxHeartbeats 8000000 in
theorem wires_walk (m : Msg) (a b : Option Addr) (ca cb : Nat) (s : ByteArray) (w : World) (hav : PkRow w (.slice a m.na ca) m.na m.acts) (hpv : PkRow w (.slice b m.np cb) m.np m.pks) (hia : RowIn w.heap.size (.slice a m.na ca)) (hib : RowIn w.heap.size (.slice b m.np cb)) (hs : s.size ≤ 140737488355328) :
    Calls Try.prog 4 #[msgV m (.slice a m.na ca) (.slice b m.np cb), .string s] w fun e w' => e = .returned (.bool true) ∧ w.grownBy w' none := by
  obtain ⟨sv, en, hone⟩ := enc_one m
  have HBE := hide bar_encode
  have HBD := hide bar_decode
  have HE : Hid (∀ wx, w.grownBy wx none → Calls Try.prog 14 #[msgV m (.slice a m.na ca) (.slice b m.np cb)] wx fun e w' => e = .returned (.tuple #[.string sv, .int .i64 en]) ∧ wx.grownBy w' none) := fun wx hg => (wEncode_any m a b ca cb wx (hav.grown hg) (hpv.grown hg) (hia.mono hg.size) (hib.mono hg.size)).mono (hone wx)
  have HF : Hid (∀ wx, w.grownBy wx none → Calls Try.prog 16 #[msgV m (.slice a m.na ca) (.slice b m.np cb)] wx fun e w' => e = .returned (.tuple #[.string sv, .int .i64 en]) ∧ wx.grownBy w' none) := fun wx hg => (rEncode_any m a b ca cb wx (hav.grown hg) (hpv.grown hg)).mono (hone wx)
  have HD := hide (fun wx => wDecode_out s wx (by omega))
  have HR := hide (fun wx => rDecode_out s wx (by omega))
  clear hav hpv hia hib hs hone
  obtain ⟨w1, hw1⟩ : ∃ w1, w1 = w.alloc (.cells (mA (mC m (.slice a m.na ca) (.slice b m.np cb))) 45) := ⟨_, rfl⟩
  have R1 : Hid (mBlk w1 w.heap.size (mC m (.slice a m.na ca) (.slice b m.np cb))) := by rw [hw1]; exact mBlk.alloc _ _
  have G1 : Hid (w.grownBy w1 none) := by rw [hw1]; exact World.grownBy_alloc _ _ _
  unfold mA mC at hw1
  simp only [if_true, Nat.reduceEqDiff, if_false, Nat.reduceLT, Nat.reduceSub] at hw1
  unfold msgV at HE HF HBE ⊢
  go_enter Try.func4, Try.ntmps4
  go_wp2_with fail
  rw [← hw1]
  clear hw1
  refine (HBE.out _).mono ?_
  rintro e w2 ⟨rfl, hg2⟩
  have R2 := hide (R1.out.grown hg2 (by simp))
  have G2 := hide (grown_trans G1.out hg2)
  clear R1 G1 hg2 HBE
  go_wp2_with fail
  refine (HBD.out _).mono ?_
  rintro e w3 ⟨⟨yk, yp, ym, yna, yac, ynp, ypk⟩, ya, yb, yca, ycb, hyk, rfl, hg3⟩
  simp only at hyk
  subst hyk
  unfold msgV
  simp only
  obtain ⟨w4, hw4⟩ : ∃ w4, w4 = w3.alloc (.cells (mA (mC ⟨2, yp, ym, yna, yac, ynp, ypk⟩ (.slice ya yna yca) (.slice yb ynp ycb))) 45) := ⟨_, rfl⟩
  have hgg : w3.grownBy w4 none := by rw [hw4]; exact World.grownBy_alloc _ _ _
  have Y4 : Hid (mBlk w4 w3.heap.size (mC ⟨2, yp, ym, yna, yac, ynp, ypk⟩ (.slice ya yna yca) (.slice yb ynp ycb))) := by rw [hw4]; exact mBlk.alloc _ _
  unfold mA mC at hw4
  simp only [if_true, Nat.reduceEqDiff, if_false, Nat.reduceLT, Nat.reduceSub] at hw4
  have R4 := hide (R2.out.grown (grown_trans hg3 hgg) (by simp))
  have G4 := hide (grown_trans G2.out (grown_trans hg3 hgg))
  clear R2 G2 hg3 hgg HBD
  go_upto_region 3 with fail
  rw [← hw4]
  clear hw4
  have y0 := Y4.out.cell 0 (by omega)
  simp only [mC, if_true, Nat.reduceEqDiff, if_false, Nat.reduceLT, Nat.reduceSub] at y0
  go_upto_region 5 with fail
  clear y0 Y4
  obtain ⟨c0, c1, c2, c3, c4, c5, c6, c7, c8, c9⟩ := R4.out.tenCells
  simp only [mC, if_true, Nat.reduceEqDiff, if_false, Nat.reduceLT, Nat.reduceSub] at c0 c1 c2 c3 c4 c5 c6 c7 c8 c9
  go_wp2_with fail
  clear c0 c1 c2 c3 c4 c5 c6 c7 c8 c9
  refine (HE.out _ G4.out).mono ?_
  rintro e w5 ⟨rfl, hg5⟩
  have R5 := hide (R4.out.grown hg5 (by simp))
  have G5 := hide (grown_trans G4.out hg5)
  clear R4 G4 hg5 HE
  obtain ⟨c0, c1, c2, c3, c4, c5, c6, c7, c8, c9⟩ := R5.out.tenCells
  simp only [mC, if_true, Nat.reduceEqDiff, if_false, Nat.reduceLT, Nat.reduceSub] at c0 c1 c2 c3 c4 c5 c6 c7 c8 c9
  go_wp2_with fail
  clear c0 c1 c2 c3 c4 c5 c6 c7 c8 c9
  refine (HF.out _ G5.out).mono ?_
  rintro e w6 ⟨rfl, hg6⟩
  have G6 := hide (grown_trans G5.out hg6)
  clear R5 G5 hg6 HF
  go_wp2_with fail
  refine (HD.out _).mono ?_
  rintro e w7 ⟨M, e1, na, nb, nca, ncb, hD1, p1, p2, _, _, rfl, hg7⟩
  have D1 := hide hD1
  unfold msgV
  obtain ⟨w8, hw8⟩ : ∃ w8, w8 = w7.alloc (.cells (mA (mC M (.slice na M.na nca) (.slice nb M.np ncb))) 45) := ⟨_, rfl⟩
  have hgg : w7.grownBy w8 none := by rw [hw8]; exact World.grownBy_alloc _ _ _
  have N8 : Hid (mBlk w8 w7.heap.size (mC M (.slice na M.na nca) (.slice nb M.np ncb))) := by rw [hw8]; exact mBlk.alloc _ _
  unfold mA mC at hw8
  simp only [if_true, Nat.reduceEqDiff, if_false, Nat.reduceLT, Nat.reduceSub] at hw8
  have G8 := hide (grown_trans G6.out (grown_trans hg7 hgg))
  have P18 := hide (p1.grown hgg)
  have P28 := hide (p2.grown hgg)
  clear G6 hg7 hgg HD hD1 p1 p2
  go_upto_region 8 with fail
  rw [← hw8]
  clear hw8
  obtain ⟨nb8, hnb8⟩ : ∃ nb8, nb8 = w7.heap.size := ⟨_, rfl⟩
  rw [← hnb8] at N8 ⊢
  clear hnb8
  go_wp2_with fail
  refine (HR.out _).mono ?_
  rintro e w9 ⟨N, e2, oa, ob, oca, ocb, hD2, q1, q2, _, _, rfl, hg9⟩
  obtain ⟨he12, hsame⟩ := D1.out.one hD2
  subst he12
  have SM := hide hsame
  unfold msgV
  obtain ⟨w10, hw10⟩ : ∃ w10, w10 = w9.alloc (.cells (mA (mC N (.slice oa N.na oca) (.slice ob N.np ocb))) 45) := ⟨_, rfl⟩
  have hgg : w9.grownBy w10 none := by rw [hw10]; exact World.grownBy_alloc _ _ _
  have O10 : Hid (mBlk w10 w9.heap.size (mC N (.slice oa N.na oca) (.slice ob N.np ocb))) := by rw [hw10]; exact mBlk.alloc _ _
  unfold mA mC at hw10
  simp only [if_true, Nat.reduceEqDiff, if_false, Nat.reduceLT, Nat.reduceSub] at hw10
  have G10 := hide (grown_trans G8.out (grown_trans hg9 hgg))
  have N10 := hide (N8.out.grown (grown_trans hg9 hgg) (by simp))
  have P110 := hide (P18.out.grown (grown_trans hg9 hgg))
  have P210 := hide (P28.out.grown (grown_trans hg9 hgg))
  have Q110 := hide (q1.grown hgg)
  have Q210 := hide (q2.grown hgg)
  clear G8 N8 P18 P28 hg9 hgg HR hD2 D1 q1 q2 hsame
  go_upto_region 9 with fail
  rw [← hw10]
  clear hw10
  obtain ⟨ob10, hob10⟩ : ∃ ob10, ob10 = w9.heap.size := ⟨_, rfl⟩
  rw [← hob10] at O10 ⊢
  clear hob10
  have hobl : ob10 < w10.heap.size := (Array.getElem?_eq_some_iff.1 O10.out).1
  obtain ⟨n0, n1, n2, n3, n4, n5, n6, n7, n8, n9⟩ := N10.out.tenCells
  obtain ⟨o0, o1, o2, o3, o4, o5, o6, o7, o8, o9⟩ := O10.out.tenCells
  simp only [mC, if_true, Nat.reduceEqDiff, if_false, Nat.reduceLT, Nat.reduceSub] at n0 n1 n2 n3 n4 n5 n6 n7 n8 n9 o0 o1 o2 o3 o4 o5 o6 o7 o8 o9
  obtain ⟨w11, hw11⟩ : ∃ w11, w11 = w10.alloc (.cells (ruA M.prio M.mt (.slice na M.na nca)) 29) := ⟨_, rfl⟩
  obtain ⟨w12, hw12⟩ : ∃ w12, w12 = w11.alloc (.cells (ruA N.prio N.mt (.slice oa N.na oca)) 29) := ⟨_, rfl⟩
  have z11 : w11.heap.size = w10.heap.size + 1 := by rw [hw11]; simp
  have hg11 : w10.grownBy w11 none := by rw [hw11]; exact World.grownBy_alloc _ _ _
  have hg12 : w11.grownBy w12 none := by rw [hw12]; exact World.grownBy_alloc _ _ _
  have b11 : w12.heap[w10.heap.size]? = some (.cells (ruA M.prio M.mt (.slice na M.na nca)) 29 (0, 0)) := by
    rw [hg12.block _ (by omega) (by simp), hw11]; exact heap_alloc_new _ _
  have b12 : w12.heap[w10.heap.size + 1]? = some (.cells (ruA N.prio N.mt (.slice oa N.na oca)) 29 (0, 0)) := by
    rw [hw12, ← z11]; exact heap_alloc_new _ _
  have HRU : Hid (Calls Try.prog 18 #[.slice (some ⟨w10.heap.size, 0, none⟩) 1 1, .slice (some ⟨w10.heap.size + 1, 0, none⟩) 1 1] w12 fun e w' => e = .returned (.bool true) ∧ w12.grownBy w' none) :=
    sameR_true _ _ 1 _ _ _ _ w12 (ruRow_one w12 w12 _ _ _ M.acts _ _ _ b11 (P110.out.grown (grown_trans hg11 hg12))) (ruRow_one w12 w12 _ _ _ N.acts _ _ _ b12 (Q110.out.grown (grown_trans hg11 hg12))) (fun j hj => ⟨SM.out.prio, SM.out.mt, SM.out.na, SM.out.acts⟩)
  have G12 := hide (grown_trans G10.out (grown_trans hg11 hg12))
  have N12 := hide (N10.out.grown (grown_trans hg11 hg12) (by simp))
  have O12 := hide (O10.out.grown (grown_trans hg11 hg12) (by simp))
  have P212 := hide (P210.out.grown (grown_trans hg11 hg12))
  have Q212 := hide (Q210.out.grown (grown_trans hg11 hg12))
  clear b11 b12 z11 hg11 hg12 P110 P210 Q110 Q210 G10 N10 O10
  rw [hw11] at hw12
  clear hw11
  unfold ruA at hw12
  go_wp2_with fail
  rw [← hw12]
  clear hw12 n0 n1 n2 n3 n4 n5 n6 n7 n8 n9 o0 o1 o2 o3 o4 o5 o6 o7 o8 o9 hobl
  refine HRU.out.mono ?_
  rintro e w13 ⟨rfl, hg13⟩
  have G13 := hide (grown_trans G12.out hg13)
  have N13 := hide (N12.out.grown hg13 (by simp))
  have O13 := hide (O12.out.grown hg13 (by simp))
  have HSP : Hid (Calls Try.prog 7 #[.slice nb M.np ncb, .slice ob N.np ocb] w13 fun e w' => e = .returned (.bool true) ∧ w13.grownBy w' none) := by
    have h1 := P212.out.grown hg13
    have h2 := Q212.out.grown hg13
    rw [SM.out.np] at h1 ⊢
    exact sameP_true _ _ N.np _ _ w13 h1 h2 SM.out.pks
  clear G12 N12 O12 P212 Q212 hg13 HRU
  have n9 := N13.out.cell 9 (by omega)
  have o9 := O13.out.cell 9 (by omega)
  simp only [mC, if_true, Nat.reduceEqDiff, if_false, Nat.reduceLT, Nat.reduceSub] at n9 o9
  go_wp2_with fail
  clear n9 o9
  refine HSP.out.mono ?_
  rintro e w14 ⟨rfl, hg14⟩
  have G14 := hide (grown_trans G13.out hg14)
  have n0 := N13.out.grown hg14 (by simp) |>.cell 0 (by omega)
  have o0 := O13.out.grown hg14 (by simp) |>.cell 0 (by omega)
  simp only [mC, if_true, Nat.reduceEqDiff, if_false, Nat.reduceLT, Nat.reduceSub] at n0 o0
  rw [SM.out.kind] at n0
  clear G13 N13 O13 HSP hg14
  go_wp2
  go_ret
  exact ⟨rfl, G14.out⟩
end Go.Proofs.Ytlhkfafdioakeaa
