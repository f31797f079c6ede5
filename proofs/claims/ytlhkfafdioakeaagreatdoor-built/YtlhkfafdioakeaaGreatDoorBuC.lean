/- Proved here: the law that sums, seqs, stars and negations do what their parts do: the ways where the negation is too much. -/
import Derived.Test.YtlhkfafdioakeaaGreatDoorBuA
namespace Go.Proofs.YtlhkfafdioakeaaGreatDoor
open Go.RowKit Go.Weft
set_option linter.unusedVariables false
set_option linter.unusedSimpArgs false
set_option maxRecDepth 100000 in
set_option maxHeartbeats 4000000 in
theorem bu_oool (a b s1 s2 s3 s4 : ByteArray) (ra : Option Addr) (rc m : Nat) (w : World) (t u : Code) (hm : m ≤ 9223372036854775807) (ha5 : a.size ≤ 400) (hb5 : b.size ≤ 400) (hs1 : s1 = (⟨#[40]⟩ : ByteArray) ++ a ++ (⟨#[41, 43, 40]⟩ : ByteArray) ++ b ++ (⟨#[41]⟩ : ByteArray)) (hs2 : s2 = (⟨#[40]⟩ : ByteArray) ++ a ++ (⟨#[41, 59, 40]⟩ : ByteArray) ++ b ++ (⟨#[41]⟩ : ByteArray)) (hs3 : s3 = (⟨#[40]⟩ : ByteArray) ++ a ++ (⟨#[41, 42]⟩ : ByteArray)) (hs4 : s4 = (⟨#[33, 40]⟩ : ByteArray) ++ a ++ (⟨#[41]⟩ : ByteArray))
    (P1 : Hid (Calls Tryz.prog 22 #[] w fun e w' => ∃ b, e = .returned (.pointer (some ⟨b, 0, none⟩)) ∧ w.grownBy w' none)) (KA : Hid (KOk a t w)) (KB : Hid (KOk b u w)) (K1 : Hid (KOk s1 (.block 0 (chain [t, u])) w)) (K2 : Hid (KOk s2 (.block 1 (chain [t, u])) w)) (K3 : Hid (KOk s3 (.loop t) w)) (K4 : Hid (KEr s4 lim2 w)) (HRW : Hid (IRow w (.slice ra m rc) m)) :
    Calls Tryz.prog 5 #[.string a, .string b, .slice ra m rc] w fun e w' => e = .returned (.bool true) ∧ w.grownBy w' none := by
  unfold KOk at KA KB
  unfold KOk at K1
  unfold KOk at K2
  unfold KOk at K3
  unfold KEr at K4
  go_enter Tryz.func5, Tryz.ntmps5
  go_wp2_with fail
  refine P1.out.mono ?_
  rintro x w1 ⟨b0, rfl, g1⟩
  go_wp2_with fail
  refine (KA.out w1 g1).mono ?_
  rintro x w2 ⟨ca, rfl, qa, g2⟩
  have G2 := hide (grown_trans g1 g2)
  have QA := hide qa
  clear g1 g2 qa P1 KA
  go_wp2_with fail
  refine (KB.out w2 G2.out).mono ?_
  rintro x w3 ⟨cb, rfl, qb, g3⟩
  have G3 := hide (grown_trans G2.out g3)
  have S3 := hide g3
  have QB := hide qb
  clear g3 qb KB G2
  go_wp2_with fail
  rw [← hs1]
  refine (K1.out w3 G3.out).mono ?_
  rintro x w4 ⟨c1, rfl, q1, g4⟩
  have G4 := hide (grown_trans G3.out g4)
  have S4 := hide g4
  have Q1 := hide q1
  clear g4 q1 K1 G3 hs1
  go_wp2_with fail
  rw [← hs2]
  refine (K2.out w4 G4.out).mono ?_
  rintro x w5 ⟨c2, rfl, q2, g5⟩
  have G5 := hide (grown_trans G4.out g5)
  have S5 := hide g5
  have Q2 := hide q2
  clear g5 q2 K2 G4 hs2
  go_wp2_with fail
  rw [← hs3]
  refine (K3.out w5 G5.out).mono ?_
  rintro x w6 ⟨c3, rfl, q3, g6⟩
  have G6 := hide (grown_trans G5.out g6)
  have S6 := hide g6
  have Q3 := hide q3
  clear g6 q3 K3 G5 hs3
  go_wp2_with fail
  rw [← hs4]
  refine (K4.out w6 G6.out).mono ?_
  rintro x w7 ⟨e4, p4, rfl, q4, g7⟩
  have G7 := hide (grown_trans G6.out g7)
  have S7 := hide g7
  have Q4 := hide q4
  clear g7 q4 K4 G6 hs4
  have L4 := hide (lim_yes Q4.out w7)
  go_wp2_with fail
  refine L4.out.mono ?_
  rintro x v4 ⟨rfl, hv4⟩
  rw [hv4]
  clear hv4 L4
  have HP := hide (packet_rt _ m w7 (HRW.out.grown G7.out))
  clear HRW
  go_wp2_with fail
  refine HP.out.mono ?_
  rintro e w8 ⟨k, rfl, hk, hg8⟩
  have HK := hide hk
  obtain ⟨w9, hw9⟩ : ∃ w9, w9 = w8.alloc (.cells (pkA k) 46) := ⟨_, rfl⟩
  have hB : pkBlk w9 w8.heap.size k := by rw [hw9]; exact pkBlk.alloc w8 k
  have hg9 : w7.grownBy w9 none := grown_trans hg8 (by rw [hw9]; exact World.grownBy_alloc _ _ _)
  have HB := hide hB
  have G9 := hide (grown_trans G7.out hg9)
  have T7 := hide hg9
  have T6 := hide (grown_trans S7.out hg9)
  have T5 := hide (grown_trans S6.out T6.out)
  have T4 := hide (grown_trans S5.out T5.out)
  have T3 := hide (grown_trans S4.out T4.out)
  have T2 := hide (grown_trans S3.out T3.out)
  unfold pkA at hw9
  clear hk hg8 hB hg9 HP G7 S3 S4 S5 S6 S7
  go_upto_region 15 with fail
  rw [← hw9]
  clear hw9
  have GB := hide (grown_refl w9 none)
  obtain ⟨p0, p1, p2, p3, p4, p5⟩ := results2 (HB.out.grown GB.out (by simp))
  have hz : w8.heap.size < w9.heap.size := World.block_lt_of_cell? w9 _ p0
  have HC := hide (ev_row ca (t) k w2 w9 QA.out (grown_trans T2.out GB.out) HK.out)
  go_wp2_with fail
  refine HC.out.mono ?_
  rintro x w10 ⟨ax, cx, nx, dx, Ax, rfl, hp, hi, hs, g10⟩
  have GBn := hide (grown_trans GB.out g10)
  clear GB HC
  have GB := GBn
  clear GBn
  have Px := hide hp
  have Ix := hide hi
  have Sx := hide hs
  clear hp hi hs
  clear g10
  clear p0 p1 p2 p3 p4 p5 hz
  obtain ⟨p0, p1, p2, p3, p4, p5⟩ := results2 (HB.out.grown GB.out (by simp))
  have hz : w8.heap.size < w10.heap.size := World.block_lt_of_cell? w10 _ p0
  have HC := hide (ev_row cb (u) k w3 w10 QB.out (grown_trans T3.out GB.out) HK.out)
  go_wp2_with fail
  refine HC.out.mono ?_
  rintro x w11 ⟨ay, cy, ny, dy, Ay, rfl, hp, hi, hs, g11⟩
  have GBn := hide (grown_trans GB.out g11)
  clear GB HC
  have GB := GBn
  clear GBn
  have Py := hide hp
  have g_xy := hide g11
  have Iy := hide hi
  have Sy := hide hs
  clear hp hi hs
  clear g11
  clear p0 p1 p2 p3 p4 p5 hz
  have PX := hide (Px.out.grown g_xy.out)
  have PY := Py
  clear Px g_xy Py
  obtain ⟨p0, p1, p2, p3, p4, p5⟩ := results2 (HB.out.grown GB.out (by simp))
  have hz : w8.heap.size < w11.heap.size := World.block_lt_of_cell? w11 _ p0
  have HC := hide (ev_row c1 (.block 0 (chain [t, u])) k w4 w11 Q1.out (grown_trans T4.out GB.out) HK.out)
  go_wp2_with fail
  refine HC.out.mono ?_
  rintro x w12 ⟨al, cl, nl, dl, Al, rfl, hp, hi, hs, g12⟩
  have PXn := hide (PX.out.grown g12)
  have PYn := hide (PY.out.grown g12)
  have GBn := hide (grown_trans GB.out g12)
  clear GB PX PY HC
  have GB := GBn
  have PX := PXn
  have PY := PYn
  clear GBn PXn PYn
  have Pl := hide hp
  have Il := hide hi
  have Sl := hide hs
  clear hp hi hs
  clear g12
  clear p0 p1 p2 p3 p4 p5 hz
  have HC := hide (un_row PX.out PY.out Ix.out Iy.out Sx.out Sy.out)
  go_wp2_with fail
  refine HC.out.mono ?_
  rintro x w13 ⟨am, cm, nm, dm, Am, rfl, hp, hi, hs, g13⟩
  have PXn := hide (PX.out.grown g13)
  have PYn := hide (PY.out.grown g13)
  have GBn := hide (grown_trans GB.out g13)
  clear GB PX PY HC
  have GB := GBn
  have PX := PXn
  have PY := PYn
  clear GBn PXn PYn
  have Pm := hide hp
  have Im := hide hi
  have Sm := hide hs
  have Pl2 := hide (Pl.out.grown g13)
  clear hp hi hs Pl
  clear g13
  have HC := hide (eq_row Pl2.out Pm.out Il.out Im.out (Sl.out.1.cong (fun y => D_two0 t u k y)) Sm.out)
  go_wp2_with fail
  refine HC.out.mono ?_
  rintro x w14 ⟨rfl, g14⟩
  have PXn := hide (PX.out.grown g14)
  have PYn := hide (PY.out.grown g14)
  have GBn := hide (grown_trans GB.out g14)
  clear GB PX PY HC
  have GB := GBn
  have PX := PXn
  have PY := PYn
  clear GBn PXn PYn
  clear g14
  clear Pl2 Pm Il Im Sl Sm
  obtain ⟨p0, p1, p2, p3, p4, p5⟩ := results2 (HB.out.grown GB.out (by simp))
  have hz : w8.heap.size < w14.heap.size := World.block_lt_of_cell? w14 _ p0
  have HC := hide (ev_row c2 (.block 1 (chain [t, u])) k w5 w14 Q2.out (grown_trans T5.out GB.out) HK.out)
  go_wp2_with fail
  refine HC.out.mono ?_
  rintro x w15 ⟨al, cl, nl, dl, Al, rfl, hp, hi, hs, g15⟩
  have PXn := hide (PX.out.grown g15)
  have PYn := hide (PY.out.grown g15)
  have GBn := hide (grown_trans GB.out g15)
  clear GB PX PY HC
  have GB := GBn
  have PX := PXn
  have PY := PYn
  clear GBn PXn PYn
  have Pl := hide hp
  have Il := hide hi
  have Sl := hide hs
  clear hp hi hs
  clear g15
  clear p0 p1 p2 p3 p4 p5 hz
  have HC := hide (kall_any cb u _ _ _ _ _ (QB.out.grown (grown_trans T3.out GB.out)) PX.out Ix.out Sx.out.2.1)
  go_wp2_with fail
  refine HC.out.mono ?_
  rintro x w16 ⟨am, cm, nm, dm, Am, rfl, hp, hi, hs, g16⟩
  have PXn := hide (PX.out.grown g16)
  have PYn := hide (PY.out.grown g16)
  have GBn := hide (grown_trans GB.out g16)
  clear GB PX PY HC
  have GB := GBn
  have PX := PXn
  have PY := PYn
  clear GBn PXn PYn
  have Pm := hide hp
  have Im := hide hi
  have Sm := hide hs
  have Pl2 := hide (Pl.out.grown g16)
  clear hp hi hs Pl
  clear g16
  have HC := hide (eq_row Pl2.out Pm.out Il.out Im.out (Sl.out.1.cong (fun y => seq_all t u k Sx.out.1 y)) Sm.out)
  go_wp2_with fail
  refine HC.out.mono ?_
  rintro x w17 ⟨rfl, g17⟩
  have PXn := hide (PX.out.grown g17)
  have PYn := hide (PY.out.grown g17)
  have GBn := hide (grown_trans GB.out g17)
  clear GB PX PY HC
  have GB := GBn
  have PX := PXn
  have PY := PYn
  clear GBn PXn PYn
  clear g17
  clear Pl2 Pm Il Im Sl Sm
  obtain ⟨p0, p1, p2, p3, p4, p5⟩ := results2 (HB.out.grown GB.out (by simp))
  have hz : w8.heap.size < w17.heap.size := World.block_lt_of_cell? w17 _ p0
  have HC := hide (ev_row c3 (.loop t) k w6 w17 Q3.out (grown_trans T6.out GB.out) HK.out)
  go_wp2_with fail
  refine HC.out.mono ?_
  rintro x w18 ⟨al, cl, nl, dl, Al, rfl, hp, hi, hs, g18⟩
  have PXn := hide (PX.out.grown g18)
  have PYn := hide (PY.out.grown g18)
  have GBn := hide (grown_trans GB.out g18)
  clear GB PX PY HC
  have GB := GBn
  have PX := PXn
  have PY := PYn
  clear GBn PXn PYn
  have Pl := hide hp
  have Il := hide hi
  have Sl := hide hs
  clear hp hi hs
  clear g18
  clear p0 p1 p2 p3 p4 p5 hz
  obtain ⟨p0, p1, p2, p3, p4, p5⟩ := results2 (HB.out.grown GB.out (by simp))
  have hz : w8.heap.size < w18.heap.size := World.block_lt_of_cell? w18 _ p0
  obtain ⟨w19, hw19⟩ : ∃ v, v = w18.alloc (.cells (pkA k) 46) := ⟨_, rfl⟩
  have gr : w18.grownBy w19 none := by rw [hw19]; exact World.grownBy_alloc _ _ _
  have ROW : Hid (PkR w19 (.slice (some ⟨w18.heap.size, 0, none⟩) 1 1) 1 (fun _ => k)) := by rw [hw19]; exact one_row w18 k
  have HC := hide (kclosed_any ca t _ _ k w19 (QA.out.grown (grown_trans T2.out (grown_trans GB.out gr))) ROW.out (one_is k) HK.out)
  unfold pkA at hw19
  go_wp2_with fail
  rw [← hw19]
  refine HC.out.mono ?_
  rintro x w20 ⟨am, cm, nm, dm, Am, rfl, hp, hi, hs, g20⟩
  have gg := grown_trans gr g20
  have Pm := hide hp
  have Im := hide hi
  have Sm := hide hs
  have Pl2 := hide (Pl.out.grown gg)
  have PXn := hide (PX.out.grown gg)
  have PYn := hide (PY.out.grown gg)
  have GBn := hide (grown_trans GB.out gg)
  clear hp hi hs Pl GB PX PY HC gr gg g20 ROW hw19
  have GB := GBn
  have PX := PXn
  have PY := PYn
  clear GBn PXn PYn
  clear p0 p1 p2 p3 p4 p5 hz
  have HC := hide (eq_row Pl2.out Pm.out Il.out Im.out Sl.out.1 Sm.out)
  go_wp2_with fail
  refine HC.out.mono ?_
  rintro x w21 ⟨rfl, g21⟩
  have PXn := hide (PX.out.grown g21)
  have PYn := hide (PY.out.grown g21)
  have GBn := hide (grown_trans GB.out g21)
  clear GB PX PY HC
  have GB := GBn
  have PX := PXn
  have PY := PYn
  clear GBn PXn PYn
  clear g21
  clear Pl2 Pm Il Im Sl Sm
  have GF := hide (grown_trans G9.out GB.out)
  go_wp2
  go_ret
  exact ⟨rfl, GF.out⟩
set_option maxRecDepth 100000 in
set_option maxHeartbeats 4000000 in
theorem bu_ooel (a b s1 s2 s3 s4 : ByteArray) (ra : Option Addr) (rc m : Nat) (w : World) (t u : Code) (hm : m ≤ 9223372036854775807) (ha5 : a.size ≤ 400) (hb5 : b.size ≤ 400) (hs1 : s1 = (⟨#[40]⟩ : ByteArray) ++ a ++ (⟨#[41, 43, 40]⟩ : ByteArray) ++ b ++ (⟨#[41]⟩ : ByteArray)) (hs2 : s2 = (⟨#[40]⟩ : ByteArray) ++ a ++ (⟨#[41, 59, 40]⟩ : ByteArray) ++ b ++ (⟨#[41]⟩ : ByteArray)) (hs3 : s3 = (⟨#[40]⟩ : ByteArray) ++ a ++ (⟨#[41, 42]⟩ : ByteArray)) (hs4 : s4 = (⟨#[33, 40]⟩ : ByteArray) ++ a ++ (⟨#[41]⟩ : ByteArray))
    (P1 : Hid (Calls Tryz.prog 22 #[] w fun e w' => ∃ b, e = .returned (.pointer (some ⟨b, 0, none⟩)) ∧ w.grownBy w' none)) (KA : Hid (KOk a t w)) (KB : Hid (KOk b u w)) (K1 : Hid (KOk s1 (.block 0 (chain [t, u])) w)) (K2 : Hid (KOk s2 (.block 1 (chain [t, u])) w)) (K3 : Hid (KEr s3 lim2 w)) (K4 : Hid (KEr s4 lim2 w)) (HRW : Hid (IRow w (.slice ra m rc) m)) :
    Calls Tryz.prog 5 #[.string a, .string b, .slice ra m rc] w fun e w' => e = .returned (.bool true) ∧ w.grownBy w' none := by
  unfold KOk at KA KB
  unfold KOk at K1
  unfold KOk at K2
  unfold KEr at K3
  unfold KEr at K4
  go_enter Tryz.func5, Tryz.ntmps5
  go_wp2_with fail
  refine P1.out.mono ?_
  rintro x w1 ⟨b0, rfl, g1⟩
  go_wp2_with fail
  refine (KA.out w1 g1).mono ?_
  rintro x w2 ⟨ca, rfl, qa, g2⟩
  have G2 := hide (grown_trans g1 g2)
  have QA := hide qa
  clear g1 g2 qa P1 KA
  go_wp2_with fail
  refine (KB.out w2 G2.out).mono ?_
  rintro x w3 ⟨cb, rfl, qb, g3⟩
  have G3 := hide (grown_trans G2.out g3)
  have S3 := hide g3
  have QB := hide qb
  clear g3 qb KB G2
  go_wp2_with fail
  rw [← hs1]
  refine (K1.out w3 G3.out).mono ?_
  rintro x w4 ⟨c1, rfl, q1, g4⟩
  have G4 := hide (grown_trans G3.out g4)
  have S4 := hide g4
  have Q1 := hide q1
  clear g4 q1 K1 G3 hs1
  go_wp2_with fail
  rw [← hs2]
  refine (K2.out w4 G4.out).mono ?_
  rintro x w5 ⟨c2, rfl, q2, g5⟩
  have G5 := hide (grown_trans G4.out g5)
  have S5 := hide g5
  have Q2 := hide q2
  clear g5 q2 K2 G4 hs2
  go_wp2_with fail
  rw [← hs3]
  refine (K3.out w5 G5.out).mono ?_
  rintro x w6 ⟨e3, p3, rfl, q3, g6⟩
  have G6 := hide (grown_trans G5.out g6)
  have S6 := hide g6
  have Q3 := hide q3
  clear g6 q3 K3 G5 hs3
  go_wp2_with fail
  rw [← hs4]
  refine (K4.out w6 G6.out).mono ?_
  rintro x w7 ⟨e4, p4, rfl, q4, g7⟩
  have G7 := hide (grown_trans G6.out g7)
  have S7 := hide g7
  have Q4 := hide q4
  clear g7 q4 K4 G6 hs4
  have L3 := hide (lim_yes Q3.out w7)
  have L4 := hide (lim_yes Q4.out w7)
  go_wp2_with fail
  refine L3.out.mono ?_
  rintro x v3 ⟨rfl, hv3⟩
  rw [hv3]
  clear hv3 L3
  go_wp2_with fail
  refine L4.out.mono ?_
  rintro x v4 ⟨rfl, hv4⟩
  rw [hv4]
  clear hv4 L4
  have HP := hide (packet_rt _ m w7 (HRW.out.grown G7.out))
  clear HRW
  go_wp2_with fail
  refine HP.out.mono ?_
  rintro e w8 ⟨k, rfl, hk, hg8⟩
  have HK := hide hk
  obtain ⟨w9, hw9⟩ : ∃ w9, w9 = w8.alloc (.cells (pkA k) 46) := ⟨_, rfl⟩
  have hB : pkBlk w9 w8.heap.size k := by rw [hw9]; exact pkBlk.alloc w8 k
  have hg9 : w7.grownBy w9 none := grown_trans hg8 (by rw [hw9]; exact World.grownBy_alloc _ _ _)
  have HB := hide hB
  have G9 := hide (grown_trans G7.out hg9)
  have T7 := hide hg9
  have T6 := hide (grown_trans S7.out hg9)
  have T5 := hide (grown_trans S6.out T6.out)
  have T4 := hide (grown_trans S5.out T5.out)
  have T3 := hide (grown_trans S4.out T4.out)
  have T2 := hide (grown_trans S3.out T3.out)
  unfold pkA at hw9
  clear hk hg8 hB hg9 HP G7 S3 S4 S5 S6 S7
  go_upto_region 15 with fail
  rw [← hw9]
  clear hw9
  have GB := hide (grown_refl w9 none)
  obtain ⟨p0, p1, p2, p3, p4, p5⟩ := results2 (HB.out.grown GB.out (by simp))
  have hz : w8.heap.size < w9.heap.size := World.block_lt_of_cell? w9 _ p0
  have HC := hide (ev_row ca (t) k w2 w9 QA.out (grown_trans T2.out GB.out) HK.out)
  go_wp2_with fail
  refine HC.out.mono ?_
  rintro x w10 ⟨ax, cx, nx, dx, Ax, rfl, hp, hi, hs, g10⟩
  have GBn := hide (grown_trans GB.out g10)
  clear GB HC
  have GB := GBn
  clear GBn
  have Px := hide hp
  have Ix := hide hi
  have Sx := hide hs
  clear hp hi hs
  clear g10
  clear p0 p1 p2 p3 p4 p5 hz
  obtain ⟨p0, p1, p2, p3, p4, p5⟩ := results2 (HB.out.grown GB.out (by simp))
  have hz : w8.heap.size < w10.heap.size := World.block_lt_of_cell? w10 _ p0
  have HC := hide (ev_row cb (u) k w3 w10 QB.out (grown_trans T3.out GB.out) HK.out)
  go_wp2_with fail
  refine HC.out.mono ?_
  rintro x w11 ⟨ay, cy, ny, dy, Ay, rfl, hp, hi, hs, g11⟩
  have GBn := hide (grown_trans GB.out g11)
  clear GB HC
  have GB := GBn
  clear GBn
  have Py := hide hp
  have g_xy := hide g11
  have Iy := hide hi
  have Sy := hide hs
  clear hp hi hs
  clear g11
  clear p0 p1 p2 p3 p4 p5 hz
  have PX := hide (Px.out.grown g_xy.out)
  have PY := Py
  clear Px g_xy Py
  obtain ⟨p0, p1, p2, p3, p4, p5⟩ := results2 (HB.out.grown GB.out (by simp))
  have hz : w8.heap.size < w11.heap.size := World.block_lt_of_cell? w11 _ p0
  have HC := hide (ev_row c1 (.block 0 (chain [t, u])) k w4 w11 Q1.out (grown_trans T4.out GB.out) HK.out)
  go_wp2_with fail
  refine HC.out.mono ?_
  rintro x w12 ⟨al, cl, nl, dl, Al, rfl, hp, hi, hs, g12⟩
  have PXn := hide (PX.out.grown g12)
  have PYn := hide (PY.out.grown g12)
  have GBn := hide (grown_trans GB.out g12)
  clear GB PX PY HC
  have GB := GBn
  have PX := PXn
  have PY := PYn
  clear GBn PXn PYn
  have Pl := hide hp
  have Il := hide hi
  have Sl := hide hs
  clear hp hi hs
  clear g12
  clear p0 p1 p2 p3 p4 p5 hz
  have HC := hide (un_row PX.out PY.out Ix.out Iy.out Sx.out Sy.out)
  go_wp2_with fail
  refine HC.out.mono ?_
  rintro x w13 ⟨am, cm, nm, dm, Am, rfl, hp, hi, hs, g13⟩
  have PXn := hide (PX.out.grown g13)
  have PYn := hide (PY.out.grown g13)
  have GBn := hide (grown_trans GB.out g13)
  clear GB PX PY HC
  have GB := GBn
  have PX := PXn
  have PY := PYn
  clear GBn PXn PYn
  have Pm := hide hp
  have Im := hide hi
  have Sm := hide hs
  have Pl2 := hide (Pl.out.grown g13)
  clear hp hi hs Pl
  clear g13
  have HC := hide (eq_row Pl2.out Pm.out Il.out Im.out (Sl.out.1.cong (fun y => D_two0 t u k y)) Sm.out)
  go_wp2_with fail
  refine HC.out.mono ?_
  rintro x w14 ⟨rfl, g14⟩
  have PXn := hide (PX.out.grown g14)
  have PYn := hide (PY.out.grown g14)
  have GBn := hide (grown_trans GB.out g14)
  clear GB PX PY HC
  have GB := GBn
  have PX := PXn
  have PY := PYn
  clear GBn PXn PYn
  clear g14
  clear Pl2 Pm Il Im Sl Sm
  obtain ⟨p0, p1, p2, p3, p4, p5⟩ := results2 (HB.out.grown GB.out (by simp))
  have hz : w8.heap.size < w14.heap.size := World.block_lt_of_cell? w14 _ p0
  have HC := hide (ev_row c2 (.block 1 (chain [t, u])) k w5 w14 Q2.out (grown_trans T5.out GB.out) HK.out)
  go_wp2_with fail
  refine HC.out.mono ?_
  rintro x w15 ⟨al, cl, nl, dl, Al, rfl, hp, hi, hs, g15⟩
  have PXn := hide (PX.out.grown g15)
  have PYn := hide (PY.out.grown g15)
  have GBn := hide (grown_trans GB.out g15)
  clear GB PX PY HC
  have GB := GBn
  have PX := PXn
  have PY := PYn
  clear GBn PXn PYn
  have Pl := hide hp
  have Il := hide hi
  have Sl := hide hs
  clear hp hi hs
  clear g15
  clear p0 p1 p2 p3 p4 p5 hz
  have HC := hide (kall_any cb u _ _ _ _ _ (QB.out.grown (grown_trans T3.out GB.out)) PX.out Ix.out Sx.out.2.1)
  go_wp2_with fail
  refine HC.out.mono ?_
  rintro x w16 ⟨am, cm, nm, dm, Am, rfl, hp, hi, hs, g16⟩
  have PXn := hide (PX.out.grown g16)
  have PYn := hide (PY.out.grown g16)
  have GBn := hide (grown_trans GB.out g16)
  clear GB PX PY HC
  have GB := GBn
  have PX := PXn
  have PY := PYn
  clear GBn PXn PYn
  have Pm := hide hp
  have Im := hide hi
  have Sm := hide hs
  have Pl2 := hide (Pl.out.grown g16)
  clear hp hi hs Pl
  clear g16
  have HC := hide (eq_row Pl2.out Pm.out Il.out Im.out (Sl.out.1.cong (fun y => seq_all t u k Sx.out.1 y)) Sm.out)
  go_wp2_with fail
  refine HC.out.mono ?_
  rintro x w17 ⟨rfl, g17⟩
  have PXn := hide (PX.out.grown g17)
  have PYn := hide (PY.out.grown g17)
  have GBn := hide (grown_trans GB.out g17)
  clear GB PX PY HC
  have GB := GBn
  have PX := PXn
  have PY := PYn
  clear GBn PXn PYn
  clear g17
  clear Pl2 Pm Il Im Sl Sm
  have GF := hide (grown_trans G9.out GB.out)
  go_wp2
  go_ret
  exact ⟨rfl, GF.out⟩
set_option maxRecDepth 100000 in
set_option maxHeartbeats 4000000 in
theorem bu_oeol (a b s1 s2 s3 s4 : ByteArray) (ra : Option Addr) (rc m : Nat) (w : World) (t u : Code) (hm : m ≤ 9223372036854775807) (ha5 : a.size ≤ 400) (hb5 : b.size ≤ 400) (hs1 : s1 = (⟨#[40]⟩ : ByteArray) ++ a ++ (⟨#[41, 43, 40]⟩ : ByteArray) ++ b ++ (⟨#[41]⟩ : ByteArray)) (hs2 : s2 = (⟨#[40]⟩ : ByteArray) ++ a ++ (⟨#[41, 59, 40]⟩ : ByteArray) ++ b ++ (⟨#[41]⟩ : ByteArray)) (hs3 : s3 = (⟨#[40]⟩ : ByteArray) ++ a ++ (⟨#[41, 42]⟩ : ByteArray)) (hs4 : s4 = (⟨#[33, 40]⟩ : ByteArray) ++ a ++ (⟨#[41]⟩ : ByteArray))
    (P1 : Hid (Calls Tryz.prog 22 #[] w fun e w' => ∃ b, e = .returned (.pointer (some ⟨b, 0, none⟩)) ∧ w.grownBy w' none)) (KA : Hid (KOk a t w)) (KB : Hid (KOk b u w)) (K1 : Hid (KOk s1 (.block 0 (chain [t, u])) w)) (K2 : Hid (KEr s2 lim2 w)) (K3 : Hid (KOk s3 (.loop t) w)) (K4 : Hid (KEr s4 lim2 w)) (HRW : Hid (IRow w (.slice ra m rc) m)) :
    Calls Tryz.prog 5 #[.string a, .string b, .slice ra m rc] w fun e w' => e = .returned (.bool true) ∧ w.grownBy w' none := by
  unfold KOk at KA KB
  unfold KOk at K1
  unfold KEr at K2
  unfold KOk at K3
  unfold KEr at K4
  go_enter Tryz.func5, Tryz.ntmps5
  go_wp2_with fail
  refine P1.out.mono ?_
  rintro x w1 ⟨b0, rfl, g1⟩
  go_wp2_with fail
  refine (KA.out w1 g1).mono ?_
  rintro x w2 ⟨ca, rfl, qa, g2⟩
  have G2 := hide (grown_trans g1 g2)
  have QA := hide qa
  clear g1 g2 qa P1 KA
  go_wp2_with fail
  refine (KB.out w2 G2.out).mono ?_
  rintro x w3 ⟨cb, rfl, qb, g3⟩
  have G3 := hide (grown_trans G2.out g3)
  have S3 := hide g3
  have QB := hide qb
  clear g3 qb KB G2
  go_wp2_with fail
  rw [← hs1]
  refine (K1.out w3 G3.out).mono ?_
  rintro x w4 ⟨c1, rfl, q1, g4⟩
  have G4 := hide (grown_trans G3.out g4)
  have S4 := hide g4
  have Q1 := hide q1
  clear g4 q1 K1 G3 hs1
  go_wp2_with fail
  rw [← hs2]
  refine (K2.out w4 G4.out).mono ?_
  rintro x w5 ⟨e2, p2, rfl, q2, g5⟩
  have G5 := hide (grown_trans G4.out g5)
  have S5 := hide g5
  have Q2 := hide q2
  clear g5 q2 K2 G4 hs2
  go_wp2_with fail
  rw [← hs3]
  refine (K3.out w5 G5.out).mono ?_
  rintro x w6 ⟨c3, rfl, q3, g6⟩
  have G6 := hide (grown_trans G5.out g6)
  have S6 := hide g6
  have Q3 := hide q3
  clear g6 q3 K3 G5 hs3
  go_wp2_with fail
  rw [← hs4]
  refine (K4.out w6 G6.out).mono ?_
  rintro x w7 ⟨e4, p4, rfl, q4, g7⟩
  have G7 := hide (grown_trans G6.out g7)
  have S7 := hide g7
  have Q4 := hide q4
  clear g7 q4 K4 G6 hs4
  have L2 := hide (lim_yes Q2.out w7)
  have L4 := hide (lim_yes Q4.out w7)
  go_wp2_with fail
  refine L2.out.mono ?_
  rintro x v2 ⟨rfl, hv2⟩
  rw [hv2]
  clear hv2 L2
  go_wp2_with fail
  refine L4.out.mono ?_
  rintro x v4 ⟨rfl, hv4⟩
  rw [hv4]
  clear hv4 L4
  have HP := hide (packet_rt _ m w7 (HRW.out.grown G7.out))
  clear HRW
  go_wp2_with fail
  refine HP.out.mono ?_
  rintro e w8 ⟨k, rfl, hk, hg8⟩
  have HK := hide hk
  obtain ⟨w9, hw9⟩ : ∃ w9, w9 = w8.alloc (.cells (pkA k) 46) := ⟨_, rfl⟩
  have hB : pkBlk w9 w8.heap.size k := by rw [hw9]; exact pkBlk.alloc w8 k
  have hg9 : w7.grownBy w9 none := grown_trans hg8 (by rw [hw9]; exact World.grownBy_alloc _ _ _)
  have HB := hide hB
  have G9 := hide (grown_trans G7.out hg9)
  have T7 := hide hg9
  have T6 := hide (grown_trans S7.out hg9)
  have T5 := hide (grown_trans S6.out T6.out)
  have T4 := hide (grown_trans S5.out T5.out)
  have T3 := hide (grown_trans S4.out T4.out)
  have T2 := hide (grown_trans S3.out T3.out)
  unfold pkA at hw9
  clear hk hg8 hB hg9 HP G7 S3 S4 S5 S6 S7
  go_upto_region 15 with fail
  rw [← hw9]
  clear hw9
  have GB := hide (grown_refl w9 none)
  obtain ⟨p0, p1, p2, p3, p4, p5⟩ := results2 (HB.out.grown GB.out (by simp))
  have hz : w8.heap.size < w9.heap.size := World.block_lt_of_cell? w9 _ p0
  have HC := hide (ev_row ca (t) k w2 w9 QA.out (grown_trans T2.out GB.out) HK.out)
  go_wp2_with fail
  refine HC.out.mono ?_
  rintro x w10 ⟨ax, cx, nx, dx, Ax, rfl, hp, hi, hs, g10⟩
  have GBn := hide (grown_trans GB.out g10)
  clear GB HC
  have GB := GBn
  clear GBn
  have Px := hide hp
  have Ix := hide hi
  have Sx := hide hs
  clear hp hi hs
  clear g10
  clear p0 p1 p2 p3 p4 p5 hz
  obtain ⟨p0, p1, p2, p3, p4, p5⟩ := results2 (HB.out.grown GB.out (by simp))
  have hz : w8.heap.size < w10.heap.size := World.block_lt_of_cell? w10 _ p0
  have HC := hide (ev_row cb (u) k w3 w10 QB.out (grown_trans T3.out GB.out) HK.out)
  go_wp2_with fail
  refine HC.out.mono ?_
  rintro x w11 ⟨ay, cy, ny, dy, Ay, rfl, hp, hi, hs, g11⟩
  have GBn := hide (grown_trans GB.out g11)
  clear GB HC
  have GB := GBn
  clear GBn
  have Py := hide hp
  have g_xy := hide g11
  have Iy := hide hi
  have Sy := hide hs
  clear hp hi hs
  clear g11
  clear p0 p1 p2 p3 p4 p5 hz
  have PX := hide (Px.out.grown g_xy.out)
  have PY := Py
  clear Px g_xy Py
  obtain ⟨p0, p1, p2, p3, p4, p5⟩ := results2 (HB.out.grown GB.out (by simp))
  have hz : w8.heap.size < w11.heap.size := World.block_lt_of_cell? w11 _ p0
  have HC := hide (ev_row c1 (.block 0 (chain [t, u])) k w4 w11 Q1.out (grown_trans T4.out GB.out) HK.out)
  go_wp2_with fail
  refine HC.out.mono ?_
  rintro x w12 ⟨al, cl, nl, dl, Al, rfl, hp, hi, hs, g12⟩
  have PXn := hide (PX.out.grown g12)
  have PYn := hide (PY.out.grown g12)
  have GBn := hide (grown_trans GB.out g12)
  clear GB PX PY HC
  have GB := GBn
  have PX := PXn
  have PY := PYn
  clear GBn PXn PYn
  have Pl := hide hp
  have Il := hide hi
  have Sl := hide hs
  clear hp hi hs
  clear g12
  clear p0 p1 p2 p3 p4 p5 hz
  have HC := hide (un_row PX.out PY.out Ix.out Iy.out Sx.out Sy.out)
  go_wp2_with fail
  refine HC.out.mono ?_
  rintro x w13 ⟨am, cm, nm, dm, Am, rfl, hp, hi, hs, g13⟩
  have PXn := hide (PX.out.grown g13)
  have PYn := hide (PY.out.grown g13)
  have GBn := hide (grown_trans GB.out g13)
  clear GB PX PY HC
  have GB := GBn
  have PX := PXn
  have PY := PYn
  clear GBn PXn PYn
  have Pm := hide hp
  have Im := hide hi
  have Sm := hide hs
  have Pl2 := hide (Pl.out.grown g13)
  clear hp hi hs Pl
  clear g13
  have HC := hide (eq_row Pl2.out Pm.out Il.out Im.out (Sl.out.1.cong (fun y => D_two0 t u k y)) Sm.out)
  go_wp2_with fail
  refine HC.out.mono ?_
  rintro x w14 ⟨rfl, g14⟩
  have PXn := hide (PX.out.grown g14)
  have PYn := hide (PY.out.grown g14)
  have GBn := hide (grown_trans GB.out g14)
  clear GB PX PY HC
  have GB := GBn
  have PX := PXn
  have PY := PYn
  clear GBn PXn PYn
  clear g14
  clear Pl2 Pm Il Im Sl Sm
  obtain ⟨p0, p1, p2, p3, p4, p5⟩ := results2 (HB.out.grown GB.out (by simp))
  have hz : w8.heap.size < w14.heap.size := World.block_lt_of_cell? w14 _ p0
  have HC := hide (ev_row c3 (.loop t) k w6 w14 Q3.out (grown_trans T6.out GB.out) HK.out)
  go_wp2_with fail
  refine HC.out.mono ?_
  rintro x w15 ⟨al, cl, nl, dl, Al, rfl, hp, hi, hs, g15⟩
  have PXn := hide (PX.out.grown g15)
  have PYn := hide (PY.out.grown g15)
  have GBn := hide (grown_trans GB.out g15)
  clear GB PX PY HC
  have GB := GBn
  have PX := PXn
  have PY := PYn
  clear GBn PXn PYn
  have Pl := hide hp
  have Il := hide hi
  have Sl := hide hs
  clear hp hi hs
  clear g15
  clear p0 p1 p2 p3 p4 p5 hz
  obtain ⟨p0, p1, p2, p3, p4, p5⟩ := results2 (HB.out.grown GB.out (by simp))
  have hz : w8.heap.size < w15.heap.size := World.block_lt_of_cell? w15 _ p0
  obtain ⟨w16, hw16⟩ : ∃ v, v = w15.alloc (.cells (pkA k) 46) := ⟨_, rfl⟩
  have gr : w15.grownBy w16 none := by rw [hw16]; exact World.grownBy_alloc _ _ _
  have ROW : Hid (PkR w16 (.slice (some ⟨w15.heap.size, 0, none⟩) 1 1) 1 (fun _ => k)) := by rw [hw16]; exact one_row w15 k
  have HC := hide (kclosed_any ca t _ _ k w16 (QA.out.grown (grown_trans T2.out (grown_trans GB.out gr))) ROW.out (one_is k) HK.out)
  unfold pkA at hw16
  go_wp2_with fail
  rw [← hw16]
  refine HC.out.mono ?_
  rintro x w17 ⟨am, cm, nm, dm, Am, rfl, hp, hi, hs, g17⟩
  have gg := grown_trans gr g17
  have Pm := hide hp
  have Im := hide hi
  have Sm := hide hs
  have Pl2 := hide (Pl.out.grown gg)
  have PXn := hide (PX.out.grown gg)
  have PYn := hide (PY.out.grown gg)
  have GBn := hide (grown_trans GB.out gg)
  clear hp hi hs Pl GB PX PY HC gr gg g17 ROW hw16
  have GB := GBn
  have PX := PXn
  have PY := PYn
  clear GBn PXn PYn
  clear p0 p1 p2 p3 p4 p5 hz
  have HC := hide (eq_row Pl2.out Pm.out Il.out Im.out Sl.out.1 Sm.out)
  go_wp2_with fail
  refine HC.out.mono ?_
  rintro x w18 ⟨rfl, g18⟩
  have PXn := hide (PX.out.grown g18)
  have PYn := hide (PY.out.grown g18)
  have GBn := hide (grown_trans GB.out g18)
  clear GB PX PY HC
  have GB := GBn
  have PX := PXn
  have PY := PYn
  clear GBn PXn PYn
  clear g18
  clear Pl2 Pm Il Im Sl Sm
  have GF := hide (grown_trans G9.out GB.out)
  go_wp2
  go_ret
  exact ⟨rfl, GF.out⟩
set_option maxRecDepth 100000 in
set_option maxHeartbeats 4000000 in
theorem bu_oeel (a b s1 s2 s3 s4 : ByteArray) (ra : Option Addr) (rc m : Nat) (w : World) (t u : Code) (hm : m ≤ 9223372036854775807) (ha5 : a.size ≤ 400) (hb5 : b.size ≤ 400) (hs1 : s1 = (⟨#[40]⟩ : ByteArray) ++ a ++ (⟨#[41, 43, 40]⟩ : ByteArray) ++ b ++ (⟨#[41]⟩ : ByteArray)) (hs2 : s2 = (⟨#[40]⟩ : ByteArray) ++ a ++ (⟨#[41, 59, 40]⟩ : ByteArray) ++ b ++ (⟨#[41]⟩ : ByteArray)) (hs3 : s3 = (⟨#[40]⟩ : ByteArray) ++ a ++ (⟨#[41, 42]⟩ : ByteArray)) (hs4 : s4 = (⟨#[33, 40]⟩ : ByteArray) ++ a ++ (⟨#[41]⟩ : ByteArray))
    (P1 : Hid (Calls Tryz.prog 22 #[] w fun e w' => ∃ b, e = .returned (.pointer (some ⟨b, 0, none⟩)) ∧ w.grownBy w' none)) (KA : Hid (KOk a t w)) (KB : Hid (KOk b u w)) (K1 : Hid (KOk s1 (.block 0 (chain [t, u])) w)) (K2 : Hid (KEr s2 lim2 w)) (K3 : Hid (KEr s3 lim2 w)) (K4 : Hid (KEr s4 lim2 w)) (HRW : Hid (IRow w (.slice ra m rc) m)) :
    Calls Tryz.prog 5 #[.string a, .string b, .slice ra m rc] w fun e w' => e = .returned (.bool true) ∧ w.grownBy w' none := by
  unfold KOk at KA KB
  unfold KOk at K1
  unfold KEr at K2
  unfold KEr at K3
  unfold KEr at K4
  go_enter Tryz.func5, Tryz.ntmps5
  go_wp2_with fail
  refine P1.out.mono ?_
  rintro x w1 ⟨b0, rfl, g1⟩
  go_wp2_with fail
  refine (KA.out w1 g1).mono ?_
  rintro x w2 ⟨ca, rfl, qa, g2⟩
  have G2 := hide (grown_trans g1 g2)
  have QA := hide qa
  clear g1 g2 qa P1 KA
  go_wp2_with fail
  refine (KB.out w2 G2.out).mono ?_
  rintro x w3 ⟨cb, rfl, qb, g3⟩
  have G3 := hide (grown_trans G2.out g3)
  have S3 := hide g3
  have QB := hide qb
  clear g3 qb KB G2
  go_wp2_with fail
  rw [← hs1]
  refine (K1.out w3 G3.out).mono ?_
  rintro x w4 ⟨c1, rfl, q1, g4⟩
  have G4 := hide (grown_trans G3.out g4)
  have S4 := hide g4
  have Q1 := hide q1
  clear g4 q1 K1 G3 hs1
  go_wp2_with fail
  rw [← hs2]
  refine (K2.out w4 G4.out).mono ?_
  rintro x w5 ⟨e2, p2, rfl, q2, g5⟩
  have G5 := hide (grown_trans G4.out g5)
  have S5 := hide g5
  have Q2 := hide q2
  clear g5 q2 K2 G4 hs2
  go_wp2_with fail
  rw [← hs3]
  refine (K3.out w5 G5.out).mono ?_
  rintro x w6 ⟨e3, p3, rfl, q3, g6⟩
  have G6 := hide (grown_trans G5.out g6)
  have S6 := hide g6
  have Q3 := hide q3
  clear g6 q3 K3 G5 hs3
  go_wp2_with fail
  rw [← hs4]
  refine (K4.out w6 G6.out).mono ?_
  rintro x w7 ⟨e4, p4, rfl, q4, g7⟩
  have G7 := hide (grown_trans G6.out g7)
  have S7 := hide g7
  have Q4 := hide q4
  clear g7 q4 K4 G6 hs4
  have L2 := hide (lim_yes Q2.out w7)
  have L3 := hide (lim_yes Q3.out w7)
  have L4 := hide (lim_yes Q4.out w7)
  go_wp2_with fail
  refine L2.out.mono ?_
  rintro x v2 ⟨rfl, hv2⟩
  rw [hv2]
  clear hv2 L2
  go_wp2_with fail
  refine L3.out.mono ?_
  rintro x v3 ⟨rfl, hv3⟩
  rw [hv3]
  clear hv3 L3
  go_wp2_with fail
  refine L4.out.mono ?_
  rintro x v4 ⟨rfl, hv4⟩
  rw [hv4]
  clear hv4 L4
  have HP := hide (packet_rt _ m w7 (HRW.out.grown G7.out))
  clear HRW
  go_wp2_with fail
  refine HP.out.mono ?_
  rintro e w8 ⟨k, rfl, hk, hg8⟩
  have HK := hide hk
  obtain ⟨w9, hw9⟩ : ∃ w9, w9 = w8.alloc (.cells (pkA k) 46) := ⟨_, rfl⟩
  have hB : pkBlk w9 w8.heap.size k := by rw [hw9]; exact pkBlk.alloc w8 k
  have hg9 : w7.grownBy w9 none := grown_trans hg8 (by rw [hw9]; exact World.grownBy_alloc _ _ _)
  have HB := hide hB
  have G9 := hide (grown_trans G7.out hg9)
  have T7 := hide hg9
  have T6 := hide (grown_trans S7.out hg9)
  have T5 := hide (grown_trans S6.out T6.out)
  have T4 := hide (grown_trans S5.out T5.out)
  have T3 := hide (grown_trans S4.out T4.out)
  have T2 := hide (grown_trans S3.out T3.out)
  unfold pkA at hw9
  clear hk hg8 hB hg9 HP G7 S3 S4 S5 S6 S7
  go_upto_region 15 with fail
  rw [← hw9]
  clear hw9
  have GB := hide (grown_refl w9 none)
  obtain ⟨p0, p1, p2, p3, p4, p5⟩ := results2 (HB.out.grown GB.out (by simp))
  have hz : w8.heap.size < w9.heap.size := World.block_lt_of_cell? w9 _ p0
  have HC := hide (ev_row ca (t) k w2 w9 QA.out (grown_trans T2.out GB.out) HK.out)
  go_wp2_with fail
  refine HC.out.mono ?_
  rintro x w10 ⟨ax, cx, nx, dx, Ax, rfl, hp, hi, hs, g10⟩
  have GBn := hide (grown_trans GB.out g10)
  clear GB HC
  have GB := GBn
  clear GBn
  have Px := hide hp
  have Ix := hide hi
  have Sx := hide hs
  clear hp hi hs
  clear g10
  clear p0 p1 p2 p3 p4 p5 hz
  obtain ⟨p0, p1, p2, p3, p4, p5⟩ := results2 (HB.out.grown GB.out (by simp))
  have hz : w8.heap.size < w10.heap.size := World.block_lt_of_cell? w10 _ p0
  have HC := hide (ev_row cb (u) k w3 w10 QB.out (grown_trans T3.out GB.out) HK.out)
  go_wp2_with fail
  refine HC.out.mono ?_
  rintro x w11 ⟨ay, cy, ny, dy, Ay, rfl, hp, hi, hs, g11⟩
  have GBn := hide (grown_trans GB.out g11)
  clear GB HC
  have GB := GBn
  clear GBn
  have Py := hide hp
  have g_xy := hide g11
  have Iy := hide hi
  have Sy := hide hs
  clear hp hi hs
  clear g11
  clear p0 p1 p2 p3 p4 p5 hz
  have PX := hide (Px.out.grown g_xy.out)
  have PY := Py
  clear Px g_xy Py
  obtain ⟨p0, p1, p2, p3, p4, p5⟩ := results2 (HB.out.grown GB.out (by simp))
  have hz : w8.heap.size < w11.heap.size := World.block_lt_of_cell? w11 _ p0
  have HC := hide (ev_row c1 (.block 0 (chain [t, u])) k w4 w11 Q1.out (grown_trans T4.out GB.out) HK.out)
  go_wp2_with fail
  refine HC.out.mono ?_
  rintro x w12 ⟨al, cl, nl, dl, Al, rfl, hp, hi, hs, g12⟩
  have PXn := hide (PX.out.grown g12)
  have PYn := hide (PY.out.grown g12)
  have GBn := hide (grown_trans GB.out g12)
  clear GB PX PY HC
  have GB := GBn
  have PX := PXn
  have PY := PYn
  clear GBn PXn PYn
  have Pl := hide hp
  have Il := hide hi
  have Sl := hide hs
  clear hp hi hs
  clear g12
  clear p0 p1 p2 p3 p4 p5 hz
  have HC := hide (un_row PX.out PY.out Ix.out Iy.out Sx.out Sy.out)
  go_wp2_with fail
  refine HC.out.mono ?_
  rintro x w13 ⟨am, cm, nm, dm, Am, rfl, hp, hi, hs, g13⟩
  have PXn := hide (PX.out.grown g13)
  have PYn := hide (PY.out.grown g13)
  have GBn := hide (grown_trans GB.out g13)
  clear GB PX PY HC
  have GB := GBn
  have PX := PXn
  have PY := PYn
  clear GBn PXn PYn
  have Pm := hide hp
  have Im := hide hi
  have Sm := hide hs
  have Pl2 := hide (Pl.out.grown g13)
  clear hp hi hs Pl
  clear g13
  have HC := hide (eq_row Pl2.out Pm.out Il.out Im.out (Sl.out.1.cong (fun y => D_two0 t u k y)) Sm.out)
  go_wp2_with fail
  refine HC.out.mono ?_
  rintro x w14 ⟨rfl, g14⟩
  have PXn := hide (PX.out.grown g14)
  have PYn := hide (PY.out.grown g14)
  have GBn := hide (grown_trans GB.out g14)
  clear GB PX PY HC
  have GB := GBn
  have PX := PXn
  have PY := PYn
  clear GBn PXn PYn
  clear g14
  clear Pl2 Pm Il Im Sl Sm
  have GF := hide (grown_trans G9.out GB.out)
  go_wp2
  go_ret
  exact ⟨rfl, GF.out⟩
set_option maxRecDepth 100000 in
set_option maxHeartbeats 4000000 in
theorem bu_eool (a b s1 s2 s3 s4 : ByteArray) (ra : Option Addr) (rc m : Nat) (w : World) (t u : Code) (hm : m ≤ 9223372036854775807) (ha5 : a.size ≤ 400) (hb5 : b.size ≤ 400) (hs1 : s1 = (⟨#[40]⟩ : ByteArray) ++ a ++ (⟨#[41, 43, 40]⟩ : ByteArray) ++ b ++ (⟨#[41]⟩ : ByteArray)) (hs2 : s2 = (⟨#[40]⟩ : ByteArray) ++ a ++ (⟨#[41, 59, 40]⟩ : ByteArray) ++ b ++ (⟨#[41]⟩ : ByteArray)) (hs3 : s3 = (⟨#[40]⟩ : ByteArray) ++ a ++ (⟨#[41, 42]⟩ : ByteArray)) (hs4 : s4 = (⟨#[33, 40]⟩ : ByteArray) ++ a ++ (⟨#[41]⟩ : ByteArray))
    (P1 : Hid (Calls Tryz.prog 22 #[] w fun e w' => ∃ b, e = .returned (.pointer (some ⟨b, 0, none⟩)) ∧ w.grownBy w' none)) (KA : Hid (KOk a t w)) (KB : Hid (KOk b u w)) (K1 : Hid (KEr s1 lim2 w)) (K2 : Hid (KOk s2 (.block 1 (chain [t, u])) w)) (K3 : Hid (KOk s3 (.loop t) w)) (K4 : Hid (KEr s4 lim2 w)) (HRW : Hid (IRow w (.slice ra m rc) m)) :
    Calls Tryz.prog 5 #[.string a, .string b, .slice ra m rc] w fun e w' => e = .returned (.bool true) ∧ w.grownBy w' none := by
  unfold KOk at KA KB
  unfold KEr at K1
  unfold KOk at K2
  unfold KOk at K3
  unfold KEr at K4
  go_enter Tryz.func5, Tryz.ntmps5
  go_wp2_with fail
  refine P1.out.mono ?_
  rintro x w1 ⟨b0, rfl, g1⟩
  go_wp2_with fail
  refine (KA.out w1 g1).mono ?_
  rintro x w2 ⟨ca, rfl, qa, g2⟩
  have G2 := hide (grown_trans g1 g2)
  have QA := hide qa
  clear g1 g2 qa P1 KA
  go_wp2_with fail
  refine (KB.out w2 G2.out).mono ?_
  rintro x w3 ⟨cb, rfl, qb, g3⟩
  have G3 := hide (grown_trans G2.out g3)
  have S3 := hide g3
  have QB := hide qb
  clear g3 qb KB G2
  go_wp2_with fail
  rw [← hs1]
  refine (K1.out w3 G3.out).mono ?_
  rintro x w4 ⟨e1, p1, rfl, q1, g4⟩
  have G4 := hide (grown_trans G3.out g4)
  have S4 := hide g4
  have Q1 := hide q1
  clear g4 q1 K1 G3 hs1
  go_wp2_with fail
  rw [← hs2]
  refine (K2.out w4 G4.out).mono ?_
  rintro x w5 ⟨c2, rfl, q2, g5⟩
  have G5 := hide (grown_trans G4.out g5)
  have S5 := hide g5
  have Q2 := hide q2
  clear g5 q2 K2 G4 hs2
  go_wp2_with fail
  rw [← hs3]
  refine (K3.out w5 G5.out).mono ?_
  rintro x w6 ⟨c3, rfl, q3, g6⟩
  have G6 := hide (grown_trans G5.out g6)
  have S6 := hide g6
  have Q3 := hide q3
  clear g6 q3 K3 G5 hs3
  go_wp2_with fail
  rw [← hs4]
  refine (K4.out w6 G6.out).mono ?_
  rintro x w7 ⟨e4, p4, rfl, q4, g7⟩
  have G7 := hide (grown_trans G6.out g7)
  have S7 := hide g7
  have Q4 := hide q4
  clear g7 q4 K4 G6 hs4
  have L1 := hide (lim_yes Q1.out w7)
  have L4 := hide (lim_yes Q4.out w7)
  go_wp2_with fail
  refine L1.out.mono ?_
  rintro x v1 ⟨rfl, hv1⟩
  rw [hv1]
  clear hv1 L1
  go_wp2_with fail
  refine L4.out.mono ?_
  rintro x v4 ⟨rfl, hv4⟩
  rw [hv4]
  clear hv4 L4
  have HP := hide (packet_rt _ m w7 (HRW.out.grown G7.out))
  clear HRW
  go_wp2_with fail
  refine HP.out.mono ?_
  rintro e w8 ⟨k, rfl, hk, hg8⟩
  have HK := hide hk
  obtain ⟨w9, hw9⟩ : ∃ w9, w9 = w8.alloc (.cells (pkA k) 46) := ⟨_, rfl⟩
  have hB : pkBlk w9 w8.heap.size k := by rw [hw9]; exact pkBlk.alloc w8 k
  have hg9 : w7.grownBy w9 none := grown_trans hg8 (by rw [hw9]; exact World.grownBy_alloc _ _ _)
  have HB := hide hB
  have G9 := hide (grown_trans G7.out hg9)
  have T7 := hide hg9
  have T6 := hide (grown_trans S7.out hg9)
  have T5 := hide (grown_trans S6.out T6.out)
  have T4 := hide (grown_trans S5.out T5.out)
  have T3 := hide (grown_trans S4.out T4.out)
  have T2 := hide (grown_trans S3.out T3.out)
  unfold pkA at hw9
  clear hk hg8 hB hg9 HP G7 S3 S4 S5 S6 S7
  go_upto_region 15 with fail
  rw [← hw9]
  clear hw9
  have GB := hide (grown_refl w9 none)
  obtain ⟨p0, p1, p2, p3, p4, p5⟩ := results2 (HB.out.grown GB.out (by simp))
  have hz : w8.heap.size < w9.heap.size := World.block_lt_of_cell? w9 _ p0
  have HC := hide (ev_row ca (t) k w2 w9 QA.out (grown_trans T2.out GB.out) HK.out)
  go_wp2_with fail
  refine HC.out.mono ?_
  rintro x w10 ⟨ax, cx, nx, dx, Ax, rfl, hp, hi, hs, g10⟩
  have GBn := hide (grown_trans GB.out g10)
  clear GB HC
  have GB := GBn
  clear GBn
  have Px := hide hp
  have Ix := hide hi
  have Sx := hide hs
  clear hp hi hs
  clear g10
  clear p0 p1 p2 p3 p4 p5 hz
  obtain ⟨p0, p1, p2, p3, p4, p5⟩ := results2 (HB.out.grown GB.out (by simp))
  have hz : w8.heap.size < w10.heap.size := World.block_lt_of_cell? w10 _ p0
  have HC := hide (ev_row cb (u) k w3 w10 QB.out (grown_trans T3.out GB.out) HK.out)
  go_wp2_with fail
  refine HC.out.mono ?_
  rintro x w11 ⟨ay, cy, ny, dy, Ay, rfl, hp, hi, hs, g11⟩
  have GBn := hide (grown_trans GB.out g11)
  clear GB HC
  have GB := GBn
  clear GBn
  have Py := hide hp
  have g_xy := hide g11
  have Iy := hide hi
  have Sy := hide hs
  clear hp hi hs
  clear g11
  clear p0 p1 p2 p3 p4 p5 hz
  have PX := hide (Px.out.grown g_xy.out)
  have PY := Py
  clear Px g_xy Py
  obtain ⟨p0, p1, p2, p3, p4, p5⟩ := results2 (HB.out.grown GB.out (by simp))
  have hz : w8.heap.size < w11.heap.size := World.block_lt_of_cell? w11 _ p0
  have HC := hide (ev_row c2 (.block 1 (chain [t, u])) k w5 w11 Q2.out (grown_trans T5.out GB.out) HK.out)
  go_wp2_with fail
  refine HC.out.mono ?_
  rintro x w12 ⟨al, cl, nl, dl, Al, rfl, hp, hi, hs, g12⟩
  have PXn := hide (PX.out.grown g12)
  have PYn := hide (PY.out.grown g12)
  have GBn := hide (grown_trans GB.out g12)
  clear GB PX PY HC
  have GB := GBn
  have PX := PXn
  have PY := PYn
  clear GBn PXn PYn
  have Pl := hide hp
  have Il := hide hi
  have Sl := hide hs
  clear hp hi hs
  clear g12
  clear p0 p1 p2 p3 p4 p5 hz
  have HC := hide (kall_any cb u _ _ _ _ _ (QB.out.grown (grown_trans T3.out GB.out)) PX.out Ix.out Sx.out.2.1)
  go_wp2_with fail
  refine HC.out.mono ?_
  rintro x w13 ⟨am, cm, nm, dm, Am, rfl, hp, hi, hs, g13⟩
  have PXn := hide (PX.out.grown g13)
  have PYn := hide (PY.out.grown g13)
  have GBn := hide (grown_trans GB.out g13)
  clear GB PX PY HC
  have GB := GBn
  have PX := PXn
  have PY := PYn
  clear GBn PXn PYn
  have Pm := hide hp
  have Im := hide hi
  have Sm := hide hs
  have Pl2 := hide (Pl.out.grown g13)
  clear hp hi hs Pl
  clear g13
  have HC := hide (eq_row Pl2.out Pm.out Il.out Im.out (Sl.out.1.cong (fun y => seq_all t u k Sx.out.1 y)) Sm.out)
  go_wp2_with fail
  refine HC.out.mono ?_
  rintro x w14 ⟨rfl, g14⟩
  have PXn := hide (PX.out.grown g14)
  have PYn := hide (PY.out.grown g14)
  have GBn := hide (grown_trans GB.out g14)
  clear GB PX PY HC
  have GB := GBn
  have PX := PXn
  have PY := PYn
  clear GBn PXn PYn
  clear g14
  clear Pl2 Pm Il Im Sl Sm
  obtain ⟨p0, p1, p2, p3, p4, p5⟩ := results2 (HB.out.grown GB.out (by simp))
  have hz : w8.heap.size < w14.heap.size := World.block_lt_of_cell? w14 _ p0
  have HC := hide (ev_row c3 (.loop t) k w6 w14 Q3.out (grown_trans T6.out GB.out) HK.out)
  go_wp2_with fail
  refine HC.out.mono ?_
  rintro x w15 ⟨al, cl, nl, dl, Al, rfl, hp, hi, hs, g15⟩
  have PXn := hide (PX.out.grown g15)
  have PYn := hide (PY.out.grown g15)
  have GBn := hide (grown_trans GB.out g15)
  clear GB PX PY HC
  have GB := GBn
  have PX := PXn
  have PY := PYn
  clear GBn PXn PYn
  have Pl := hide hp
  have Il := hide hi
  have Sl := hide hs
  clear hp hi hs
  clear g15
  clear p0 p1 p2 p3 p4 p5 hz
  obtain ⟨p0, p1, p2, p3, p4, p5⟩ := results2 (HB.out.grown GB.out (by simp))
  have hz : w8.heap.size < w15.heap.size := World.block_lt_of_cell? w15 _ p0
  obtain ⟨w16, hw16⟩ : ∃ v, v = w15.alloc (.cells (pkA k) 46) := ⟨_, rfl⟩
  have gr : w15.grownBy w16 none := by rw [hw16]; exact World.grownBy_alloc _ _ _
  have ROW : Hid (PkR w16 (.slice (some ⟨w15.heap.size, 0, none⟩) 1 1) 1 (fun _ => k)) := by rw [hw16]; exact one_row w15 k
  have HC := hide (kclosed_any ca t _ _ k w16 (QA.out.grown (grown_trans T2.out (grown_trans GB.out gr))) ROW.out (one_is k) HK.out)
  unfold pkA at hw16
  go_wp2_with fail
  rw [← hw16]
  refine HC.out.mono ?_
  rintro x w17 ⟨am, cm, nm, dm, Am, rfl, hp, hi, hs, g17⟩
  have gg := grown_trans gr g17
  have Pm := hide hp
  have Im := hide hi
  have Sm := hide hs
  have Pl2 := hide (Pl.out.grown gg)
  have PXn := hide (PX.out.grown gg)
  have PYn := hide (PY.out.grown gg)
  have GBn := hide (grown_trans GB.out gg)
  clear hp hi hs Pl GB PX PY HC gr gg g17 ROW hw16
  have GB := GBn
  have PX := PXn
  have PY := PYn
  clear GBn PXn PYn
  clear p0 p1 p2 p3 p4 p5 hz
  have HC := hide (eq_row Pl2.out Pm.out Il.out Im.out Sl.out.1 Sm.out)
  go_wp2_with fail
  refine HC.out.mono ?_
  rintro x w18 ⟨rfl, g18⟩
  have PXn := hide (PX.out.grown g18)
  have PYn := hide (PY.out.grown g18)
  have GBn := hide (grown_trans GB.out g18)
  clear GB PX PY HC
  have GB := GBn
  have PX := PXn
  have PY := PYn
  clear GBn PXn PYn
  clear g18
  clear Pl2 Pm Il Im Sl Sm
  have GF := hide (grown_trans G9.out GB.out)
  go_wp2
  go_ret
  exact ⟨rfl, GF.out⟩
set_option maxRecDepth 100000 in
set_option maxHeartbeats 4000000 in
theorem bu_eoel (a b s1 s2 s3 s4 : ByteArray) (ra : Option Addr) (rc m : Nat) (w : World) (t u : Code) (hm : m ≤ 9223372036854775807) (ha5 : a.size ≤ 400) (hb5 : b.size ≤ 400) (hs1 : s1 = (⟨#[40]⟩ : ByteArray) ++ a ++ (⟨#[41, 43, 40]⟩ : ByteArray) ++ b ++ (⟨#[41]⟩ : ByteArray)) (hs2 : s2 = (⟨#[40]⟩ : ByteArray) ++ a ++ (⟨#[41, 59, 40]⟩ : ByteArray) ++ b ++ (⟨#[41]⟩ : ByteArray)) (hs3 : s3 = (⟨#[40]⟩ : ByteArray) ++ a ++ (⟨#[41, 42]⟩ : ByteArray)) (hs4 : s4 = (⟨#[33, 40]⟩ : ByteArray) ++ a ++ (⟨#[41]⟩ : ByteArray))
    (P1 : Hid (Calls Tryz.prog 22 #[] w fun e w' => ∃ b, e = .returned (.pointer (some ⟨b, 0, none⟩)) ∧ w.grownBy w' none)) (KA : Hid (KOk a t w)) (KB : Hid (KOk b u w)) (K1 : Hid (KEr s1 lim2 w)) (K2 : Hid (KOk s2 (.block 1 (chain [t, u])) w)) (K3 : Hid (KEr s3 lim2 w)) (K4 : Hid (KEr s4 lim2 w)) (HRW : Hid (IRow w (.slice ra m rc) m)) :
    Calls Tryz.prog 5 #[.string a, .string b, .slice ra m rc] w fun e w' => e = .returned (.bool true) ∧ w.grownBy w' none := by
  unfold KOk at KA KB
  unfold KEr at K1
  unfold KOk at K2
  unfold KEr at K3
  unfold KEr at K4
  go_enter Tryz.func5, Tryz.ntmps5
  go_wp2_with fail
  refine P1.out.mono ?_
  rintro x w1 ⟨b0, rfl, g1⟩
  go_wp2_with fail
  refine (KA.out w1 g1).mono ?_
  rintro x w2 ⟨ca, rfl, qa, g2⟩
  have G2 := hide (grown_trans g1 g2)
  have QA := hide qa
  clear g1 g2 qa P1 KA
  go_wp2_with fail
  refine (KB.out w2 G2.out).mono ?_
  rintro x w3 ⟨cb, rfl, qb, g3⟩
  have G3 := hide (grown_trans G2.out g3)
  have S3 := hide g3
  have QB := hide qb
  clear g3 qb KB G2
  go_wp2_with fail
  rw [← hs1]
  refine (K1.out w3 G3.out).mono ?_
  rintro x w4 ⟨e1, p1, rfl, q1, g4⟩
  have G4 := hide (grown_trans G3.out g4)
  have S4 := hide g4
  have Q1 := hide q1
  clear g4 q1 K1 G3 hs1
  go_wp2_with fail
  rw [← hs2]
  refine (K2.out w4 G4.out).mono ?_
  rintro x w5 ⟨c2, rfl, q2, g5⟩
  have G5 := hide (grown_trans G4.out g5)
  have S5 := hide g5
  have Q2 := hide q2
  clear g5 q2 K2 G4 hs2
  go_wp2_with fail
  rw [← hs3]
  refine (K3.out w5 G5.out).mono ?_
  rintro x w6 ⟨e3, p3, rfl, q3, g6⟩
  have G6 := hide (grown_trans G5.out g6)
  have S6 := hide g6
  have Q3 := hide q3
  clear g6 q3 K3 G5 hs3
  go_wp2_with fail
  rw [← hs4]
  refine (K4.out w6 G6.out).mono ?_
  rintro x w7 ⟨e4, p4, rfl, q4, g7⟩
  have G7 := hide (grown_trans G6.out g7)
  have S7 := hide g7
  have Q4 := hide q4
  clear g7 q4 K4 G6 hs4
  have L1 := hide (lim_yes Q1.out w7)
  have L3 := hide (lim_yes Q3.out w7)
  have L4 := hide (lim_yes Q4.out w7)
  go_wp2_with fail
  refine L1.out.mono ?_
  rintro x v1 ⟨rfl, hv1⟩
  rw [hv1]
  clear hv1 L1
  go_wp2_with fail
  refine L3.out.mono ?_
  rintro x v3 ⟨rfl, hv3⟩
  rw [hv3]
  clear hv3 L3
  go_wp2_with fail
  refine L4.out.mono ?_
  rintro x v4 ⟨rfl, hv4⟩
  rw [hv4]
  clear hv4 L4
  have HP := hide (packet_rt _ m w7 (HRW.out.grown G7.out))
  clear HRW
  go_wp2_with fail
  refine HP.out.mono ?_
  rintro e w8 ⟨k, rfl, hk, hg8⟩
  have HK := hide hk
  obtain ⟨w9, hw9⟩ : ∃ w9, w9 = w8.alloc (.cells (pkA k) 46) := ⟨_, rfl⟩
  have hB : pkBlk w9 w8.heap.size k := by rw [hw9]; exact pkBlk.alloc w8 k
  have hg9 : w7.grownBy w9 none := grown_trans hg8 (by rw [hw9]; exact World.grownBy_alloc _ _ _)
  have HB := hide hB
  have G9 := hide (grown_trans G7.out hg9)
  have T7 := hide hg9
  have T6 := hide (grown_trans S7.out hg9)
  have T5 := hide (grown_trans S6.out T6.out)
  have T4 := hide (grown_trans S5.out T5.out)
  have T3 := hide (grown_trans S4.out T4.out)
  have T2 := hide (grown_trans S3.out T3.out)
  unfold pkA at hw9
  clear hk hg8 hB hg9 HP G7 S3 S4 S5 S6 S7
  go_upto_region 15 with fail
  rw [← hw9]
  clear hw9
  have GB := hide (grown_refl w9 none)
  obtain ⟨p0, p1, p2, p3, p4, p5⟩ := results2 (HB.out.grown GB.out (by simp))
  have hz : w8.heap.size < w9.heap.size := World.block_lt_of_cell? w9 _ p0
  have HC := hide (ev_row ca (t) k w2 w9 QA.out (grown_trans T2.out GB.out) HK.out)
  go_wp2_with fail
  refine HC.out.mono ?_
  rintro x w10 ⟨ax, cx, nx, dx, Ax, rfl, hp, hi, hs, g10⟩
  have GBn := hide (grown_trans GB.out g10)
  clear GB HC
  have GB := GBn
  clear GBn
  have Px := hide hp
  have Ix := hide hi
  have Sx := hide hs
  clear hp hi hs
  clear g10
  clear p0 p1 p2 p3 p4 p5 hz
  obtain ⟨p0, p1, p2, p3, p4, p5⟩ := results2 (HB.out.grown GB.out (by simp))
  have hz : w8.heap.size < w10.heap.size := World.block_lt_of_cell? w10 _ p0
  have HC := hide (ev_row cb (u) k w3 w10 QB.out (grown_trans T3.out GB.out) HK.out)
  go_wp2_with fail
  refine HC.out.mono ?_
  rintro x w11 ⟨ay, cy, ny, dy, Ay, rfl, hp, hi, hs, g11⟩
  have GBn := hide (grown_trans GB.out g11)
  clear GB HC
  have GB := GBn
  clear GBn
  have Py := hide hp
  have g_xy := hide g11
  have Iy := hide hi
  have Sy := hide hs
  clear hp hi hs
  clear g11
  clear p0 p1 p2 p3 p4 p5 hz
  have PX := hide (Px.out.grown g_xy.out)
  have PY := Py
  clear Px g_xy Py
  obtain ⟨p0, p1, p2, p3, p4, p5⟩ := results2 (HB.out.grown GB.out (by simp))
  have hz : w8.heap.size < w11.heap.size := World.block_lt_of_cell? w11 _ p0
  have HC := hide (ev_row c2 (.block 1 (chain [t, u])) k w5 w11 Q2.out (grown_trans T5.out GB.out) HK.out)
  go_wp2_with fail
  refine HC.out.mono ?_
  rintro x w12 ⟨al, cl, nl, dl, Al, rfl, hp, hi, hs, g12⟩
  have PXn := hide (PX.out.grown g12)
  have PYn := hide (PY.out.grown g12)
  have GBn := hide (grown_trans GB.out g12)
  clear GB PX PY HC
  have GB := GBn
  have PX := PXn
  have PY := PYn
  clear GBn PXn PYn
  have Pl := hide hp
  have Il := hide hi
  have Sl := hide hs
  clear hp hi hs
  clear g12
  clear p0 p1 p2 p3 p4 p5 hz
  have HC := hide (kall_any cb u _ _ _ _ _ (QB.out.grown (grown_trans T3.out GB.out)) PX.out Ix.out Sx.out.2.1)
  go_wp2_with fail
  refine HC.out.mono ?_
  rintro x w13 ⟨am, cm, nm, dm, Am, rfl, hp, hi, hs, g13⟩
  have PXn := hide (PX.out.grown g13)
  have PYn := hide (PY.out.grown g13)
  have GBn := hide (grown_trans GB.out g13)
  clear GB PX PY HC
  have GB := GBn
  have PX := PXn
  have PY := PYn
  clear GBn PXn PYn
  have Pm := hide hp
  have Im := hide hi
  have Sm := hide hs
  have Pl2 := hide (Pl.out.grown g13)
  clear hp hi hs Pl
  clear g13
  have HC := hide (eq_row Pl2.out Pm.out Il.out Im.out (Sl.out.1.cong (fun y => seq_all t u k Sx.out.1 y)) Sm.out)
  go_wp2_with fail
  refine HC.out.mono ?_
  rintro x w14 ⟨rfl, g14⟩
  have PXn := hide (PX.out.grown g14)
  have PYn := hide (PY.out.grown g14)
  have GBn := hide (grown_trans GB.out g14)
  clear GB PX PY HC
  have GB := GBn
  have PX := PXn
  have PY := PYn
  clear GBn PXn PYn
  clear g14
  clear Pl2 Pm Il Im Sl Sm
  have GF := hide (grown_trans G9.out GB.out)
  go_wp2
  go_ret
  exact ⟨rfl, GF.out⟩
set_option maxRecDepth 100000 in
set_option maxHeartbeats 4000000 in
theorem bu_eeol (a b s1 s2 s3 s4 : ByteArray) (ra : Option Addr) (rc m : Nat) (w : World) (t u : Code) (hm : m ≤ 9223372036854775807) (ha5 : a.size ≤ 400) (hb5 : b.size ≤ 400) (hs1 : s1 = (⟨#[40]⟩ : ByteArray) ++ a ++ (⟨#[41, 43, 40]⟩ : ByteArray) ++ b ++ (⟨#[41]⟩ : ByteArray)) (hs2 : s2 = (⟨#[40]⟩ : ByteArray) ++ a ++ (⟨#[41, 59, 40]⟩ : ByteArray) ++ b ++ (⟨#[41]⟩ : ByteArray)) (hs3 : s3 = (⟨#[40]⟩ : ByteArray) ++ a ++ (⟨#[41, 42]⟩ : ByteArray)) (hs4 : s4 = (⟨#[33, 40]⟩ : ByteArray) ++ a ++ (⟨#[41]⟩ : ByteArray))
    (P1 : Hid (Calls Tryz.prog 22 #[] w fun e w' => ∃ b, e = .returned (.pointer (some ⟨b, 0, none⟩)) ∧ w.grownBy w' none)) (KA : Hid (KOk a t w)) (KB : Hid (KOk b u w)) (K1 : Hid (KEr s1 lim2 w)) (K2 : Hid (KEr s2 lim2 w)) (K3 : Hid (KOk s3 (.loop t) w)) (K4 : Hid (KEr s4 lim2 w)) (HRW : Hid (IRow w (.slice ra m rc) m)) :
    Calls Tryz.prog 5 #[.string a, .string b, .slice ra m rc] w fun e w' => e = .returned (.bool true) ∧ w.grownBy w' none := by
  unfold KOk at KA KB
  unfold KEr at K1
  unfold KEr at K2
  unfold KOk at K3
  unfold KEr at K4
  go_enter Tryz.func5, Tryz.ntmps5
  go_wp2_with fail
  refine P1.out.mono ?_
  rintro x w1 ⟨b0, rfl, g1⟩
  go_wp2_with fail
  refine (KA.out w1 g1).mono ?_
  rintro x w2 ⟨ca, rfl, qa, g2⟩
  have G2 := hide (grown_trans g1 g2)
  have QA := hide qa
  clear g1 g2 qa P1 KA
  go_wp2_with fail
  refine (KB.out w2 G2.out).mono ?_
  rintro x w3 ⟨cb, rfl, qb, g3⟩
  have G3 := hide (grown_trans G2.out g3)
  have S3 := hide g3
  have QB := hide qb
  clear g3 qb KB G2
  go_wp2_with fail
  rw [← hs1]
  refine (K1.out w3 G3.out).mono ?_
  rintro x w4 ⟨e1, p1, rfl, q1, g4⟩
  have G4 := hide (grown_trans G3.out g4)
  have S4 := hide g4
  have Q1 := hide q1
  clear g4 q1 K1 G3 hs1
  go_wp2_with fail
  rw [← hs2]
  refine (K2.out w4 G4.out).mono ?_
  rintro x w5 ⟨e2, p2, rfl, q2, g5⟩
  have G5 := hide (grown_trans G4.out g5)
  have S5 := hide g5
  have Q2 := hide q2
  clear g5 q2 K2 G4 hs2
  go_wp2_with fail
  rw [← hs3]
  refine (K3.out w5 G5.out).mono ?_
  rintro x w6 ⟨c3, rfl, q3, g6⟩
  have G6 := hide (grown_trans G5.out g6)
  have S6 := hide g6
  have Q3 := hide q3
  clear g6 q3 K3 G5 hs3
  go_wp2_with fail
  rw [← hs4]
  refine (K4.out w6 G6.out).mono ?_
  rintro x w7 ⟨e4, p4, rfl, q4, g7⟩
  have G7 := hide (grown_trans G6.out g7)
  have S7 := hide g7
  have Q4 := hide q4
  clear g7 q4 K4 G6 hs4
  have L1 := hide (lim_yes Q1.out w7)
  have L2 := hide (lim_yes Q2.out w7)
  have L4 := hide (lim_yes Q4.out w7)
  go_wp2_with fail
  refine L1.out.mono ?_
  rintro x v1 ⟨rfl, hv1⟩
  rw [hv1]
  clear hv1 L1
  go_wp2_with fail
  refine L2.out.mono ?_
  rintro x v2 ⟨rfl, hv2⟩
  rw [hv2]
  clear hv2 L2
  go_wp2_with fail
  refine L4.out.mono ?_
  rintro x v4 ⟨rfl, hv4⟩
  rw [hv4]
  clear hv4 L4
  have HP := hide (packet_rt _ m w7 (HRW.out.grown G7.out))
  clear HRW
  go_wp2_with fail
  refine HP.out.mono ?_
  rintro e w8 ⟨k, rfl, hk, hg8⟩
  have HK := hide hk
  obtain ⟨w9, hw9⟩ : ∃ w9, w9 = w8.alloc (.cells (pkA k) 46) := ⟨_, rfl⟩
  have hB : pkBlk w9 w8.heap.size k := by rw [hw9]; exact pkBlk.alloc w8 k
  have hg9 : w7.grownBy w9 none := grown_trans hg8 (by rw [hw9]; exact World.grownBy_alloc _ _ _)
  have HB := hide hB
  have G9 := hide (grown_trans G7.out hg9)
  have T7 := hide hg9
  have T6 := hide (grown_trans S7.out hg9)
  have T5 := hide (grown_trans S6.out T6.out)
  have T4 := hide (grown_trans S5.out T5.out)
  have T3 := hide (grown_trans S4.out T4.out)
  have T2 := hide (grown_trans S3.out T3.out)
  unfold pkA at hw9
  clear hk hg8 hB hg9 HP G7 S3 S4 S5 S6 S7
  go_upto_region 15 with fail
  rw [← hw9]
  clear hw9
  have GB := hide (grown_refl w9 none)
  obtain ⟨p0, p1, p2, p3, p4, p5⟩ := results2 (HB.out.grown GB.out (by simp))
  have hz : w8.heap.size < w9.heap.size := World.block_lt_of_cell? w9 _ p0
  have HC := hide (ev_row ca (t) k w2 w9 QA.out (grown_trans T2.out GB.out) HK.out)
  go_wp2_with fail
  refine HC.out.mono ?_
  rintro x w10 ⟨ax, cx, nx, dx, Ax, rfl, hp, hi, hs, g10⟩
  have GBn := hide (grown_trans GB.out g10)
  clear GB HC
  have GB := GBn
  clear GBn
  have Px := hide hp
  have Ix := hide hi
  have Sx := hide hs
  clear hp hi hs
  clear g10
  clear p0 p1 p2 p3 p4 p5 hz
  obtain ⟨p0, p1, p2, p3, p4, p5⟩ := results2 (HB.out.grown GB.out (by simp))
  have hz : w8.heap.size < w10.heap.size := World.block_lt_of_cell? w10 _ p0
  have HC := hide (ev_row cb (u) k w3 w10 QB.out (grown_trans T3.out GB.out) HK.out)
  go_wp2_with fail
  refine HC.out.mono ?_
  rintro x w11 ⟨ay, cy, ny, dy, Ay, rfl, hp, hi, hs, g11⟩
  have GBn := hide (grown_trans GB.out g11)
  clear GB HC
  have GB := GBn
  clear GBn
  have Py := hide hp
  have g_xy := hide g11
  have Iy := hide hi
  have Sy := hide hs
  clear hp hi hs
  clear g11
  clear p0 p1 p2 p3 p4 p5 hz
  have PX := hide (Px.out.grown g_xy.out)
  have PY := Py
  clear Px g_xy Py
  obtain ⟨p0, p1, p2, p3, p4, p5⟩ := results2 (HB.out.grown GB.out (by simp))
  have hz : w8.heap.size < w11.heap.size := World.block_lt_of_cell? w11 _ p0
  have HC := hide (ev_row c3 (.loop t) k w6 w11 Q3.out (grown_trans T6.out GB.out) HK.out)
  go_wp2_with fail
  refine HC.out.mono ?_
  rintro x w12 ⟨al, cl, nl, dl, Al, rfl, hp, hi, hs, g12⟩
  have PXn := hide (PX.out.grown g12)
  have PYn := hide (PY.out.grown g12)
  have GBn := hide (grown_trans GB.out g12)
  clear GB PX PY HC
  have GB := GBn
  have PX := PXn
  have PY := PYn
  clear GBn PXn PYn
  have Pl := hide hp
  have Il := hide hi
  have Sl := hide hs
  clear hp hi hs
  clear g12
  clear p0 p1 p2 p3 p4 p5 hz
  obtain ⟨p0, p1, p2, p3, p4, p5⟩ := results2 (HB.out.grown GB.out (by simp))
  have hz : w8.heap.size < w12.heap.size := World.block_lt_of_cell? w12 _ p0
  obtain ⟨w13, hw13⟩ : ∃ v, v = w12.alloc (.cells (pkA k) 46) := ⟨_, rfl⟩
  have gr : w12.grownBy w13 none := by rw [hw13]; exact World.grownBy_alloc _ _ _
  have ROW : Hid (PkR w13 (.slice (some ⟨w12.heap.size, 0, none⟩) 1 1) 1 (fun _ => k)) := by rw [hw13]; exact one_row w12 k
  have HC := hide (kclosed_any ca t _ _ k w13 (QA.out.grown (grown_trans T2.out (grown_trans GB.out gr))) ROW.out (one_is k) HK.out)
  unfold pkA at hw13
  go_wp2_with fail
  rw [← hw13]
  refine HC.out.mono ?_
  rintro x w14 ⟨am, cm, nm, dm, Am, rfl, hp, hi, hs, g14⟩
  have gg := grown_trans gr g14
  have Pm := hide hp
  have Im := hide hi
  have Sm := hide hs
  have Pl2 := hide (Pl.out.grown gg)
  have PXn := hide (PX.out.grown gg)
  have PYn := hide (PY.out.grown gg)
  have GBn := hide (grown_trans GB.out gg)
  clear hp hi hs Pl GB PX PY HC gr gg g14 ROW hw13
  have GB := GBn
  have PX := PXn
  have PY := PYn
  clear GBn PXn PYn
  clear p0 p1 p2 p3 p4 p5 hz
  have HC := hide (eq_row Pl2.out Pm.out Il.out Im.out Sl.out.1 Sm.out)
  go_wp2_with fail
  refine HC.out.mono ?_
  rintro x w15 ⟨rfl, g15⟩
  have PXn := hide (PX.out.grown g15)
  have PYn := hide (PY.out.grown g15)
  have GBn := hide (grown_trans GB.out g15)
  clear GB PX PY HC
  have GB := GBn
  have PX := PXn
  have PY := PYn
  clear GBn PXn PYn
  clear g15
  clear Pl2 Pm Il Im Sl Sm
  have GF := hide (grown_trans G9.out GB.out)
  go_wp2
  go_ret
  exact ⟨rfl, GF.out⟩
set_option maxRecDepth 100000 in
set_option maxHeartbeats 4000000 in
theorem bu_eeel (a b s1 s2 s3 s4 : ByteArray) (ra : Option Addr) (rc m : Nat) (w : World) (t u : Code) (hm : m ≤ 9223372036854775807) (ha5 : a.size ≤ 400) (hb5 : b.size ≤ 400) (hs1 : s1 = (⟨#[40]⟩ : ByteArray) ++ a ++ (⟨#[41, 43, 40]⟩ : ByteArray) ++ b ++ (⟨#[41]⟩ : ByteArray)) (hs2 : s2 = (⟨#[40]⟩ : ByteArray) ++ a ++ (⟨#[41, 59, 40]⟩ : ByteArray) ++ b ++ (⟨#[41]⟩ : ByteArray)) (hs3 : s3 = (⟨#[40]⟩ : ByteArray) ++ a ++ (⟨#[41, 42]⟩ : ByteArray)) (hs4 : s4 = (⟨#[33, 40]⟩ : ByteArray) ++ a ++ (⟨#[41]⟩ : ByteArray))
    (P1 : Hid (Calls Tryz.prog 22 #[] w fun e w' => ∃ b, e = .returned (.pointer (some ⟨b, 0, none⟩)) ∧ w.grownBy w' none)) (KA : Hid (KOk a t w)) (KB : Hid (KOk b u w)) (K1 : Hid (KEr s1 lim2 w)) (K2 : Hid (KEr s2 lim2 w)) (K3 : Hid (KEr s3 lim2 w)) (K4 : Hid (KEr s4 lim2 w)) (HRW : Hid (IRow w (.slice ra m rc) m)) :
    Calls Tryz.prog 5 #[.string a, .string b, .slice ra m rc] w fun e w' => e = .returned (.bool true) ∧ w.grownBy w' none := by
  unfold KOk at KA KB
  unfold KEr at K1 K2 K3 K4
  go_enter Tryz.func5, Tryz.ntmps5
  go_wp2_with fail
  refine P1.out.mono ?_
  rintro x w1 ⟨b0, rfl, g1⟩
  go_wp2_with fail
  refine (KA.out w1 g1).mono ?_
  rintro x w2 ⟨ca, rfl, qa, g2⟩
  have G2 := hide (grown_trans g1 g2)
  have QA := hide qa
  clear g1 g2 qa P1 KA
  go_wp2_with fail
  refine (KB.out w2 G2.out).mono ?_
  rintro x w3 ⟨cb, rfl, qb, g3⟩
  have G3 := hide (grown_trans G2.out g3)
  have S3 := hide g3
  have QB := hide qb
  clear g3 qb KB G2
  go_wp2_with fail
  rw [← hs1]
  refine (K1.out w3 G3.out).mono ?_
  rintro x w4 ⟨e1, p1, rfl, q1, g4⟩
  have G4 := hide (grown_trans G3.out g4)
  have S4 := hide g4
  have Q1 := hide q1
  clear g4 q1 K1 G3 hs1
  go_wp2_with fail
  rw [← hs2]
  refine (K2.out w4 G4.out).mono ?_
  rintro x w5 ⟨e2, p2, rfl, q2, g5⟩
  have G5 := hide (grown_trans G4.out g5)
  have S5 := hide g5
  have Q2 := hide q2
  clear g5 q2 K2 G4 hs2
  go_wp2_with fail
  rw [← hs3]
  refine (K3.out w5 G5.out).mono ?_
  rintro x w6 ⟨e3, p3, rfl, q3, g6⟩
  have G6 := hide (grown_trans G5.out g6)
  have S6 := hide g6
  have Q3 := hide q3
  clear g6 q3 K3 G5 hs3
  go_wp2_with fail
  rw [← hs4]
  refine (K4.out w6 G6.out).mono ?_
  rintro x w7 ⟨e4, p4, rfl, q4, g7⟩
  have G7 := hide (grown_trans G6.out g7)
  have S7 := hide g7
  have Q4 := hide q4
  clear g7 q4 K4 G6 hs4
  have L1 := hide (lim_yes Q1.out w7)
  have L2 := hide (lim_yes Q2.out w7)
  have L3 := hide (lim_yes Q3.out w7)
  have L4 := hide (lim_yes Q4.out w7)
  go_wp2_with fail
  refine L1.out.mono ?_
  rintro x v1 ⟨rfl, hv1⟩
  rw [hv1]
  clear hv1 L1
  go_wp2_with fail
  refine L2.out.mono ?_
  rintro x v2 ⟨rfl, hv2⟩
  rw [hv2]
  clear hv2 L2
  go_wp2_with fail
  refine L3.out.mono ?_
  rintro x v3 ⟨rfl, hv3⟩
  rw [hv3]
  clear hv3 L3
  go_wp2_with fail
  refine L4.out.mono ?_
  rintro x v4 ⟨rfl, hv4⟩
  rw [hv4]
  clear hv4 L4
  have HP := hide (packet_rt _ m w7 (HRW.out.grown G7.out))
  clear HRW
  go_wp2_with fail
  refine HP.out.mono ?_
  rintro e w8 ⟨k, rfl, hk, hg8⟩
  have HK := hide hk
  obtain ⟨w9, hw9⟩ : ∃ w9, w9 = w8.alloc (.cells (pkA k) 46) := ⟨_, rfl⟩
  have hB : pkBlk w9 w8.heap.size k := by rw [hw9]; exact pkBlk.alloc w8 k
  have hg9 : w7.grownBy w9 none := grown_trans hg8 (by rw [hw9]; exact World.grownBy_alloc _ _ _)
  have HB := hide hB
  have G9 := hide (grown_trans G7.out hg9)
  have T7 := hide hg9
  have T6 := hide (grown_trans S7.out hg9)
  have T5 := hide (grown_trans S6.out T6.out)
  have T4 := hide (grown_trans S5.out T5.out)
  have T3 := hide (grown_trans S4.out T4.out)
  have T2 := hide (grown_trans S3.out T3.out)
  unfold pkA at hw9
  clear hk hg8 hB hg9 HP G7 S3 S4 S5 S6 S7
  go_upto_region 15 with fail
  rw [← hw9]
  clear hw9
  have GB := hide (grown_refl w9 none)
  obtain ⟨p0, p1, p2, p3, p4, p5⟩ := results2 (HB.out.grown GB.out (by simp))
  have hz : w8.heap.size < w9.heap.size := World.block_lt_of_cell? w9 _ p0
  have HC := hide (ev_row ca (t) k w2 w9 QA.out (grown_trans T2.out GB.out) HK.out)
  go_wp2_with fail
  refine HC.out.mono ?_
  rintro x w10 ⟨ax, cx, nx, dx, Ax, rfl, hp, hi, hs, g10⟩
  have GBn := hide (grown_trans GB.out g10)
  clear GB HC
  have GB := GBn
  clear GBn
  have Px := hide hp
  have Ix := hide hi
  have Sx := hide hs
  clear hp hi hs
  clear g10
  clear p0 p1 p2 p3 p4 p5 hz
  obtain ⟨p0, p1, p2, p3, p4, p5⟩ := results2 (HB.out.grown GB.out (by simp))
  have hz : w8.heap.size < w10.heap.size := World.block_lt_of_cell? w10 _ p0
  have HC := hide (ev_row cb (u) k w3 w10 QB.out (grown_trans T3.out GB.out) HK.out)
  go_wp2_with fail
  refine HC.out.mono ?_
  rintro x w11 ⟨ay, cy, ny, dy, Ay, rfl, hp, hi, hs, g11⟩
  have GBn := hide (grown_trans GB.out g11)
  clear GB HC
  have GB := GBn
  clear GBn
  have Py := hide hp
  have g_xy := hide g11
  have Iy := hide hi
  have Sy := hide hs
  clear hp hi hs
  clear g11
  clear p0 p1 p2 p3 p4 p5 hz
  have PX := hide (Px.out.grown g_xy.out)
  have PY := Py
  clear Px g_xy Py
  have GF := hide (grown_trans G9.out GB.out)
  go_wp2
  go_ret
  exact ⟨rfl, GF.out⟩
end Go.Proofs.YtlhkfafdioakeaaGreatDoor
