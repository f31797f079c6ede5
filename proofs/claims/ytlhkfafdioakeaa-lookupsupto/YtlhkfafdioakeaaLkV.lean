/- Proved here: the law of the lookups, over any rules and packets. -/
import Derived.Test.YtlhkfafdioakeaaLkU
namespace Go.Proofs.Ytlhkfafdioakeaa
open Go.RowKit
set_option linter.unusedVariables false
set_option linter.unusedSimpArgs false
set_option maxRecDepth 100000 in
set_option maxHeartbeats 4000000 in
theorem lookups_any (v pv : Value) (n m : Nat) (rs : Nat → Rl) (ps : Nat → Nat → Int) (w : World) (h : RlRow w v n rs) (hp : PkR w pv m ps) (hn : n ≤ 1000000000) (hna : ∀ j, j < n → (rs j).na ≤ 1000000000) (hm : m ≤ 1000000000) (hnm : ∀ j, j < m → Nm (ps j)) :
    Calls Try.prog 3 #[v, pv] w fun e w' => e = .returned (.bool true) ∧ w.grownBy w' none := by
  obtain ⟨a, ca, rfl⟩ := h.slice
  obtain ⟨pa, pc, rfl⟩ := hp.slice
  have HP := hide h
  have HPK := hide hp
  have HNA := hide hna
  have HNM := hide hnm
  clear h hp hna hnm
  obtain ⟨w1, hw1⟩ : ∃ w1, w1 = w.alloc (.cells #[.int .i64 (-1), .int .i64 2, .int .i64 (-1), .int .i64 (-1), .int .i64 (-1), .int .i64 (-1)] 27) := ⟨_, rfl⟩
  obtain ⟨w2, hw2⟩ : ∃ w2, w2 = w1.alloc (.cells #[.int .i64 0, .int .i64 (-1), .int .i64 1, .int .i64 (-1), .int .i64 (-1), .int .i64 (-1), .int .i64 (-1), .slice (some ⟨w.heap.size, 0, none⟩) 1 1] 29) := ⟨_, rfl⟩
  have HF : Hid (Calls Try.prog 6 #[.slice (some ⟨w.heap.size + 1, 0, none⟩) 1 1, .agg #[.int .i64 0, .int .i64 1, .int .i64 0, .int .i64 0, .int .i64 0, .int .i64 0]] w2 fun e w' => ∃ a c, e = .returned (.tuple #[.slice a 1 c, .bool true]) ∧ PkR w' (.slice a 1 c) 1 (fun _ => k02) ∧ w.grownBy w' none) := first_any w w2 (by rw [hw2, hw1])
  go_enter Try.func3, Try.ntmps3
  go_wp2_with fail
  rw [← hw1, ← hw2]
  refine HF.out.mono ?_
  rintro e w3 ⟨la, lc, rfl, hpk3, hg3⟩
  clear hw1 hw2 HF
  have HS : Hid (Calls Try.prog 7 #[.slice la 1 lc, .slice (some ⟨w3.heap.size, 0, none⟩) 1 1] (w3.alloc (.cells #[.int .i64 0, .int .i64 2, .int .i64 0, .int .i64 0, .int .i64 0, .int .i64 0] 27)) fun e w' => e = .returned (.bool true) ∧ w.grownBy w' none) := by
    refine (samePR _ _ 1 (fun _ => k02) (fun _ => k02) (w3.alloc (.cells (pkA k02) 27)) (hpk3.grown (World.grownBy_alloc _ _ _)) (one_row w3 k02) (fun _ _ _ _ => rfl)).mono ?_
    rintro e w' ⟨rfl, hg⟩
    exact ⟨rfl, grown_trans hg3 (grown_trans (World.grownBy_alloc _ _ _) hg)⟩
  clear hpk3 hg3
  go_wp2_with fail
  refine HS.out.mono ?_
  rintro e w4 ⟨rfl, hg4⟩
  have HG4 := hide hg4
  clear hg4 HS
  obtain ⟨w5, hw5⟩ : ∃ w5, w5 = w4.alloc (.cells bk0 38) := ⟨_, rfl⟩
  have HB5 : Hid (Bk w4.heap.size w5.heap.size w5 w4.heap.size 0 ∧ w.grownBy w5 none) := by
    have h1 := Bk.new w4
    rw [← hw5] at h1
    refine ⟨?_, grown_trans HG4.out (by rw [hw5]; exact World.grownBy_alloc _ _ _)⟩
    rw [show w5.heap.size = w4.heap.size + 1 by rw [hw5]; simp]
    exact h1
  have hbw := HG4.out.size
  have hw5 : w5 = w4.alloc (.cells #[.int .i64 0, .int .i64 0, .bool false, .slice none 0 0, .slice none 0 0, .slice none 0 0, .slice none 0 0, .slice none 0 0, .slice none 0 0, .slice none 0 0, .slice none 0 0, .slice none 0 0, .slice none 0 0, .slice none 0 0, .slice none 0 0] 38) := hw5
  go_wp2_with fail
  rw [← hw5]
  clear hw5
  generalize w4.heap.size = bb at HB5 hbw ⊢
  go_loopw [9] (fun s9 wr => ∃ i : Nat, i ≤ m ∧ s9 = .int .i64 i ∧ Bk bb wr.heap.size wr bb (2 * i) ∧ w.grownBy wr none) (fun s9 _ => m - (intOf s9).toNat)
  case atStart => exact ⟨0, by omega, rfl, HB5.out.1, HB5.out.2⟩
  case round =>
    obtain ⟨i, hi, rfl, hbk, hg⟩ := hrel
    clear HB5 HG4
    have HBK := hide hbk
    have HG := hide hg
    clear hbk hg
    by_cases hlt : i < m
    · rcases HPK.out with ⟨_, _, _, h0, _⟩ | ⟨gp, offp, cap', hv, _, hcell⟩
      · omega
      cases hv
      obtain ⟨k, hk⟩ : ∃ k, k = ps i := ⟨_, rfl⟩
      have HC : Hid (∀ wx, w.grownBy wx none → ∀ t, t < 6 → wx.cell? ⟨gp, offp + i * 6 + t, none⟩ = some (.int .i64 (k t))) := fun wx hg t ht => by rw [hk]; exact hg.cell (hcell i hlt t ht) (by simp)
      have HKN : Hid (Nm k) := by rw [hk]; exact HNM.out i hlt
      clear hcell hk
      have hltI : (i : Int) < m := by omega
      -- the rules are lent
      have HLT := hide (lent_any (.slice a n ca) n rs wr (HP.out.grown HG.out) hn HNA.out)
      go_wp2_with fail
      refine HLT.out.mono ?_
      rintro e w1 ⟨A, rfl, hL1, hg1⟩
      have HAB : Hid (∀ j, j < n → wr.heap.size < A j ∧ A j < w1.heap.size) := fun j hj => ⟨hL1.above j hj, (hL1.own j hj).lt⟩
      have HL1 := hide hL1
      have R1 := hide hg1
      have hg1' := grown_trans HG.out hg1
      have G1 := hide hg1'
      have hgw1 : wr.heap.size < w1.heap.size := hL1.rb.lt
      clear HLT hL1 hg1 hg1'
      have HW : Hid (∀ ww, w1.grownBy ww none → Calls Try.prog 6 #[.slice (some ⟨wr.heap.size, 0, none⟩) n (n + 8), .agg #[.int .i64 (k 0), .int .i64 (k 1), .int .i64 (k 2), .int .i64 (k 3), .int .i64 (k 4), .int .i64 (k 5)]] ww fun e w' => ∃ (b : Bool) (a : Option Addr) (mm c : Nat), e = .returned (.tuple #[.slice a mm c, .bool b]) ∧ mm ≤ 1000000000 ∧ (∃ L d, LkS rs n k L b ∧ Is L mm d ∧ OwnV w1.heap.size w' (.slice a mm c) mm d) ∧ w1.grownBy w' none) := fun ww hgw =>
        lkW2 _ n rs (lentRs rs A (lentE rs)) k w1 ww hgw (HL1.out.row (by omega) (n + 8)) HKN.out (fun j hj => HNA.out j hj) (fun j hj => ⟨rfl, rfl, fun t ht => by show _ = lentE rs j t; unfold lentE; rw [if_pos (show t < (rs j).na from ht)]⟩)
      have c0 : w1.cell? ⟨gp, offp + i * 6, none⟩ = some (.int .i64 (k 0)) := HC.out _ G1.out 0 (by omega)
      have c1 := HC.out _ G1.out 1 (by omega)
      have c2 := HC.out _ G1.out 2 (by omega)
      have c3 := HC.out _ G1.out 3 (by omega)
      have c4 := HC.out _ G1.out 4 (by omega)
      have c5 := HC.out _ G1.out 5 (by omega)
      have hn8 : (n : Int) ≤ n + 8 := by omega
      go_upto_region 10 with fail
      go_region_with (go_at_call 6; refine (HW.out _ (by first | exact grown_refl _ _ | exact grown_drewN (grown_refl _ _) _ | exact (grown_refl _ _))).mono ?_; rintro e w2 ⟨b2, a2, m2, q2, rfl, hm2, ho2, hg2⟩; have HO2 := hide ho2; have R2 := hide hg2; clear ho2 hg2)
      clear c0 c1 c2 c3 c4 c5 HW
      have hg2 := grown_trans G1.out R2.out
      have c0 : w2.cell? ⟨gp, offp + i * 6, none⟩ = some (.int .i64 (k 0)) := HC.out _ hg2 0 (by omega)
      have c1 := HC.out _ hg2 1 (by omega)
      have c2 := HC.out _ hg2 2 (by omega)
      have c3 := HC.out _ hg2 3 (by omega)
      have c4 := HC.out _ hg2 4 (by omega)
      have c5 := HC.out _ hg2 5 (by omega)
      have HR := hide (lkR2 _ n rs k w1.heap.size w2 (HP.out.grown hg2) R2.out.size HNA.out b2 (.slice a2 m2 q2) m2 HO2.out)
      clear hg2
      go_wp2_with fail
      refine HR.out.mono ?_
      rintro e w3 ⟨a3, q3, rfl, ht3, hg3⟩
      clear c0 c1 c2 c3 c4 c5 HR HO2
      have T3 := hide ht3
      have R3 := hide (grown_trans R2.out hg3)
      clear ht3 hg3 R2
      have HSP := hide T3.out.same
      go_wp2_with fail
      refine HSP.out.mono ?_
      rintro e w4 ⟨rfl, hg4⟩
      have T4 := hide (T3.out.grown hg4)
      have R4 := hide (grown_trans R3.out hg4)
      clear hg4 T3 R3 HSP
      -- the rules come back
      have HBA := hide (back_any (.slice a n ca) n rs wr w4 wr.heap.size A (HP.out.grown HG.out) (grown_trans R1.out R4.out) (Nat.le_refl _) (HL1.out.grown R4.out) hn HNA.out)
      go_wp2_with fail
      refine HBA.out.mono ?_
      rintro e w5 ⟨rfl, hl5, hk5⟩
      have L5 := hide hl5
      have T5 := hide (T4.out.kp hk5 (fun b hb => by rintro ⟨j, hj, rfl⟩; have := HAB.out j hj; omega))
      have R5 := hide (Kp.grown (grown_trans R1.out R4.out) hk5 (fun b hb => by rintro ⟨j, hj, rfl⟩; have := HAB.out j hj; omega))
      have hsz5 : w1.heap.size ≤ w5.heap.size := Nat.le_trans R4.out.size hk5.size
      clear hl5 hk5 T4 R4 HBA HL1
      have HSP := hide T5.out.same
      go_wp2_with fail
      refine HSP.out.mono ?_
      rintro e w6 ⟨rfl, hg6⟩
      have T6 := hide (T5.out.grown hg6)
      have R6 := hide (grown_trans R5.out hg6)
      have L6 := hide (L5.out.grown hg6)
      have hsz6 := hg6.size
      clear hg6 T5 R5 L5 HSP
      -- the books take the list
      have HT : Hid (Calls Try.prog 11 #[.pointer (some ⟨bb, 0, none⟩), .slice a2 m2 q2] w6 fun e w' => e = .returned (.tuple #[]) ∧ Bk bb w'.heap.size w' bb (2 * i + 1) ∧ Lent w' wr.heap.size n (n + 8) n rs A (fun _ _ => mkP 55) ∧ w.grownBy w' none ∧ w1.heap.size ≤ w'.heap.size) := by
        obtain ⟨d, d', h1, _, _⟩ := T6.out
        refine (packets_any bb wr.heap.size w6 bb (2 * i) (.slice a2 m2 q2) m2 d (HBK.out.grown R6.out) (by omega) (h1.mono (by omega)) (by omega)).mono ?_
        rintro e w' ⟨rfl, hb, hk⟩
        refine ⟨rfl, hb, L6.out.kp hk ?_ ?_, Kp.grown (grown_trans HG.out R6.out) hk ?_, by have := hk.size; omega⟩
        · rintro (c | c)
          · omega
          · have := (h1.lt _ c).1; omega
        · intro j hj
          have := HAB.out j hj
          rintro (c | c)
          · omega
          · have := (h1.lt _ c).1; omega
        · intro b hb
          have hgs := HG.out.size
          rintro (c | c)
          · omega
          · have := (h1.lt _ c).1; omega
      go_wp2_with fail
      refine HT.out.mono ?_
      rintro e w7 ⟨rfl, hb7, hl7, hg7, hs7⟩
      have B7 := hide hb7
      have L7 := hide hl7
      have G7 := hide hg7
      clear hb7 hl7 hg7 HT T6 R6 L6 HBK
      -- the rules as they are now, copied
      have R7 := hide (L7.out.row (by omega) (n + 8))
      have HCO : Hid (Calls Try.prog 12 #[.slice (some ⟨wr.heap.size, 0, none⟩) n (n + 8)] w7 fun e w' => ∃ (a8 : Option Addr) (c8 : Nat), e = .returned (.slice a8 n c8) ∧ (∃ xs, RlRow w' (.slice a8 n c8) n (copyRs (lentRs rs A (fun _ _ => mkP 55)) xs)) ∧ w7.grownBy w' none) := by
        refine (copied_any _ n _ w7 R7.out hn (fun j hj => HNA.out j hj)).mono ?_
        rintro e w' ⟨v', xs, rfl, h1, h2⟩
        obtain ⟨a8, c8, rfl⟩ := h1.slice
        exact ⟨a8, c8, rfl, ⟨xs, h1⟩, h2⟩
      go_wp2_with fail
      refine HCO.out.mono ?_
      rintro e w8 ⟨a8, c8, rfl, hr8, hg8⟩
      obtain ⟨xs, hr8⟩ := hr8
      have C8 := hide hr8
      have G8 := hide (grown_trans G7.out hg8)
      have R8 := hide (R7.out.grown hg8)
      have B8 := hide (B7.out.grown hg8)
      have hsz8 := hg8.size
      clear hr8 hg8 HCO R7 B7 L7 G7
      have c0 : w8.cell? ⟨gp, offp + i * 6, none⟩ = some (.int .i64 (k 0)) := HC.out _ G8.out 0 (by omega)
      have c1 := HC.out _ G8.out 1 (by omega)
      have c2 := HC.out _ G8.out 2 (by omega)
      have c3 := HC.out _ G8.out 3 (by omega)
      have c4 := HC.out _ G8.out 4 (by omega)
      have c5 := HC.out _ G8.out 5 (by omega)
      obtain ⟨cs, hcs⟩ : ∃ cs, cs = copyRs (lentRs rs A (fun _ _ => mkP 55)) xs := ⟨_, rfl⟩
      have HW : Hid (∀ ww, w8.grownBy ww none → Calls Try.prog 6 #[.slice (some ⟨wr.heap.size, 0, none⟩) n (n + 8), .agg #[.int .i64 (k 0), .int .i64 (k 1), .int .i64 (k 2), .int .i64 (k 3), .int .i64 (k 4), .int .i64 (k 5)]] ww fun e w' => ∃ (b : Bool) (a : Option Addr) (mm c : Nat), e = .returned (.tuple #[.slice a mm c, .bool b]) ∧ mm ≤ 1000000000 ∧ (∃ L d, LkS cs n k L b ∧ Is L mm d ∧ OwnV w8.heap.size w' (.slice a mm c) mm d) ∧ w8.grownBy w' none) := fun ww hgw =>
        lkW2 _ n cs (lentRs rs A (fun _ _ => mkP 55)) k w8 ww hgw R8.out HKN.out (fun j hj => HNA.out j hj) (fun j hj => by rw [hcs]; exact ⟨rfl, rfl, fun t ht => rfl⟩)
      have C8' : Hid (RlRow w8 (.slice a8 n c8) n cs ∧ ∀ j, j < n → (cs j).na ≤ 1000000000) := ⟨by rw [hcs]; exact C8.out, fun j hj => by rw [hcs]; exact HNA.out j hj⟩
      clear C8 hcs
      go_upto_region 17 with fail
      go_region_with (go_at_call 6; refine (HW.out _ (by first | exact grown_refl _ _ | exact grown_drewN (grown_refl _ _) _ | exact (grown_refl _ _))).mono ?_; rintro e w9 ⟨b9, a9, m9, q9, rfl, hm9, ho9, hg9⟩; have HO9 := hide ho9; have R9 := hide hg9; clear ho9 hg9)
      clear c0 c1 c2 c3 c4 c5 HW R8
      have hg9 := grown_trans G8.out R9.out
      have c0 : w9.cell? ⟨gp, offp + i * 6, none⟩ = some (.int .i64 (k 0)) := HC.out _ hg9 0 (by omega)
      have c1 := HC.out _ hg9 1 (by omega)
      have c2 := HC.out _ hg9 2 (by omega)
      have c3 := HC.out _ hg9 3 (by omega)
      have c4 := HC.out _ hg9 4 (by omega)
      have c5 := HC.out _ hg9 5 (by omega)
      have HR := hide (lkR2 (.slice a8 n c8) n cs k w8.heap.size w9 (C8'.out.1.grown R9.out) R9.out.size C8'.out.2 b9 (.slice a9 m9 q9) m9 HO9.out)
      clear hg9
      go_wp2_with fail
      refine HR.out.mono ?_
      rintro e w10 ⟨a10, q10, rfl, ht10, hg10⟩
      clear c0 c1 c2 c3 c4 c5 HR HO9
      have T10 := hide ht10
      have R10 := hide (grown_trans R9.out hg10)
      clear ht10 hg10 R9 C8'
      have HSP := hide T10.out.same
      go_wp2_with fail
      refine HSP.out.mono ?_
      rintro e w11 ⟨rfl, hg11⟩
      have T11 := hide (T10.out.grown hg11)
      have R11 := hide (grown_trans R10.out hg11)
      clear hg11 T10 R10 HSP
      have HT : Hid (Calls Try.prog 11 #[.pointer (some ⟨bb, 0, none⟩), .slice a9 m9 q9] w11 fun e w' => e = .returned (.tuple #[]) ∧ Bk bb w'.heap.size w' bb (2 * i + 1 + 1) ∧ w.grownBy w' none) := by
        obtain ⟨d, d', h1, _, _⟩ := T11.out
        refine (packets_any bb w7.heap.size w11 bb (2 * i + 1) (.slice a9 m9 q9) m9 d (B8.out.grown R11.out) (by omega) (h1.mono (by omega)) (by omega)).mono ?_
        rintro e w' ⟨rfl, hb, hk⟩
        refine ⟨rfl, hb, Kp.grown (grown_trans G8.out R11.out) hk ?_⟩
        intro b hb
        have hgs := G8.out.size
        rintro (c | c)
        · omega
        · have := (h1.lt _ c).1; omega
      go_wp2_with fail
      refine HT.out.mono ?_
      rintro e w12 ⟨rfl, hb12, hg12⟩
      have B12 := hide hb12
      have G12 := hide hg12
      clear hb12 hg12 HT T11 R11 B8
      have HST := hide (still_any bb w12.heap.size w12 bb (2 * i + 1 + 1) B12.out (by omega))
      go_wp2_with fail
      refine HST.out.mono ?_
      rintro e w13 ⟨rfl, hg13⟩
      have B13 := hide ((B12.out.grown hg13).wide hg13.size (Nat.le_refl _))
      have G13 := hide (grown_trans G12.out hg13)
      clear hg13 HST B12 G12
      have hb2 : (b2 != b2) = false := by cases b2 <;> rfl
      have hb9 : (b9 != b9) = false := by cases b9 <;> rfl
      go_wp2_with fail
      exact ⟨⟨i + 1, by omega, by go_num, B13.out, G13.out⟩, by simp [intOf]; omega⟩
    · obtain rfl : i = m := by omega
      go_wp2
      go_ret
      exact ⟨rfl, HG.out⟩
end Go.Proofs.Ytlhkfafdioakeaa
