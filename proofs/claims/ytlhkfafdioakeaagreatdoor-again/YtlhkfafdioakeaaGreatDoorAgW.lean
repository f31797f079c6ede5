/- Proved here: the law that what is printed is printed as it is, and does the same, over any text and raw numbers. -/
import Derived.Test.YtlhkfafdioakeaaGreatDoorGSz
import Derived.Test.YtlhkfafdioakeaaGreatDoorGKq
import Derived.Test.YtlhkfafdioakeaaGreatDoorGKp
namespace Go.Proofs.YtlhkfafdioakeaaGreatDoor
open Go.RowKit Go.Weft
set_option linter.unusedVariables false
set_option linter.unusedSimpArgs false
theorem wt_sumL : ∀ l : Code, (niceP l).2 = true → ((elems l).map fun t => wt t + 6).sum = wt l
  | .skip, _ => rfl
  | .seq a b, h => by
    have h' : ((niceP a).1 && (niceP b).2) = true := h
    rw [Bool.and_eq_true] at h'
    show wt a + 6 + ((elems b).map fun t => wt t + 6).sum = wt a + wt b + 6
    rw [wt_sumL b h'.2]; omega
theorem sum_mono {α : Type} {f g : α → Nat} : ∀ {l : List α}, (∀ x ∈ l, f x ≤ g x) → (l.map f).sum ≤ (l.map g).sum
  | [], _ => Nat.le_refl _
  | x :: l, h => by
    have h1 := h x (by simp)
    have h2 := sum_mono (f := f) (g := g) (l := l) (fun y hy => h y (by simp [hy]))
    simp only [List.map_cons, List.sum_cons]
    omega
/-- A print is no longer than its tree weighs. -/
theorem pt_few (t : Code) : ((niceP t).1 = true → (pt t).length ≤ wt t) ∧ ((niceP t).2 = true → ∀ x, x ∈ elems t → (pt x).length ≤ wt x) := by
  induction t with
  | exit n => exact ⟨fun h => leafT_len n (of_decide_eq_true h), fun h => by cases h⟩
  | skip => exact ⟨fun h => (by cases h), fun _ x hx => by cases hx⟩
  | loop t ih =>
    refine ⟨fun h => ?_, fun h => by cases h⟩
    have h1 := ih.1 h
    have h2 := brackB_len (decide (kindC t < 2)) (pt t)
    show (brackB (decide (kindC t < 2)) (pt t) ++ [42]).length ≤ wt t + 4
    rw [List.length_append, List.length_singleton]; omega
  | scope t ih =>
    refine ⟨fun h => ?_, fun h => by cases h⟩
    have h' : (isT t && (niceP t).1) = true := h
    rw [Bool.and_eq_true] at h'
    have h1 := ih.1 h'.2
    have h2 := brackB_len (decide (kindC t < 3)) (pt t)
    show (33 :: brackB (decide (kindC t < 3)) (pt t)).length ≤ wt t + 4
    rw [List.length_cons]; omega
  | block k l ih =>
    refine ⟨fun h => ?_, fun h => by cases h⟩
    have h' : (decide (k ≤ 1) && (decide (2 ≤ (elems l).length) && (niceP l).2)) = true := h
    simp only [Bool.and_eq_true, decide_eq_true_eq] at h'
    have hx := ih.2 h'.2.2
    rw [pt_block]
    refine Nat.le_trans (join_len (sepC k) (by unfold sepC; split <;> simp) _) ?_
    rw [List.map_map]
    show _ ≤ wt l
    rw [← wt_sumL l h'.2.2]
    refine sum_mono (fun x hx' => ?_)
    have h1 := hx x hx'
    have h2 := brackB_len (decide (kindC x < (k : Int))) (pt x)
    show (brackB (decide (kindC x < (k : Int))) (pt x)).length + 3 ≤ wt x + 6
    omega
  | seq a b iha ihb =>
    refine ⟨fun h => (by cases h), fun h x hx => ?_⟩
    have h' : ((niceP a).1 && (niceP b).2) = true := h
    rw [Bool.and_eq_true] at h'
    rcases List.mem_cons.1 (show x ∈ a :: elems b from hx) with rfl | hx
    · exact iha.1 h'.1
    · exact ihb.2 h'.2 x hx
  | _ => exact ⟨fun h => (by cases h), fun h => by cases h⟩
set_option maxRecDepth 100000 in
set_option maxHeartbeats 4000000 in
theorem again_err (s : ByteArray) (rv : Value) (w : World) (hn : Names w) (hs : s.size ≤ 9223372036854775807) (en : Int) (pl : Nat) (hr : readS s = .error (en, pl)) :
    Calls Tryz.prog 6 #[.string s, rv] w fun e w' => e = .returned (.bool true) ∧ w.grownBy w' none := by
  have P1 := hide (known_any w hn)
  have P2 := hide (fun (ww : World) (hg : w.grownBy ww none) => print_err s ww (hn.kept hg) hs en pl hr)
  have P3 := hide (fun (ww : World) (hg : w.grownBy ww none) => compile_err s ww (hn.kept hg) hs en pl hr)
  have hne := read_errno hr
  clear hn hr
  unfold strV at P2
  go_enter Tryz.func6, Tryz.ntmps6
  go_wp2_with fail
  refine P1.out.mono ?_
  rintro x w1 ⟨b0, rfl, g1⟩
  go_wp2_with fail
  refine (P2.out w1 g1).mono ?_
  rintro x w2 ⟨rfl, g2⟩
  have G2 := hide (grown_trans g1 g2)
  clear g1 g2 P1 P2
  go_wp2_with fail
  refine (P3.out w2 G2.out).mono ?_
  rintro x w3 ⟨rfl, g3⟩
  have G3 := hide (grown_trans G2.out g3)
  clear g3 G2 P3
  go_wp2
  go_ret
  exact ⟨rfl, G3.out⟩
set_option maxRecDepth 100000 in
set_option maxHeartbeats 8000000 in
theorem again_ok (s : ByteArray) (rv : Value) (m : Nat) (w : World) (hn : Names w) (hs : s.size ≤ 9223372036854775807) (t : Code) (hr : readS s = .ok t) (hrow : RRow w rv m) :
    Calls Tryz.prog 6 #[.string s, rv] w fun e w' => e = .returned (.bool true) ∧ w.grownBy w' none := by
  obtain ⟨⟨ra, rc, rfl⟩, hm⟩ := hrow.slice
  have HRW := hide hrow
  obtain ⟨hni, hwt⟩ := readS_nice hr
  have hpl : (pt t).length ≤ 7300 := Nat.le_trans ((pt_few t).1 hni) hwt
  obtain ⟨sb, hsb⟩ : ∃ sb : ByteArray, sb = ⟨(pt t).toArray⟩ := ⟨_, rfl⟩
  have hsl : sb.data.toList = pt t := by rw [hsb]
  have hsz : sb.size = (pt t).length := by rw [hsb]; rfl
  have hsV : strV (pt t) = .string sb := by rw [hsb]; rfl
  obtain ⟨hag, hpf⟩ := read_again hr sb hsl
  have P1 := hide (known_any w hn)
  have P2 := hide (fun (ww : World) (hg : w.grownBy ww none) => print_ok s ww (hn.kept hg) hs t hr)
  have P3 := hide (fun (ww : World) (hg : w.grownBy ww none) => compile_ok s ww (hn.kept hg) hs t hr)
  rw [hsV] at P2
  obtain ⟨ok1, ok2, hden, hcn⟩ := read_okT hr
  by_cases hlong : 400 < sb.size
  · have hr2 : readS sb = .error (2, 0) := by unfold readS; rw [if_pos hlong]
    have P4 := hide (fun (ww : World) (hg : w.grownBy ww none) => print_err sb ww (hn.kept hg) (by omega) 2 0 hr2)
    have P5 := hide (fun (ww : World) (hg : w.grownBy ww none) => compile_err sb ww (hn.kept hg) (by omega) 2 0 hr2)
    have hlI : (400 : Int) < (sb.size : Int) := by omega
    clear hn hr hsb hsl hsz hsV hag hpf hr2 hni hwt hpl ok1 ok2 hden hcn hrow HRW
    unfold strV at P4
    go_enter Tryz.func6, Tryz.ntmps6
    go_wp2_with fail
    refine P1.out.mono ?_
    rintro x w1 ⟨b0, rfl, g1⟩
    go_wp2_with fail
    refine (P2.out w1 g1).mono ?_
    rintro x w2 ⟨rfl, g2⟩
    have G2 := hide (grown_trans g1 g2)
    clear g1 g2 P1 P2
    go_wp2_with fail
    refine (P3.out w2 G2.out).mono ?_
    rintro x w3 ⟨b, rfl, _, _, g3⟩
    have G3 := hide (grown_trans G2.out g3)
    clear g3 G2 P3
    go_wp2_with fail
    refine (P4.out w3 G3.out).mono ?_
    rintro x w4 ⟨rfl, g4⟩
    have G4 := hide (grown_trans G3.out g4)
    clear g4 G3 P4
    go_wp2_with fail
    refine (P5.out w4 G4.out).mono ?_
    rintro x w5 ⟨rfl, g5⟩
    have G5 := hide (grown_trans G4.out g5)
    clear g5 G4 P5
    go_wp2
    go_ret
    exact ⟨rfl, G5.out⟩
  · have hr2 := hag (by omega)
    have P4 := hide (fun (ww : World) (hg : w.grownBy ww none) => print_ok sb ww (hn.kept hg) (by omega) (flat t) hr2)
    rw [hpf, hsV] at P4
    have P5 := hide (fun (ww : World) (hg : w.grownBy ww none) => compile_ok sb ww (hn.kept hg) (by omega) (flat t) hr2)
    obtain ⟨ok3, _, _, hcn2⟩ := read_okT hr2
    have hlI : ¬ (400 : Int) < (sb.size : Int) := by omega
    have HDEN := hide hden
    have HOK := hide ok1
    have HCN := hide hcn
    have HOK2 := hide ok3
    have HCN2 := hide hcn2
    clear hn hr hsb hsl hsz hsV hag hpf hr2 hni hwt hpl ok1 ok2 ok3 hden hcn hcn2 hrow hlong
    go_enter Tryz.func6, Tryz.ntmps6
    go_wp2_with fail
    refine P1.out.mono ?_
    rintro x w1 ⟨b0, rfl, g1⟩
    go_wp2_with fail
    refine (P2.out w1 g1).mono ?_
    rintro x w2 ⟨rfl, g2⟩
    have G2 := hide (grown_trans g1 g2)
    clear g1 g2 P1 P2
    go_wp2_with fail
    refine (P3.out w2 G2.out).mono ?_
    rintro x w3 ⟨b, rfl, hp3, _, g3⟩
    have G3 := hide (grown_trans G2.out g3)
    have PB := hide hp3
    clear g3 G2 P3 hp3
    go_wp2_with fail
    refine (P4.out w3 G3.out).mono ?_
    rintro x w4 ⟨rfl, g4⟩
    have G4 := hide (grown_trans G3.out g4)
    have PB4 := hide (PB.out.grown g4)
    clear g4 G3 P4 PB
    go_wp2_with fail
    refine (P5.out w4 G4.out).mono ?_
    rintro x w5 ⟨c, rfl, hp5, _, g5⟩
    have G5 := hide (grown_trans G4.out g5)
    have PB5 : Hid (Pol w5 b t) := ⟨PB4.out.grown g5, HOK.out, HCN.out⟩
    have PC5 : Hid (Pol w5 c (flat t)) := ⟨hp5, HOK2.out, HCN2.out⟩
    clear g5 G4 P5 PB4 hp5
    have HE1 : Hid (∀ ww k, w5.grownBy ww none → Rt k → Calls Tryz.prog 25 #[.pointer (some ⟨b, 0, none⟩), .agg #[.int .i64 (k 0), .int .i64 (k 1), .int .i64 (k 2), .int .i64 (k 3), .int .i64 (k 4), .int .i64 (k 5)]] ww fun e w' => ∃ a c n d A, e = .returned (.tuple #[.slice a n c, .bool true]) ∧ PkR w' (.slice a n c) n d ∧ Is A n d ∧ SetOf A (D t k) ∧ ww.grownBy w' none) := fun ww k hg hk =>
      (keval_any b t k ww (PB5.out.grown hg) hk).mono (fun e w' ⟨a, c, n, d, A, h1, h2, h3, h4, h5⟩ => ⟨a, c, n, d, A, h1, h2.row.any, h3, h4, h5⟩)
    have HE2 : Hid (∀ ww k, w5.grownBy ww none → Rt k → Calls Tryz.prog 25 #[.pointer (some ⟨c, 0, none⟩), .agg #[.int .i64 (k 0), .int .i64 (k 1), .int .i64 (k 2), .int .i64 (k 3), .int .i64 (k 4), .int .i64 (k 5)]] ww fun e w' => ∃ a c n d A, e = .returned (.tuple #[.slice a n c, .bool true]) ∧ PkR w' (.slice a n c) n d ∧ Is A n d ∧ SetOf A (D t k) ∧ ww.grownBy w' none) := fun ww k hg hk =>
      (keval_any c (flat t) k ww (PC5.out.grown hg) hk).mono (fun e w' ⟨a, c, n, d, A, h1, h2, h3, h4, h5⟩ => ⟨a, c, n, d, A, h1, h2.row.any, h3, h4.cong (fun y => HDEN.out k y), h5⟩)
    go_wp2_with fail
    go_loopw [18] (fun s18 wr => ∃ i : Nat, i ≤ m ∧ s18 = .int .i64 i ∧ w5.grownBy wr none) (fun s18 _ => m - (intOf s18).toNat)
    case atStart => exact ⟨0, by omega, rfl, grown_refl _ _⟩
    case round =>
      obtain ⟨i, hi, rfl, hg⟩ := hrel
      have HG := hide hg
      clear hg
      by_cases hlt : i < m
      · rcases HRW.out with ⟨_, _, _, h0⟩ | ⟨g, off, cap', hv, _, hcell⟩
        · omega
        cases hv
        obtain ⟨u, l, hu, hI⟩ := hcell i hlt
        obtain ⟨⟨ua, uc, rfl⟩, _⟩ := hI.slice
        have hG := grown_trans G5.out HG.out
        have cu : wr.cell? ⟨g, off + i, none⟩ = some (.slice ua l uc) := hG.cell hu (by simp)
        have HP := hide (packet_rt _ l wr (hI.grown hG))
        have hltI : (i : Int) < m := by omega
        clear hcell hu hI hG
        go_wp2_with fail
        refine HP.out.mono ?_
        rintro e w6 ⟨k, rfl, hk, hg6⟩
        have HK := hide hk
        obtain ⟨W, hW⟩ : ∃ W, W = w6.alloc (.cells (pkA k) 46) := ⟨_, rfl⟩
        have hB : pkBlk W w6.heap.size k := by rw [hW]; exact pkBlk.alloc w6 k
        have hgW : w6.grownBy W none := by rw [hW]; exact World.grownBy_alloc _ _ _
        have G6 := hide (grown_trans (grown_trans HG.out hg6) hgW)
        have HB := hide hB
        unfold pkA at hW
        clear hk hg6 hB hgW HP cu HG
        go_upto_region 18 with fail
        rw [← hW]
        obtain ⟨p0, p1, p2, p3, p4, p5⟩ := results2 HB.out
        have hz : w6.heap.size < W.heap.size := World.block_lt_of_cell? W _ p0
        have E1 := hide (HE1.out W k G6.out HK.out)
        clear hW
        go_wp2_with fail
        refine E1.out.mono ?_
        rintro e w7 ⟨a7, c7, n7, d7, A7, rfl, hp7, hi7, hs7, hg7⟩
        have hB7 := HB.out.grown hg7 (by simp)
        clear p0 p1 p2 p3 p4 p5
        obtain ⟨p0, p1, p2, p3, p4, p5⟩ := results2 hB7
        have hz7 : w6.heap.size < w7.heap.size := World.block_lt_of_cell? w7 _ p0
        have E2 := hide (HE2.out w7 k (grown_trans G6.out hg7) HK.out)
        have G7 := hide (grown_trans G6.out hg7)
        have P7 := hide hp7
        have I7 := hide hi7
        have S7 := hide hs7
        clear hp7 hi7 hs7 hg7 hB7 E1 G6 HB hz
        go_wp2_with fail
        refine E2.out.mono ?_
        rintro e w8 ⟨a8, c8, n8, d8, A8, rfl, hp8, hi8, hs8, hg8⟩
        obtain rfl := hs8.one S7.out
        have EQ : Hid (Calls Tryz.prog 26 #[.slice a7 n7 c7, .slice a8 n8 c8] w8 fun e w' => e = .returned (.bool true) ∧ w8.grownBy w' none) :=
          (equal_any _ _ n7 n8 d7 d8 _ _ w8 (P7.out.grown hg8) hp8 I7.out hi8 hs8.nm hs8.nm).mono (fun e w' ⟨⟨bq, h1, h2⟩, h3⟩ => ⟨by rw [h1, h2.2 rfl], h3⟩)
        have G8 := hide (grown_trans G7.out hg8)
        clear hp8 hi8 hs8 hg8 P7 I7 S7 G7 E2 p0 p1 p2 p3 p4 p5 hz7
        go_wp2_with fail
        refine EQ.out.mono ?_
        rintro e w9 ⟨rfl, hg9⟩
        have G9 := hide (grown_trans G8.out hg9)
        clear hg9 G8 EQ
        go_wp2_with fail
        exact ⟨⟨i + 1, by omega, by go_num, G9.out⟩, by simp [intOf]; omega⟩
      · obtain rfl : i = m := by omega
        go_wp2
        go_ret
        exact ⟨rfl, grown_trans G5.out HG.out⟩
theorem again_any (s : ByteArray) (rv : Value) (m : Nat) (w : World) (hn : Names w) (hs : s.size ≤ 9223372036854775807) (hrow : RRow w rv m) :
    Calls Tryz.prog 6 #[.string s, rv] w fun e w' => e = .returned (.bool true) ∧ w.grownBy w' none := by
  cases h : readS s with
  | ok t => exact again_ok s rv m w hn hs t h hrow
  | error e => obtain ⟨en, pl⟩ := e; exact again_err s rv w hn hs en pl h
end Go.Proofs.YtlhkfafdioakeaaGreatDoor
