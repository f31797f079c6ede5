/- GEn: several parts, each with what it proves in plain words at its head. -/
import Derived.Test.YtlhkfafdioakeaaGreatDoorRefB
import Derived.Test.YtlhkfafdioakeaaGreatDoorGRefM
import Derived.Test.YtlhkfafdioakeaaGreatDoorGRefA
import Derived.Test.YtlhkfafdioakeaaGreatDoorGLc
import Derived.Test.YtlhkfafdioakeaaGreatDoorGEc
import Derived.Test.YtlhkfafdioakeaaGreatDoorGRa
/- Proved here: the document's Read, of any text: the tree, or the error and its place, that a plain function says. -/
namespace Go.Proofs.YtlhkfafdioakeaaGreatDoor
open Go.RowKit Go.Weft
theorem rread_any (s : ByteArray) (w : World) (hs : s.size ≤ 9223372036854775807) : Calls Tryz.prog 15 #[.string s] w (OutRR (readS s) w) :=
  rread_given s w hs (fun h => rtokens_any s w h)
end Go.Proofs.YtlhkfafdioakeaaGreatDoor
/- Proved here: the law of the evals, over any text and packets. -/
namespace Go.Proofs.YtlhkfafdioakeaaGreatDoor
open Go.RowKit Go.Weft
set_option linter.unusedVariables false
set_option linter.unusedSimpArgs false
theorem same_rows {C : Nat} {w : World} {v u : Value} {m : Nat} {d e : Nat → Nat → Int} {A : List (Nat → Int)} (h1 : OwnV C w v m d) (h2 : PkR w u m e) (h3 : Is A m d) (h4 : Is A m e) : Calls Tryz.prog 19 #[v, u] w fun e w' => e = .returned (.bool true) ∧ w.grownBy w' none :=
  samePR _ _ m d e w h1.row.any h2 (same_lists h3 h4).2
theorem same_none {C : Nat} {w : World} {v : Value} {d : Nat → Nat → Int} (h1 : OwnV C w v 0 d) : Calls Tryz.prog 19 #[v, .slice none 0 0] w fun e w' => e = .returned (.bool true) ∧ w.grownBy w' none :=
  samePR _ _ 0 d d w h1.row.any (PkR.none _ _) (fun j hj => by omega)
theorem same_nil (w : World) : Calls Tryz.prog 19 #[.slice none 0 0, .slice none 0 0] w fun e w' => e = .returned (.bool true) ∧ w.grownBy w' none :=
  samePR _ _ 0 (fun _ _ => 0) (fun _ _ => 0) w (PkR.none _ _) (PkR.none _ _) (fun j hj => by omega)
set_option maxRecDepth 100000 in
set_option maxHeartbeats 8000000 in
theorem evals_err (s : ByteArray) (pv : Value) (m : Nat) (ps : Nat → Nat → Int) (w : World) (hn : Names w) (hs : s.size ≤ 9223372036854775807) (en : Int) (pl : Nat) (hr : readS s = .error (en, pl)) (hp : PkR w pv m ps) (hm : m ≤ 1000000000) (hnm : ∀ j, j < m → Nm (ps j)) :
    Calls Tryz.prog 4 #[.string s, pv] w fun e w' => e = .returned (.bool true) ∧ w.grownBy w' none := by
  obtain ⟨pa, pc, rfl⟩ := hp.slice
  have HPK := hide hp
  have HNM := hide hnm
  have P1 := hide (example_any w hn)
  have P2 := hide (fun (ww : World) (hg : w.grownBy ww none) => compile_err s ww (hn.kept hg) hs en pl hr)
  have P3 := hide (fun (ww : World) => rread_any s ww hs)
  rw [hr] at P3
  clear hn hr hp hnm
  go_enter Tryz.func4, Tryz.ntmps4
  go_wp2_with fail
  refine P1.out.mono ?_
  rintro x w1 ⟨b0, rfl, g1⟩
  go_wp2_with fail
  refine (P2.out w1 g1).mono ?_
  rintro x w2 ⟨rfl, g2⟩
  have G2 := hide (grown_trans g1 g2)
  clear g1 g2 P1 P2
  go_wp2_with fail
  refine (P3.out w2).mono ?_
  rintro x w3 ⟨g3, rfl⟩
  have G3 := hide (grown_trans G2.out g3)
  clear g3 G2 P3
  obtain ⟨w4, hw4⟩ : ∃ w4, w4 = w3.alloc (.cells bk0 42) := ⟨_, rfl⟩
  have HB4 : Hid (Bk w3.heap.size w4.heap.size w4 w3.heap.size 0 ∧ w3.grownBy w4 none) := by
    have h1 := Bk.new w3
    rw [← hw4] at h1
    refine ⟨?_, by rw [hw4]; exact World.grownBy_alloc _ _ _⟩
    rw [show w4.heap.size = w3.heap.size + 1 by rw [hw4]; simp]
    exact h1
  have hw4 : w4 = w3.alloc (.cells #[.int .i64 0, .int .i64 0, .bool false, .slice none 0 0, .slice none 0 0, .slice none 0 0, .slice none 0 0, .slice none 0 0, .slice none 0 0, .slice none 0 0, .slice none 0 0, .slice none 0 0, .slice none 0 0, .slice none 0 0, .slice none 0 0] 42) := hw4
  go_wp2_with fail
  rw [← hw4]
  clear hw4
  obtain ⟨bb, hbb⟩ : ∃ bb, bb = w3.heap.size := ⟨_, rfl⟩
  rw [← hbb] at HB4 ⊢
  have HBB := hide hbb
  clear hbb
  go_loopw [13] (fun s13 wr => ∃ i : Nat, i ≤ m ∧ s13 = .int .i64 i ∧ Bk bb wr.heap.size wr bb i ∧ w3.grownBy wr none) (fun s13 _ => m - (intOf s13).toNat)
  case atStart => exact ⟨0, by omega, rfl, HB4.out.1, HB4.out.2⟩
  case round =>
    obtain ⟨i, hi, rfl, hbk, hg⟩ := hrel
    clear HB4
    have HBK := hide hbk
    have HG := hide hg
    clear hbk hg
    by_cases hlt : i < m
    · rcases HPK.out with ⟨_, _, _, h0, _⟩ | ⟨gp, offp, cap', hv, _, hcell⟩
      · omega
      cases hv
      obtain ⟨k, hk⟩ : ∃ k, k = ps i := ⟨_, rfl⟩
      have HC : Hid (∀ wx, w3.grownBy wx none → ∀ t, t < 6 → wx.cell? ⟨gp, offp + i * 6 + t, none⟩ = some (.int .i64 (k t))) := fun wx hg t ht => by rw [hk]; exact (grown_trans G3.out hg).cell (hcell i hlt t ht) (by simp)
      have HKN : Hid (Nm k) := by rw [hk]; exact HNM.out i hlt
      clear hcell hk
      have hltI : (i : Int) < m := by omega
      have c0 : wr.cell? ⟨gp, offp + i * 6, none⟩ = some (.int .i64 (k 0)) := HC.out _ HG.out 0 (by omega)
      have c1 := HC.out _ HG.out 1 (by omega)
      have c2 := HC.out _ HG.out 2 (by omega)
      have c3 := HC.out _ HG.out 3 (by omega)
      have c4 := HC.out _ HG.out 4 (by omega)
      have c5 := HC.out _ HG.out 5 (by omega)
      have HE : Hid (∀ ww, wr.grownBy ww none → Calls Tryz.prog 16 #[.pointer none, .agg #[.int .i64 (k 0), .int .i64 (k 1), .int .i64 (k 2), .int .i64 (k 3), .int .i64 (k 4), .int .i64 (k 5)]] ww fun e w' => e = .returned (.tuple #[.slice none 0 0, .int .i64 1]) ∧ wr.grownBy w' none) := fun ww hg => (eval_nil k ww).mono (fun e w' ⟨h1, h2⟩ => ⟨h1, grown_trans hg h2⟩)
      go_wp2_with fail
      refine (HE.out _ (grown_refl _ _)).mono ?_
      rintro e w2 ⟨rfl, hg2⟩
      have R2 := hide hg2
      clear hg2
      clear HE c0 c1 c2 c3 c4 c5
      have c0 : w2.cell? ⟨gp, offp + i * 6, none⟩ = some (.int .i64 (k 0)) := HC.out _ (grown_trans HG.out R2.out) 0 (by omega)
      have c1 := HC.out _ (grown_trans HG.out R2.out) 1 (by omega)
      have c2 := HC.out _ (grown_trans HG.out R2.out) 2 (by omega)
      have c3 := HC.out _ (grown_trans HG.out R2.out) 3 (by omega)
      have c4 := HC.out _ (grown_trans HG.out R2.out) 4 (by omega)
      have c5 := HC.out _ (grown_trans HG.out R2.out) 5 (by omega)
      have HR : Hid (Calls Tryz.prog 17 #[.agg #[.int .i64 (k 0), .int .i64 (k 1), .int .i64 (k 2), .int .i64 (k 3), .int .i64 (k 4), .int .i64 (k 5)]] w2 fun e w' => ∃ bq, e = .returned (.bool bq) ∧ wr.grownBy w' none) := (rRight_any k w2).mono (fun e w' ⟨⟨bq, h1, _⟩, h2⟩ => ⟨bq, h1, grown_trans R2.out h2⟩)
      go_wp2_with fail
      refine HR.out.mono ?_
      rintro e w4 ⟨bq, rfl, hg4⟩
      have R4 := hide hg4
      clear HR c0 c1 c2 c3 c4 c5 hg4 R2
      have HSP := hide (same_nil w4)
      go_wp2_with fail
      refine HSP.out.mono ?_
      rintro e w5 ⟨rfl, hg5⟩
      have R5 := hide (grown_trans R4.out hg5)
      have O5 := hide (OwnV.nil wr.heap.size w5 (fun _ _ => 0))
      clear hg5 HSP R4
      have HT : Hid (Calls Tryz.prog 20 #[.pointer (some ⟨bb, 0, none⟩), .slice none 0 0] w5 fun e w' => e = .returned (.tuple #[]) ∧ Bk bb w'.heap.size w' bb (i + 1) ∧ w3.grownBy w' none) := by
        refine (packets_any bb wr.heap.size w5 bb i (.slice none 0 0) 0 (fun _ _ => 0) (HBK.out.grown R5.out) (by omega) O5.out (by omega)).mono ?_
        rintro e w' ⟨rfl, hb, hk⟩
        refine ⟨rfl, hb, Kp.grown (grown_trans HG.out R5.out) hk ?_⟩
        intro b hb
        have hgs := HG.out.size
        have hbq := HBB.out
        rintro (c | c)
        · omega
        · have := (O5.out.lt _ c).1; omega
      go_wp2_with fail
      refine HT.out.mono ?_
      rintro e w6 ⟨rfl, hb6, hg6⟩
      have B6 := hide hb6
      have G6 := hide hg6
      clear hb6 hg6 HT O5 R5 HBK HG
      have HST := hide (still_any bb w6.heap.size w6 bb (i + 1) B6.out (by omega))
      go_wp2_with fail
      refine HST.out.mono ?_
      rintro e w7 ⟨rfl, hg7⟩
      have B7 := hide ((B6.out.grown hg7).wide hg7.size (Nat.le_refl _))
      have G7 := hide (grown_trans G6.out hg7)
      clear hg7 HST B6 G6
      go_wp2_with fail
      exact ⟨⟨i + 1, by omega, by go_num, B7.out, G7.out⟩, by simp [intOf]; omega⟩
    · obtain rfl : i = m := by omega
      go_wp2
      go_ret
      exact ⟨rfl, grown_trans G3.out HG.out⟩
set_option maxRecDepth 100000 in
set_option maxHeartbeats 8000000 in
theorem evals_ok (s : ByteArray) (pv : Value) (m : Nat) (ps : Nat → Nat → Int) (w : World) (hn : Names w) (hs : s.size ≤ 9223372036854775807) (t : Code) (hr : readS s = .ok t) (hp : PkR w pv m ps) (hm : m ≤ 1000000000) (hnm : ∀ j, j < m → Nm (ps j)) :
    Calls Tryz.prog 4 #[.string s, pv] w fun e w' => e = .returned (.bool true) ∧ w.grownBy w' none := by
  obtain ⟨pa, pc, rfl⟩ := hp.slice
  have HPK := hide hp
  have HNM := hide hnm
  have P1 := hide (example_any w hn)
  have P2 := hide (fun (ww : World) (hg : w.grownBy ww none) => compile_ok s ww (hn.kept hg) hs t hr)
  have P3 := hide (fun (ww : World) => rread_any s ww hs)
  rw [hr] at P3
  obtain ⟨ok1, ok2, hden, hcn⟩ := read_okT hr
  clear hn hr hp hnm
  go_enter Tryz.func4, Tryz.ntmps4
  go_wp2_with fail
  refine P1.out.mono ?_
  rintro x w1 ⟨b0, rfl, g1⟩
  go_wp2_with fail
  refine (P2.out w1 g1).mono ?_
  rintro x w2 ⟨b, rfl, hp2, _, g2⟩
  have G2 := hide (grown_trans g1 g2)
  clear g1 g2 P1 P2
  go_wp2_with fail
  refine (P3.out w2).mono ?_
  rintro x w3 ⟨g3, c, rfl, hq3⟩
  have G3 := hide (grown_trans G2.out g3)
  have HEV : Hid (∀ ww k, w3.grownBy ww none → Nm k → Calls Tryz.prog 16 #[.pointer (some ⟨b, 0, none⟩), .agg #[.int .i64 (k 0), .int .i64 (k 1), .int .i64 (k 2), .int .i64 (k 3), .int .i64 (k 4), .int .i64 (k 5)]] ww fun e w' => ∃ a mm q d A en, e = .returned (.tuple #[.slice a mm q, .int .i64 en]) ∧ mm ≤ 1073741824 ∧ OwnV ww.heap.size w' (.slice a mm q) mm d ∧ Is A mm d ∧ ((rightS k ∧ en = 0 ∧ SetOf A (D t k)) ∨ (¬ rightS k ∧ en = 8 ∧ mm = 0)) ∧ ww.grownBy w' none) := by
    intro ww k hg hk
    refine (eval_any b t k ww ((hp2.grown g3).grown hg) hk hcn ok1.1 ok1.2.1 ok1.2.2).mono ?_
    rintro e w' ⟨v, n, d, A, h1, h2, h3, h4⟩
    obtain ⟨a, q, rfl⟩ := h2.slice
    rcases h1 with ⟨hr, rfl, hs⟩ | ⟨hr, rfl, rfl, rfl⟩
    · refine ⟨a, n, q, d, A, 0, rfl, ?_, h2, h3, .inl ⟨hr, rfl, hs⟩, h4⟩
      rw [← h3.len]
      exact right_few hs.srt (fun x hx => (den_right t ok1.2.2).1 k x ((right_Rt hk).1 hr) ((hs.mem x).1 hx))
    · exact ⟨a, 0, q, d, [], 8, rfl, by omega, h2, h3, .inr ⟨hr, rfl, rfl⟩, h4⟩
  have HQV : Hid (∀ ww k, w3.grownBy ww none → Nm k → rightS k → Calls Tryz.prog 18 #[.pointer (some ⟨c, 0, none⟩), .agg #[.int .i64 (k 0), .int .i64 (k 1), .int .i64 (k 2), .int .i64 (k 3), .int .i64 (k 4), .int .i64 (k 5)]] ww fun e w' => ∃ a mm q d A, e = .returned (.slice a mm q) ∧ PkR w' (.slice a mm q) mm d ∧ Is A mm d ∧ SetOf A (D t k) ∧ ww.grownBy w' none) := by
    intro ww k hg hk hr
    refine (reval_any _ (flat t) c k ww (RV_kept hq3 hg) ok2 ((right_Rt hk).1 hr)).mono ?_
    rintro e w' ⟨a, q, n, d, A, h1, h2, h3, h4, h5⟩
    exact ⟨a, n, q, d, A, h1, h2, h3, h4.cong (fun y => hden k y), h5⟩
  unfold ptrV
  clear g3 G2 P3 hp2 hq3 ok1 ok2 hden hcn
  obtain ⟨w4, hw4⟩ : ∃ w4, w4 = w3.alloc (.cells bk0 42) := ⟨_, rfl⟩
  have HB4 : Hid (Bk w3.heap.size w4.heap.size w4 w3.heap.size 0 ∧ w3.grownBy w4 none) := by
    have h1 := Bk.new w3
    rw [← hw4] at h1
    refine ⟨?_, by rw [hw4]; exact World.grownBy_alloc _ _ _⟩
    rw [show w4.heap.size = w3.heap.size + 1 by rw [hw4]; simp]
    exact h1
  have hw4 : w4 = w3.alloc (.cells #[.int .i64 0, .int .i64 0, .bool false, .slice none 0 0, .slice none 0 0, .slice none 0 0, .slice none 0 0, .slice none 0 0, .slice none 0 0, .slice none 0 0, .slice none 0 0, .slice none 0 0, .slice none 0 0, .slice none 0 0, .slice none 0 0] 42) := hw4
  go_wp2_with fail
  rw [← hw4]
  clear hw4
  obtain ⟨bb, hbb⟩ : ∃ bb, bb = w3.heap.size := ⟨_, rfl⟩
  rw [← hbb] at HB4 ⊢
  have HBB := hide hbb
  clear hbb
  go_loopw [13] (fun s13 wr => ∃ i : Nat, i ≤ m ∧ s13 = .int .i64 i ∧ Bk bb wr.heap.size wr bb i ∧ w3.grownBy wr none) (fun s13 _ => m - (intOf s13).toNat)
  case atStart => exact ⟨0, by omega, rfl, HB4.out.1, HB4.out.2⟩
  case round =>
    obtain ⟨i, hi, rfl, hbk, hg⟩ := hrel
    clear HB4
    have HBK := hide hbk
    have HG := hide hg
    clear hbk hg
    by_cases hlt : i < m
    · rcases HPK.out with ⟨_, _, _, h0, _⟩ | ⟨gp, offp, cap', hv, _, hcell⟩
      · omega
      cases hv
      obtain ⟨k, hk⟩ : ∃ k, k = ps i := ⟨_, rfl⟩
      have HC : Hid (∀ wx, w3.grownBy wx none → ∀ t, t < 6 → wx.cell? ⟨gp, offp + i * 6 + t, none⟩ = some (.int .i64 (k t))) := fun wx hg t ht => by rw [hk]; exact (grown_trans G3.out hg).cell (hcell i hlt t ht) (by simp)
      have HKN : Hid (Nm k) := by rw [hk]; exact HNM.out i hlt
      clear hcell hk
      have hltI : (i : Int) < m := by omega
      have c0 : wr.cell? ⟨gp, offp + i * 6, none⟩ = some (.int .i64 (k 0)) := HC.out _ HG.out 0 (by omega)
      have c1 := HC.out _ HG.out 1 (by omega)
      have c2 := HC.out _ HG.out 2 (by omega)
      have c3 := HC.out _ HG.out 3 (by omega)
      have c4 := HC.out _ HG.out 4 (by omega)
      have c5 := HC.out _ HG.out 5 (by omega)
      by_cases hrt : rightS k
      · have HRT := hide hrt
        have HE : Hid (∀ ww, wr.grownBy ww none → Calls Tryz.prog 16 #[.pointer (some ⟨b, 0, none⟩), .agg #[.int .i64 (k 0), .int .i64 (k 1), .int .i64 (k 2), .int .i64 (k 3), .int .i64 (k 4), .int .i64 (k 5)]] ww fun e w' => ∃ a mm q d A, e = .returned (.tuple #[.slice a mm q, .int .i64 0]) ∧ mm ≤ 1073741824 ∧ OwnV wr.heap.size w' (.slice a mm q) mm d ∧ Is A mm d ∧ SetOf A (D t k) ∧ wr.grownBy w' none) := by
          intro ww hg
          refine (HEV.out ww k (grown_trans HG.out hg) HKN.out).mono ?_
          rintro e w' ⟨a, mm, q, d, A, en, rfl, h1, h2, h3, h4, h5⟩
          rcases h4 with ⟨_, rfl, h4⟩ | ⟨h4, _⟩
          · exact ⟨a, mm, q, d, A, rfl, h1, h2.mono hg.size, h3, h4, grown_trans hg h5⟩
          · exact absurd HRT.out h4
        clear hrt
        go_wp2_with fail
        refine (HE.out _ (grown_refl _ _)).mono ?_
        rintro e w2 ⟨a2, m2, q2, d2, A2, rfl, hm2, ho2, hi2, hs2, hg2⟩
        have R2 := hide hg2
        have O2 := hide ho2
        have I2 := hide hi2
        have S2 := hide hs2
        clear hg2 ho2 hi2 hs2
        clear HE c0 c1 c2 c3 c4 c5
        have c0 : w2.cell? ⟨gp, offp + i * 6, none⟩ = some (.int .i64 (k 0)) := HC.out _ (grown_trans HG.out R2.out) 0 (by omega)
        have c1 := HC.out _ (grown_trans HG.out R2.out) 1 (by omega)
        have c2 := HC.out _ (grown_trans HG.out R2.out) 2 (by omega)
        have c3 := HC.out _ (grown_trans HG.out R2.out) 3 (by omega)
        have c4 := HC.out _ (grown_trans HG.out R2.out) 4 (by omega)
        have c5 := HC.out _ (grown_trans HG.out R2.out) 5 (by omega)
        have HR : Hid (Calls Tryz.prog 17 #[.agg #[.int .i64 (k 0), .int .i64 (k 1), .int .i64 (k 2), .int .i64 (k 3), .int .i64 (k 4), .int .i64 (k 5)]] w2 fun e w' => e = .returned (.bool true) ∧ w2.grownBy w' none) := (rRight_any k w2).mono (fun e w' ⟨⟨bq, h1, h3⟩, h2⟩ => ⟨by rw [h1, h3.2 HRT.out], h2⟩)
        go_wp2_with fail
        refine HR.out.mono ?_
        rintro e w8 ⟨rfl, hg8⟩
        have R8 := hide (grown_trans R2.out hg8)
        have O8 := hide (O2.out.grown hg8 (fun b c => by cases c))
        clear HR c0 c1 c2 c3 c4 c5 hg8 R2 O2
        have c0 : w8.cell? ⟨gp, offp + i * 6, none⟩ = some (.int .i64 (k 0)) := HC.out _ (grown_trans HG.out R8.out) 0 (by omega)
        have c1 := HC.out _ (grown_trans HG.out R8.out) 1 (by omega)
        have c2 := HC.out _ (grown_trans HG.out R8.out) 2 (by omega)
        have c3 := HC.out _ (grown_trans HG.out R8.out) 3 (by omega)
        have c4 := HC.out _ (grown_trans HG.out R8.out) 4 (by omega)
        have c5 := HC.out _ (grown_trans HG.out R8.out) 5 (by omega)
        have HQ : Hid (∀ ww, w8.grownBy ww none → Calls Tryz.prog 18 #[.pointer (some ⟨c, 0, none⟩), .agg #[.int .i64 (k 0), .int .i64 (k 1), .int .i64 (k 2), .int .i64 (k 3), .int .i64 (k 4), .int .i64 (k 5)]] ww fun e w' => ∃ a q d, e = .returned (.slice a m2 q) ∧ PkR w' (.slice a m2 q) m2 d ∧ Is A2 m2 d ∧ w8.grownBy w' none) := by
          intro ww hg
          refine (HQV.out ww k (grown_trans (grown_trans HG.out R8.out) hg) HKN.out HRT.out).mono ?_
          rintro e w' ⟨a, mm, q, d, A, rfl, h1, h2, h3, h4⟩
          obtain rfl := h3.one S2.out
          obtain rfl : mm = m2 := by rw [← h2.len, ← I2.out.len]
          exact ⟨a, q, d, rfl, h1, h2, grown_trans hg h4⟩
        go_wp2_with fail
        refine (HQ.out _ (grown_refl _ _)).mono ?_
        rintro e w4 ⟨a4, q4, d4, rfl, hp4, hi4, hg4⟩
        have R4 := hide (grown_trans R8.out hg4)
        have PW := hide hp4
        have IW := hide hi4
        have O4 := hide (O8.out.grown hg4 (fun b c => by cases c))
        clear hg4 hp4 hi4
        clear HQ c0 c1 c2 c3 c4 c5 R8 O8
        have I4 := I2
        have HSP := hide (same_rows O4.out PW.out I4.out IW.out)
        go_wp2_with fail
        refine HSP.out.mono ?_
        rintro e w5 ⟨rfl, hg5⟩
        have R5 := hide (grown_trans R4.out hg5)
        have O5 := hide (O4.out.grown hg5 (fun b c => by cases c))
        clear hg5 HSP R4 O4 PW I4 IW
        have HT : Hid (Calls Tryz.prog 20 #[.pointer (some ⟨bb, 0, none⟩), .slice a2 m2 q2] w5 fun e w' => e = .returned (.tuple #[]) ∧ Bk bb w'.heap.size w' bb (i + 1) ∧ w3.grownBy w' none) := by
          refine (packets_any bb wr.heap.size w5 bb i (.slice a2 m2 q2) m2 d2 (HBK.out.grown R5.out) (by omega) O5.out (by omega)).mono ?_
          rintro e w' ⟨rfl, hb, hk⟩
          refine ⟨rfl, hb, Kp.grown (grown_trans HG.out R5.out) hk ?_⟩
          intro b hb
          have hgs := HG.out.size
          have hbq := HBB.out
          rintro (c | c)
          · omega
          · have := (O5.out.lt _ c).1; omega
        go_wp2_with fail
        refine HT.out.mono ?_
        rintro e w6 ⟨rfl, hb6, hg6⟩
        have B6 := hide hb6
        have G6 := hide hg6
        clear hb6 hg6 HT O5 R5 HBK HG
        have HST := hide (still_any bb w6.heap.size w6 bb (i + 1) B6.out (by omega))
        go_wp2_with fail
        refine HST.out.mono ?_
        rintro e w7 ⟨rfl, hg7⟩
        have B7 := hide ((B6.out.grown hg7).wide hg7.size (Nat.le_refl _))
        have G7 := hide (grown_trans G6.out hg7)
        clear hg7 HST B6 G6
        go_wp2_with fail
        exact ⟨⟨i + 1, by omega, by go_num, B7.out, G7.out⟩, by simp [intOf]; omega⟩
      · have HRT := hide hrt
        have HE : Hid (∀ ww, wr.grownBy ww none → Calls Tryz.prog 16 #[.pointer (some ⟨b, 0, none⟩), .agg #[.int .i64 (k 0), .int .i64 (k 1), .int .i64 (k 2), .int .i64 (k 3), .int .i64 (k 4), .int .i64 (k 5)]] ww fun e w' => ∃ a q d, e = .returned (.tuple #[.slice a 0 q, .int .i64 8]) ∧ OwnV wr.heap.size w' (.slice a 0 q) 0 d ∧ wr.grownBy w' none) := by
          intro ww hg
          refine (HEV.out ww k (grown_trans HG.out hg) HKN.out).mono ?_
          rintro e w' ⟨a, mm, q, d, A, en, rfl, h1, h2, h3, h4, h5⟩
          rcases h4 with ⟨h4, _⟩ | ⟨_, rfl, rfl⟩
          · exact absurd h4 HRT.out
          · exact ⟨a, q, d, rfl, h2.mono hg.size, grown_trans hg h5⟩
        clear hrt
        go_wp2_with fail
        refine (HE.out _ (grown_refl _ _)).mono ?_
        rintro e w2 ⟨a2, q2, d2, rfl, ho2, hg2⟩
        have R2 := hide hg2
        have O2 := hide ho2
        clear hg2 ho2
        clear HE c0 c1 c2 c3 c4 c5
        have c0 : w2.cell? ⟨gp, offp + i * 6, none⟩ = some (.int .i64 (k 0)) := HC.out _ (grown_trans HG.out R2.out) 0 (by omega)
        have c1 := HC.out _ (grown_trans HG.out R2.out) 1 (by omega)
        have c2 := HC.out _ (grown_trans HG.out R2.out) 2 (by omega)
        have c3 := HC.out _ (grown_trans HG.out R2.out) 3 (by omega)
        have c4 := HC.out _ (grown_trans HG.out R2.out) 4 (by omega)
        have c5 := HC.out _ (grown_trans HG.out R2.out) 5 (by omega)
        have HR : Hid (Calls Tryz.prog 17 #[.agg #[.int .i64 (k 0), .int .i64 (k 1), .int .i64 (k 2), .int .i64 (k 3), .int .i64 (k 4), .int .i64 (k 5)]] w2 fun e w' => e = .returned (.bool false) ∧ w2.grownBy w' none) := (rRight_any k w2).mono (fun e w' ⟨⟨bq, h1, h3⟩, h2⟩ => ⟨by rw [h1]; cases bq with
          | false => rfl
          | true => exact absurd (h3.1 rfl) HRT.out, h2⟩)
        go_wp2_with fail
        refine HR.out.mono ?_
        rintro e w4 ⟨rfl, hg4⟩
        have R4 := hide (grown_trans R2.out hg4)
        have O4 := hide (O2.out.grown hg4 (fun b c => by cases c))
        clear HR c0 c1 c2 c3 c4 c5 hg4 R2 O2
        have HSP := hide (same_none O4.out)
        go_wp2_with fail
        refine HSP.out.mono ?_
        rintro e w5 ⟨rfl, hg5⟩
        have R5 := hide (grown_trans R4.out hg5)
        have O5 := hide (O4.out.grown hg5 (fun b c => by cases c))
        clear hg5 HSP R4 O4
        have HT : Hid (Calls Tryz.prog 20 #[.pointer (some ⟨bb, 0, none⟩), .slice a2 0 q2] w5 fun e w' => e = .returned (.tuple #[]) ∧ Bk bb w'.heap.size w' bb (i + 1) ∧ w3.grownBy w' none) := by
          refine (packets_any bb wr.heap.size w5 bb i (.slice a2 0 q2) 0 d2 (HBK.out.grown R5.out) (by omega) O5.out (by omega)).mono ?_
          rintro e w' ⟨rfl, hb, hk⟩
          refine ⟨rfl, hb, Kp.grown (grown_trans HG.out R5.out) hk ?_⟩
          intro b hb
          have hgs := HG.out.size
          have hbq := HBB.out
          rintro (c | c)
          · omega
          · have := (O5.out.lt _ c).1; omega
        go_wp2_with fail
        refine HT.out.mono ?_
        rintro e w6 ⟨rfl, hb6, hg6⟩
        have B6 := hide hb6
        have G6 := hide hg6
        clear hb6 hg6 HT O5 R5 HBK HG
        have HST := hide (still_any bb w6.heap.size w6 bb (i + 1) B6.out (by omega))
        go_wp2_with fail
        refine HST.out.mono ?_
        rintro e w7 ⟨rfl, hg7⟩
        have B7 := hide ((B6.out.grown hg7).wide hg7.size (Nat.le_refl _))
        have G7 := hide (grown_trans G6.out hg7)
        clear hg7 HST B6 G6
        go_wp2_with fail
        exact ⟨⟨i + 1, by omega, by go_num, B7.out, G7.out⟩, by simp [intOf]; omega⟩
    · obtain rfl : i = m := by omega
      go_wp2
      go_ret
      exact ⟨rfl, grown_trans G3.out HG.out⟩
theorem evals_any (s : ByteArray) (pv : Value) (m : Nat) (ps : Nat → Nat → Int) (w : World) (hn : Names w) (hs : s.size ≤ 9223372036854775807) (hp : PkR w pv m ps) (hm : m ≤ 1000000000) (hnm : ∀ j, j < m → Nm (ps j)) :
    Calls Tryz.prog 4 #[.string s, pv] w fun e w' => e = .returned (.bool true) ∧ w.grownBy w' none := by
  cases h : readS s with
  | ok t => exact evals_ok s pv m ps w hn hs t h hp hm hnm
  | error e => obtain ⟨en, pl⟩ := e; exact evals_err s pv m ps w hn hs en pl h hp hm hnm
end Go.Proofs.YtlhkfafdioakeaaGreatDoor
