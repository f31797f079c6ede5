/- Pk13: several parts, each with what it proves in plain words at its head. -/
import Derived.Test.YtlhkfafdioakeaaGreatDoorRefB
import Derived.Test.YtlhkfafdioakeaaGreatDoorGRefM
import Derived.Test.YtlhkfafdioakeaaGreatDoorGRefA
import Derived.Test.YtlhkfafdioakeaaGreatDoorPk05
import Derived.Test.YtlhkfafdioakeaaGreatDoorPk11
import Derived.Test.YtlhkfafdioakeaaGreatDoorPk12
import Derived.Test.YtlhkfafdioakeaaGreatDoorRows
import Derived.Test.YtlhkfafdioakeaaGreatDoorPk02
import Derived.ProofKit
import Derived.OpenShut
import Derived.JoinedCond
import Derived.Carry
import Derived.Deep.Slices
import Derived.Test.YtlhkfafdioakeaaGreatDoorGRead
import Derived.Test.YtlhkfafdioakeaaGreatDoorCards
import Derived.Test.YtlhkfafdioakeaaGreatDoorTie
import Derived.LaidMore
import Derived.ShutString
import Derived.Stop.Joined
import Derived.SevenTiedAt
import Derived.Deep.DeepHandedRow
/- Proved here: the document's Read, of any text: the tree, or the error and its place, that a plain function says. -/
namespace Go.Proofs.YtlhkfafdioakeaaGreatDoor
open Go.RowKit Go.Weft
theorem rread_any (s : ByteArray) (w : World) (hs : s.size ≤ 9223372036854775807) : Calls Tryz.prog 15 #[.string s] w (OutRR (readS s) w) :=
  rread_given s w hs (fun h => rtokens_any s w h)
end Go.Proofs.YtlhkfafdioakeaaGreatDoor
/- Proved here: the law of the evals, over any text and packets. -/
namespace Go.Proofs.YtlhkfafdioakeaaGreatDoor
open Go.RowKit Go.Weft
set_option linter.unusedVariables false
set_option linter.unusedSimpArgs false
theorem same_rows {C : Nat} {w : World} {v u : Value} {m : Nat} {d e : Nat → Nat → Int} {A : List (Nat → Int)} (h1 : OwnV C w v m d) (h2 : PkR w u m e) (h3 : Is A m d) (h4 : Is A m e) : Calls Tryz.prog 19 #[v, u] w fun e w' => e = .returned (.bool true) ∧ w.grownBy w' none :=
  samePR _ _ m d e w h1.row.any h2 (same_lists h3 h4).2
theorem same_none {C : Nat} {w : World} {v : Value} {d : Nat → Nat → Int} (h1 : OwnV C w v 0 d) : Calls Tryz.prog 19 #[v, .slice none 0 0] w fun e w' => e = .returned (.bool true) ∧ w.grownBy w' none :=
  samePR _ _ 0 d d w h1.row.any (PkR.none _ _) (fun j hj => by omega)
theorem same_nil (w : World) : Calls Tryz.prog 19 #[.slice none 0 0, .slice none 0 0] w fun e w' => e = .returned (.bool true) ∧ w.grownBy w' none :=
  samePR _ _ 0 (fun _ _ => 0) (fun _ _ => 0) w (PkR.none _ _) (PkR.none _ _) (fun j hj => by omega)
set_option maxRecDepth 100000 in
set_option maxHeartbeats 8000000 in
theorem evals_err (s : ByteArray) (pv : Value) (m : Nat) (ps : Nat → Nat → Int) (w : World) (hn : Names w) (hs : s.size ≤ 9223372036854775807) (en : Int) (pl : Nat) (hr : readS s = .error (en, pl)) (hp : PkR w pv m ps) (hm : m ≤ 1000000000) (hnm : ∀ j, j < m → Nm (ps j)) :
    Calls Tryz.prog 4 #[.string s, pv] w fun e w' => e = .returned (.bool true) ∧ w.grownBy w' none := by
  obtain ⟨pa, pc, rfl⟩ := hp.slice
  have HPK := hide hp
  have HNM := hide hnm
  have P1 := hide (example_any w hn)
  have P2 := hide (fun (ww : World) (hg : w.grownBy ww none) => compile_err s ww (hn.kept hg) hs en pl hr)
  have P3 := hide (fun (ww : World) => rread_any s ww hs)
  rw [hr] at P3
  clear hn hr hp hnm
  go_enter Tryz.func4, Tryz.ntmps4
  go_wp2_with fail
  refine P1.out.mono ?_
  rintro x w1 ⟨b0, rfl, g1⟩
  go_wp2_with fail
  refine (P2.out w1 g1).mono ?_
  rintro x w2 ⟨rfl, g2⟩
  have G2 := hide (grown_trans g1 g2)
  clear g1 g2 P1 P2
  go_wp2_with fail
  refine (P3.out w2).mono ?_
  rintro x w3 ⟨g3, rfl⟩
  have G3 := hide (grown_trans G2.out g3)
  clear g3 G2 P3
  obtain ⟨w4, hw4⟩ : ∃ w4, w4 = w3.alloc (.cells bk0 42) := ⟨_, rfl⟩
  have HB4 : Hid (Bk w3.heap.size w4.heap.size w4 w3.heap.size 0 ∧ w3.grownBy w4 none) := by
    have h1 := Bk.new w3
    rw [← hw4] at h1
    refine ⟨?_, by rw [hw4]; exact World.grownBy_alloc _ _ _⟩
    rw [show w4.heap.size = w3.heap.size + 1 by rw [hw4]; simp]
    exact h1
  have hw4 : w4 = w3.alloc (.cells #[.int .i64 0, .int .i64 0, .bool false, .slice none 0 0, .slice none 0 0, .slice none 0 0, .slice none 0 0, .slice none 0 0, .slice none 0 0, .slice none 0 0, .slice none 0 0, .slice none 0 0, .slice none 0 0, .slice none 0 0, .slice none 0 0] 42) := hw4
  go_wp2_with fail
  rw [← hw4]
  clear hw4
  obtain ⟨bb, hbb⟩ : ∃ bb, bb = w3.heap.size := ⟨_, rfl⟩
  rw [← hbb] at HB4 ⊢
  have HBB := hide hbb
  clear hbb
  go_loopw [13] (fun s13 wr => ∃ i : Nat, i ≤ m ∧ s13 = .int .i64 i ∧ Bk bb wr.heap.size wr bb i ∧ w3.grownBy wr none) (fun s13 _ => m - (intOf s13).toNat)
  case atStart => exact ⟨0, by omega, rfl, HB4.out.1, HB4.out.2⟩
  case round =>
    obtain ⟨i, hi, rfl, hbk, hg⟩ := hrel
    clear HB4
    have HBK := hide hbk
    have HG := hide hg
    clear hbk hg
    by_cases hlt : i < m
    · rcases HPK.out with ⟨_, _, _, h0, _⟩ | ⟨gp, offp, cap', hv, _, hcell⟩
      · omega
      cases hv
      obtain ⟨k, hk⟩ : ∃ k, k = ps i := ⟨_, rfl⟩
      have HC : Hid (∀ wx, w3.grownBy wx none → ∀ t, t < 6 → wx.cell? ⟨gp, offp + i * 6 + t, none⟩ = some (.int .i64 (k t))) := fun wx hg t ht => by rw [hk]; exact (grown_trans G3.out hg).cell (hcell i hlt t ht) (by simp)
      have HKN : Hid (Nm k) := by rw [hk]; exact HNM.out i hlt
      clear hcell hk
      have hltI : (i : Int) < m := by omega
      have c0 : wr.cell? ⟨gp, offp + i * 6, none⟩ = some (.int .i64 (k 0)) := HC.out _ HG.out 0 (by omega)
      have c1 := HC.out _ HG.out 1 (by omega)
      have c2 := HC.out _ HG.out 2 (by omega)
      have c3 := HC.out _ HG.out 3 (by omega)
      have c4 := HC.out _ HG.out 4 (by omega)
      have c5 := HC.out _ HG.out 5 (by omega)
      have HE : Hid (∀ ww, wr.grownBy ww none → Calls Tryz.prog 16 #[.pointer none, .agg #[.int .i64 (k 0), .int .i64 (k 1), .int .i64 (k 2), .int .i64 (k 3), .int .i64 (k 4), .int .i64 (k 5)]] ww fun e w' => e = .returned (.tuple #[.slice none 0 0, .int .i64 1]) ∧ wr.grownBy w' none) := fun ww hg => (eval_nil k ww).mono (fun e w' ⟨h1, h2⟩ => ⟨h1, grown_trans hg h2⟩)
      go_wp2_with fail
      refine (HE.out _ (grown_refl _ _)).mono ?_
      rintro e w2 ⟨rfl, hg2⟩
      have R2 := hide hg2
      clear hg2
      clear HE c0 c1 c2 c3 c4 c5
      have c0 : w2.cell? ⟨gp, offp + i * 6, none⟩ = some (.int .i64 (k 0)) := HC.out _ (grown_trans HG.out R2.out) 0 (by omega)
      have c1 := HC.out _ (grown_trans HG.out R2.out) 1 (by omega)
      have c2 := HC.out _ (grown_trans HG.out R2.out) 2 (by omega)
      have c3 := HC.out _ (grown_trans HG.out R2.out) 3 (by omega)
      have c4 := HC.out _ (grown_trans HG.out R2.out) 4 (by omega)
      have c5 := HC.out _ (grown_trans HG.out R2.out) 5 (by omega)
      have HR : Hid (Calls Tryz.prog 17 #[.agg #[.int .i64 (k 0), .int .i64 (k 1), .int .i64 (k 2), .int .i64 (k 3), .int .i64 (k 4), .int .i64 (k 5)]] w2 fun e w' => ∃ bq, e = .returned (.bool bq) ∧ wr.grownBy w' none) := (rRight_any k w2).mono (fun e w' ⟨⟨bq, h1, _⟩, h2⟩ => ⟨bq, h1, grown_trans R2.out h2⟩)
      go_wp2_with fail
      refine HR.out.mono ?_
      rintro e w4 ⟨bq, rfl, hg4⟩
      have R4 := hide hg4
      clear HR c0 c1 c2 c3 c4 c5 hg4 R2
      have HSP := hide (same_nil w4)
      go_wp2_with fail
      refine HSP.out.mono ?_
      rintro e w5 ⟨rfl, hg5⟩
      have R5 := hide (grown_trans R4.out hg5)
      have O5 := hide (OwnV.nil wr.heap.size w5 (fun _ _ => 0))
      clear hg5 HSP R4
      have HT : Hid (Calls Tryz.prog 20 #[.pointer (some ⟨bb, 0, none⟩), .slice none 0 0] w5 fun e w' => e = .returned (.tuple #[]) ∧ Bk bb w'.heap.size w' bb (i + 1) ∧ w3.grownBy w' none) := by
        refine (packets_any bb wr.heap.size w5 bb i (.slice none 0 0) 0 (fun _ _ => 0) (HBK.out.grown R5.out) (by omega) O5.out (by omega)).mono ?_
        rintro e w' ⟨rfl, hb, hk⟩
        refine ⟨rfl, hb, Kp.grown (grown_trans HG.out R5.out) hk ?_⟩
        intro b hb
        have hgs := HG.out.size
        have hbq := HBB.out
        rintro (c | c)
        · omega
        · have := (O5.out.lt _ c).1; omega
      go_wp2_with fail
      refine HT.out.mono ?_
      rintro e w6 ⟨rfl, hb6, hg6⟩
      have B6 := hide hb6
      have G6 := hide hg6
      clear hb6 hg6 HT O5 R5 HBK HG
      have HST := hide (still_any bb w6.heap.size w6 bb (i + 1) B6.out (by omega))
      go_wp2_with fail
      refine HST.out.mono ?_
      rintro e w7 ⟨rfl, hg7⟩
      have B7 := hide ((B6.out.grown hg7).wide hg7.size (Nat.le_refl _))
      have G7 := hide (grown_trans G6.out hg7)
      clear hg7 HST B6 G6
      go_wp2_with fail
      exact ⟨⟨i + 1, by omega, by go_num, B7.out, G7.out⟩, by simp [intOf]; omega⟩
    · obtain rfl : i = m := by omega
      go_wp2
      go_ret
      exact ⟨rfl, grown_trans G3.out HG.out⟩
set_option maxRecDepth 100000 in
set_option maxHeartbeats 8000000 in
theorem evals_ok (s : ByteArray) (pv : Value) (m : Nat) (ps : Nat → Nat → Int) (w : World) (hn : Names w) (hs : s.size ≤ 9223372036854775807) (t : Code) (hr : readS s = .ok t) (hp : PkR w pv m ps) (hm : m ≤ 1000000000) (hnm : ∀ j, j < m → Nm (ps j)) :
    Calls Tryz.prog 4 #[.string s, pv] w fun e w' => e = .returned (.bool true) ∧ w.grownBy w' none := by
  obtain ⟨pa, pc, rfl⟩ := hp.slice
  have HPK := hide hp
  have HNM := hide hnm
  have P1 := hide (example_any w hn)
  have P2 := hide (fun (ww : World) (hg : w.grownBy ww none) => compile_ok s ww (hn.kept hg) hs t hr)
  have P3 := hide (fun (ww : World) => rread_any s ww hs)
  rw [hr] at P3
  obtain ⟨ok1, ok2, hden, hcn⟩ := read_okT hr
  clear hn hr hp hnm
  go_enter Tryz.func4, Tryz.ntmps4
  go_wp2_with fail
  refine P1.out.mono ?_
  rintro x w1 ⟨b0, rfl, g1⟩
  go_wp2_with fail
  refine (P2.out w1 g1).mono ?_
  rintro x w2 ⟨b, rfl, hp2, _, g2⟩
  have G2 := hide (grown_trans g1 g2)
  clear g1 g2 P1 P2
  go_wp2_with fail
  refine (P3.out w2).mono ?_
  rintro x w3 ⟨g3, c, rfl, hq3⟩
  have G3 := hide (grown_trans G2.out g3)
  have HEV : Hid (∀ ww k, w3.grownBy ww none → Nm k → Calls Tryz.prog 16 #[.pointer (some ⟨b, 0, none⟩), .agg #[.int .i64 (k 0), .int .i64 (k 1), .int .i64 (k 2), .int .i64 (k 3), .int .i64 (k 4), .int .i64 (k 5)]] ww fun e w' => ∃ a mm q d A en, e = .returned (.tuple #[.slice a mm q, .int .i64 en]) ∧ mm ≤ 1073741824 ∧ OwnV ww.heap.size w' (.slice a mm q) mm d ∧ Is A mm d ∧ ((rightS k ∧ en = 0 ∧ SetOf A (D t k)) ∨ (¬ rightS k ∧ en = 8 ∧ mm = 0)) ∧ ww.grownBy w' none) := by
    intro ww k hg hk
    refine (eval_any b t k ww ((hp2.grown g3).grown hg) hk hcn ok1.1 ok1.2.1 ok1.2.2).mono ?_
    rintro e w' ⟨v, n, d, A, h1, h2, h3, h4⟩
    obtain ⟨a, q, rfl⟩ := h2.slice
    rcases h1 with ⟨hr, rfl, hs⟩ | ⟨hr, rfl, rfl, rfl⟩
    · refine ⟨a, n, q, d, A, 0, rfl, ?_, h2, h3, .inl ⟨hr, rfl, hs⟩, h4⟩
      rw [← h3.len]
      exact right_few hs.srt (fun x hx => (den_right t ok1.2.2).1 k x ((right_Rt hk).1 hr) ((hs.mem x).1 hx))
    · exact ⟨a, 0, q, d, [], 8, rfl, by omega, h2, h3, .inr ⟨hr, rfl, rfl⟩, h4⟩
  have HQV : Hid (∀ ww k, w3.grownBy ww none → Nm k → rightS k → Calls Tryz.prog 18 #[.pointer (some ⟨c, 0, none⟩), .agg #[.int .i64 (k 0), .int .i64 (k 1), .int .i64 (k 2), .int .i64 (k 3), .int .i64 (k 4), .int .i64 (k 5)]] ww fun e w' => ∃ a mm q d A, e = .returned (.slice a mm q) ∧ PkR w' (.slice a mm q) mm d ∧ Is A mm d ∧ SetOf A (D t k) ∧ ww.grownBy w' none) := by
    intro ww k hg hk hr
    refine (reval_any _ (flat t) c k ww (RV_kept hq3 hg) ok2 ((right_Rt hk).1 hr)).mono ?_
    rintro e w' ⟨a, q, n, d, A, h1, h2, h3, h4, h5⟩
    exact ⟨a, n, q, d, A, h1, h2, h3, h4.cong (fun y => hden k y), h5⟩
  unfold ptrV
  clear g3 G2 P3 hp2 hq3 ok1 ok2 hden hcn
  obtain ⟨w4, hw4⟩ : ∃ w4, w4 = w3.alloc (.cells bk0 42) := ⟨_, rfl⟩
  have HB4 : Hid (Bk w3.heap.size w4.heap.size w4 w3.heap.size 0 ∧ w3.grownBy w4 none) := by
    have h1 := Bk.new w3
    rw [← hw4] at h1
    refine ⟨?_, by rw [hw4]; exact World.grownBy_alloc _ _ _⟩
    rw [show w4.heap.size = w3.heap.size + 1 by rw [hw4]; simp]
    exact h1
  have hw4 : w4 = w3.alloc (.cells #[.int .i64 0, .int .i64 0, .bool false, .slice none 0 0, .slice none 0 0, .slice none 0 0, .slice none 0 0, .slice none 0 0, .slice none 0 0, .slice none 0 0, .slice none 0 0, .slice none 0 0, .slice none 0 0, .slice none 0 0, .slice none 0 0] 42) := hw4
  go_wp2_with fail
  rw [← hw4]
  clear hw4
  obtain ⟨bb, hbb⟩ : ∃ bb, bb = w3.heap.size := ⟨_, rfl⟩
  rw [← hbb] at HB4 ⊢
  have HBB := hide hbb
  clear hbb
  go_loopw [13] (fun s13 wr => ∃ i : Nat, i ≤ m ∧ s13 = .int .i64 i ∧ Bk bb wr.heap.size wr bb i ∧ w3.grownBy wr none) (fun s13 _ => m - (intOf s13).toNat)
  case atStart => exact ⟨0, by omega, rfl, HB4.out.1, HB4.out.2⟩
  case round =>
    obtain ⟨i, hi, rfl, hbk, hg⟩ := hrel
    clear HB4
    have HBK := hide hbk
    have HG := hide hg
    clear hbk hg
    by_cases hlt : i < m
    · rcases HPK.out with ⟨_, _, _, h0, _⟩ | ⟨gp, offp, cap', hv, _, hcell⟩
      · omega
      cases hv
      obtain ⟨k, hk⟩ : ∃ k, k = ps i := ⟨_, rfl⟩
      have HC : Hid (∀ wx, w3.grownBy wx none → ∀ t, t < 6 → wx.cell? ⟨gp, offp + i * 6 + t, none⟩ = some (.int .i64 (k t))) := fun wx hg t ht => by rw [hk]; exact (grown_trans G3.out hg).cell (hcell i hlt t ht) (by simp)
      have HKN : Hid (Nm k) := by rw [hk]; exact HNM.out i hlt
      clear hcell hk
      have hltI : (i : Int) < m := by omega
      have c0 : wr.cell? ⟨gp, offp + i * 6, none⟩ = some (.int .i64 (k 0)) := HC.out _ HG.out 0 (by omega)
      have c1 := HC.out _ HG.out 1 (by omega)
      have c2 := HC.out _ HG.out 2 (by omega)
      have c3 := HC.out _ HG.out 3 (by omega)
      have c4 := HC.out _ HG.out 4 (by omega)
      have c5 := HC.out _ HG.out 5 (by omega)
      by_cases hrt : rightS k
      · have HRT := hide hrt
        have HE : Hid (∀ ww, wr.grownBy ww none → Calls Tryz.prog 16 #[.pointer (some ⟨b, 0, none⟩), .agg #[.int .i64 (k 0), .int .i64 (k 1), .int .i64 (k 2), .int .i64 (k 3), .int .i64 (k 4), .int .i64 (k 5)]] ww fun e w' => ∃ a mm q d A, e = .returned (.tuple #[.slice a mm q, .int .i64 0]) ∧ mm ≤ 1073741824 ∧ OwnV wr.heap.size w' (.slice a mm q) mm d ∧ Is A mm d ∧ SetOf A (D t k) ∧ wr.grownBy w' none) := by
          intro ww hg
          refine (HEV.out ww k (grown_trans HG.out hg) HKN.out).mono ?_
          rintro e w' ⟨a, mm, q, d, A, en, rfl, h1, h2, h3, h4, h5⟩
          rcases h4 with ⟨_, rfl, h4⟩ | ⟨h4, _⟩
          · exact ⟨a, mm, q, d, A, rfl, h1, h2.mono hg.size, h3, h4, grown_trans hg h5⟩
          · exact absurd HRT.out h4
        clear hrt
        go_wp2_with fail
        refine (HE.out _ (grown_refl _ _)).mono ?_
        rintro e w2 ⟨a2, m2, q2, d2, A2, rfl, hm2, ho2, hi2, hs2, hg2⟩
        have R2 := hide hg2
        have O2 := hide ho2
        have I2 := hide hi2
        have S2 := hide hs2
        clear hg2 ho2 hi2 hs2
        clear HE c0 c1 c2 c3 c4 c5
        have c0 : w2.cell? ⟨gp, offp + i * 6, none⟩ = some (.int .i64 (k 0)) := HC.out _ (grown_trans HG.out R2.out) 0 (by omega)
        have c1 := HC.out _ (grown_trans HG.out R2.out) 1 (by omega)
        have c2 := HC.out _ (grown_trans HG.out R2.out) 2 (by omega)
        have c3 := HC.out _ (grown_trans HG.out R2.out) 3 (by omega)
        have c4 := HC.out _ (grown_trans HG.out R2.out) 4 (by omega)
        have c5 := HC.out _ (grown_trans HG.out R2.out) 5 (by omega)
        have HR : Hid (Calls Tryz.prog 17 #[.agg #[.int .i64 (k 0), .int .i64 (k 1), .int .i64 (k 2), .int .i64 (k 3), .int .i64 (k 4), .int .i64 (k 5)]] w2 fun e w' => e = .returned (.bool true) ∧ w2.grownBy w' none) := (rRight_any k w2).mono (fun e w' ⟨⟨bq, h1, h3⟩, h2⟩ => ⟨by rw [h1, h3.2 HRT.out], h2⟩)
        go_wp2_with fail
        refine HR.out.mono ?_
        rintro e w8 ⟨rfl, hg8⟩
        have R8 := hide (grown_trans R2.out hg8)
        have O8 := hide (O2.out.grown hg8 (fun b c => by cases c))
        clear HR c0 c1 c2 c3 c4 c5 hg8 R2 O2
        have c0 : w8.cell? ⟨gp, offp + i * 6, none⟩ = some (.int .i64 (k 0)) := HC.out _ (grown_trans HG.out R8.out) 0 (by omega)
        have c1 := HC.out _ (grown_trans HG.out R8.out) 1 (by omega)
        have c2 := HC.out _ (grown_trans HG.out R8.out) 2 (by omega)
        have c3 := HC.out _ (grown_trans HG.out R8.out) 3 (by omega)
        have c4 := HC.out _ (grown_trans HG.out R8.out) 4 (by omega)
        have c5 := HC.out _ (grown_trans HG.out R8.out) 5 (by omega)
        have HQ : Hid (∀ ww, w8.grownBy ww none → Calls Tryz.prog 18 #[.pointer (some ⟨c, 0, none⟩), .agg #[.int .i64 (k 0), .int .i64 (k 1), .int .i64 (k 2), .int .i64 (k 3), .int .i64 (k 4), .int .i64 (k 5)]] ww fun e w' => ∃ a q d, e = .returned (.slice a m2 q) ∧ PkR w' (.slice a m2 q) m2 d ∧ Is A2 m2 d ∧ w8.grownBy w' none) := by
          intro ww hg
          refine (HQV.out ww k (grown_trans (grown_trans HG.out R8.out) hg) HKN.out HRT.out).mono ?_
          rintro e w' ⟨a, mm, q, d, A, rfl, h1, h2, h3, h4⟩
          obtain rfl := h3.one S2.out
          obtain rfl : mm = m2 := by rw [← h2.len, ← I2.out.len]
          exact ⟨a, q, d, rfl, h1, h2, grown_trans hg h4⟩
        go_wp2_with fail
        refine (HQ.out _ (grown_refl _ _)).mono ?_
        rintro e w4 ⟨a4, q4, d4, rfl, hp4, hi4, hg4⟩
        have R4 := hide (grown_trans R8.out hg4)
        have PW := hide hp4
        have IW := hide hi4
        have O4 := hide (O8.out.grown hg4 (fun b c => by cases c))
        clear hg4 hp4 hi4
        clear HQ c0 c1 c2 c3 c4 c5 R8 O8
        have I4 := I2
        have HSP := hide (same_rows O4.out PW.out I4.out IW.out)
        go_wp2_with fail
        refine HSP.out.mono ?_
        rintro e w5 ⟨rfl, hg5⟩
        have R5 := hide (grown_trans R4.out hg5)
        have O5 := hide (O4.out.grown hg5 (fun b c => by cases c))
        clear hg5 HSP R4 O4 PW I4 IW
        have HT : Hid (Calls Tryz.prog 20 #[.pointer (some ⟨bb, 0, none⟩), .slice a2 m2 q2] w5 fun e w' => e = .returned (.tuple #[]) ∧ Bk bb w'.heap.size w' bb (i + 1) ∧ w3.grownBy w' none) := by
          refine (packets_any bb wr.heap.size w5 bb i (.slice a2 m2 q2) m2 d2 (HBK.out.grown R5.out) (by omega) O5.out (by omega)).mono ?_
          rintro e w' ⟨rfl, hb, hk⟩
          refine ⟨rfl, hb, Kp.grown (grown_trans HG.out R5.out) hk ?_⟩
          intro b hb
          have hgs := HG.out.size
          have hbq := HBB.out
          rintro (c | c)
          · omega
          · have := (O5.out.lt _ c).1; omega
        go_wp2_with fail
        refine HT.out.mono ?_
        rintro e w6 ⟨rfl, hb6, hg6⟩
        have B6 := hide hb6
        have G6 := hide hg6
        clear hb6 hg6 HT O5 R5 HBK HG
        have HST := hide (still_any bb w6.heap.size w6 bb (i + 1) B6.out (by omega))
        go_wp2_with fail
        refine HST.out.mono ?_
        rintro e w7 ⟨rfl, hg7⟩
        have B7 := hide ((B6.out.grown hg7).wide hg7.size (Nat.le_refl _))
        have G7 := hide (grown_trans G6.out hg7)
        clear hg7 HST B6 G6
        go_wp2_with fail
        exact ⟨⟨i + 1, by omega, by go_num, B7.out, G7.out⟩, by simp [intOf]; omega⟩
      · have HRT := hide hrt
        have HE : Hid (∀ ww, wr.grownBy ww none → Calls Tryz.prog 16 #[.pointer (some ⟨b, 0, none⟩), .agg #[.int .i64 (k 0), .int .i64 (k 1), .int .i64 (k 2), .int .i64 (k 3), .int .i64 (k 4), .int .i64 (k 5)]] ww fun e w' => ∃ a q d, e = .returned (.tuple #[.slice a 0 q, .int .i64 8]) ∧ OwnV wr.heap.size w' (.slice a 0 q) 0 d ∧ wr.grownBy w' none) := by
          intro ww hg
          refine (HEV.out ww k (grown_trans HG.out hg) HKN.out).mono ?_
          rintro e w' ⟨a, mm, q, d, A, en, rfl, h1, h2, h3, h4, h5⟩
          rcases h4 with ⟨h4, _⟩ | ⟨_, rfl, rfl⟩
          · exact absurd h4 HRT.out
          · exact ⟨a, q, d, rfl, h2.mono hg.size, grown_trans hg h5⟩
        clear hrt
        go_wp2_with fail
        refine (HE.out _ (grown_refl _ _)).mono ?_
        rintro e w2 ⟨a2, q2, d2, rfl, ho2, hg2⟩
        have R2 := hide hg2
        have O2 := hide ho2
        clear hg2 ho2
        clear HE c0 c1 c2 c3 c4 c5
        have c0 : w2.cell? ⟨gp, offp + i * 6, none⟩ = some (.int .i64 (k 0)) := HC.out _ (grown_trans HG.out R2.out) 0 (by omega)
        have c1 := HC.out _ (grown_trans HG.out R2.out) 1 (by omega)
        have c2 := HC.out _ (grown_trans HG.out R2.out) 2 (by omega)
        have c3 := HC.out _ (grown_trans HG.out R2.out) 3 (by omega)
        have c4 := HC.out _ (grown_trans HG.out R2.out) 4 (by omega)
        have c5 := HC.out _ (grown_trans HG.out R2.out) 5 (by omega)
        have HR : Hid (Calls Tryz.prog 17 #[.agg #[.int .i64 (k 0), .int .i64 (k 1), .int .i64 (k 2), .int .i64 (k 3), .int .i64 (k 4), .int .i64 (k 5)]] w2 fun e w' => e = .returned (.bool false) ∧ w2.grownBy w' none) := (rRight_any k w2).mono (fun e w' ⟨⟨bq, h1, h3⟩, h2⟩ => ⟨by rw [h1]; cases bq with
          | false => rfl
          | true => exact absurd (h3.1 rfl) HRT.out, h2⟩)
        go_wp2_with fail
        refine HR.out.mono ?_
        rintro e w4 ⟨rfl, hg4⟩
        have R4 := hide (grown_trans R2.out hg4)
        have O4 := hide (O2.out.grown hg4 (fun b c => by cases c))
        clear HR c0 c1 c2 c3 c4 c5 hg4 R2 O2
        have HSP := hide (same_none O4.out)
        go_wp2_with fail
        refine HSP.out.mono ?_
        rintro e w5 ⟨rfl, hg5⟩
        have R5 := hide (grown_trans R4.out hg5)
        have O5 := hide (O4.out.grown hg5 (fun b c => by cases c))
        clear hg5 HSP R4 O4
        have HT : Hid (Calls Tryz.prog 20 #[.pointer (some ⟨bb, 0, none⟩), .slice a2 0 q2] w5 fun e w' => e = .returned (.tuple #[]) ∧ Bk bb w'.heap.size w' bb (i + 1) ∧ w3.grownBy w' none) := by
          refine (packets_any bb wr.heap.size w5 bb i (.slice a2 0 q2) 0 d2 (HBK.out.grown R5.out) (by omega) O5.out (by omega)).mono ?_
          rintro e w' ⟨rfl, hb, hk⟩
          refine ⟨rfl, hb, Kp.grown (grown_trans HG.out R5.out) hk ?_⟩
          intro b hb
          have hgs := HG.out.size
          have hbq := HBB.out
          rintro (c | c)
          · omega
          · have := (O5.out.lt _ c).1; omega
        go_wp2_with fail
        refine HT.out.mono ?_
        rintro e w6 ⟨rfl, hb6, hg6⟩
        have B6 := hide hb6
        have G6 := hide hg6
        clear hb6 hg6 HT O5 R5 HBK HG
        have HST := hide (still_any bb w6.heap.size w6 bb (i + 1) B6.out (by omega))
        go_wp2_with fail
        refine HST.out.mono ?_
        rintro e w7 ⟨rfl, hg7⟩
        have B7 := hide ((B6.out.grown hg7).wide hg7.size (Nat.le_refl _))
        have G7 := hide (grown_trans G6.out hg7)
        clear hg7 HST B6 G6
        go_wp2_with fail
        exact ⟨⟨i + 1, by omega, by go_num, B7.out, G7.out⟩, by simp [intOf]; omega⟩
    · obtain rfl : i = m := by omega
      go_wp2
      go_ret
      exact ⟨rfl, grown_trans G3.out HG.out⟩
theorem evals_any (s : ByteArray) (pv : Value) (m : Nat) (ps : Nat → Nat → Int) (w : World) (hn : Names w) (hs : s.size ≤ 9223372036854775807) (hp : PkR w pv m ps) (hm : m ≤ 1000000000) (hnm : ∀ j, j < m → Nm (ps j)) :
    Calls Tryz.prog 4 #[.string s, pv] w fun e w' => e = .returned (.bool true) ∧ w.grownBy w' none := by
  cases h : readS s with
  | ok t => exact evals_ok s pv m ps w hn hs t h hp hm hnm
  | error e => obtain ⟨en, pl⟩ := e; exact evals_err s pv m ps w hn hs en pl h hp hm hnm
end Go.Proofs.YtlhkfafdioakeaaGreatDoor
/- Proved here: what arguments that are packets and lists of packets read as, where their bulk is bounded. -/
namespace Go.Proofs.YtlhkfafdioakeaaGreatDoor.Opn
open Go.ChangeShapes Go.WideShapes Go.ChangeAt Go.WideMaps Go.WideElems Go.RowKit
set_option linter.unusedVariables false
set_option linter.unusedSimpArgs false
section
variable {H : Type}
theorem one_le (d : DataW H) : 1 ≤ Rows.uptoBulk d := by
  cases d with
  | lit l => cases l <;> simp [Rows.uptoBulk]
  | nil => simp [Rows.uptoBulk]
  | ptr d => simp [Rows.uptoBulk]
  | slice elems spare => simp [Rows.uptoBulk]
  | agg parts => simp [Rows.uptoBulk]
  | iface t d => simp [Rows.uptoBulk]
  | map entries => simp [Rows.uptoBulk]
  | held h => simp [Rows.uptoBulk]
theorem part_le {d : DataW H} {l : List (DataW H)} (h : d ∈ l) : Rows.uptoBulk d ≤ Rows.uptoBulkAll l := by
  induction l with
  | nil => cases h
  | cons x r ih =>
    simp only [Rows.uptoBulkAll]
    rcases List.mem_cons.1 h with e | e
    · subst e; omega
    · have := ih e; omega
theorem length_le (l : List (DataW H)) : l.length ≤ Rows.uptoBulkAll l := by
  induction l with
  | nil => simp [Rows.uptoBulkAll]
  | cons x r ih => have := one_le x; simp only [Rows.uptoBulkAll, List.length_cons]; omega
end
theorem wf_range64 {n : Int} (h : (Lit.int .i64 n).wf = true) : -9223372036854775808 ≤ n ∧ n ≤ 9223372036854775807 := by
  simp only [Lit.wf, IntKind.min, IntKind.max, IntKind.signed, IntKind.bits, Bool.and_eq_true, decide_eq_true_eq, if_true] at h
  omega
/-- Six numbers as a packet. -/
def six (n0 n1 n2 n3 n4 n5 : Int) : Nat → Int := fun i => if i = 0 then n0 else if i = 1 then n1 else if i = 2 then n2 else if i = 3 then n3 else if i = 4 then n4 else if i = 5 then n5 else 0
theorem six_nm (n0 n1 n2 n3 n4 n5 : Int) : Nm (six n0 n1 n2 n3 n4 n5) := fun i hi => by
  unfold six
  rw [if_neg (by omega), if_neg (by omega), if_neg (by omega), if_neg (by omega), if_neg (by omega), if_neg (by omega)]
section
variable {H : Type} {enc : TypeId × Value → H} {w : World} {base : Nat} {spare : Nat → Bool} {held : Bool}
theorem take_one {l : List Value} {i : Nat} {v : Value} (h : l[i]? = some v) : (l.drop i).take 1 = [v] := by
  have hlt : i < l.length := (List.getElem?_eq_some_iff.1 h).1
  rw [List.drop_eq_getElem_cons hlt]
  simp only [List.take_succ_cons, List.take_zero]
  rw [(List.getElem?_eq_some_iff.1 h).2]
theorem len_six {α : Type} : ∀ {l : List α}, l.length = 6 → ∃ a0 a1 a2 a3 a4 a5, l = [a0, a1, a2, a3, a4, a5]
  | [a0, a1, a2, a3, a4, a5], _ => ⟨a0, a1, a2, a3, a4, a5, rfl⟩
theorem len_eight {α : Type} : ∀ {l : List α}, l.length = 8 → ∃ a0 a1 a2 a3 a4 a5 a6 a7, l = [a0, a1, a2, a3, a4, a5, a6, a7]
  | [a0, a1, a2, a3, a4, a5, a6, a7], _ => ⟨a0, a1, a2, a3, a4, a5, a6, a7, rfl⟩
theorem len_three {α : Type} : ∀ {l : List α}, l.length = 3 → ∃ a0 a1 a2, l = [a0, a1, a2]
  | [a0, a1, a2], _ => ⟨a0, a1, a2, rfl⟩
/-- A packet, opened. -/
theorem open_pk {fuel : Nat} {cs : List Value} {x : DataW H × List MemPlace} (h : DataW.trod enc Tryz.prog w base spare held fuel 46 cs = some x) : ∃ k, Nm k ∧ cs = (pkA k).toList ∧ (∀ i, i < 6 → -9223372036854775808 ≤ k i ∧ k i ≤ 9223372036854775807) ∧ x.2 = [] := by
  obtain ⟨xs, m, _, hx, hl, hn, hel⟩ := DataW.trod_array Tryz.underlying46 h
  have hc : Tryz.prog.cellsOf 46 = 6 := by kernel_rfl
  have hc3 : Tryz.prog.cellsOf 3 = 1 := by kernel_rfl
  rw [hc] at hl
  obtain ⟨c0, c1, c2, c3, c4, c5, rfl⟩ := len_six hl
  obtain ⟨x0, x1, x2, x3, x4, x5, rfl⟩ := len_six hn
  have one : ∀ i v, i < 6 → [c0, c1, c2, c3, c4, c5][i]? = some v → ∃ n, v = .int .i64 n ∧ (Lit.int .i64 n).wf = true ∧ ∃ y, [x0, x1, x2, x3, x4, x5][i]? = some y ∧ y.2 = [] := by
    intro i v hi hv
    have he := hel i hi
    rw [hc3, Nat.mul_one, take_one hv] at he
    obtain ⟨y, hy⟩ : ∃ y, [x0, x1, x2, x3, x4, x5][i]? = some y := ⟨_, List.getElem?_eq_getElem (by simpa using hi)⟩
    rw [hy] at he
    obtain ⟨n, h1, h2, h3⟩ := DataW.trod_int Tryz.underlying3 he
    simp only [List.cons.injEq, and_true] at h1
    exact ⟨n, h1, h3, y, hy, by rw [h2]⟩
  obtain ⟨n0, rfl, r0, y0, e0, z0⟩ := one 0 c0 (by omega) rfl
  obtain ⟨n1, rfl, r1, y1, e1, z1⟩ := one 1 c1 (by omega) rfl
  obtain ⟨n2, rfl, r2, y2, e2, z2⟩ := one 2 c2 (by omega) rfl
  obtain ⟨n3, rfl, r3, y3, e3, z3⟩ := one 3 c3 (by omega) rfl
  obtain ⟨n4, rfl, r4, y4, e4, z4⟩ := one 4 c4 (by omega) rfl
  obtain ⟨n5, rfl, r5, y5, e5, z5⟩ := one 5 c5 (by omega) rfl
  refine ⟨six n0 n1 n2 n3 n4 n5, six_nm _ _ _ _ _ _, rfl, fun i hi => ?_, ?_⟩
  · rcases (show i = 0 ∨ i = 1 ∨ i = 2 ∨ i = 3 ∨ i = 4 ∨ i = 5 by omega) with rfl | rfl | rfl | rfl | rfl | rfl
    · exact wf_range64 r0
    · exact wf_range64 r1
    · exact wf_range64 r2
    · exact wf_range64 r3
    · exact wf_range64 r4
    · exact wf_range64 r5
  · rw [hx]
    simp only [List.getElem?_cons_zero, List.getElem?_cons_succ, Option.some.injEq] at e0 e1 e2 e3 e4 e5
    subst e0 e1 e2 e3 e4 e5
    simp [z0, z1, z2, z3, z4, z5]
theorem addr_plain {b o r : Nat} : (⟨b, o, none⟩ : Addr).add r = ⟨b, o + r, none⟩ := by unfold Addr.add; split <;> simp_all
theorem addr_of_cell {a : Addr} {c : Nat} {v : Value} (h : w.cell? ((a.add (0 * c)).add 0) = some v) : ∃ b o, a = ⟨b, o, none⟩ := by
  have hsp := World.cell?_spot h
  rw [Nat.zero_mul] at hsp
  obtain ⟨b, o, sp⟩ := a
  refine ⟨b, o, ?_⟩
  have : sp = none := by simpa [Addr.add] using hsp
  rw [this]
theorem bulk_slice (l r : List (DataW H)) : l.length + 1 ≤ Rows.uptoBulk (.slice l r) ∧ ∀ d, d ∈ l → Rows.uptoBulk d ≤ Rows.uptoBulk (.slice l r) := by
  simp only [Rows.uptoBulk]
  refine ⟨?_, fun d hd => ?_⟩
  · have := length_le l; omega
  · have := part_le hd; omega
/-- A list of packets, opened. -/
theorem open_pks {fuel : Nat} {v : Value} {x : DataW H × List MemPlace} (h : DataW.trod enc Tryz.prog w base (fun _ => true) held fuel 29 [v] = some x) (hb : Rows.uptoBulk x.1 ≤ 1048576) :
    ∃ n ps, (∀ j, Nm (ps j)) ∧ PkR w v n ps ∧ n ≤ 1048576 := by
  have hc : Tryz.prog.cellsOf 46 = 6 := by kernel_rfl
  rcases Deep.open_slice Tryz.underlying29 h with ⟨h0, _⟩ | ⟨a, len, cap, m, n, D, Pl, h1, h2, h3, h4, h5, h6, h7⟩
  · simp only [List.cons.injEq, and_true] at h0
    subst h0
    exact ⟨0, fun _ _ => 0, fun _ _ _ => rfl, .inl ⟨none, 0, rfl, rfl, fun _ => rfl⟩, by omega⟩
  · simp only [List.cons.injEq, and_true] at h1
    subst h1
    simp only [if_true] at h5
    subst h5
    rw [hc] at h7
    rw [h6] at hb
    have hl := (bulk_slice ((List.range len).map D) ((List.range (m - len)).map fun j => D (len + j))).1
    simp only [List.length_map, List.length_range] at hl
    have hlen : len ≤ 1048576 := by
      have hb' : Rows.uptoBulk (.slice ((List.range len).map D) ((List.range (m - len)).map fun j => D (len + j))) ≤ 1048576 := hb
      omega
    have each : ∀ i, i < m → ∃ k : Nat → Int, Nm k ∧ ∀ t, t < 6 → w.cell? ((a.add (i * 6)).add t) = some (.int .i64 (k t)) := by
      intro i hi
      obtain ⟨cs', g1, g2⟩ := h7 i hi
      obtain ⟨k, k1, k2, k3, _⟩ := open_pk g2
      obtain ⟨_, _, g3⟩ := World.cells?_some g1
      refine ⟨k, k1, fun t ht => ?_⟩
      rw [g3 t ht, k2]
      have := pkA_get k t ht
      simpa using this
    obtain ⟨ps, hps⟩ := Deep.choose_lt each
    refine ⟨len, fun j => if j < m then ps j else fun _ => 0, fun j => ?_, ?_, hlen⟩
    · show Nm (if j < m then ps j else fun _ => 0)
      split
      · rename_i hj; exact (hps j hj).1
      · exact fun _ _ => rfl
    · by_cases e0 : len = 0
      · subst e0
        exact .inl ⟨some a, m, rfl, rfl, fun e => by cases e⟩
      · obtain ⟨b, o, rfl⟩ := addr_of_cell ((hps 0 (by omega)).2 0 (by omega))
        refine .inr ⟨b, o, m, rfl, by omega, fun j hj i hi => ?_⟩
        have := (hps j (by omega)).2 i hi
        rw [addr_plain, addr_plain] at this
        rw [this]
        show _ = some (Value.int .i64 ((if j < m then ps j else fun _ => 0) i))
        rw [if_pos (by omega)]
/-- A rule, opened. -/
theorem open_rule {fuel : Nat} {cs : List Value} {x : DataW H × List MemPlace} (h : DataW.trod enc Tryz.prog w base (fun _ => true) held fuel 68 cs = some x) :
    ∃ (p : Int) (k : Nat → Int) (v : Value) (y : DataW H × List MemPlace) (fuel' : Nat), cs = [.int .i64 p, .int .i64 (k 0), .int .i64 (k 1), .int .i64 (k 2), .int .i64 (k 3), .int .i64 (k 4), .int .i64 (k 5), v] ∧
      DataW.trod enc Tryz.prog w base (fun _ => true) held fuel' 29 [v] = some y ∧ Rows.uptoBulk y.1 ≤ Rows.uptoBulk x.1 := by
  obtain ⟨xs, m, _, hx, hl, hn, hel⟩ := DataW.trod_struct Tryz.underlying68 h
  have hc : Tryz.prog.cellsOf 68 = 8 := by kernel_rfl
  have hc3 : Tryz.prog.cellsOf 3 = 1 := by kernel_rfl
  have hck : Tryz.prog.cellsOf 46 = 6 := by kernel_rfl
  have hcs : Tryz.prog.cellsOf 29 = 1 := by kernel_rfl
  rw [hc] at hl
  obtain ⟨c0, c1, c2, c3, c4, c5, c6, c7, rfl⟩ := len_eight hl
  obtain ⟨x0, x1, x2, rfl⟩ := len_three hn
  have e0 : DataW.trod enc Tryz.prog w base (fun _ => true) held m 3 (([c0, c1, c2, c3, c4, c5, c6, c7].drop 0).take (Tryz.prog.cellsOf 3)) = some x0 := hel 0 _ rfl
  have e1 : DataW.trod enc Tryz.prog w base (fun _ => true) held m 46 (([c0, c1, c2, c3, c4, c5, c6, c7].drop 1).take (Tryz.prog.cellsOf 46)) = some x1 := hel 1 _ rfl
  have e2 : DataW.trod enc Tryz.prog w base (fun _ => true) held m 29 (([c0, c1, c2, c3, c4, c5, c6, c7].drop 7).take (Tryz.prog.cellsOf 29)) = some x2 := hel 2 _ rfl
  simp only [hc3, hck, hcs, List.drop_zero, List.take_succ_cons, List.take_zero, List.drop_succ_cons, List.getElem?_cons_zero, List.getElem?_cons_succ] at e0 e1 e2
  obtain ⟨p, hp, _, hpr⟩ := DataW.trod_int Tryz.underlying3 e0
  simp only [List.cons.injEq, and_true] at hp
  subst hp
  obtain ⟨k, k1, k2, k3, _⟩ := open_pk e1
  simp only [pkA, List.cons.injEq, and_true] at k2
  obtain ⟨rfl, rfl, rfl, rfl, rfl, rfl⟩ := k2
  refine ⟨p, k, c7, x2, m, rfl, e2, ?_⟩
  rw [hx]
  simp only [Rows.uptoBulk, Rows.uptoBulkAll, List.map_cons, List.map_nil]
  omega
end
end Go.Proofs.YtlhkfafdioakeaaGreatDoor.Opn
/- The frame of the cards: what the listed variable gives the walks; a world in which it lies as the program's own text lays it. -/
namespace Go.Proofs.YtlhkfafdioakeaaGreatDoor
open Go.ChangeShapes Go.WideShapes Go.ChangeAt Go.WideMaps Go.WideElems Go.RowKit Go.Weft
open Go.ChangeMaps (open_string shut_string)
set_option linter.unusedVariables false
set_option linter.unusedSimpArgs false
theorem below_grown {w w' : World} (h : w.grownBy w' none) : Below w.heap.size w w' := ⟨h.os, h.tape, h.output, h.size, fun k hk => h.block k hk (by simp)⟩
theorem own : ownKnob Tryz.prog.godebug = none := by kernel_rfl
theorem door_met (os : Os) (args : Array Value) : laidMetH Tryz.prog Rows.printsRow.laid ((World.doorLaid Tryz.prog 400 os).forCall (fun _ _ => 0) ⟨#[], args, []⟩).memory :=
  laidMetH_of_parts3 (fuel := 8) (laidMet_of_run' 8 (by kernel_rfl) (by kernel_rfl)) (by kernel_rfl) (by kernel_rfl)
set_option maxRecDepth 100000 in
theorem names_of_laid {W : World} (h : laidMetH Tryz.prog Rows.printsRow.laid W) : Names W := by
  rw [MakeChecks.laidMetH_plain _ _ _ (by kernel_rfl)] at h
  obtain ⟨ps, ⟨g0, t0, cs0, f0, p0, q0, hg0, ht0, hv0, hd0, _, _⟩, _, _⟩ := h
  obtain rfl : g0 = 1 := Option.some.inj (hg0.symm.trans (by kernel_rfl))
  obtain rfl : t0 = 340 := Option.some.inj (ht0.symm.trans (by kernel_rfl))
  obtain ⟨xs, m1, rfl, hx1, hlen, hn3, hel⟩ := DataW.trod_array Tryz.underlying340 hd0
  have c9 : Tryz.prog.cellsOf 9 = 1 := by kernel_rfl
  have c195 : Tryz.prog.cellsOf 340 = 6 := by kernel_rfl
  rw [c195] at hlen
  rw [c9] at hel
  obtain ⟨l1⟩ := cs0
  simp only [Prod.mk.injEq] at hx1
  match l1, hlen, xs, hn3, hx1 with
  | [a0, a1, a2, a3, a4, a5], _, [x0, x1, x2, x3, x4, x5], _, hx1 =>
    obtain ⟨hx1, _⟩ := hx1
    simp only [Rows.laid_weft_tree_names, DataW.agg.injEq, List.map_cons, List.map_nil, List.cons.injEq, and_true] at hx1
    have look : ∀ (i : Nat) (hi : i < 6) (a : Value) (x : DataW Unit × List MemPlace) (bs : List UInt8), ([a0, a1, a2, a3, a4, a5] : List Value)[i]? = some a → ([x0, x1, x2, x3, x4, x5])[i]? = some x → DataW.lit (.string bs) = x.1 → ∃ s, a = .string s ∧ s.data.toList = bs := by
      intro i hi a x bs ha hx he
      have h1 := hel i hi
      rw [hx] at h1
      have e2 : List.take 1 (List.drop (i * 1) [a0, a1, a2, a3, a4, a5]) = [a] := by
        rcases (show i = 0 ∨ i = 1 ∨ i = 2 ∨ i = 3 ∨ i = 4 ∨ i = 5 by omega) with rfl | rfl | rfl | rfl | rfl | rfl <;> (simp at ha; subst ha; rfl)
      rw [e2] at h1
      obtain ⟨s, e3, e4, _⟩ := DataW.trod_string Tryz.underlying9 h1
      refine ⟨s, by simpa using e3, ?_⟩
      rw [e4] at he
      simpa using he.symm
    have cell : ∀ j a, ([a0, a1, a2, a3, a4, a5] : List Value)[j]? = some a → W.cell? ⟨1, j, none⟩ = some a := by
      intro j a hj
      have := World.var?_cell hg0 hv0 j
      simpa using this.trans (by simpa using hj)
    obtain ⟨s0, rfl, e0⟩ := look 0 (by decide) a0 x0 _ rfl rfl hx1.1
    obtain ⟨s1, rfl, e1⟩ := look 1 (by decide) a1 x1 _ rfl rfl hx1.2.1
    obtain ⟨s2, rfl, e2⟩ := look 2 (by decide) a2 x2 _ rfl rfl hx1.2.2.1
    obtain ⟨s3, rfl, e3⟩ := look 3 (by decide) a3 x3 _ rfl rfl hx1.2.2.2.1
    obtain ⟨s4, rfl, e4⟩ := look 4 (by decide) a4 x4 _ rfl rfl hx1.2.2.2.2.1
    obtain ⟨s5, rfl, e5⟩ := look 5 (by decide) a5 x5 _ rfl rfl hx1.2.2.2.2.2
    intro k hk
    rcases (show k = 0 ∨ k = 1 ∨ k = 2 ∨ k = 3 ∨ k = 4 ∨ k = 5 by omega) with rfl | rfl | rfl | rfl | rfl | rfl
    · rw [cell 0 _ rfl]; exact congrArg (fun s => some (Value.string s)) (bytes_eq e0)
    · rw [cell 1 _ rfl]; exact congrArg (fun s => some (Value.string s)) (bytes_eq e1)
    · rw [cell 2 _ rfl]; exact congrArg (fun s => some (Value.string s)) (bytes_eq e2)
    · rw [cell 3 _ rfl]; exact congrArg (fun s => some (Value.string s)) (bytes_eq e3)
    · rw [cell 4 _ rfl]; exact congrArg (fun s => some (Value.string s)) (bytes_eq e4)
    · rw [cell 5 _ rfl]; exact congrArg (fun s => some (Value.string s)) (bytes_eq e5)
end Go.Proofs.YtlhkfafdioakeaaGreatDoor
