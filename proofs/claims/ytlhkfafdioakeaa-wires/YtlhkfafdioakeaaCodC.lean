/- Proved here: what weft.Decode answers for the bytes of a message, for a beginning of them, and with more behind them. -/
import Derived.Test.YtlhkfafdioakeaaCodB
namespace Go.Proofs.Ytlhkfafdioakeaa
open Go.RowKit
set_option linter.unusedVariables false
set_option linter.unusedSimpArgs false
set_option maxRecDepth 100000 in
set_option maxHeartbeats 2000000 in
theorem wDecode_zero (s : ByteArray) (en : Int) (w : World) (h : ∀ w, Calls Try.prog 29 #[.string s] w fun e w' => e = .returned (.tuple #[zeroA, .int .i64 en]) ∧ w.grownBy w' none) :
    Calls Try.prog 15 #[.string s] w fun e w' => e = .returned (.tuple #[zeroA, .int .i64 en]) ∧ w.grownBy w' none := by
  have H := hide h
  clear h
  obtain ⟨wa, hwa⟩ : ∃ wa, wa = w.alloc (.cells (mA (mz 0)) 45) := ⟨_, rfl⟩
  have RA : mBlk wa w.heap.size (mz 0) := by rw [hwa]; exact mBlk.alloc _ _
  have GA : w.grownBy wa none := by rw [hwa]; exact World.grownBy_alloc _ _ _
  unfold mA mz at hwa
  simp only [if_true, Nat.reduceEqDiff, if_false, Nat.reduceLT] at hwa
  unfold zeroA at *
  go_enter Try.func15, Try.ntmps15
  go_wp2_with fail
  rw [← hwa]
  clear hwa
  refine (H.out wa).mono ?_
  rintro e w1 ⟨rfl, hg⟩
  have R1 := hide (RA.grown hg (by simp))
  have G1 := hide (grown_trans GA hg)
  clear RA GA hg
  obtain ⟨d0, d1, d2, d3, d4, d5, d6, d7, d8, d9⟩ := R1.out.tenCells
  have f0 := R1.out.frozen
  simp only [mz, if_true, Nat.reduceEqDiff, if_false, Nat.reduceLT] at d0 d1 d2 d3 d4 d5 d6 d7 d8 d9
  go_wp2
  change bodyPost _ _ _ _ _ (put10 w1 w.heap.size (mz 0))
  have hp := put10_blk R1.out (mz 0)
  obtain ⟨e0, e1, e2, e3, e4, e5, e6, e7, e8, e9⟩ := hp.tenCells
  simp only [mz, if_true, Nat.reduceEqDiff, if_false, Nat.reduceLT] at e0 e1 e2 e3 e4 e5 e6 e7 e8 e9
  refine bodyPost_ret (v := .tuple #[.agg #[.int .i64 0, .int .i64 0, .int .i64 0, .int .i64 0, .int .i64 0, .int .i64 0, .int .i64 0, .int .i64 0, .slice none 0 0, .slice none 0 0], .int .i64 en]) (by simp [results, Try.results15, go_sem, e0, e1, e2, e3, e4, e5, e6, e7, e8, e9]) rfl ?_
  exact ⟨rfl, grown_new G1.out (put10_grown _ _ _) (Nat.le_refl _)⟩
theorem strB_take (l : List Int) (i : Nat) : (strB l).extract 0 i = strB (l.take i) := by
  apply bytes_eq
  rw [Lib.extract_data]
  simp [strB, List.map_take]
theorem strB_more (l : List Int) (i : Nat) (more : ByteArray) (hi : i < l.length) : byt (strB l ++ more) i = byt (strB l) i := by
  have h1 : i < (strB l).size := by rw [strB_size]; exact hi
  have h2 : i < (strB l ++ more).size := by rw [ByteArray.size_append]; omega
  rw [byt_lt _ _ h2, byt_lt _ _ h1, ByteArray.getElem_append_left h1]
theorem decode_begin (m : Msg) (hc : canS m) (i : Nat) (hi : i < (encB m).length) (w : World) :
    Calls Try.prog 15 #[.string ((strB (encB m)).extract 0 i)] w fun e w' => e = .returned (.tuple #[zeroA, .int .i64 10]) ∧ w.grownBy w' none := by
  have hl := enc_len m
  have hsz : ((strB (encB m)).extract 0 i).size = i := by rw [ByteArray.size_extract, strB_size]; omega
  refine wDecode_zero _ 10 w (fun w => ?_)
  by_cases h3 : i < 3
  · exact decode_short _ w (by omega)
  · refine decode_cut _ w (by omega) (by have := hc.2; omega) ?_
    have : lenS ((strB (encB m)).extract 0 i) = lenS (strB (encB m)) := by
      unfold lenS
      rw [byt_extract _ 0 i 1 (by omega) (by rw [strB_size]; omega), byt_extract _ 0 i 2 (by omega) (by rw [strB_size]; omega)]
    rw [this, enc_lenS m hc.2, hsz]
    omega
theorem decode_behind (m : Msg) (hc : canS m) (more : ByteArray) (hm : 0 < more.size) (hb : more.size ≤ 9000000000000000000) (w : World) :
    Calls Try.prog 15 #[.string (strB (encB m) ++ more)] w fun e w' => e = .returned (.tuple #[zeroA, .int .i64 12]) ∧ w.grownBy w' none := by
  have hl := enc_len m
  have hsz : (strB (encB m) ++ more).size = (encB m).length + more.size := by rw [ByteArray.size_append, strB_size]
  refine wDecode_zero _ 12 w (fun w => ?_)
  refine decode_more _ w (by omega) (by have := hc.2; omega) ?_
  have : lenS (strB (encB m) ++ more) = lenS (strB (encB m)) := by
    unfold lenS
    rw [strB_more _ 1 _ (by omega), strB_more _ 2 _ (by omega)]
  rw [this, enc_lenS m hc.2, hsz]
  omega
set_option maxRecDepth 100000 in
set_option maxHeartbeats 2000000 in
theorem decode_same (m : Msg) (hc : canS m) (w : World) :
    Calls Try.prog 15 #[.string (strB (encB m))] w fun e w' => ∃ m' v, Same m' m ∧ MsgFrom w.heap.size w' m' v ∧ e = .returned (.tuple #[v, .int .i64 0]) ∧ w.grownBy w' none := by
  have hsame := read_same m hc
  have hcan := hsame.can hc
  have hl := enc_len m
  have hw := fun w => decode_whole (strB (encB m)) w (by rw [strB_size]; omega) (by rw [strB_size]; have := hc.2; omega) (by rw [enc_lenS m hc.2, strB_size]; omega)
  unfold WholeOut at hw
  generalize looseM (byt (strB (encB m)) 0) ((strB (encB m)).extract 3 (strB (encB m)).size) = m' at *
  obtain ⟨s, hs⟩ : ∃ s, s = strB (encB m) := ⟨_, rfl⟩
  have hdec : ∀ w, Calls Try.prog 29 #[.string s] w fun e w' => ∃ a b ca cb, PkRow w' (.slice a m'.na ca) m'.na m'.acts ∧ PkRow w' (.slice b m'.np cb) m'.np m'.pks ∧ RowIn w'.heap.size (.slice a m'.na ca) ∧ RowIn w'.heap.size (.slice b m'.np cb) ∧ RowFrom w.heap.size (.slice a m'.na ca) ∧ RowFrom w.heap.size (.slice b m'.np cb) ∧ e = .returned (.tuple #[msgV m' (.slice a m'.na ca) (.slice b m'.np cb), .int .i64 0]) ∧ w.grownBy w' none := by
    intro w
    rw [hs]
    refine (hw w).mono ?_
    rintro e w' ⟨hg, ⟨hn, _⟩ | ⟨_, v, ⟨av, pv, rfl, p1, p2, p3, p4, p5, p6⟩, rfl⟩⟩
    · exact absurd ⟨hcan.1, by rw [strI_eq, hcan.2]⟩ hn
    · obtain ⟨a, ca, rfl⟩ := p1.slice
      obtain ⟨b, cb, rfl⟩ := p2.slice
      exact ⟨a, b, ca, cb, p1, p2, p3, p4, p5, p6, rfl, hg⟩
  rw [← hs]
  have H := hide hdec
  have HS := hide hsame
  clear hw hdec hsame hcan hs hl hc
  obtain ⟨wa, hwa⟩ : ∃ wa, wa = w.alloc (.cells (mA (mz 0)) 45) := ⟨_, rfl⟩
  have RA : mBlk wa w.heap.size (mz 0) := by rw [hwa]; exact mBlk.alloc _ _
  have GA : w.grownBy wa none := by rw [hwa]; exact World.grownBy_alloc _ _ _
  unfold mA mz at hwa
  simp only [if_true, Nat.reduceEqDiff, if_false, Nat.reduceLT] at hwa
  go_enter Try.func15, Try.ntmps15
  go_wp2_with fail
  rw [← hwa]
  clear hwa
  refine (H.out wa).mono ?_
  rintro e w1 ⟨a, b, ca, cb, p1, p2, p3, p4, p5, p6, rfl, hg⟩
  have R1 := hide (RA.grown hg (by simp))
  have G1 := hide (grown_trans GA hg)
  have hwas : w.heap.size < wa.heap.size := (Array.getElem?_eq_some_iff.1 RA).1
  have P1 := hide p1
  have P2 := hide p2
  have P3 := hide p3
  have P4 := hide p4
  have P5 := hide p5
  have P6 := hide p6
  clear RA GA hg p1 p2 p3 p4 p5 p6
  obtain ⟨d0, d1, d2, d3, d4, d5, d6, d7, d8, d9⟩ := R1.out.tenCells
  have f0 := R1.out.frozen
  simp only [mz, if_true, Nat.reduceEqDiff, if_false, Nat.reduceLT] at d0 d1 d2 d3 d4 d5 d6 d7 d8 d9
  unfold msgV
  go_wp2
  change bodyPost _ _ _ _ _ (put10 w1 w.heap.size (mC m' (.slice a m'.na ca) (.slice b m'.np cb)))
  have hp := put10_blk R1.out (mC m' (.slice a m'.na ca) (.slice b m'.np cb))
  obtain ⟨e0, e1, e2, e3, e4, e5, e6, e7, e8, e9⟩ := hp.tenCells
  simp only [mC, if_true, Nat.reduceEqDiff, if_false, Nat.reduceLT, Nat.reduceSub] at e0 e1 e2 e3 e4 e5 e6 e7 e8 e9
  refine bodyPost_ret (v := .tuple #[msgV m' (.slice a m'.na ca) (.slice b m'.np cb), .int .i64 0]) (by unfold msgV; simp [results, Try.results15, go_sem, e0, e1, e2, e3, e4, e5, e6, e7, e8, e9]) rfl ?_
  have hsz6 := (put10_grown w1 w.heap.size (mC m' (.slice a m'.na ca) (.slice b m'.np cb))).size
  exact ⟨m', _, HS.out, ⟨_, _, rfl, P1.out.row (put10_grown _ _ _) P5.out hwas, P2.out.row (put10_grown _ _ _) P6.out hwas, P3.out.mono hsz6, P4.out.mono hsz6, P5.out.mono (Nat.le_of_lt hwas), P6.out.mono (Nat.le_of_lt hwas)⟩, rfl, grown_new G1.out (put10_grown _ _ _) (Nat.le_refl _)⟩
end Go.Proofs.Ytlhkfafdioakeaa
