/- Proved here: how the document reads a packet. -/
import Derived.Test.YtlhkfafdioakeaaMsgH
namespace Go.Proofs.Ytlhkfafdioakeaa
open Go.RowKit
set_option linter.unusedVariables false
set_option linter.unusedSimpArgs false
/-- A byte as the document reads it. -/
def rg (c : Int) : Int := if c = 255 then -1 else c
set_option maxRecDepth 100000 in
set_option maxHeartbeats 1000000 in
theorem rPacket_any (s : ByteArray) (w : World) (h : 6 ≤ s.size) :
    Calls Try.prog 34 #[.string s] w fun e w' => e = .returned (pkV (fun i => rg (byt s i))) ∧ w.grownBy w' none := by
  have HZ := hide (pkBlk.alloc (w.alloc (.cells #[.int .i64 0, .int .i64 0, .int .i64 0, .int .i64 0, .int .i64 0, .int .i64 0] 27)) (fun _ => 0))
  unfold pkV pkA at *
  obtain ⟨k, hk⟩ : ∃ k : Nat → Int, k = fun i => rg (byt s i) := ⟨_, rfl⟩
  rw [show (fun i => rg (byt s i)) = k from hk.symm]
  have HK := hide hk
  clear hk
  have HS := hide h
  go_enter Try.func34, Try.ntmps34
  go_wp2
  go_loopw [4] (fun i wr => ∃ j : Nat, j ≤ 6 ∧ i = .int .i64 j ∧ pkBlk wr (w.heap.size + 1) (fun i => if i < j then k i else 0) ∧ pkBlk wr w.heap.size (fun _ => 0) ∧ w.grownBy wr none) (fun i _ => 6 - (intOf i).toNat)
  case atStart =>
    refine ⟨0, by omega, rfl, ?_, ?_, grown_trans (World.grownBy_alloc _ _ _) (World.grownBy_alloc _ _ _)⟩
    · have := HZ.out
      simpa using this
    · exact (pkBlk.alloc w (fun _ => 0)).grown (World.grownBy_alloc _ _ none) (by simp)
  case round =>
    obtain ⟨j, hj, rfl, hb, hb0, hg⟩ := hrel
    have HB := hide hb
    have HB0 := hide hb0
    have HG := hide hg
    clear hb hb0 hg
    by_cases hlt : j < 6
    · have hjs : j < s.size := by omega
      have hjs2 : (j : Int) < s.size := by omega
      have c1 := HB.out.cell j hlt
      have c2 := HB.out.frozen j
      rw [if_neg (Nat.lt_irrefl j)] at c1
      have hset := fun x => HB.out.set j hlt x
      have HSET := hide hset
      clear hset
      have hcl := s[j].toNat_lt
      by_cases h255 : (s[j].toNat : Int) = 255
      · have hx : (-1 : Int) = k j := by rw [HK.out]; show _ = rg (byt s j); rw [byt_lt s j hjs, h255]; rfl
        have hbv : ((s[j].toNat : Int) == 255) = true := by rw [h255]; rfl
        have q1 := (HSET.out (s[j].toNat : Int))
        have q2 := q1.set j hlt (-1)
        have cA := q1.cell j hlt
        have fA := q1.frozen j
        simp only [if_true] at cA
        have HQ2 : Hid (pkBlk ((wr.setCell ⟨w.heap.size + 1, j, none⟩ (.int .i64 ((s[j].toNat : Int)))).setCell ⟨w.heap.size + 1, j, none⟩ (.int .i64 (-1))) (w.heap.size + 1) (fun i => if i < j + 1 then k i else 0)) := by
          have e : (fun i => if i = j then (-1 : Int) else if i = j then (s[j].toNat : Int) else if i < j then k i else 0) = fun i => if i < j + 1 then k i else 0 := by
            rw [← step_set hx]
            funext i
            by_cases e : i = j <;> simp [e]
          rw [← e]
          exact q2
        clear q1 q2 hx
        have H255 := hide h255
        clear h255
        go_wp2
        go_roundw
        case rel =>
          exact ⟨j + 1, by omega, by go_num, HQ2.out, (HB0.out.grown (grown_set _ _ _ _) (by simp)).grown (grown_set _ _ _ _) (by simp), grown_new (grown_new HG.out (grown_set _ _ _ _) (by omega)) (grown_set _ _ _ _) (by omega)⟩
        case measure => simp [intOf]; omega
      · have hx : (s[j].toNat : Int) = k j := by
          rw [HK.out]
          show _ = rg (byt s j)
          rw [byt_lt s j hjs]
          unfold rg
          rw [if_neg h255]
        have hbv : ((s[j].toNat : Int) == 255) = false := by simp [h255]
        have HX := hide hx
        clear hx
        go_wp2
        go_roundw
        case rel =>
          have hs2 := HSET.out (s[j].toNat : Int)
          rw [step_set HX.out] at hs2
          exact ⟨j + 1, by omega, by go_num, hs2, HB0.out.grown (grown_set _ _ _ _) (by simp), grown_new HG.out (grown_set _ _ _ _) (by omega)⟩
        case measure => simp [intOf]; omega
    · obtain rfl : j = 6 := by omega
      have c0 := HB.out.cell 0 (by omega)
      have c1 := HB.out.cell 1 (by omega)
      have c2 := HB.out.cell 2 (by omega)
      have c3 := HB.out.cell 3 (by omega)
      have c4 := HB.out.cell 4 (by omega)
      have c5 := HB.out.cell 5 (by omega)
      simp only [show (0 : Nat) < 6 by omega, show (1 : Nat) < 6 by omega, show (2 : Nat) < 6 by omega, show (3 : Nat) < 6 by omega, show (4 : Nat) < 6 by omega, show (5 : Nat) < 6 by omega, if_true] at c0 c1 c2 c3 c4 c5
      have d0 := HB0.out.cell 0 (by omega)
      have d1 := HB0.out.cell 1 (by omega)
      have d2 := HB0.out.cell 2 (by omega)
      have d3 := HB0.out.cell 3 (by omega)
      have d4 := HB0.out.cell 4 (by omega)
      have d5 := HB0.out.cell 5 (by omega)
      have f0 := HB0.out.frozen
      go_wp2
      change bodyPost _ _ _ _ _ (put6 wr w.heap.size k)
      have hp := put6_blk HB0.out k
      have e0 := hp.cell 0 (by omega)
      have e1 := hp.cell 1 (by omega)
      have e2 := hp.cell 2 (by omega)
      have e3 := hp.cell 3 (by omega)
      have e4 := hp.cell 4 (by omega)
      have e5 := hp.cell 5 (by omega)
      refine bodyPost_ret (v := .agg #[.int .i64 (k 0), .int .i64 (k 1), .int .i64 (k 2), .int .i64 (k 3), .int .i64 (k 4), .int .i64 (k 5)]) (by simp [results, Try.results34, go_sem, e0, e1, e2, e3, e4, e5]) rfl ?_
      exact ⟨rfl, grown_new HG.out (put6_grown _ _ _) (Nat.le_refl _)⟩
end Go.Proofs.Ytlhkfafdioakeaa
