/- Proved here: how bytes are read: a number, a packet, several packets. -/
import Derived.Test.YtlhkfafdioakeaaMsgF
import Derived.Handy
namespace Go.Proofs.Ytlhkfafdioakeaa
open Go.RowKit
set_option linter.unusedVariables false
set_option linter.unusedSimpArgs false
/-- The byte at a place (0 behind the end). -/
def byt (s : ByteArray) (i : Nat) : Int := if h : i < s.size then ((s[i]'h).toNat : Int) else 0
theorem byt_lt (s : ByteArray) (i : Nat) (h : i < s.size) : byt s i = ((s[i]'h).toNat : Int) := by simp [byt, h]
theorem byt_range (s : ByteArray) (i : Nat) : 0 ≤ byt s i ∧ byt s i ≤ 255 := by
  unfold byt
  split
  · rename_i h
    have := (s[i]'h).toNat_lt
    omega
  · omega

theorem or_two (x y : Nat) (hx : x < 256) (hy : y < 256) : bits .or .i64 ((x * 256 : Nat) : Int) (y : Int) = ((x * 256 + y : Nat) : Int) := by
  show IntKind.i64.wrap ((BitVec.ofInt 64 ((x * 256 : Nat) : Int) ||| BitVec.ofInt 64 (y : Int)).toNat : Int) = _
  have e : x * 256 ||| y = x * 256 + y := by
    have := Nat.two_pow_add_eq_or_of_lt (i := 8) (b := y) (by omega) x
    rw [Nat.mul_comm] at this
    exact this.symm
  rw [BitVec.toNat_or, BitVec.ofInt_natCast, BitVec.ofInt_natCast, BitVec.toNat_ofNat, BitVec.toNat_ofNat, Nat.mod_eq_of_lt (by omega), Nat.mod_eq_of_lt (by omega), e]
  simp [IntKind.wrap, IntKind.bits, IntKind.signed]
  split <;> omega
theorem two_val (a b : UInt8) : bits .or .i64 (wrap64 (wrap64 (a.toNat : Int) * 256)) (wrap64 (b.toNat : Int)) = (a.toNat : Int) * 256 + (b.toNat : Int) := by
  have ha := a.toNat_lt
  have hb := b.toNat_lt
  rw [show wrap64 (a.toNat : Int) = (a.toNat : Int) by unfold wrap64; omega, show wrap64 (b.toNat : Int) = (b.toNat : Int) by unfold wrap64; omega,
    show wrap64 ((a.toNat : Int) * 256) = ((a.toNat * 256 : Nat) : Int) by unfold wrap64; omega, or_two _ _ (by omega) (by omega)]
  omega
set_option maxRecDepth 100000 in
set_option maxHeartbeats 1000000 in
theorem two_any (s : ByteArray) (w : World) (h : 2 ≤ s.size) :
    Calls Try.prog 42 #[.string s] w fun e w' => e = .returned (.int .i64 (byt s 0 * 256 + byt s 1)) ∧ ∃ n, w' = w.drewN n := by
  have h0 : 0 < s.size := by omega
  have h1 : 1 < s.size := by omega
  have H0 : Hid (byt s 0 = ((s[0]'h0).toNat : Int)) := byt_lt s 0 h0
  have H1 : Hid (byt s 1 = ((s[1]'h1).toNat : Int)) := byt_lt s 1 h1
  have h2 : (0 : Int) < s.size := by omega
  have h3 : (1 : Int) < s.size := by omega
  go_enter Try.func42, Try.ntmps42
  go_wp2_with fail
  go_quiet (fail)
  go_wp2
  go_ret
  refine ⟨?_, _, rfl⟩
  rw [H0.out, H1.out]
  exact congrArg (fun x => Ending.returned (Value.int .i64 x)) (two_val _ _)
/-- A byte with its sign. -/
def sg (c : Int) : Int := if c < 128 then c else c - 256
theorem sg_val (b : UInt8) : wrap64 (IntKind.i8.wrap (b.toNat : Int)) = sg (b.toNat : Int) := by
  have hb := b.toNat_lt
  unfold sg wrap64
  simp [IntKind.wrap, IntKind.bits, IntKind.signed]
  split <;> split <;> omega
theorem step_set {k : Nat → Int} {j : Nat} {x : Int} (h : x = k j) : (fun i => if i = j then x else (if i < j then k i else 0)) = fun i => if i < j + 1 then k i else 0 := by
  funext i
  by_cases e : i = j
  · subst e; simp [h]
  · by_cases e2 : i < j
    · simp [e, e2, show i < j + 1 by omega]
    · simp [e, e2, show ¬ i < j + 1 by omega]
/-- A packet is laid into a block. -/
def put6 (w : World) (b : Nat) (k : Nat → Int) : World :=
  (((((w.setCell ⟨b, 0, none⟩ (.int .i64 (k 0))).setCell ⟨b, 1, none⟩ (.int .i64 (k 1))).setCell ⟨b, 2, none⟩ (.int .i64 (k 2))).setCell ⟨b, 3, none⟩ (.int .i64 (k 3))).setCell ⟨b, 4, none⟩ (.int .i64 (k 4))).setCell ⟨b, 5, none⟩ (.int .i64 (k 5))
theorem put6_blk {w : World} {b : Nat} {k0 : Nat → Int} (h : pkBlk w b k0) (k : Nat → Int) : pkBlk (put6 w b k) b k := by
  unfold put6
  unfold pkBlk at h
  unfold pkBlk
  rw [heap_set (heap_set (heap_set (heap_set (heap_set (heap_set h 0 _) 1 _) 2 _) 3 _) 4 _) 5 _]
  rfl
theorem put6_grown (w : World) (b : Nat) (k : Nat → Int) : w.grownBy (put6 w b k) (some b) :=
  grown_trans (grown_trans (grown_trans (grown_trans (grown_trans (grown_set _ _ _ _) (grown_set _ _ _ _)) (grown_set _ _ _ _)) (grown_set _ _ _ _)) (grown_set _ _ _ _)) (grown_set _ _ _ _)
set_option maxRecDepth 100000 in
set_option maxHeartbeats 1000000 in
theorem one_any (s : ByteArray) (w : World) (h : 6 ≤ s.size) :
    Calls Try.prog 53 #[.string s] w fun e w' => e = .returned (pkV (fun i => sg (byt s i))) ∧ w.grownBy w' none := by
  have HZ := hide (pkBlk.alloc (w.alloc (.cells #[.int .i64 0, .int .i64 0, .int .i64 0, .int .i64 0, .int .i64 0, .int .i64 0] 27)) (fun _ => 0))
  unfold pkV pkA at *
  obtain ⟨k, hk⟩ : ∃ k : Nat → Int, k = fun i => sg (byt s i) := ⟨_, rfl⟩
  rw [show (fun i => sg (byt s i)) = k from hk.symm]
  have HK := hide hk
  clear hk
  have HS := hide h
  go_enter Try.func53, Try.ntmps53
  go_wp2
  go_loopw [5] (fun i wr => ∃ j : Nat, j ≤ 6 ∧ i = .int .i64 j ∧ pkBlk wr (w.heap.size + 1) (fun i => if i < j then k i else 0) ∧ pkBlk wr w.heap.size (fun _ => 0) ∧ w.grownBy wr none) (fun i _ => 6 - (intOf i).toNat)
  case atStart =>
    refine ⟨0, by omega, rfl, ?_, ?_, grown_trans (World.grownBy_alloc _ _ _) (World.grownBy_alloc _ _ _)⟩
    · have := HZ.out
      simpa using this
    · exact (pkBlk.alloc w (fun _ => 0)).grown (World.grownBy_alloc _ _ none) (by simp)
  case round =>
    obtain ⟨j, hj, rfl, hb, hb0, hg⟩ := hrel
    have HB := hide hb
    have HB0 := hide hb0
    have HG := hide hg
    clear hb hb0 hg
    by_cases hlt : j < 6
    · have hjs : j < s.size := by omega
      have hjs2 : (j : Int) < s.size := by omega
      have c1 := HB.out.cell j hlt
      have c2 := HB.out.frozen j
      rw [if_neg (Nat.lt_irrefl j)] at c1
      go_wp2
      go_roundw
      case rel =>
        have hset := HB.out.set j hlt (wrap64 (IntKind.i8.wrap (s[j].toNat : Int)))
        rw [step_set (by rw [HK.out]; show _ = sg (byt s j); rw [byt_lt s j hjs]; exact sg_val _)] at hset
        exact ⟨j + 1, by omega, by go_num, hset, HB0.out.grown (grown_set _ _ _ _) (by simp), grown_new HG.out (grown_set _ _ _ _) (by omega)⟩
      case measure => simp [intOf]; omega
    · obtain rfl : j = 6 := by omega
      have c0 := HB.out.cell 0 (by omega)
      have c1 := HB.out.cell 1 (by omega)
      have c2 := HB.out.cell 2 (by omega)
      have c3 := HB.out.cell 3 (by omega)
      have c4 := HB.out.cell 4 (by omega)
      have c5 := HB.out.cell 5 (by omega)
      simp only [show (0 : Nat) < 6 by omega, show (1 : Nat) < 6 by omega, show (2 : Nat) < 6 by omega, show (3 : Nat) < 6 by omega, show (4 : Nat) < 6 by omega, show (5 : Nat) < 6 by omega, if_true] at c0 c1 c2 c3 c4 c5
      have d0 := HB0.out.cell 0 (by omega)
      have d1 := HB0.out.cell 1 (by omega)
      have d2 := HB0.out.cell 2 (by omega)
      have d3 := HB0.out.cell 3 (by omega)
      have d4 := HB0.out.cell 4 (by omega)
      have d5 := HB0.out.cell 5 (by omega)
      have f0 := HB0.out.frozen
      go_wp2
      change bodyPost _ _ _ _ _ (put6 wr w.heap.size k)
      have hp := put6_blk HB0.out k
      have e0 := hp.cell 0 (by omega)
      have e1 := hp.cell 1 (by omega)
      have e2 := hp.cell 2 (by omega)
      have e3 := hp.cell 3 (by omega)
      have e4 := hp.cell 4 (by omega)
      have e5 := hp.cell 5 (by omega)
      refine bodyPost_ret (v := .agg #[.int .i64 (k 0), .int .i64 (k 1), .int .i64 (k 2), .int .i64 (k 3), .int .i64 (k 4), .int .i64 (k 5)]) (by simp [results, Try.results53, go_sem, e0, e1, e2, e3, e4, e5]) rfl ?_
      exact ⟨rfl, grown_new HG.out (put6_grown _ _ _) (Nat.le_refl _)⟩
end Go.Proofs.Ytlhkfafdioakeaa
