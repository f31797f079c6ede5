/- Proved here: which lists of packets, and which rules, the program takes for right. -/
import Derived.Test.YtlhkfafdioakeaaMsgA
import Derived.ChangeKeysEq
namespace Go.Proofs.Ytlhkfafdioakeaa
open Go.RowKit
set_option linter.unusedVariables false
set_option linter.unusedSimpArgs false
def eq6 (a0 a1 a2 a3 a4 a5 b0 b1 b2 b3 b4 b5 : Int) : Bool := a0 == b0 && (a1 == b1 && (a2 == b2 && (a3 == b3 && (a4 == b4 && (a5 == b5)))))
theorem Try.part6 (a0 a1 a2 a3 a4 a5 : Int) (i : Nat) (h : i < 6) (w : World) : (part 3 #[.int .i64 a0, .int .i64 a1, .int .i64 a2, .int .i64 a3, .int .i64 a4, .int .i64 a5] i).run Try.prog w = .ok (.int .i64 (match i with | 0 => a0 | 1 => a1 | 2 => a2 | 3 => a3 | 4 => a4 | _ => a5)) w := by
  rcases (show i = 0 ∨ i = 1 ∨ i = 2 ∨ i = 3 ∨ i = 4 ∨ i = 5 by omega) with rfl | rfl | rfl | rfl | rfl | rfl <;> kernel_rfl
@[go_sem] theorem Try.eqPk (a0 a1 a2 a3 a4 a5 b0 b1 b2 b3 b4 b5 : Int) (w : World) :
    Sem.run Try.prog (Op.equalIn 10000 27 (.agg #[.int .i64 a0, .int .i64 a1, .int .i64 a2, .int .i64 a3, .int .i64 a4, .int .i64 a5]) (.agg #[.int .i64 b0, .int .i64 b1, .int .i64 b2, .int .i64 b3, .int .i64 b4, .int .i64 b5])) w = .ok (eq6 a0 a1 a2 a3 a4 a5 b0 b1 b2 b3 b4 b5) w := by
  obtain ⟨i0, hi0⟩ : ∃ i0, Try.prog.info? 3 = some i0 := by
    cases h : Try.prog.info? 3 with
    | none => exact absurd h (by have : (Try.prog.info? 3).isSome = true := by kernel_rfl
                                 intro e; rw [e] at this; cases this)
    | some i => exact ⟨i, rfl⟩
  have hu : Try.prog.underlying 27 = some (.array 6 3) := by kernel_rfl
  have hc : Try.prog.cellsOf 3 = 1 := by kernel_rfl
  have h3 : Try.prog.underlying 3 = some (.int .i64) := by kernel_rfl
  rw [run_equalIn_array w 9999 _ _ hu hi0, hc]
  rw [show List.range 6 = [0, 1, 2, 3, 4, 5] from rfl]
  have hs : ∀ x y : Int, ∀ w : World, (Op.equalIn 9999 3 (.int .i64 x) (.int .i64 y)).run Try.prog w = .ok (x == y) w := fun x y w => run_equalIn_int w 9998 3 .i64 .i64 x y h3
  have st : ∀ (i : Nat) (is : List Nat) (x y : Int), i < 6 → (part 3 #[.int .i64 a0, .int .i64 a1, .int .i64 a2, .int .i64 a3, .int .i64 a4, .int .i64 a5] i).run Try.prog w = .ok (.int .i64 x) w → (part 3 #[.int .i64 b0, .int .i64 b1, .int .i64 b2, .int .i64 b3, .int .i64 b4, .int .i64 b5] i).run Try.prog w = .ok (.int .i64 y) w →
      (Op.eqItems 9999 3 1 #[.int .i64 a0, .int .i64 a1, .int .i64 a2, .int .i64 a3, .int .i64 a4, .int .i64 a5] #[.int .i64 b0, .int .i64 b1, .int .i64 b2, .int .i64 b3, .int .i64 b4, .int .i64 b5] (i :: is)).run Try.prog w = if (x == y) = true then (Op.eqItems 9999 3 1 #[.int .i64 a0, .int .i64 a1, .int .i64 a2, .int .i64 a3, .int .i64 a4, .int .i64 a5] #[.int .i64 b0, .int .i64 b1, .int .i64 b2, .int .i64 b3, .int .i64 b4, .int .i64 b5] is).run Try.prog w else .ok false w := by
    intro i is x y hi h1 h2
    rw [Op.eqItems]
    simp only [Sem.run_bind, Nat.mul_one, h1, h2, Result.andThen_ok, hs]
    cases x == y <;> simp [Sem.run_pure]
  have p := fun i h => Try.part6 a0 a1 a2 a3 a4 a5 i h w
  have q := fun i h => Try.part6 b0 b1 b2 b3 b4 b5 i h w
  rw [st 0 _ _ _ (by decide) (p 0 (by decide)) (q 0 (by decide)), st 1 _ _ _ (by decide) (p 1 (by decide)) (q 1 (by decide)), st 2 _ _ _ (by decide) (p 2 (by decide)) (q 2 (by decide)), st 3 _ _ _ (by decide) (p 3 (by decide)) (q 3 (by decide)), st 4 _ _ _ (by decide) (p 4 (by decide)) (q 4 (by decide)), st 5 _ _ _ (by decide) (p 5 (by decide)) (q 5 (by decide))]
  have e : (Op.eqItems 9999 3 1 #[.int .i64 a0, .int .i64 a1, .int .i64 a2, .int .i64 a3, .int .i64 a4, .int .i64 a5] #[.int .i64 b0, .int .i64 b1, .int .i64 b2, .int .i64 b3, .int .i64 b4, .int .i64 b5] []).run Try.prog w = .ok true w := by simp [Op.eqItems, Sem.run_pure]
  rw [e]
  unfold eq6
  clear e st p q hs
  cases a0 == b0 <;> cases a1 == b1 <;> cases a2 == b2 <;> cases a3 == b3 <;> cases a4 == b4 <;> cases a5 == b5 <;> rfl
/-- A list of packets in a world: how many, and which. -/
def PkRow (w : World) (v : Value) (n : Nat) (ps : Nat → Nat → Int) : Prop :=
  (v = .slice none 0 0 ∧ n = 0) ∨ ∃ g off cap, v = .slice (some ⟨g, off, none⟩) n cap ∧ n ≤ 3000000000000 ∧ ∀ j, j < n → ∀ i, i < 6 → w.cell? ⟨g, off + j * 6 + i, none⟩ = some (.int .i64 (ps j i))
theorem PkRow.grown {w w' : World} {v : Value} {n : Nat} {ps : Nat → Nat → Int} (h : PkRow w v n ps) (hg : w.grownBy w' none) : PkRow w' v n ps := by
  rcases h with h | ⟨g, off, cap, h1, h2, h3⟩
  · exact .inl h
  · exact .inr ⟨g, off, cap, h1, h2, fun j hj i hi => hg.cell (h3 j hj i hi) (by simp)⟩
set_option maxRecDepth 100000 in
set_option maxHeartbeats 1000000 in
theorem allR_any (p : (Nat → Int) → Prop) (hfn : ∀ k w, Calls Try.prog 51 #[pkV k] w (Says (p k) w)) (v : Value) (n : Nat) (ps : Nat → Nat → Int) (w : World) (h : PkRow w v n ps) :
    Calls Try.prog 50 #[v, .func (.func 51) #[] #[]] w (Says (∀ j, j < n → p (ps j)) w) := by
  rcases h with ⟨rfl, rfl⟩ | ⟨g, off, cap, rfl, hn, hcell⟩
  · go_enter Try.func50, Try.ntmps50
    go_wp2
    go_loopw [9] (fun i wr => i = .int .i64 0 ∧ wr = w) (fun i _ => 0)
    case atStart => exact ⟨rfl, rfl⟩
    case round =>
      obtain ⟨rfl, rfl⟩ := hrel
      go_wp2
      go_ret
      exact ⟨⟨true, rfl, by simp⟩, grown_refl _ _⟩
  · have HF := hide hfn
    have HC := hide hcell
    clear hfn hcell
    unfold pkV pkA at HF
    go_enter Try.func50, Try.ntmps50
    go_wp2
    go_loopw [9] (fun i wr => ∃ j : Nat, j ≤ n ∧ i = .int .i64 j ∧ (∀ i, i < j → p (ps i)) ∧ w.grownBy wr none) (fun i _ => n - (intOf i).toNat)
    case atStart => exact ⟨0, by omega, rfl, fun i hi => by omega, grown_refl _ _⟩
    case round =>
      obtain ⟨j, hj, rfl, hok, hg⟩ := hrel
      have HOK := hide hok
      have HG := hide hg
      clear hok hg
      by_cases hlt : j < n
      · obtain ⟨k, hk⟩ : ∃ k, k = ps j := ⟨_, rfl⟩
        have c0 : wr.cell? ⟨g, off + j * 6, none⟩ = some (.int .i64 (k 0)) := by rw [hk]; exact HG.out.cell (HC.out j hlt 0 (by omega)) (by simp)
        have c1 : wr.cell? ⟨g, off + j * 6 + 1, none⟩ = some (.int .i64 (k 1)) := by rw [hk]; exact HG.out.cell (HC.out j hlt 1 (by omega)) (by simp)
        have c2 : wr.cell? ⟨g, off + j * 6 + 2, none⟩ = some (.int .i64 (k 2)) := by rw [hk]; exact HG.out.cell (HC.out j hlt 2 (by omega)) (by simp)
        have c3 : wr.cell? ⟨g, off + j * 6 + 3, none⟩ = some (.int .i64 (k 3)) := by rw [hk]; exact HG.out.cell (HC.out j hlt 3 (by omega)) (by simp)
        have c4 : wr.cell? ⟨g, off + j * 6 + 4, none⟩ = some (.int .i64 (k 4)) := by rw [hk]; exact HG.out.cell (HC.out j hlt 4 (by omega)) (by simp)
        have c5 : wr.cell? ⟨g, off + j * 6 + 5, none⟩ = some (.int .i64 (k 5)) := by rw [hk]; exact HG.out.cell (HC.out j hlt 5 (by omega)) (by simp)
        have HK := hide hk
        clear hk
        go_wp2_with fail
        refine (HF.out k _).mono ?_
        rintro e w1 ⟨⟨b, rfl, hb⟩, hg1⟩
        have G1 := hide hg1
        have HB := hide hb
        clear hb hg1
        cases b
        · go_wp2
          go_ret
          exact ⟨⟨false, rfl, by simp; exact ⟨j, hlt, fun h => by have := HB.out.2 (by rw [HK.out]; exact h); simp at this⟩⟩, grown_trans (grown_trans HG.out (World.grownBy_alloc _ _ _)) G1.out⟩
        · go_wp2
          go_roundw
          case rel => exact ⟨j + 1, by omega, by go_num, fun i hi => by
            by_cases e : i = j
            · subst e; rw [← HK.out]; exact HB.out.1 (by simp)
            · exact HOK.out i (by omega), grown_trans (grown_trans HG.out (World.grownBy_alloc _ _ _)) G1.out⟩
          case measure => simp [intOf]; omega
      · go_wp2
        go_ret
        exact ⟨⟨true, rfl, by simp; intro i hi; exact HOK.out i (by omega)⟩, HG.out⟩
set_option maxRecDepth 100000 in
set_option maxHeartbeats 1000000 in
theorem allP_any (p : (Nat → Int) → Prop) (hfn : ∀ k w, Calls Try.prog 58 #[pkV k] w (Says (p k) w)) (v : Value) (n : Nat) (ps : Nat → Nat → Int) (w : World) (h : PkRow w v n ps) :
    Calls Try.prog 50 #[v, .func (.func 58) #[] #[]] w (Says (∀ j, j < n → p (ps j)) w) := by
  rcases h with ⟨rfl, rfl⟩ | ⟨g, off, cap, rfl, hn, hcell⟩
  · go_enter Try.func50, Try.ntmps50
    go_wp2
    go_loopw [9] (fun i wr => i = .int .i64 0 ∧ wr = w) (fun i _ => 0)
    case atStart => exact ⟨rfl, rfl⟩
    case round =>
      obtain ⟨rfl, rfl⟩ := hrel
      go_wp2
      go_ret
      exact ⟨⟨true, rfl, by simp⟩, grown_refl _ _⟩
  · have HF := hide hfn
    have HC := hide hcell
    clear hfn hcell
    unfold pkV pkA at HF
    go_enter Try.func50, Try.ntmps50
    go_wp2
    go_loopw [9] (fun i wr => ∃ j : Nat, j ≤ n ∧ i = .int .i64 j ∧ (∀ i, i < j → p (ps i)) ∧ w.grownBy wr none) (fun i _ => n - (intOf i).toNat)
    case atStart => exact ⟨0, by omega, rfl, fun i hi => by omega, grown_refl _ _⟩
    case round =>
      obtain ⟨j, hj, rfl, hok, hg⟩ := hrel
      have HOK := hide hok
      have HG := hide hg
      clear hok hg
      by_cases hlt : j < n
      · obtain ⟨k, hk⟩ : ∃ k, k = ps j := ⟨_, rfl⟩
        have c0 : wr.cell? ⟨g, off + j * 6, none⟩ = some (.int .i64 (k 0)) := by rw [hk]; exact HG.out.cell (HC.out j hlt 0 (by omega)) (by simp)
        have c1 : wr.cell? ⟨g, off + j * 6 + 1, none⟩ = some (.int .i64 (k 1)) := by rw [hk]; exact HG.out.cell (HC.out j hlt 1 (by omega)) (by simp)
        have c2 : wr.cell? ⟨g, off + j * 6 + 2, none⟩ = some (.int .i64 (k 2)) := by rw [hk]; exact HG.out.cell (HC.out j hlt 2 (by omega)) (by simp)
        have c3 : wr.cell? ⟨g, off + j * 6 + 3, none⟩ = some (.int .i64 (k 3)) := by rw [hk]; exact HG.out.cell (HC.out j hlt 3 (by omega)) (by simp)
        have c4 : wr.cell? ⟨g, off + j * 6 + 4, none⟩ = some (.int .i64 (k 4)) := by rw [hk]; exact HG.out.cell (HC.out j hlt 4 (by omega)) (by simp)
        have c5 : wr.cell? ⟨g, off + j * 6 + 5, none⟩ = some (.int .i64 (k 5)) := by rw [hk]; exact HG.out.cell (HC.out j hlt 5 (by omega)) (by simp)
        have HK := hide hk
        clear hk
        go_wp2_with fail
        refine (HF.out k _).mono ?_
        rintro e w1 ⟨⟨b, rfl, hb⟩, hg1⟩
        have G1 := hide hg1
        have HB := hide hb
        clear hb hg1
        cases b
        · go_wp2
          go_ret
          exact ⟨⟨false, rfl, by simp; exact ⟨j, hlt, fun h => by have := HB.out.2 (by rw [HK.out]; exact h); simp at this⟩⟩, grown_trans (grown_trans HG.out (World.grownBy_alloc _ _ _)) G1.out⟩
        · go_wp2
          go_roundw
          case rel => exact ⟨j + 1, by omega, by go_num, fun i hi => by
            by_cases e : i = j
            · subst e; rw [← HK.out]; exact HB.out.1 (by simp)
            · exact HOK.out i (by omega), grown_trans (grown_trans HG.out (World.grownBy_alloc _ _ _)) G1.out⟩
          case measure => simp [intOf]; omega
      · go_wp2
        go_ret
        exact ⟨⟨true, rfl, by simp; intro i hi; exact HOK.out i (by omega)⟩, HG.out⟩


def noAny (k : Nat → Int) (j i : Nat) : Int := if i < j ∧ k i = -1 then 0 else k i
theorem noAny_zero (k : Nat → Int) : noAny k 0 = k := by funext i; simp [noAny]
theorem noAny_yes {k : Nat → Int} {j : Nat} (h : k j = -1) : (fun i => if i = j then 0 else noAny k j i) = noAny k (j + 1) := by
  funext i
  by_cases e : i = j
  · subst e; simp [noAny, h]
  · simp only [if_neg e, noAny]
    by_cases e2 : i < j
    · simp [e2, show i < j + 1 by omega]
    · simp [e2, show ¬ i < j + 1 by omega]
theorem noAny_no {k : Nat → Int} {j : Nat} (h : k j ≠ -1) : noAny k j = noAny k (j + 1) := by
  funext i
  by_cases e : i = j
  · subst e; simp [noAny, h]
  · simp only [noAny]
    by_cases e2 : i < j
    · simp [e2, show i < j + 1 by omega]
    · simp [e2, show ¬ i < j + 1 by omega]
theorem noAny_right (k : Nat → Int) (h0 : k 0 = -1) : rightS (noAny k 6) ↔ openS k := by
  constructor
  · intro h
    refine ⟨h0, fun i hi => ?_⟩
    have := h i hi
    unfold okF noAny at this
    unfold okP
    by_cases e : k i = -1
    · omega
    · simp [hi, e] at this; omega
  · intro h i hi
    have := h.2 i hi
    unfold okP at this
    unfold okF noAny
    by_cases e : k i = -1
    · simp [hi, e]
    · simp [hi, e]; omega
set_option maxRecDepth 100000 in
set_option maxHeartbeats 1000000 in
theorem pat_any (k : Nat → Int) (w : World) : Calls Try.prog 58 #[pkV k] w (Says (openS k) w) := by
  have HB := hide (pkBlk.alloc w k)
  unfold pkA at HB
  unfold pkV pkA
  go_enter Try.func58, Try.ntmps58
  by_cases h0 : k 0 = -1
  · have H0 := hide h0
    have h1 : k 0 ≤ -1 := by omega
    have h2 : -1 ≤ k 0 := by omega
    clear h0
    go_wp2
    go_loopw [9] (fun i wr => ∃ j : Nat, j ≤ 6 ∧ i = .int .i64 j ∧ pkBlk wr w.heap.size (noAny k j) ∧ w.grownBy wr none) (fun i _ => 6 - (intOf i).toNat)
    case atStart => exact ⟨0, by omega, rfl, by rw [noAny_zero]; exact HB.out, World.grownBy_alloc _ _ _⟩
    case round =>
      obtain ⟨j, hj, rfl, hb, hg⟩ := hrel
      have HG := hide hg
      have HP := hide hb
      clear hg hb h1 h2
      by_cases hlt : j < 6
      · obtain ⟨x, hx⟩ : ∃ x, x = k j := ⟨_, rfl⟩
        have HX := hide hx
        have hix := Try.indexPk k j hlt wr
        rw [← hx] at hix
        clear hx
        by_cases h3 : x = -1
        · have H3 := hide h3
          have h4 : x ≤ -1 := by omega
          have h5 : -1 ≤ x := by omega
          clear h3
          have c1 := HP.out.cell j hlt
          have c2 := HP.out.frozen j
          go_wp2
          go_roundw
          case rel =>
            have := HP.out.set j hlt 0
            rw [noAny_yes (by rw [← HX.out]; exact H3.out)] at this
            exact ⟨j + 1, by omega, by go_num, this, grown_new HG.out (grown_set _ _ _ _) (Nat.le_refl _)⟩
          case measure => simp [intOf]; omega
        · go_wp2
          go_roundw
          case rel =>
            have := HP.out
            rw [noAny_no (by rw [← HX.out]; exact h3)] at this
            exact ⟨j + 1, by omega, by go_num, this, HG.out⟩
          case measure => simp [intOf]; omega
      · obtain rfl : j = 6 := by omega
        have c0 := HP.out.cell 0 (by omega)
        have c1 := HP.out.cell 1 (by omega)
        have c2 := HP.out.cell 2 (by omega)
        have c3 := HP.out.cell 3 (by omega)
        have c4 := HP.out.cell 4 (by omega)
        have c5 := HP.out.cell 5 (by omega)
        obtain ⟨q, hq⟩ : ∃ q, q = noAny k 6 := ⟨_, rfl⟩
        rw [← hq] at c0 c1 c2 c3 c4 c5
        have HQ := hide hq
        clear hq
        have HR := hide (right_any q wr)
        unfold pkV pkA at HR
        go_wp2_with fail
        refine HR.out.mono ?_
        rintro e w1 ⟨⟨b, rfl, hb⟩, hg1⟩
        have G1 := hide hg1
        have HB := hide hb
        clear hb hg1
        go_wp2
        go_ret
        exact ⟨⟨b, rfl, by rw [HB.out, HQ.out]; exact noAny_right k H0.out⟩, grown_trans HG.out G1.out⟩
  · go_wp2
    go_ret
    exact ⟨⟨false, rfl, by simp; intro hh; exact h0 hh.1⟩, World.grownBy_alloc _ _ _⟩
end Go.Proofs.Ytlhkfafdioakeaa
