/- GCo: several parts, each with what it proves in plain words at its head. -/
import Derived.Test.YtlhkfafdioakeaaGreatDoorMkHa
import Derived.Test.YtlhkfafdioakeaaGreatDoorMkHb
import Derived.Test.YtlhkfafdioakeaaGreatDoorMkHc
import Derived.Test.YtlhkfafdioakeaaGreatDoorSyW
import Derived.Test.YtlhkfafdioakeaaGreatDoorGMk
/- Proved here: the maker of the tables of a policy. -/
namespace Go.Proofs.YtlhkfafdioakeaaGreatDoor
open Go.RowKit Go.Weft
set_option linter.unusedVariables false
set_option linter.unusedSimpArgs false
theorem maker_any (ok : Nat → Prop) (t : Code) (v : Value) (st : Int) (pa : Option Addr) (pn pc : Nat) (w : World) (h : (TV ok w t).1 v) (ha : (atomsC t).length ≤ 1000) :
    Calls Tryz.prog 51 #[v, .agg #[.slice pa pn pc, .int .i64 st]] w fun x w' => ∃ r o, x = .returned (mkV (.slice pa pn pc) st r o) ∧ MkO (w.heap.size + 4) w' (atomsC t) r o ∧ w.grownBy w' none := by
  obtain ⟨i0, hi0, hz0, hz1, hz2⟩ := info_parts Tryz.infoIntF
  have CA := hide (fun ww (hg : w.grownBy ww none) => atoms_any ok (szC t) t v ww (Nat.le_refl _) (TV_kept h hg) (by omega))
  have HLT : Hid (∀ n, n ∈ atomsC t → 1 < n ∧ n < 386) := (atoms_lt t).1 v h
  obtain ⟨T, u, rfl⟩ := TV_iface h
  exact mkSkel.2.2.2 (fun _ => mkP1) (fun _ => mkP2) (fun _ => mkP3) ok st pa pn pc w i0 hi0 hz0 hz1 hz2 T u (atomsC t) ha HLT CA
end Go.Proofs.YtlhkfafdioakeaaGreatDoor
/- GComp: several parts, each with what it proves in plain words at its head. -/
/- Proved here: what weft.Compile answers for every text. -/
namespace Go.Proofs.YtlhkfafdioakeaaGreatDoor
open Go.RowKit Go.Weft
set_option linter.unusedVariables false
set_option linter.unusedSimpArgs false
/-- A policy in memory. -/
def PolAt (w : World) (b : Nat) (t : Code) : Prop :=
  ∃ n0 B pv r o, w.heap[b]? = some (.cells #[pv, .int .i64 ((flowOf t).1 : Int), pv, .int .i64 ((flowOf t).1 : Int), r 0, r 1, r 2, r 3, r 4, r 5, .int .i64 (o 0), .int .i64 (o 1), .int .i64 (o 2), .int .i64 (o 3), .int .i64 (o 4), .int .i64 (o 5)] 115 (0, 0)) ∧
    FlV n0 w pv (flowOf t).2 ∧ MkO B w (atomsC t) r o
theorem MkO.grown {B : Nat} {w w' : World} {A : List Nat} {r : Nat → Value} {o : Nat → Int} (h : MkO B w A r o) (hg : w.grownBy w' none) : MkO B w' A r o := fun f hf =>
  ⟨owns_same (h f hf).1 (fun g cs hv hb => hg.block g (Array.getElem?_eq_some_iff.1 hb).1 (by simp)), (h f hf).2⟩
def sA : Value → Option Addr
  | .slice a _ _ => a
  | _ => none
def sN : Value → Nat
  | .slice _ n _ => n
  | _ => 0
def sC : Value → Nat
  | .slice _ _ c => c
  | _ => 0
theorem cn_wt : ∀ t : Code, ((niceP t).1 = true → cn t ≤ wt t ∧ szC t ≤ wt t ∧ (atomsC t).length * 12 ≤ wt t) ∧ ((niceP t).2 = true → cn t + 6 * (elems t).length ≤ wt t ∧ szC t + 5 * (elems t).length ≤ wt t ∧ (atomsC t).length * 12 ≤ wt t) := by
  intro t
  induction t with
  | exit n =>
    refine ⟨fun _ => ⟨by simp [cn, wt], by simp [szC, wt], ?_⟩, fun h => by cases h⟩
    simp only [atomsC, wt]
    split <;> simp
  | skip => exact ⟨fun h => (by cases h), fun _ => ⟨by simp [cn, wt, elems], by simp [szC, wt, elems], by simp [atomsC]⟩⟩
  | loop t ih =>
    refine ⟨fun h => ?_, fun h => by cases h⟩
    have := ih.1 h
    simp only [cn, wt, szC, atomsC]
    omega
  | scope t ih =>
    refine ⟨fun h => ?_, fun h => by cases h⟩
    have h' : (isT t && (niceP t).1) = true := h
    rw [Bool.and_eq_true] at h'
    have := ih.1 h'.2
    simp only [cn, wt, szC, atomsC]
    omega
  | block k l ih =>
    refine ⟨fun h => ?_, fun h => by cases h⟩
    have h' : (decide (k ≤ 1) && (decide (2 ≤ (elems l).length) && (niceP l).2)) = true := h
    rw [Bool.and_eq_true, Bool.and_eq_true, decide_eq_true_eq, decide_eq_true_eq] at h'
    have := ih.2 h'.2.2
    simp only [cn, wt, szC, atomsC]
    omega
  | seq a b iha ihb =>
    refine ⟨fun h => (by cases h), fun h => ?_⟩
    have h' : ((niceP a).1 && (niceP b).2) = true := h
    rw [Bool.and_eq_true] at h'
    have h1 := iha.1 h'.1
    have h2 := ihb.2 h'.2
    simp only [cn, wt, szC, atomsC, elems, List.length_cons, List.length_append]
    omega
  | _ => exact ⟨fun h => (by cases h), fun h => by cases h⟩
set_option maxRecDepth 100000 in
set_option maxHeartbeats 400000 in
theorem compile_err (s : ByteArray) (w : World) (hn : Names w) (hs : s.size ≤ 9223372036854775807) (en : Int) (pl : Nat) (hr : readS s = .error (en, pl)) :
    Calls Tryz.prog 13 #[.string s] w fun x w' => x = .returned (.tuple #[.pointer none, .int .i64 en, .int .i64 pl]) ∧ w.grownBy w' none := by
  have hne := read_errno hr
  have H := policy_any s w hn hs
  rw [hr] at H
  have HH := hide H
  clear H hr hn
  go_enter Tryz.func13, Tryz.ntmps13
  go_wp2_with fail
  refine HH.out.mono ?_
  rintro x w1 ⟨hg, rfl⟩
  have G := hide hg
  clear hg
  go_wp2
  go_ret3
  exact ⟨rfl, G.out⟩
set_option maxRecDepth 100000 in
set_option maxHeartbeats 1000000 in
theorem compile_ok (s : ByteArray) (w : World) (hn : Names w) (hs : s.size ≤ 9223372036854775807) (t : Code) (hr : readS s = .ok t) :
    Calls Tryz.prog 13 #[.string s] w fun x w' => ∃ b, x = .returned (.tuple #[.pointer (some ⟨b, 0, none⟩), .int .i64 0, .int .i64 0]) ∧ PolAt w' b t ∧ w.heap.size ≤ b ∧ w.grownBy w' none := by
  obtain ⟨hni, hw⟩ := readS_nice hr
  obtain ⟨hcn, hsz, hat⟩ := (cn_wt t).1 hni
  have H := policy_any s w hn hs
  rw [hr] at H
  have HH := hide H
  clear H hr hn
  go_enter Tryz.func13, Tryz.ntmps13
  go_wp2_with fail
  refine HH.out.mono ?_
  rintro x w1 ⟨hg, v, rfl, ht⟩
  have CN := hide (new_any _ t v w1 ht (by omega) (by omega))
  have HT := hide ht
  obtain ⟨T, u, rfl⟩ := TV_iface ht
  have G := hide hg
  clear hg ht
  go_wp2_with fail
  refine CN.out.mono ?_
  clear CN
  rintro x w2 ⟨pv, rfl, fv, g2⟩
  obtain ⟨dv, sv, hrow, _⟩ := id fv
  obtain ⟨pa, pc, rfl⟩ := owns_sl hrow
  have FV := hide fv
  have G2 := hide (grown_trans G.out g2)
  have HT2 := hide (TV_kept HT.out g2)
  clear hrow fv g2
  obtain ⟨L, hL⟩ : ∃ L, L = (flowOf t).2.length := ⟨_, rfl⟩
  obtain ⟨q, hq⟩ : ∃ q : Int, q = ((flowOf t).1 : Int) := ⟨_, rfl⟩
  have CM : Hid (∀ ww, w2.grownBy ww none → Calls Tryz.prog 51 #[.iface T u, .agg #[.slice pa L pc, .int .i64 q]] ww fun x w' => ∃ r o, x = .returned (.agg #[.slice pa L pc, .int .i64 q, .slice (sA (r 0)) (sN (r 0)) (sC (r 0)), .slice (sA (r 1)) (sN (r 1)) (sC (r 1)), .slice (sA (r 2)) (sN (r 2)) (sC (r 2)), .slice (sA (r 3)) (sN (r 3)) (sC (r 3)), .slice (sA (r 4)) (sN (r 4)) (sC (r 4)), .slice (sA (r 5)) (sN (r 5)) (sC (r 5)), .int .i64 (o 0), .int .i64 (o 1), .int .i64 (o 2), .int .i64 (o 3), .int .i64 (o 4), .int .i64 (o 5)]) ∧ (MkO (ww.heap.size + 4) w' (atomsC t) r o ∧ (∀ f, f < 6 → r f = .slice (sA (r f)) (sN (r f)) (sC (r f)))) ∧ w2.grownBy w' none ∧ ww.grownBy w' none) := fun ww hg => by
    rw [hL, hq]
    refine (maker_any _ t _ _ pa _ pc ww (TV_kept HT2.out hg) (by omega)).mono ?_
    rintro x w' ⟨r, o, rfl, mo, g6⟩
    have hr : ∀ f, f < 6 → r f = .slice (sA (r f)) (sN (r f)) (sC (r f)) := fun f hf => by
      obtain ⟨a, c, e⟩ := owns_sl (mo f hf).1
      rw [e]; rfl
    refine ⟨r, o, ?_, ⟨mo, hr⟩, grown_trans hg g6, g6⟩
    unfold mkV
    rw [← hr 0 (by decide), ← hr 1 (by decide), ← hr 2 (by decide), ← hr 3 (by decide), ← hr 4 (by decide), ← hr 5 (by decide)]
  have HLQ : Hid (L = (flowOf t).2.length ∧ q = ((flowOf t).1 : Int)) := ⟨hL, hq⟩
  rw [← hL] at FV
  rw [← hL, ← hq]
  clear hL hq
  go_upto_region 5 with fail
  obtain ⟨w5, hw5⟩ : ∃ w5, w5 = w2.alloc (.cells #[.slice pa L pc, .int .i64 q] 108) := ⟨_, rfl⟩
  have hg5 : w2.grownBy w5 none := by rw [hw5]; exact World.grownBy_alloc _ _ _
  have x0 : w5.cell? ⟨w2.heap.size, 0, none⟩ = some (.slice pa L pc) := by rw [hw5]; simp
  have x1 : w5.cell? ⟨w2.heap.size, 1, none⟩ = some (.int .i64 q) := by rw [hw5]; simp
  rw [← hw5]
  clear hw5
  go_region_with (go_at_call 51; refine (CM.out _ (by first | exact grown_drew hg5 | exact hg5)).mono ?_; rintro x w6 ⟨r, o, rfl, mo, g6, g7⟩; have e0 : w6.cell? ⟨w2.heap.size, 0, none⟩ = some (.slice pa L pc) := g7.cell x0 (by simp); have e1 : w6.cell? ⟨w2.heap.size, 1, none⟩ = some (.int .i64 q) := g7.cell x1 (by simp); have MO := hide mo; have G6 := hide g6; clear mo g6 g7)
  all_goals
    go_wp2
    go_ret3
    refine ⟨w6.heap.size, rfl, ⟨_, _, _, r, o, ?_, FV.out.grown (grown_trans G6.out (World.grownBy_alloc _ _ _)), MO.out.1.grown (World.grownBy_alloc _ _ _)⟩, ?_, grown_trans (grown_trans G2.out G6.out) (World.grownBy_alloc _ _ _)⟩
    · rw [← HLQ.out.2, MO.out.2 0 (by decide), MO.out.2 1 (by decide), MO.out.2 2 (by decide), MO.out.2 3 (by decide), MO.out.2 4 (by decide), MO.out.2 5 (by decide)]
      exact heap_alloc_new _ _
    · have h1 := G2.out.size
      have h2 := G6.out.size
      omega
end Go.Proofs.YtlhkfafdioakeaaGreatDoor
