/- Proved here: what a rule of the document's matches; a set with a packet more. -/
import Derived.Test.YtlhkfafdioakeaaLkH
import Derived.Deep.CutBlock
namespace Go.Proofs.Ytlhkfafdioakeaa
open Go.RowKit
set_option linter.unusedVariables false
set_option linter.unusedSimpArgs false
/-- A block that holds a rule. -/
def rlBlk (w : World) (b : Nat) (p : Int) (mt : Nat → Int) (v : Value) : Prop := w.heap[b]? = some (.cells (rlA p mt v) 29 (0, 0))
theorem rlBlk.cell {w : World} {b : Nat} {p : Int} {mt : Nat → Int} {v : Value} (h : rlBlk w b p mt v) (i : Nat) (hi : i < 6) : w.cell? ⟨b, i + 1, none⟩ = some (.int .i64 (mt i)) := by
  unfold rlBlk at h
  simp only [World.cell?, h]
  rcases (show i = 0 ∨ i = 1 ∨ i = 2 ∨ i = 3 ∨ i = 4 ∨ i = 5 by omega) with rfl | rfl | rfl | rfl | rfl | rfl <;> rfl
theorem rlBlk.grown {w w' : World} {b : Nat} {p : Int} {mt : Nat → Int} {v : Value} {row : Option Nat} (h : rlBlk w b p mt v) (hg : w.grownBy w' row) (hr : row ≠ some b) : rlBlk w' b p mt v := by
  unfold rlBlk at *
  rw [hg.block b (Array.getElem?_eq_some_iff.1 h).1 hr.symm, h]
/-- A rule as a value. -/
def rlV (p : Int) (mt : Nat → Int) (v : Value) : Value := .agg (rlA p mt v)
set_option maxRecDepth 100000 in
set_option maxHeartbeats 1000000 in
theorem rMatches_any (p : Int) (m k : Nat → Int) (a : Option Addr) (n c : Nat) (w : World) : Calls Try.prog 23 #[rlV p m (.slice a n c), pkV k] w (Says (matchS m k) w) := by
  obtain ⟨w1, hw1⟩ : ∃ w1, w1 = w.alloc (.cells (rlA p m (.slice a n c)) 29) := ⟨_, rfl⟩
  obtain ⟨w2, hw2⟩ : ∃ w2, w2 = w1.alloc (.cells (pkA k) 27) := ⟨_, rfl⟩
  have B1 : Hid (rlBlk w2 w.heap.size p m (.slice a n c)) := by
    rw [hw2, hw1]
    exact rlBlk.grown (heap_alloc_new w _) (World.grownBy_alloc _ _ none) (by simp)
  have B2 : Hid (pkBlk w2 (w.heap.size + 1) k) := by
    have z : w1.heap.size = w.heap.size + 1 := by rw [hw1]; simp
    rw [hw2, ← z]; exact pkBlk.alloc w1 k
  have G2 : Hid (w.grownBy w2 none) := by rw [hw2, hw1]; exact grown_trans (World.grownBy_alloc _ _ _) (World.grownBy_alloc _ _ _)
  rw [hw1] at hw2
  clear hw1
  unfold pkA rlA at hw2
  unfold pkV pkA rlV rlA
  go_enter Try.func23, Try.ntmps23
  go_wp2
  rw [← hw2]
  clear hw2
  go_loopw [5] (fun i wr => ∃ j : Nat, 1 ≤ j ∧ j ≤ 6 ∧ i = .int .i64 j ∧ (∀ i, 1 ≤ i → i < j → m i = -1 ∨ m i = k i) ∧ rlBlk wr w.heap.size p m (.slice a n c) ∧ pkBlk wr (w.heap.size + 1) k ∧ w.grownBy wr none) (fun i _ => 6 - (intOf i).toNat)
  case atStart => exact ⟨1, by omega, by omega, rfl, fun i h1 h2 => by omega, B1.out, B2.out, G2.out⟩
  case round =>
    obtain ⟨j, hj1, hj, rfl, hok, b1, b2, hg⟩ := hrel
    have HOK := hide hok
    clear hok B1 B2 G2
    have B1 := hide b1
    have B2 := hide b2
    have G2 := hide hg
    clear b1 b2 hg
    by_cases hlt : j < 6
    · obtain ⟨x, hx⟩ : ∃ x, x = m j := ⟨_, rfl⟩
      obtain ⟨y, hy⟩ : ∃ y, y = k j := ⟨_, rfl⟩
      have c1 : wr.cell? ⟨w.heap.size, 1 + j, none⟩ = some (.int .i64 x) := by rw [hx, Nat.add_comm 1 j]; exact B1.out.cell j hlt
      have c2 : wr.cell? ⟨w.heap.size + 1, j, none⟩ = some (.int .i64 y) := by rw [hy]; exact B2.out.cell j hlt
      have HX := hide hx
      have HY := hide hy
      clear hx hy
      have hltI : (j : Int) < 6 := by omega
      by_cases h1 : x = -1
      · have hn2 : (x != -1) = false := by simp [h1]
        have H1 := hide h1
        clear h1
        go_wp2_with fail
        go_quiet (fail)
        go_wp2
        go_roundw
        case rel => exact ⟨j + 1, by omega, by omega, by go_num, fun i h1 h2 => by
          by_cases e : i = j
          · subst e; left; rw [← HX.out]; exact H1.out
          · exact HOK.out i h1 (by omega), B1.out, B2.out, grown_drewN G2.out _⟩
        case measure => simp [intOf]; omega
      · have hn2 : (x != -1) = true := by rw [bne_iff_ne]; exact h1
        by_cases h2 : x = y
        · subst h2
          go_wp2_with fail
          go_quiet (fail)
          go_wp2
          go_roundw
          case rel => exact ⟨j + 1, by omega, by omega, by go_num, fun i h1 h2 => by
            by_cases e : i = j
            · subst e; right; rw [← HX.out, ← HY.out]
            · exact HOK.out i h1 (by omega), B1.out, B2.out, grown_drewN G2.out _⟩
          case measure => simp [intOf]; omega
        · have hn3 : (x != y) = true := by rw [bne_iff_ne]; exact h2
          go_wp2_with fail
          go_quiet (fail)
          go_wp2
          go_ret
          exact ⟨⟨false, rfl, by
            simp only [Bool.false_eq_true, false_iff]
            intro hh
            rcases hh j hj1 hlt with e | e
            · exact h1 (by rw [HX.out]; exact e)
            · exact h2 (by rw [HX.out, HY.out]; exact e)⟩, grown_drewN G2.out _⟩
    · go_wp2
      go_ret
      exact ⟨⟨true, rfl, by
        simp only [true_iff]
        exact fun i h1 h2 => HOK.out i h1 (by omega)⟩, G2.out⟩
/-- What With comes to: the set with this packet in it. -/
def WithOut (B : Nat) (k : Nat → Int) (L : List (Nat → Int)) (w : World) (e : Ending) (w' : World) : Prop :=
  ∃ v n d b, Is (insS k L) n d ∧ OwnV B w' v n d ∧ e = .returned (.tuple #[v, .bool b]) ∧ w.grownBy w' none
theorem PkR.nil (w : World) (ps : Nat → Nat → Int) : PkR w (.slice none 0 0) 0 ps := .inl ⟨none, 0, rfl, rfl, fun _ => rfl⟩
theorem Own.cut {w : World} {g n cap : Nat} {ps : Nat → Nat → Int} (h : Own w g n cap ps) (i : Nat) (hi : i ≤ n) : PkR w (.slice (some ⟨g, 0, none⟩) i cap) i ps := (h.less hi).row.any
theorem Own.rest {w : World} {g n cap : Nat} {ps : Nat → Nat → Int} (h : Own w g n cap ps) (i : Nat) (hi : i ≤ n) (c : Nat) : PkR w (.slice (some ⟨g, i * 6, none⟩) (n - i) c) (n - i) (fun j => ps (i + j)) :=
  .inr ⟨g, i * 6, c, rfl, by have := h.cap; omega, fun j hj t ht => by
    rw [show i * 6 + j * 6 + t = (i + j) * 6 + t by omega]
    exact h.cell (i + j) (by omega) t ht⟩
/-- The cells of a new row with one packet. -/
theorem one_row (w : World) (k : Nat → Int) : PkR (w.alloc (.cells (pkA k) 27)) (.slice (some ⟨w.heap.size, 0, none⟩) 1 1) 1 (fun _ => k) :=
  .inr ⟨w.heap.size, 0, 1, rfl, by omega, fun j hj i hi => by
    obtain rfl : j = 0 := by omega
    rw [Nat.zero_mul, Nat.add_zero, Nat.zero_add]
    exact (pkBlk.alloc w k).cell i hi⟩
theorem with_is {L : List (Nat → Int)} {n i : Nat} {ps : Nat → Nat → Int} (h : Is L n ps) (hi : i ≤ n) (k : Nat → Int) : Is (L.take i ++ k :: L.drop i) (i + 1 + (n - i)) (cat (i + 1) (cat i ps fun _ => k) (fun j => ps (i + j))) := by
  have hl := h.len
  refine ⟨by simp; omega, fun j hj => ?_⟩
  unfold cat
  by_cases h1 : j < i
  · rw [List.getElem?_append_left (by simp; omega), List.getElem?_take_of_lt h1, h.get j (by omega), if_pos (by omega), if_pos h1]
  · rw [List.getElem?_append_right (by simp; omega), List.length_take, Nat.min_eq_left (by omega)]
    by_cases h2 : j = i
    · subst h2
      simp
    · obtain ⟨t, rfl⟩ : ∃ t, j = i + 1 + t := ⟨j - i - 1, by omega⟩
      rw [show i + 1 + t - i = t + 1 by omega, List.getElem?_cons_succ, List.getElem?_drop, if_neg (by omega), Nat.add_sub_cancel_left]
      exact h.get (i + t) (by omega)
set_option maxRecDepth 100000 in
set_option maxHeartbeats 2000000 in
theorem with_any (B : Nat) (v : Value) (n : Nat) (ps : Nat → Nat → Int) (L : List (Nat → Int)) (k : Nat → Int) (w : World) (h : OwnV B w v n ps) (hL : Is L n ps) (hn : n ≤ 1000000000000) (hB : B ≤ w.heap.size) :
    Calls Try.prog 24 #[v, pkV k] w (WithOut B k L w) := by
  obtain ⟨a, ca, rfl⟩ := h.slice
  have HP := hide h
  have HL := hide hL
  clear h hL
  have HQ : Hid (∀ e w', WithOut B k L w e w' ↔ ∃ v n d b, Is (insS k L) n d ∧ OwnV B w' v n d ∧ e = .returned (.tuple #[v, .bool b]) ∧ w.grownBy w' none) := fun _ _ => Iff.rfl
  generalize WithOut B k L w = Q at HQ ⊢
  obtain ⟨w1, hw1⟩ : ∃ w1, w1 = w.alloc (.cells (pkA k) 27) := ⟨_, rfl⟩
  have B1 : Hid (pkBlk w1 w.heap.size k) := by rw [hw1]; exact pkBlk.alloc w k
  have G1 : Hid (w.grownBy w1 none) := by rw [hw1]; exact World.grownBy_alloc _ _ _
  unfold pkA at hw1
  unfold pkV pkA
  have HLE := hide (fun x w => less_any x k w)
  unfold pkV pkA at HLE
  go_enter Try.func24, Try.ntmps24
  go_upto_block 0 with fail
  rw [← hw1]
  clear hw1
  go_cut [6] (fun s6 wx => ∃ i : Nat, i ≤ n ∧ s6 = .int .i64 i ∧ (∀ t, t < i → ltP (ps t) k) ∧ (i < n → ¬ ltP (ps i) k) ∧ pkBlk wx w.heap.size k ∧ w.grownBy wx none)
  case first =>
    go_wp2_with fail
    go_loopw [6] (fun s6 wr => ∃ i : Nat, i ≤ n ∧ s6 = .int .i64 i ∧ (∀ t, t < i → ltP (ps t) k) ∧ pkBlk wr w.heap.size k ∧ w.grownBy wr none) (fun s6 _ => n - (intOf s6).toNat)
    case atStart => exact ⟨0, by omega, rfl, fun t ht => by omega, B1.out, G1.out⟩
    case round =>
      obtain ⟨i, hi, rfl, hlow, hb, hg⟩ := hrel
      clear B1 G1
      have HLOW := hide hlow
      have HB := hide hb
      have HG := hide hg
      clear hlow hb hg
      by_cases hlt : i < n
      · rcases HP.out with ⟨_, h0⟩ | ⟨g, cap', _, hv, hown⟩
        · omega
        cases hv
        obtain ⟨x, hx⟩ : ∃ x, x = ps i := ⟨_, rfl⟩
        have cc : ∀ t, t < 6 → wr.cell? ⟨g, i * 6 + t, none⟩ = some (.int .i64 (x t)) := fun t ht => by rw [hx]; exact HG.out.cell (hown.cell i hlt t ht) (by simp)
        have c0 : wr.cell? ⟨g, i * 6, none⟩ = some (.int .i64 (x 0)) := cc 0 (by omega)
        have c1 := cc 1 (by omega)
        have c2 := cc 2 (by omega)
        have c3 := cc 3 (by omega)
        have c4 := cc 4 (by omega)
        have c5 := cc 5 (by omega)
        have d0 := HB.out.cell 0 (by omega)
        have d1 := HB.out.cell 1 (by omega)
        have d2 := HB.out.cell 2 (by omega)
        have d3 := HB.out.cell 3 (by omega)
        have d4 := HB.out.cell 4 (by omega)
        have d5 := HB.out.cell 5 (by omega)
        have HX := hide hx
        clear cc hown hx
        have hltI : (i : Int) < n := by omega
        have HG0 : Hid (wr.grownBy wr.drew none) := grown_drew (grown_refl _ _)
        go_wp2_with fail
        go_region_with (go_at_call 38; refine (HLE.out x _).mono ?_; rintro e w3 ⟨⟨b, rfl, hb3⟩, hg3⟩; have HB3 := hide hb3; have HG3 := hide hg3; clear hb3 hg3)
        all_goals
          clear c0 c1 c2 c3 c4 c5 d0 d1 d2 d3 d4 d5
          have GG := hide (grown_trans HG.out (grown_trans HG0.out HG3.out))
          have BB := hide (HB.out.grown (grown_trans HG0.out HG3.out) (by simp))
          cases b
          · go_wp2_with fail
            go_meet
            exact ⟨i, hi, rfl, HLOW.out, fun _ hh => by have := HB3.out.2 (by rw [HX.out]; exact hh); simp at this, BB.out, GG.out⟩
          · go_wp2
            go_roundw
            case rel => exact ⟨i + 1, by omega, by go_num, fun t ht => by
              by_cases e : t = i
              · subst e; rw [← HX.out]; exact HB3.out.1 rfl
              · exact HLOW.out t (by omega), BB.out, GG.out⟩
            case measure => simp [intOf]; omega
      · go_wp2_with fail
        go_meet
        exact ⟨i, hi, rfl, HLOW.out, fun h => absurd h hlt, HB.out, HG.out⟩
  case rest =>
    obtain ⟨i, hi, rfl, hlow, hhigh, hb, hg⟩ := hcut
    clear B1 G1 HLE
    have HB := hide hb
    have HG := hide hg
    have hat := insS_at (k := k) (L := L) (i := i) (by rw [HL.out.len]; exact hi) (fun t x ht hx => by
      rw [HL.out.get t (by omega)] at hx
      cases hx
      exact hlow t ht) (fun x hx => by
      have hlt : i < n := by
        have := (List.getElem?_eq_some_iff.1 hx).1
        rw [HL.out.len] at this
        exact this
      rw [HL.out.get i hlt] at hx
      cases hx
      exact hhigh hlt)
    have HAT := hide hat
    clear hlow hhigh hb hg hat
    have d0 := HB.out.cell 0 (by omega)
    have d1 := HB.out.cell 1 (by omega)
    have d2 := HB.out.cell 2 (by omega)
    have d3 := HB.out.cell 3 (by omega)
    have d4 := HB.out.cell 4 (by omega)
    have d5 := HB.out.cell 5 (by omega)
    by_cases hlt : i < n
    · rcases HP.out with ⟨_, h0⟩ | ⟨g, cap', _, hv, hown⟩
      · omega
      cases hv
      obtain ⟨hc1, hc2, hc3⟩ := hown.cap
      obtain ⟨x, hx⟩ : ∃ x, x = ps i := ⟨_, rfl⟩
      have cc : ∀ t, t < 6 → wc.cell? ⟨g, i * 6 + t, none⟩ = some (.int .i64 (x t)) := fun t ht => by rw [hx]; exact HG.out.cell (hown.cell i hlt t ht) (by simp)
      have c0 : wc.cell? ⟨g, i * 6, none⟩ = some (.int .i64 (x 0)) := cc 0 (by omega)
      have c1 := cc 1 (by omega)
      have c2 := cc 2 (by omega)
      have c3 := cc 3 (by omega)
      have c4 := cc 4 (by omega)
      have c5 := cc 5 (by omega)
      have HX := hide hx
      have HO := hide hown
      clear cc hown hx
      have hltI : (i : Int) < n := by omega
      by_cases hs : cmpP x k = 0
      · have he := eq6_true hs
        have HS := hide hs
        clear hs
        go_wp2_with fail
        go_quiet (fail)
        go_wp2
        have hins : insS k L = L := by
          rcases HAT.out with ⟨_, h⟩ | ⟨h, _⟩
          · exact h
          · exact absurd HS.out (h x (by rw [HL.out.get i hlt, HX.out]))
        exact (HQ.out _ _).2 ⟨_, n, ps, false, by rw [hins]; exact HL.out, HP.out.grown (grown_drewN HG.out _) (fun b e => by cases e), rfl, grown_drewN HG.out _⟩
      · have he := eq6_false hs
        have hins : insS k L = L.take i ++ k :: L.drop i := by
          rcases HAT.out with ⟨⟨y, h1, h2⟩, _⟩ | ⟨_, h⟩
          · rw [HL.out.get i hlt, ← HX.out] at h1
            cases h1
            exact absurd h2 hs
          · exact h
        have HI := hide hins
        clear hs hins HAT
        have hicI : (i : Int) ≤ ca := by omega
        go_wp2_with fail
        go_quiet (fail)
        clear c0 c1 c2 c3 c4 c5 he
        have HW := hide (HO.out.grown (grown_drewN HG.out nq) (by simp))
        have GW := hide (grown_drewN HG.out nq)
        have BW := hide (HB.out.grown (grown_drewN (grown_refl wc none) nq) (by simp))
        clear d0 d1 d2 d3 d4 d5
        go_wp2_with (at_builtin; refine wpList_append_pk _ rfl _ _ rfl w.heap.size (.slice none 0 0) 0 (fun _ _ => 0) rfl (OwnV.nil _ _ _) _ i ps rfl (HW.out.cut i (by omega)) (by omega) GW.out.size ?_)
        intro v1 w4 o1 g1 _
        have o1' := o1.cong (e := ps) (fun j hj t ht => by unfold cat; rw [if_neg (by omega), Nat.sub_zero])
        obtain ⟨a1, q1, rfl⟩ := o1.slice
        have G4 := hide (grown_trans GW.out (show (wc.drewN nq).grownBy w4 none from g1))
        have O4 := hide o1'
        have B4 := hide (BW.out.grown (show (wc.drewN nq).grownBy w4 none from g1) (by simp))
        clear o1 o1' g1 GW BW
        have d0 := B4.out.cell 0 (by omega)
        have d1 := B4.out.cell 1 (by omega)
        have d2 := B4.out.cell 2 (by omega)
        have d3 := B4.out.cell 3 (by omega)
        have d4 := B4.out.cell 4 (by omega)
        have d5 := B4.out.cell 5 (by omega)
        have HR := hide (one_row w4 k)
        unfold pkA at HR
        go_wp2_with (at_builtin; refine wpList_append_pk _ rfl _ _ rfl w.heap.size (.slice a1 i q1) i ps rfl (O4.out.grown (World.grownBy_alloc _ _ none) (fun b e => by cases e)) _ 1 (fun _ => k) rfl HR.out (by omega) (by have := G4.out.size; simp; omega) ?_)
        intro v2 w5 o2 g2 _
        obtain ⟨a2, q2, rfl⟩ := o2.slice
        have hown1 : ∀ b, (Value.slice a1 i q1).ownBlock = some b → w.heap.size ≤ b := fun b hb => (O4.out.lt b hb).1
        have G5 := hide (grown_own (grown_trans G4.out (World.grownBy_alloc _ _ none)) g2 hown1)
        have O5 := hide o2
        clear d0 d1 d2 d3 d4 d5 HR o2 g2 hown1 B4 O4 G4
        have R5 := hide ((HO.out.grown G5.out (by simp)).rest i (by omega) (ca - i))
        go_wp2_with (at_builtin; refine wpList_append_pk _ rfl _ _ rfl w.heap.size (.slice a2 (i + 1) q2) (i + 1) (cat i ps fun _ => k) rfl O5.out _ (n - i) (fun j => ps (i + j)) rfl R5.out (by omega) G5.out.size ?_)
        intro v3 w6 o3 g3 _
        have G6 := hide (grown_own G5.out g3 (fun b hb => (O5.out.lt b hb).1))
        have O6 := hide o3
        obtain ⟨a3, q3, rfl⟩ := o3.slice
        clear o3 g3
        go_wp2
        exact (HQ.out _ _).2 ⟨_, _, _, true, by rw [HI.out]; exact with_is HL.out (by omega) k, O6.out.mono hB, rfl, G6.out⟩
    · obtain rfl : i = n := by omega
      have hltI : ¬ (i : Int) < i := by omega
      have hins : insS k L = L.take i ++ k :: L.drop i := by
        rcases HAT.out with ⟨⟨y, h1, h2⟩, _⟩ | ⟨_, h⟩
        · have := (List.getElem?_eq_some_iff.1 h1).1
          rw [HL.out.len] at this
          omega
        · exact h
      have HI := hide hins
      clear hins HAT
      rcases HP.out with ⟨hv, h0⟩ | ⟨g, cap', _, hv, hown⟩
      · subst h0
        cases hv
        go_wp2_with fail
        go_quiet (fail)
        have GW := hide (grown_drewN HG.out nq)
        have BW := hide (HB.out.grown (grown_drewN (grown_refl wc none) nq) (by simp))
        clear d0 d1 d2 d3 d4 d5
        go_wp2_with (at_builtin; refine wpList_append_pk _ rfl _ _ rfl w.heap.size (.slice none 0 0) 0 (fun _ _ => 0) rfl (OwnV.nil _ _ _) _ 0 ps rfl (PkR.nil _ _) (by omega) GW.out.size ?_)
        intro v1 w4 o1 g1 _
        have o1' : OwnV w.heap.size w4 v1 0 ps := OwnV.cong (d := cat 0 (fun _ _ => 0) ps) (by simpa using o1) (fun j hj t ht => by unfold cat; rw [if_neg (by omega), Nat.sub_zero])
        obtain ⟨a1, q1, rfl⟩ := o1'.slice
        have G4 := hide (grown_trans GW.out (show (wc.drewN nq).grownBy w4 none from g1))
        have O4 := hide o1'
        have B4 := hide (BW.out.grown (show (wc.drewN nq).grownBy w4 none from g1) (by simp))
        clear o1 o1' g1 GW BW
        have d0 := B4.out.cell 0 (by omega)
        have d1 := B4.out.cell 1 (by omega)
        have d2 := B4.out.cell 2 (by omega)
        have d3 := B4.out.cell 3 (by omega)
        have d4 := B4.out.cell 4 (by omega)
        have d5 := B4.out.cell 5 (by omega)
        have HR := hide (one_row w4 k)
        unfold pkA at HR
        go_wp2_with (at_builtin; refine wpList_append_pk _ rfl _ _ rfl w.heap.size (.slice a1 0 q1) 0 ps rfl (O4.out.grown (World.grownBy_alloc _ _ none) (fun b e => by cases e)) _ 1 (fun _ => k) rfl HR.out (by omega) (by have := G4.out.size; simp; omega) ?_)
        intro v2 w5 o2 g2 _
        obtain ⟨a2, q2, rfl⟩ := o2.slice
        have hown1 : ∀ b, (Value.slice a1 0 q1).ownBlock = some b → w.heap.size ≤ b := fun b hb => (O4.out.lt b hb).1
        have G5 := hide (grown_own (grown_trans G4.out (World.grownBy_alloc _ _ none)) g2 hown1)
        have O5 := hide o2
        clear d0 d1 d2 d3 d4 d5 HR o2 g2 hown1 B4 O4 G4
        have R5 := hide (PkR.nil w5 (fun j => ps (0 + j)))
        go_wp2_with (at_builtin; refine wpList_append_pk _ rfl _ _ rfl w.heap.size (.slice a2 (0 + 1) q2) (0 + 1) (cat 0 ps fun _ => k) rfl O5.out _ 0 (fun j => ps (0 + j)) rfl R5.out (by omega) G5.out.size ?_)
        intro v3 w6 o3 g3 _
        have G6 := hide (grown_own G5.out g3 (fun b hb => (O5.out.lt b hb).1))
        have O6 := hide o3
        obtain ⟨a3, q3, rfl⟩ := o3.slice
        clear o3 g3
        go_wp2
        have hw : Is (insS k L) 1 (cat 1 (cat 0 ps fun _ => k) fun j => ps j) := by rw [HI.out]; simpa using with_is HL.out (Nat.le_refl 0) k
        exact (HQ.out _ _).2 ⟨_, _, _, true, hw, O6.out.mono hB, rfl, G6.out⟩
      · cases hv
        obtain ⟨hc1, hc2, hc3⟩ := hown.cap
        have HO := hide hown
        clear hown
        have hicI : (i : Int) ≤ ca := by omega
        by_cases hca : ca = i
        · have hca' := hca.symm
          subst hca'
          clear hca
          by_cases hi0 : i = 0
          · subst hi0
            go_wp2_with fail
            go_quiet (fail)
            have GW := hide (grown_drewN HG.out nq)
            have BW := hide (HB.out.grown (grown_drewN (grown_refl wc none) nq) (by simp))
            clear d0 d1 d2 d3 d4 d5
            have HW := hide (HO.out.grown (grown_drewN HG.out nq) (by simp))
            go_wp2_with (at_builtin; refine wpList_append_pk _ rfl _ _ rfl w.heap.size (.slice none 0 0) 0 (fun _ _ => 0) rfl (OwnV.nil _ _ _) _ 0 ps rfl (HW.out.cut 0 (Nat.le_refl _)) (by omega) GW.out.size ?_)
            intro v1 w4 o1 g1 _
            have o1' : OwnV w.heap.size w4 v1 0 ps := OwnV.cong (d := cat 0 (fun _ _ => 0) ps) (by simpa using o1) (fun j hj t ht => by unfold cat; rw [if_neg (by omega), Nat.sub_zero])
            obtain ⟨a1, q1, rfl⟩ := o1'.slice
            have G4 := hide (grown_trans GW.out (show (wc.drewN nq).grownBy w4 none from g1))
            have O4 := hide o1'
            have B4 := hide (BW.out.grown (show (wc.drewN nq).grownBy w4 none from g1) (by simp))
            clear o1 o1' g1 GW BW
            have d0 := B4.out.cell 0 (by omega)
            have d1 := B4.out.cell 1 (by omega)
            have d2 := B4.out.cell 2 (by omega)
            have d3 := B4.out.cell 3 (by omega)
            have d4 := B4.out.cell 4 (by omega)
            have d5 := B4.out.cell 5 (by omega)
            have HR := hide (one_row w4 k)
            unfold pkA at HR
            go_wp2_with (at_builtin; refine wpList_append_pk _ rfl _ _ rfl w.heap.size (.slice a1 0 q1) 0 ps rfl (O4.out.grown (World.grownBy_alloc _ _ none) (fun b e => by cases e)) _ 1 (fun _ => k) rfl HR.out (by omega) (by have := G4.out.size; simp; omega) ?_)
            intro v2 w5 o2 g2 _
            obtain ⟨a2, q2, rfl⟩ := o2.slice
            have hown1 : ∀ b, (Value.slice a1 0 q1).ownBlock = some b → w.heap.size ≤ b := fun b hb => (O4.out.lt b hb).1
            have G5 := hide (grown_own (grown_trans G4.out (World.grownBy_alloc _ _ none)) g2 hown1)
            have O5 := hide o2
            clear d0 d1 d2 d3 d4 d5 HR o2 g2 hown1 B4 O4 G4
            have R5 : Hid (PkR w5 (.slice (some ⟨g, 0, none⟩) 0 0) 0 (fun j => ps (0 + j))) := .inl ⟨_, _, rfl, rfl, fun e => by cases e⟩
            go_wp2_with (at_builtin; refine wpList_append_pk _ rfl _ _ rfl w.heap.size (.slice a2 (0 + 1) q2) (0 + 1) (cat 0 ps fun _ => k) rfl O5.out _ 0 (fun j => ps (0 + j)) rfl R5.out (by omega) G5.out.size ?_)
            intro v3 w6 o3 g3 _
            have G6 := hide (grown_own G5.out g3 (fun b hb => (O5.out.lt b hb).1))
            have O6 := hide o3
            obtain ⟨a3, q3, rfl⟩ := o3.slice
            clear o3 g3
            go_wp2
            have hw : Is (insS k L) 1 (cat 1 (cat 0 ps fun _ => k) fun j => ps j) := by rw [HI.out]; simpa using with_is HL.out (Nat.le_refl 0) k
            exact (HQ.out _ _).2 ⟨_, _, _, true, hw, O6.out.mono hB, rfl, G6.out⟩
          · have hi0I : (0 : Int) < i := by omega
            go_wp2_with fail
            go_quiet (fail)
            have GW := hide (grown_drewN HG.out nq)
            have BW := hide (HB.out.grown (grown_drewN (grown_refl wc none) nq) (by simp))
            clear d0 d1 d2 d3 d4 d5
            have HW := hide (HO.out.grown (grown_drewN HG.out nq) (by simp))
            go_wp2_with (at_builtin; refine wpList_append_pk _ rfl _ _ rfl w.heap.size (.slice none 0 0) 0 (fun _ _ => 0) rfl (OwnV.nil _ _ _) _ i ps rfl (HW.out.cut i (Nat.le_refl _)) (by omega) GW.out.size ?_)
            intro v1 w4 o1 g1 _
            have o1' : OwnV w.heap.size w4 v1 i ps := OwnV.cong (d := cat 0 (fun _ _ => 0) ps) (by simpa using o1) (fun j hj t ht => by unfold cat; rw [if_neg (by omega), Nat.sub_zero])
            obtain ⟨a1, q1, rfl⟩ := o1'.slice
            have G4 := hide (grown_trans GW.out (show (wc.drewN nq).grownBy w4 none from g1))
            have O4 := hide o1'
            have B4 := hide (BW.out.grown (show (wc.drewN nq).grownBy w4 none from g1) (by simp))
            clear o1 o1' g1 GW BW
            have d0 := B4.out.cell 0 (by omega)
            have d1 := B4.out.cell 1 (by omega)
            have d2 := B4.out.cell 2 (by omega)
            have d3 := B4.out.cell 3 (by omega)
            have d4 := B4.out.cell 4 (by omega)
            have d5 := B4.out.cell 5 (by omega)
            have HR := hide (one_row w4 k)
            unfold pkA at HR
            go_wp2_with (at_builtin; refine wpList_append_pk _ rfl _ _ rfl w.heap.size (.slice a1 i q1) i ps rfl (O4.out.grown (World.grownBy_alloc _ _ none) (fun b e => by cases e)) _ 1 (fun _ => k) rfl HR.out (by omega) (by have := G4.out.size; simp; omega) ?_)
            intro v2 w5 o2 g2 _
            obtain ⟨a2, q2, rfl⟩ := o2.slice
            have hown1 : ∀ b, (Value.slice a1 i q1).ownBlock = some b → w.heap.size ≤ b := fun b hb => (O4.out.lt b hb).1
            have G5 := hide (grown_own (grown_trans G4.out (World.grownBy_alloc _ _ none)) g2 hown1)
            have O5 := hide o2
            clear d0 d1 d2 d3 d4 d5 HR o2 g2 hown1 B4 O4 G4
            have R5 : Hid (PkR w5 (.slice (some ⟨g, 0, none⟩) 0 0) 0 (fun j => ps (i + j))) := .inl ⟨_, _, rfl, rfl, fun e => by cases e⟩
            go_wp2_with (at_builtin; refine wpList_append_pk _ rfl _ _ rfl w.heap.size (.slice a2 (i + 1) q2) (i + 1) (cat i ps fun _ => k) rfl O5.out _ 0 (fun j => ps (i + j)) rfl R5.out (by omega) G5.out.size ?_)
            intro v3 w6 o3 g3 _
            have G6 := hide (grown_own G5.out g3 (fun b hb => (O5.out.lt b hb).1))
            have O6 := hide o3
            obtain ⟨a3, q3, rfl⟩ := o3.slice
            clear o3 g3
            go_wp2
            have hw := with_is HL.out (Nat.le_refl i) k
            rw [← HI.out, Nat.sub_self] at hw
            exact (HQ.out _ _).2 ⟨_, _, _, true, hw, O6.out.mono hB, rfl, G6.out⟩
        · have hcaI : (i : Int) < ca := by omega
          go_wp2_with fail
          go_quiet (fail)
          have GW := hide (grown_drewN HG.out nq)
          have BW := hide (HB.out.grown (grown_drewN (grown_refl wc none) nq) (by simp))
          clear d0 d1 d2 d3 d4 d5
          have HW := hide (HO.out.grown (grown_drewN HG.out nq) (by simp))
          go_wp2_with (at_builtin; refine wpList_append_pk _ rfl _ _ rfl w.heap.size (.slice none 0 0) 0 (fun _ _ => 0) rfl (OwnV.nil _ _ _) _ i ps rfl (HW.out.cut i (Nat.le_refl _)) (by omega) GW.out.size ?_)
          intro v1 w4 o1 g1 _
          have o1' : OwnV w.heap.size w4 v1 i ps := OwnV.cong (d := cat 0 (fun _ _ => 0) ps) (by simpa using o1) (fun j hj t ht => by unfold cat; rw [if_neg (by omega), Nat.sub_zero])
          obtain ⟨a1, q1, rfl⟩ := o1'.slice
          have G4 := hide (grown_trans GW.out (show (wc.drewN nq).grownBy w4 none from g1))
          have O4 := hide o1'
          have B4 := hide (BW.out.grown (show (wc.drewN nq).grownBy w4 none from g1) (by simp))
          clear o1 o1' g1 GW BW
          have d0 := B4.out.cell 0 (by omega)
          have d1 := B4.out.cell 1 (by omega)
          have d2 := B4.out.cell 2 (by omega)
          have d3 := B4.out.cell 3 (by omega)
          have d4 := B4.out.cell 4 (by omega)
          have d5 := B4.out.cell 5 (by omega)
          have HR := hide (one_row w4 k)
          unfold pkA at HR
          go_wp2_with (at_builtin; refine wpList_append_pk _ rfl _ _ rfl w.heap.size (.slice a1 i q1) i ps rfl (O4.out.grown (World.grownBy_alloc _ _ none) (fun b e => by cases e)) _ 1 (fun _ => k) rfl HR.out (by omega) (by have := G4.out.size; simp; omega) ?_)
          intro v2 w5 o2 g2 _
          obtain ⟨a2, q2, rfl⟩ := o2.slice
          have hown1 : ∀ b, (Value.slice a1 i q1).ownBlock = some b → w.heap.size ≤ b := fun b hb => (O4.out.lt b hb).1
          have G5 := hide (grown_own (grown_trans G4.out (World.grownBy_alloc _ _ none)) g2 hown1)
          have O5 := hide o2
          clear d0 d1 d2 d3 d4 d5 HR o2 g2 hown1 B4 O4 G4
          have R5 : Hid (PkR w5 (.slice (some ⟨g, i * 6, none⟩) 0 (ca - i)) 0 (fun j => ps (i + j))) := .inl ⟨_, _, rfl, rfl, fun e => by cases e⟩
          go_wp2_with (at_builtin; refine wpList_append_pk _ rfl _ _ rfl w.heap.size (.slice a2 (i + 1) q2) (i + 1) (cat i ps fun _ => k) rfl O5.out _ 0 (fun j => ps (i + j)) rfl R5.out (by omega) G5.out.size ?_)
          intro v3 w6 o3 g3 _
          have G6 := hide (grown_own G5.out g3 (fun b hb => (O5.out.lt b hb).1))
          have O6 := hide o3
          obtain ⟨a3, q3, rfl⟩ := o3.slice
          clear o3 g3
          go_wp2
          have hw := with_is HL.out (Nat.le_refl i) k
          rw [← HI.out, Nat.sub_self] at hw
          exact (HQ.out _ _).2 ⟨_, _, _, true, hw, O6.out.mono hB, rfl, G6.out⟩
end Go.Proofs.Ytlhkfafdioakeaa
