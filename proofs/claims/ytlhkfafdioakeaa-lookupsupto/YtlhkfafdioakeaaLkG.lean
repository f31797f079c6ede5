/- Proved here: what the program's Lookup answers, in any rules. -/
import Derived.Test.YtlhkfafdioakeaaLkF
namespace Go.Proofs.Ytlhkfafdioakeaa
open Go.RowKit
set_option linter.unusedVariables false
set_option linter.unusedSimpArgs false
theorem says_cases {p : Prop} {w w' : World} {e : Ending} (h : Says p w e w') : ((p ∧ e = .returned (.bool true)) ∨ (¬ p ∧ e = .returned (.bool false))) ∧ w.grownBy w' none := by
  obtain ⟨⟨b, rfl, hb⟩, hg⟩ := h
  refine ⟨?_, hg⟩
  cases b
  · exact .inr ⟨fun hp => by simpa using hb.2 hp, rfl⟩
  · exact .inl ⟨hb.1 rfl, rfl⟩
/-- A rule: its priority, its match, its actions, and where these lie. -/
structure Rl where
  prio : Int
  mt : Nat → Int
  na : Nat
  acts : Nat → Nat → Int
  av : Value
/-- A list of rules in a world. -/
def RlRow (w : World) (v : Value) (n : Nat) (rs : Nat → Rl) : Prop :=
  (∃ a c, v = .slice a 0 c ∧ n = 0) ∨ ∃ g off cap, v = .slice (some ⟨g, off, none⟩) n cap ∧ n ≤ 3000000000000 ∧ ∀ j, j < n → w.cell? ⟨g, off + j * 8, none⟩ = some (.int .i64 (rs j).prio) ∧ (∀ i, i < 6 → w.cell? ⟨g, off + j * 8 + (1 + i), none⟩ = some (.int .i64 ((rs j).mt i))) ∧ w.cell? ⟨g, off + j * 8 + 7, none⟩ = some (rs j).av ∧ PkR w (rs j).av (rs j).na (rs j).acts
theorem RlRow.slice {w : World} {v : Value} {n : Nat} {rs : Nat → Rl} (h : RlRow w v n rs) : ∃ a cap, v = .slice a n cap := by
  rcases h with ⟨a, c, rfl, rfl⟩ | ⟨g, off, cap, rfl, _⟩
  · exact ⟨_, _, rfl⟩
  · exact ⟨_, _, rfl⟩
theorem RlRow.few {w : World} {v : Value} {n : Nat} {rs : Nat → Rl} (h : RlRow w v n rs) : n ≤ 3000000000000 := by
  rcases h with ⟨a, c, rfl, rfl⟩ | ⟨g, off, cap, rfl, h, _⟩ <;> omega
theorem RlRow.grown {w w' : World} {v : Value} {n : Nat} {rs : Nat → Rl} (h : RlRow w v n rs) (hg : w.grownBy w' none) : RlRow w' v n rs := by
  rcases h with h | ⟨g, off, cap, h1, h2, h3⟩
  · exact .inl h
  · exact .inr ⟨g, off, cap, h1, h2, fun j hj => ⟨hg.cell (h3 j hj).1 (by simp), fun i hi => hg.cell ((h3 j hj).2.1 i hi) (by simp), hg.cell (h3 j hj).2.2.1 (by simp), (h3 j hj).2.2.2.grown hg⟩⟩
/-- What a Lookup answers. -/
def LkS (rs : Nat → Rl) (n : Nat) (k : Nat → Int) (L : List (Nat → Int)) (b : Bool) : Prop :=
  (∃ j, j < n ∧ (∀ t, t < j → ¬ matchS (rs t).mt k) ∧ matchS (rs j).mt k ∧ L = setS ((List.range (rs j).na).map fun t => actS ((rs j).acts t) k) ∧ b = true) ∨ ((∀ t, t < n → ¬ matchS (rs t).mt k) ∧ L = [] ∧ b = false)
theorem LkS.one {rs : Nat → Rl} {n : Nat} {k : Nat → Int} {L M : List (Nat → Int)} {b c : Bool} (h : LkS rs n k L b) (g : LkS rs n k M c) : L = M ∧ b = c := by
  rcases h with ⟨j, h1, h2, h3, h4, h5⟩ | ⟨h1, h2, h3⟩ <;> rcases g with ⟨i, g1, g2, g3, g4, g5⟩ | ⟨g1, g2, g3⟩
  · have e : j = i := by
      rcases Nat.lt_trichotomy j i with e | e | e
      · exact absurd h3 (g2 j e)
      · exact e
      · exact absurd g3 (h2 i e)
    subst e
    exact ⟨by rw [h4, g4], by rw [h5, g5]⟩
  · exact absurd h3 (g1 j h1)
  · exact absurd g3 (h1 i g1)
  · exact ⟨by rw [h2, g2], by rw [h3, g3]⟩
/-- A list in new memory of its own. -/
def OwnV (B : Nat) (w : World) (v : Value) (n : Nat) (d : Nat → Nat → Int) : Prop :=
  (v = .slice none 0 0 ∧ n = 0) ∨ ∃ g cap, B ≤ g ∧ v = .slice (some ⟨g, 0, none⟩) n cap ∧ Own w g n cap d
/-- What Lookup comes to. -/
def LkOut (rs : Nat → Rl) (n : Nat) (k : Nat → Int) (w : World) (e : Ending) (w' : World) : Prop :=
  ∃ L b v m d, LkS rs n k L b ∧ Is L m d ∧ OwnV w.heap.size w' v m d ∧ e = .returned (.tuple #[v, .bool b]) ∧ w.grownBy w' none
/-- A block that holds a rule. -/
def rlA (p : Int) (mt : Nat → Int) (v : Value) : Array Value := #[.int .i64 p, .int .i64 (mt 0), .int .i64 (mt 1), .int .i64 (mt 2), .int .i64 (mt 3), .int .i64 (mt 4), .int .i64 (mt 5), v]
set_option maxRecDepth 100000 in
set_option maxHeartbeats 2000000 in
theorem tLookup_any (v : Value) (n : Nat) (rs : Nat → Rl) (k : Nat → Int) (w : World) (h : RlRow w v n rs) (hk : Nm k) :
    Calls Try.prog 22 #[v, pkV k] w (LkOut rs n k w) := by
  obtain ⟨a, ca, rfl⟩ := h.slice
  have hn := h.few
  have HP := hide h
  have HK := hide hk
  clear h hk
  have HQ : Hid (∀ e w', LkOut rs n k w e w' ↔ ∃ L b v m d, LkS rs n k L b ∧ Is L m d ∧ OwnV w.heap.size w' v m d ∧ e = .returned (.tuple #[v, .bool b]) ∧ w.grownBy w' none) := fun _ _ => Iff.rfl
  generalize LkOut rs n k w = Q at HQ ⊢
  obtain ⟨w1, hw1⟩ : ∃ w1, w1 = w.alloc (.cells (pkA k) 27) := ⟨_, rfl⟩
  have B1 : Hid (pkBlk w1 w.heap.size k) := by rw [hw1]; exact pkBlk.alloc w k
  have G1 : Hid (w.grownBy w1 none) := by rw [hw1]; exact World.grownBy_alloc _ _ _
  unfold pkA at hw1
  unfold pkV pkA
  go_enter Try.func22, Try.ntmps22
  go_wp2
  rw [← hw1]
  clear hw1
  go_loopw [10] (fun i wr => ∃ j : Nat, j ≤ n ∧ i = .int .i64 j ∧ (∀ t, t < j → ¬ matchS (rs t).mt k) ∧ pkBlk wr w.heap.size k ∧ w.grownBy wr none) (fun i _ => n - (intOf i).toNat)
  case atStart => exact ⟨0, by omega, rfl, fun t ht => by omega, B1.out, G1.out⟩
  case round =>
    obtain ⟨j, hj, rfl, hno, hb, hg⟩ := hrel
    clear B1 G1
    have HNO := hide hno
    have HB := hide hb
    have HG := hide hg
    clear hno hb hg
    by_cases hlt : j < n
    · rcases HP.out with ⟨_, _, _, h0⟩ | ⟨g, off, cap', hv, _, hcell⟩
      · omega
      cases hv
      obtain ⟨cp, cm, cv, cr⟩ := hcell j hlt
      obtain ⟨p, hp⟩ : ∃ p, p = (rs j).prio := ⟨_, rfl⟩
      obtain ⟨x, hx⟩ : ∃ x, x = (rs j).mt := ⟨_, rfl⟩
      obtain ⟨av, hav⟩ : ∃ av, av = (rs j).av := ⟨_, rfl⟩
      rw [← hp] at cp
      rw [← hx] at cm
      rw [← hav] at cv cr
      obtain ⟨aa, ac, haa⟩ := cr.slice
      rw [haa] at cv cr
      have c0 : wr.cell? ⟨g, off + j * 8, none⟩ = some (.int .i64 p) := HG.out.cell cp (by simp)
      have cc : ∀ i, i < 6 → wr.cell? ⟨g, off + j * 8 + (1 + i), none⟩ = some (.int .i64 (x i)) := fun i hi => HG.out.cell (cm i hi) (by simp)
      have c1 : wr.cell? ⟨g, off + j * 8 + 1, none⟩ = some (.int .i64 (x 0)) := cc 0 (by omega)
      have c2 : wr.cell? ⟨g, off + j * 8 + 2, none⟩ = some (.int .i64 (x 1)) := cc 1 (by omega)
      have c3 : wr.cell? ⟨g, off + j * 8 + 3, none⟩ = some (.int .i64 (x 2)) := cc 2 (by omega)
      have c4 : wr.cell? ⟨g, off + j * 8 + 4, none⟩ = some (.int .i64 (x 3)) := cc 3 (by omega)
      have c5 : wr.cell? ⟨g, off + j * 8 + 5, none⟩ = some (.int .i64 (x 4)) := cc 4 (by omega)
      have c6 : wr.cell? ⟨g, off + j * 8 + 6, none⟩ = some (.int .i64 (x 5)) := cc 5 (by omega)
      obtain ⟨N, hN⟩ : ∃ N, N = (rs j).na := ⟨_, rfl⟩
      rw [← hN] at cv cr
      have c7 : wr.cell? ⟨g, off + j * 8 + 7, none⟩ = some (.slice aa N ac) := HG.out.cell cv (by simp)
      have HCR := hide cr
      have HE : Hid (x = (rs j).mt ∧ N = (rs j).na) := ⟨hx, hN⟩
      clear cp cm cv cr cc hcell hp hx hav haa hN
      have d0 := HB.out.cell 0 (by omega)
      have d1 := HB.out.cell 1 (by omega)
      have d2 := HB.out.cell 2 (by omega)
      have d3 := HB.out.cell 3 (by omega)
      have d4 := HB.out.cell 4 (by omega)
      have d5 := HB.out.cell 5 (by omega)
      have hzz : w.heap.size < wr.heap.size := (Array.getElem?_eq_some_iff.1 HB.out).1
      have hltI : (j : Int) < n := by omega
      obtain ⟨wa, hwa⟩ : ∃ wa, wa = wr.alloc (.cells (rlA p x (.slice aa N ac)) 29) := ⟨_, rfl⟩
      have GA : wr.grownBy wa none := by rw [hwa]; exact World.grownBy_alloc _ _ _
      have RA : wa.heap[wr.heap.size]? = some (.cells (rlA p x (.slice aa N ac)) 29 (0, 0)) := by rw [hwa]; exact heap_alloc_new _ _
      have HA := hide (matches_any x k wa)
      unfold rlA at hwa
      unfold pkV pkA at HA
      go_wp2_with fail
      rw [← hwa]
      clear hwa c0 c1 c2 c3 c4 c5 c6 c7 d0 d1 d2 d3 d4 d5 hzz
      refine HA.out.mono ?_
      rintro e w3 hsay
      obtain ⟨hs, hg3⟩ := says_cases hsay
      clear hsay HA
      have B3 := hide (HB.out.grown (grown_trans GA hg3) (by simp))
      have G3 := hide (grown_trans HG.out (grown_trans GA hg3))
      have R3 : w3.cell? ⟨wr.heap.size, 7, none⟩ = some (.slice aa N ac) := by
        refine hg3.cell ?_ (by simp)
        simp only [World.cell?, RA]
        rfl
      have C3 := hide ((HCR.out.grown HG.out).grown (grown_trans GA hg3))
      clear GA RA hg3 HB HG HCR
      rcases hs with ⟨hm, rfl⟩ | ⟨hm, rfl⟩
      · have HM := hide hm
        clear hm
        have d0 := B3.out.cell 0 (by omega)
        have d1 := B3.out.cell 1 (by omega)
        have d2 := B3.out.cell 2 (by omega)
        have d3 := B3.out.cell 3 (by omega)
        have d4 := B3.out.cell 4 (by omega)
        have d5 := B3.out.cell 5 (by omega)
        have HMA := hide (made_any _ N _ k w3 C3.out HK.out)
        unfold pkV pkA at HMA
        go_wp2_with fail
        clear d0 d1 d2 d3 d4 d5 R3
        refine HMA.out.mono ?_
        rintro e w4 ⟨gg, m, cap, e', hgg, hI, rfl, ho, hg4⟩
        have HI := hide hI
        have HO := hide ho
        have HG4 := hide hg4
        have HGG := hide hgg
        clear hI ho hg4 hgg HMA
        go_wp2
        have hsz := G3.out.size
        refine (HQ.out _ _).2 ⟨_, true, _, m, e', .inl ⟨j, hlt, HNO.out, ?_, rfl, rfl⟩, ?_, .inr ⟨gg, cap, ?_, rfl, HO.out⟩, rfl, grown_trans G3.out HG4.out⟩
        · rw [← HE.out.1]; exact HM.out
        · rw [← HE.out.2]; exact HI.out
        · have := HGG.out; omega
      · have HM := hide hm
        clear hm
        go_wp2
        go_roundw
        case rel => exact ⟨j + 1, by omega, by go_num, fun t ht => by
          by_cases e : t = j
          · subst e; rw [← HE.out.1]; exact HM.out
          · exact HNO.out t (by omega), B3.out, G3.out⟩
        case measure => simp [intOf]; omega
    · obtain rfl : j = n := by omega
      go_wp2
      exact (HQ.out _ _).2 ⟨[], false, .slice none 0 0, 0, fun _ _ => 0, .inr ⟨HNO.out, rfl, rfl⟩, ⟨rfl, fun j hj => by omega⟩, .inl ⟨rfl, rfl⟩, rfl, HG.out⟩
set_option maxRecDepth 100000 in
set_option maxHeartbeats 1000000 in
theorem wLookup_any (v : Value) (n : Nat) (rs : Nat → Rl) (k : Nat → Int) (w : World) (h : RlRow w v n rs) (hk : Nm k) :
    Calls Try.prog 6 #[v, pkV k] w (LkOut rs n k w) := by
  obtain ⟨a, ca, rfl⟩ := h.slice
  have HL : Hid (∀ wx, w.grownBy wx none → Calls Try.prog 22 #[.slice a n ca, pkV k] wx (LkOut rs n k wx)) := fun wx hg => tLookup_any _ n rs k wx (h.grown hg) hk
  clear h hk
  have HQ : Hid (∀ e w', LkOut rs n k w e w' ↔ ∃ L b v m d, LkS rs n k L b ∧ Is L m d ∧ OwnV w.heap.size w' v m d ∧ e = .returned (.tuple #[v, .bool b]) ∧ w.grownBy w' none) := fun _ _ => Iff.rfl
  generalize LkOut rs n k w = Q at HQ ⊢
  unfold pkV pkA at *
  go_enter Try.func6, Try.ntmps6
  go_wp2_with fail
  refine (HL.out _ (World.grownBy_alloc _ _ _)).mono ?_
  rintro e w1 ⟨L, b, v, m, d, hS, hI, hO, rfl, hg⟩
  have HS := hide hS
  have HI := hide hI
  have HG := hide hg
  have HO : Hid (OwnV w.heap.size w1 v m d) := by
    rcases hO with h | ⟨g, cap, h1, h2, h3⟩
    · exact .inl h
    · refine .inr ⟨g, cap, ?_, h2, h3⟩
      have : w.heap.size ≤ (w.alloc (.cells #[.int .i64 (k 0), .int .i64 (k 1), .int .i64 (k 2), .int .i64 (k 3), .int .i64 (k 4), .int .i64 (k 5)] 27)).heap.size := by simp
      omega
  clear hS hI hO hg
  go_wp2
  exact (HQ.out _ _).2 ⟨L, b, v, m, d, HS.out, HI.out, HO.out, rfl, grown_trans (World.grownBy_alloc _ _ _) HG.out⟩
end Go.Proofs.Ytlhkfafdioakeaa
