/- Proved here: the bytes of a message behind its kind and length. -/
import Derived.Test.YtlhkfafdioakeaaMsgD
import Derived.Deep.RegionWith
namespace Go.Proofs.Ytlhkfafdioakeaa
open Go.RowKit
set_option linter.unusedVariables false
set_option linter.unusedSimpArgs false
/-- The bytes of a message behind kind and length. -/
def bodyB (m : Msg) : List Int :=
  if m.kind = 1 then twoB m.prio ++ pkB m.mt ++ twoB m.na ++ pksB m.na m.acts
  else if m.kind = 5 then twoB m.np ++ pksB m.np m.pks
  else pksB m.np m.pks
theorem BRow.nil (base : Nat) (w : World) : BRow base w (.slice none 0 0) [] := World.ownsRow_nil _ _ _ _
theorem pksB_one (k : Nat → Int) : pksB 1 (fun _ => k) = pkB k := by simp [pksB]
/-- A row that is the caller's lies in no block of the call's own. -/
def RowIn (base : Nat) (v : Value) : Prop := ∀ g off n cap, v = .slice (some ⟨g, off, none⟩) n cap → g < base

/-- A block that holds a message. -/
def msgBlk (w : World) (b : Nat) (kind p : Int) (mt : Nat → Int) (av pv : Value) : Prop := w.heap[b]? = some (.cells #[.int .i64 kind, .int .i64 p, .int .i64 (mt 0), .int .i64 (mt 1), .int .i64 (mt 2), .int .i64 (mt 3), .int .i64 (mt 4), .int .i64 (mt 5), av, pv] 45 (0, 0))
theorem msgBlk.below {w w' : World} {b B : Nat} {kind p : Int} {mt : Nat → Int} {av pv : Value} (h : msgBlk w b kind p mt av pv) (hB : Below B w w') (hb : b < B) : msgBlk w' b kind p mt av pv := by
  unfold msgBlk at *; rw [hB.block b hb]; exact h
theorem msgBlk.alloc (w : World) (kind p : Int) (mt : Nat → Int) (av pv : Value) : msgBlk (w.alloc (.cells #[.int .i64 kind, .int .i64 p, .int .i64 (mt 0), .int .i64 (mt 1), .int .i64 (mt 2), .int .i64 (mt 3), .int .i64 (mt 4), .int .i64 (mt 5), av, pv] 45)) w.heap.size kind p mt av pv := heap_alloc_new w _
theorem msgBlk.cells {w : World} {b : Nat} {kind p : Int} {mt : Nat → Int} {av pv : Value} (h : msgBlk w b kind p mt av pv) :
    w.cell? ⟨b, 0, none⟩ = some (.int .i64 kind) ∧ w.cell? ⟨b, 1, none⟩ = some (.int .i64 p) ∧ w.cell? ⟨b, 2, none⟩ = some (.int .i64 (mt 0)) ∧ w.cell? ⟨b, 3, none⟩ = some (.int .i64 (mt 1)) ∧ w.cell? ⟨b, 4, none⟩ = some (.int .i64 (mt 2)) ∧
    w.cell? ⟨b, 5, none⟩ = some (.int .i64 (mt 3)) ∧ w.cell? ⟨b, 6, none⟩ = some (.int .i64 (mt 4)) ∧ w.cell? ⟨b, 7, none⟩ = some (.int .i64 (mt 5)) ∧ w.cell? ⟨b, 8, none⟩ = some av ∧ w.cell? ⟨b, 9, none⟩ = some pv := by
  unfold msgBlk at h
  simp [World.cell?, h]
theorem Below.up {B : Nat} {w w1 : World} (hg : w.grownBy w1 none) (hB : B ≤ w.heap.size) : Below B w w1 := (Below.refl B w).grown hg hB (fun k e => by cases e)
/-- A packet in a block of its own is a list of one. -/
theorem PkRow.one {w : World} {g : Nat} {k : Nat → Int} (h : pkBlk w g k) : PkRow w (.slice (some ⟨g, 0, none⟩) 1 1) 1 (fun _ => k) :=
  .inr ⟨g, 0, 1, rfl, by omega, fun j hj i hi => by
    obtain rfl : j = 0 := by omega
    simpa using h.cell i hi⟩
theorem RowIn.ne {base B : Nat} {w : World} {v v1 : Value} {n : Nat} {bs : List Int} (h : RowIn base v) (hb : BRow B w v1 bs) (hB : base ≤ B) : ∀ g off cap, v = .slice (some ⟨g, off, none⟩) n cap → v1.ownBlock ≠ some g := by
  intro g off cap e e2
  have := h _ _ _ _ e
  have := (hb.lt g e2).1
  omega
theorem PkRow.below {w w' : World} {v : Value} {n : Nat} {ps : Nat → Nat → Int} {B : Nat} (h : PkRow w v n ps) (hB : Below B w w') (hin : RowIn B v) : PkRow w' v n ps := by
  rcases h with h | ⟨g, off, cap, h1, h2, h3⟩
  · exact .inl h
  · exact .inr ⟨g, off, cap, h1, h2, fun j hj i hi => by rw [hB.cell (hin _ _ _ _ h1)]; exact h3 j hj i hi⟩
theorem RowIn.mono {B B' : Nat} {v : Value} (h : RowIn B v) (hB : B ≤ B') : RowIn B' v := fun g off n cap e => Nat.lt_of_lt_of_le (h g off n cap e) hB
theorem BRow.weak {B B' : Nat} {w : World} {v : Value} {bs : List Int} (h : BRow B w v bs) (hB : B' ≤ B) : BRow B' w v bs := by
  refine ⟨h.1, ?_⟩
  rcases h.2 with h2 | ⟨g, cap, cur, hv, hb, r⟩
  · exact .inl h2
  · exact .inr ⟨g, cap, cur, hv, Nat.le_trans hB hb, r⟩
set_option maxRecDepth 100000 in
set_option maxHeartbeats 4000000 in
theorem body1_any (m : Msg) (a b : Option Addr) (ca cb : Nat) (w : World) (hav : PkRow w (.slice a m.na ca) m.na m.acts) (hin : RowIn w.heap.size (.slice a m.na ca)) (hk : m.kind = 1) :
    Calls Try.prog 40 #[msgV m (.slice a m.na ca) (.slice b m.np cb)] w (Gives w.heap.size (twoB m.prio ++ pkB m.mt ++ twoB m.na ++ pksB m.na m.acts) w) := by
  have HAV := hide hav
  have HIN := hide hin
  clear hav hin
  obtain ⟨kind, p, mt, na, acts, np, pks⟩ := m
  unfold msgV
  simp only at hk HAV HIN ⊢
  subst hk
  obtain ⟨BS, hBS⟩ : ∃ BS, BS = twoB p ++ pkB mt ++ twoB (na : Int) ++ pksB na acts := ⟨_, rfl⟩
  rw [← hBS]
  have HBS := hide hBS
  clear hBS
  have M0 := hide (msgBlk.alloc w 1 p mt (.slice a na ca) (.slice b np cb))
  go_enter Try.func40, Try.ntmps40
  go_wp2_with fail
  obtain ⟨wa, hwa⟩ : ∃ wa, wa = w.alloc (Obj.cells #[.int .i64 1, .int .i64 p, .int .i64 (mt 0), .int .i64 (mt 1), .int .i64 (mt 2), .int .i64 (mt 3), .int .i64 (mt 4), .int .i64 (mt 5), .slice a na ca, .slice b np cb] 45) := ⟨_, rfl⟩
  have hsa : wa.heap.size = w.heap.size + 1 := by rw [hwa]; simp
  have GA : Hid (w.grownBy wa none) := by rw [hwa]; exact World.grownBy_alloc _ _ _
  rw [← hwa] at M0 ⊢
  clear hwa
  refine (addTwo_any (w.heap.size + 1) _ [] p _ (BRow.nil _ _) (by omega) (by simp)).mono ?_
  rintro e w1 ⟨v1, rfl, hB1, hg1, ho1⟩
  have B1 := hide hB1
  have L1 := hide (Below.up (B := w.heap.size + 1) hg1 (by omega))
  have M1 := hide (M0.out.below L1.out (by omega))
  clear hB1 hg1 ho1
  obtain ⟨c0, c1, c2, c3, c4, c5, c6, c7, c8, c9⟩ := M1.out.cells
  go_wp2_with fail
  obtain ⟨wb, hwb⟩ : ∃ wb, wb = w1.alloc (Obj.cells #[.int .i64 (mt 0), .int .i64 (mt 1), .int .i64 (mt 2), .int .i64 (mt 3), .int .i64 (mt 4), .int .i64 (mt 5)] 27) := ⟨_, rfl⟩
  have P1 : Hid (pkBlk wb w1.heap.size mt) := by rw [hwb]; exact pkBlk.alloc _ _
  have GB : Hid (w1.grownBy wb none) := by rw [hwb]; exact World.grownBy_alloc _ _ _
  rw [← hwb]
  clear hwb c0 c1 c2 c3 c4 c5 c6 c7 c8 c9
  have hs1 := L1.out.size
  have hsb := GB.out.size
  refine (addPackets_any (w.heap.size + 1) v1 _ ([] ++ twoB p) 1 (fun _ => mt) wb (B1.out.kept GB.out) (by omega) (by simp [twoB]) (PkRow.one P1.out) (fun g off cap e h => by cases e; have := (B1.out.lt _ h).2; omega)).mono ?_
  rintro e w2 ⟨v2, rfl, hB2, hg2, ho2⟩
  have L2 := hide ((Below.up (B := w.heap.size + 1) GB.out (by omega)).trans (grown_below_own (B1.out.kept GB.out) hg2 (by omega)))
  have B2 := hide hB2
  have M2 := hide (M1.out.below L2.out (by omega))
  clear hB2 hg2 ho2 M1
  obtain ⟨c0, c1, c2, c3, c4, c5, c6, c7, c8, c9⟩ := M2.out.cells
  have hs2 := L2.out.size
  go_wp2_with fail
  clear c0 c1 c2 c3 c4 c5 c6 c7 c8 c9
  refine (addTwo_any (w.heap.size + 1) v2 _ na w2 B2.out (by omega) (by simp [twoB, pksB_len])).mono ?_
  rintro e w3 ⟨v3, rfl, hB3, hg3, ho3⟩
  have L3 := hide (grown_below_own B2.out hg3 (by omega))
  have B3 := hide hB3
  have M3 := hide (M2.out.below L3.out (by omega))
  clear hB3 hg3 ho3 M2
  obtain ⟨c0, c1, c2, c3, c4, c5, c6, c7, c8, c9⟩ := M3.out.cells
  have hs3 := L3.out.size
  have LL := hide ((L1.out.trans L2.out).trans L3.out)
  have hgw : Below w.heap.size w wa := Below.up GA.out (Nat.le_refl _)
  have LW := hide (hgw.trans (LL.out.mono (Nat.le_succ _)))
  clear hgw
  go_wp2_with fail
  clear c0 c1 c2 c3 c4 c5 c6 c7 c8 c9
  refine (addPackets_any (w.heap.size + 1) v3 _ _ na acts w3 B3.out (by omega) (by simp [twoB, pksB_len]) (HAV.out.below LW.out HIN.out) (HIN.out.ne B3.out (by omega))).mono ?_
  rintro e w4 ⟨v4, rfl, hB4, hg4, ho4⟩
  have L4 := hide (grown_below_own B3.out hg4 (by omega))
  have B4 := hide hB4
  clear hB4 hg4 ho4
  go_wp2
  go_ret
  refine ⟨_, rfl, ?_, ?_⟩
  · rw [HBS.out]
    have := B4.out
    rw [pksB_one, List.nil_append] at this
    exact this.weak (by omega)
  · exact LW.out.trans (L4.out.mono (by omega))
set_option maxRecDepth 100000 in
set_option maxHeartbeats 4000000 in
theorem body5_any (m : Msg) (a b : Option Addr) (ca cb : Nat) (w : World) (hav : PkRow w (.slice b m.np cb) m.np m.pks) (hin : RowIn w.heap.size (.slice b m.np cb)) (hk : m.kind = 5) :
    Calls Try.prog 40 #[msgV m (.slice a m.na ca) (.slice b m.np cb)] w (Gives w.heap.size (twoB m.np ++ pksB m.np m.pks) w) := by
  have HAV := hide hav
  have HIN := hide hin
  clear hav hin
  obtain ⟨kind, p, mt, na, acts, np, pks⟩ := m
  unfold msgV
  simp only at hk HAV HIN ⊢
  subst hk
  obtain ⟨BS, hBS⟩ : ∃ BS, BS = twoB (np : Int) ++ pksB np pks := ⟨_, rfl⟩
  rw [← hBS]
  have HBS := hide hBS
  clear hBS
  have M0 := hide (msgBlk.alloc w 5 p mt (.slice a na ca) (.slice b np cb))
  go_enter Try.func40, Try.ntmps40
  go_wp2_with fail
  obtain ⟨wa, hwa⟩ : ∃ wa, wa = w.alloc (Obj.cells #[.int .i64 5, .int .i64 p, .int .i64 (mt 0), .int .i64 (mt 1), .int .i64 (mt 2), .int .i64 (mt 3), .int .i64 (mt 4), .int .i64 (mt 5), .slice a na ca, .slice b np cb] 45) := ⟨_, rfl⟩
  have hsa : wa.heap.size = w.heap.size + 1 := by rw [hwa]; simp
  have GA : Hid (w.grownBy wa none) := by rw [hwa]; exact World.grownBy_alloc _ _ _
  rw [← hwa] at M0 ⊢
  clear hwa
  have c9 : wa.cell? ⟨w.heap.size, 9, none⟩ = some (.slice b np cb) := M0.out.cells.2.2.2.2.2.2.2.2.2
  have D0 : Hid (Below w.heap.size w wa.drew) := (Below.up GA.out (Nat.le_refl _)).drew
  have M0' : Hid (msgBlk wa.drew w.heap.size 5 p mt (.slice a na ca) (.slice b np cb)) := M0.out
  have hsd : wa.drew.heap.size = w.heap.size + 1 := hsa
  go_region_with (first
    | (go_at_call 41
       refine (addTwo_any (w.heap.size + 1) _ [] np wa.drew (BRow.nil _ _) ?_ ?_).mono ?_
       · exact Nat.le_of_eq hsd.symm
       · exact Nat.zero_le _
       rintro e w1 ⟨v1, rfl, hB1, hg1, ho1⟩
       have B1 := hide hB1
       have hL1 := Below.up (B := w.heap.size + 1) hg1 (Nat.le_of_eq hsd.symm)
       have L1 := hide hL1
       have c9' : w1.cell? ⟨w.heap.size, 9, none⟩ = some (.slice b np cb) := (M0'.out.below hL1 (Nat.lt_succ_self _)).cells.2.2.2.2.2.2.2.2.2
       clear hB1 hg1 ho1 hL1)
    | (go_at_call 52
       refine (addPackets_any (w.heap.size + 1) v1 _ _ np pks w1 B1.out ?_ ?_ ?_ ?_).mono ?_
       · have := L1.out.size; omega
       · simp [twoB]
       · exact HAV.out.below (D0.out.trans (L1.out.mono (Nat.le_succ _))) HIN.out
       · exact HIN.out.ne B1.out (Nat.le_succ _)
       rintro e w4 ⟨v4, rfl, hB4, hg4, ho4⟩
       have L4 := hide (grown_below_own B1.out hg4 (by have := L1.out.size; omega))
       have B4 := hide hB4
       clear hB4 hg4 ho4))
  all_goals
    go_wp2
    go_ret
    refine ⟨_, rfl, ?_, ?_⟩
    · rw [HBS.out]
      have := B4.out
      rw [List.nil_append] at this
      exact this.weak (by omega)
    · exact (D0.out.trans (L1.out.mono (Nat.le_succ _))).trans (L4.out.mono (by omega))
set_option maxRecDepth 100000 in
set_option maxHeartbeats 4000000 in
theorem body0_any (m : Msg) (a b : Option Addr) (ca cb : Nat) (w : World) (hav : PkRow w (.slice b m.np cb) m.np m.pks) (hin : RowIn w.heap.size (.slice b m.np cb)) (hk : m.kind ≠ 1) (hk2 : m.kind ≠ 5) :
    Calls Try.prog 40 #[msgV m (.slice a m.na ca) (.slice b m.np cb)] w (Gives w.heap.size (pksB m.np m.pks) w) := by
  have HAV := hide hav
  have HIN := hide hin
  clear hav hin
  obtain ⟨kind, p, mt, na, acts, np, pks⟩ := m
  unfold msgV
  simp only at hk hk2 HAV HIN ⊢
  obtain ⟨BS, hBS⟩ : ∃ BS, BS = pksB np pks := ⟨_, rfl⟩
  rw [← hBS]
  have HBS := hide hBS
  clear hBS
  have M0 := hide (msgBlk.alloc w kind p mt (.slice a na ca) (.slice b np cb))
  go_enter Try.func40, Try.ntmps40
  go_wp2_with fail
  obtain ⟨wa, hwa⟩ : ∃ wa, wa = w.alloc (Obj.cells #[.int .i64 kind, .int .i64 p, .int .i64 (mt 0), .int .i64 (mt 1), .int .i64 (mt 2), .int .i64 (mt 3), .int .i64 (mt 4), .int .i64 (mt 5), .slice a na ca, .slice b np cb] 45) := ⟨_, rfl⟩
  have hsa : wa.heap.size = w.heap.size + 1 := by rw [hwa]; simp
  have GA : Hid (w.grownBy wa none) := by rw [hwa]; exact World.grownBy_alloc _ _ _
  rw [← hwa] at M0 ⊢
  clear hwa
  have hgw : Below w.heap.size w wa := Below.up GA.out (Nat.le_refl _)
  have LW := hide hgw
  clear hgw
  refine (addPackets_any (w.heap.size + 1) _ _ [] np pks wa (BRow.nil _ _) (by omega) (by simp [twoB, pksB_len]) (HAV.out.below LW.out HIN.out) (fun _ _ _ _ h => by simp [Value.ownBlock] at h)).mono ?_
  rintro e w4 ⟨v4, rfl, hB4, hg4, ho4⟩
  have L4 := hide (Below.up (B := w.heap.size + 1) hg4 (by omega))
  have B4 := hide hB4
  clear hB4 hg4 ho4
  go_wp2
  go_ret
  refine ⟨_, rfl, ?_, ?_⟩
  · rw [HBS.out]
    have := B4.out
    rw [List.nil_append] at this
    exact this.weak (by omega)
  · exact LW.out.trans (L4.out.mono (by omega))
theorem body_any (m : Msg) (a b : Option Addr) (ca cb : Nat) (w : World) (hav : PkRow w (.slice a m.na ca) m.na m.acts) (hpv : PkRow w (.slice b m.np cb) m.np m.pks) (hia : RowIn w.heap.size (.slice a m.na ca)) (hib : RowIn w.heap.size (.slice b m.np cb)) :
    Calls Try.prog 40 #[msgV m (.slice a m.na ca) (.slice b m.np cb)] w (Gives w.heap.size (bodyB m) w) := by
  unfold bodyB
  by_cases h1 : m.kind = 1
  · rw [if_pos h1]; exact body1_any m a b ca cb w hav hia h1
  by_cases h5 : m.kind = 5
  · rw [if_neg h1, if_pos h5]; exact body5_any m a b ca cb w hpv hib h5
  · rw [if_neg h1, if_neg h5]; exact body0_any m a b ca cb w hpv hib h1 h5
end Go.Proofs.Ytlhkfafdioakeaa
