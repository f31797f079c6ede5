/- Proved here: which messages the program takes for right. -/
import Derived.Test.YtlhkfafdioakeaaMsgB
namespace Go.Proofs.Ytlhkfafdioakeaa
open Go.RowKit
set_option linter.unusedVariables false
set_option linter.unusedSimpArgs false
/-- A message: its kind, its rule's priority, match and actions, its packets. -/
structure Msg where
  kind : Int
  prio : Int
  mt : Nat → Int
  na : Nat
  acts : Nat → Nat → Int
  np : Nat
  pks : Nat → Nat → Int
def noRuleS (m : Msg) : Prop := m.prio = 0 ∧ (∀ i, i < 6 → m.mt i = 0) ∧ m.na = 0
def ruleS (m : Msg) : Prop := 0 ≤ m.prio ∧ m.prio ≤ 65535 ∧ openS m.mt ∧ ∀ j, j < m.na → openS (m.acts j)
def msgS (m : Msg) : Prop :=
  (m.kind = 1 ∧ ruleS m ∧ m.np = 0) ∨ (m.kind = 4 ∧ noRuleS m ∧ m.np = 1 ∧ ∀ j, j < m.np → rightS (m.pks j)) ∨ (m.kind = 5 ∧ noRuleS m ∧ ∀ j, j < m.np → rightS (m.pks j)) ∨
  ((m.kind = 2 ∨ m.kind = 3 ∨ m.kind = 6) ∧ noRuleS m ∧ m.np = 0)
def ruleV (m : Msg) (av : Value) : Value := .agg #[.int .i64 m.prio, .int .i64 (m.mt 0), .int .i64 (m.mt 1), .int .i64 (m.mt 2), .int .i64 (m.mt 3), .int .i64 (m.mt 4), .int .i64 (m.mt 5), av]
def msgV (m : Msg) (av pv : Value) : Value := .agg #[.int .i64 m.kind, .int .i64 m.prio, .int .i64 (m.mt 0), .int .i64 (m.mt 1), .int .i64 (m.mt 2), .int .i64 (m.mt 3), .int .i64 (m.mt 4), .int .i64 (m.mt 5), av, pv]
theorem PkRow.slice {w : World} {v : Value} {n : Nat} {ps : Nat → Nat → Int} (h : PkRow w v n ps) : ∃ a cap, v = .slice a n cap := by
  rcases h with ⟨rfl, rfl⟩ | ⟨g, off, cap, rfl, _⟩
  · exact ⟨_, _, rfl⟩
  · exact ⟨_, _, rfl⟩
theorem PkRow.few {w : World} {v : Value} {n : Nat} {ps : Nat → Nat → Int} (h : PkRow w v n ps) : n ≤ 3000000000000 := by
  rcases h with ⟨rfl, rfl⟩ | ⟨g, off, cap, rfl, h, _⟩ <;> omega
theorem eq6_iff (a0 a1 a2 a3 a4 a5 b0 b1 b2 b3 b4 b5 : Int) : eq6 a0 a1 a2 a3 a4 a5 b0 b1 b2 b3 b4 b5 = true ↔ a0 = b0 ∧ a1 = b1 ∧ a2 = b2 ∧ a3 = b3 ∧ a4 = b4 ∧ a5 = b5 := by
  simp [eq6]
theorem all6 (p : Nat → Prop) : (∀ i, i < 6 → p i) ↔ p 0 ∧ p 1 ∧ p 2 ∧ p 3 ∧ p 4 ∧ p 5 := by
  constructor
  · intro h; exact ⟨h 0 (by omega), h 1 (by omega), h 2 (by omega), h 3 (by omega), h 4 (by omega), h 5 (by omega)⟩
  · rintro ⟨h0, h1, h2, h3, h4, h5⟩ i hi
    rcases (show i = 0 ∨ i = 1 ∨ i = 2 ∨ i = 3 ∨ i = 4 ∨ i = 5 by omega) with rfl | rfl | rfl | rfl | rfl | rfl <;> assumption
theorem says_no {p : Prop} {w w' : World} (h : ¬ p) (hg : w.grownBy w' none) : Says p w (.returned (.bool false)) w' := ⟨⟨false, rfl, ⟨fun e => (by cases e), fun e => absurd e h⟩⟩, hg⟩
theorem says_yes {p : Prop} {w w' : World} (h : p) (hg : w.grownBy w' none) : Says p w (.returned (.bool true)) w' := ⟨⟨true, rfl, ⟨fun _ => h, fun _ => rfl⟩⟩, hg⟩
theorem says_f {p : Prop} {w w' : World} {b : Bool} (hb : b = false) (h : ¬ p) (hg : w.grownBy w' none) : Says p w (.returned (.bool b)) w' := by subst hb; exact says_no h hg
theorem says_t {p : Prop} {w w' : World} {b : Bool} (hb : b = true) (h : p) (hg : w.grownBy w' none) : Says p w (.returned (.bool b)) w' := by subst hb; exact says_yes h hg
theorem says_as {p q : Prop} {w w' : World} {b : Bool} (h : b = true ↔ q) (hpq : q ↔ p) (hg : w.grownBy w' none) : Says p w (.returned (.bool b)) w' := ⟨⟨b, rfl, h.trans hpq⟩, hg⟩
set_option maxRecDepth 100000 in
set_option maxHeartbeats 1000000 in
theorem noRule_any (m : Msg) (a : Option Addr) (cap : Nat) (w : World) : Calls Try.prog 49 #[ruleV m (.slice a m.na cap)] w (Says (noRuleS m) w) := by
  obtain ⟨kind, p, mt, na, acts, np, pks⟩ := m
  unfold ruleV noRuleS
  simp only
  generalize hP : (p = 0 ∧ (∀ i, i < 6 → mt i = 0) ∧ na = 0) = P
  have HP := hide hP
  clear hP
  have H6 := hide (eq6_iff (mt 0) (mt 1) (mt 2) (mt 3) (mt 4) (mt 5) 0 0 0 0 0 0)
  by_cases h0 : p = 0
  · have H0 := hide h0
    have h1 : p ≤ 0 := by omega
    have h2 : 0 ≤ p := by omega
    clear h0
    cases h3 : eq6 (mt 0) (mt 1) (mt 2) (mt 3) (mt 4) (mt 5) 0 0 0 0 0 0 with
    | false =>
      rw [h3] at H6
      go_enter Try.func49, Try.ntmps49
      go_wp2
      go_ret
      exact says_no (fun h => by rw [← HP.out] at h; have := H6.out.2 ((all6 (fun i => mt i = 0)).1 h.2.1); simp at this) (World.grownBy_alloc _ _ _)
    | true =>
      rw [h3] at H6
      by_cases h4 : na = 0
      · have H4 := hide h4
        have h5 : na ≤ 0 := by omega
        clear h4
        go_enter Try.func49, Try.ntmps49
        go_wp2
        go_ret
        exact says_t (by simp [H4.out]) (by rw [← HP.out]; exact ⟨H0.out, (all6 (fun i => mt i = 0)).2 (H6.out.1 (by simp)), H4.out⟩) (World.grownBy_alloc _ _ _)
      · go_enter Try.func49, Try.ntmps49
        go_wp2
        go_ret
        exact says_f (by simp [h4]) (fun h => by rw [← HP.out] at h; exact h4 h.2.2) (World.grownBy_alloc _ _ _)
  · go_enter Try.func49, Try.ntmps49
    go_wp2
    go_ret
    exact says_no (fun h => by rw [← HP.out] at h; exact h0 h.1) (World.grownBy_alloc _ _ _)
set_option maxRecDepth 100000 in
set_option maxHeartbeats 2000000 in
theorem rightRule_any (m : Msg) (av : Value) (w : World) (hav : PkRow w av m.na m.acts) : Calls Try.prog 48 #[ruleV m av] w (Says (ruleS m) w) := by
  obtain ⟨kind, p, mt, na, acts, np, pks⟩ := m
  unfold ruleV ruleS
  simp only at hav ⊢
  have HAV := hide hav
  have HM := hide (fun w => pat_any mt w)
  have HA := hide (fun w h => allP_any openS pat_any av na acts w h)
  clear hav
  unfold pkV pkA at HM
  by_cases h0 : 0 ≤ p
  · by_cases h1 : p ≤ 65535
    · go_enter Try.func48, Try.ntmps48
      go_wp2_with fail
      refine (HM.out _).mono ?_
      rintro e w1 ⟨⟨b, rfl, hb⟩, hg1⟩
      have G1 := hide hg1
      have HB := hide hb
      have c7 : w1.cell? ⟨w.heap.size, 7, none⟩ = some av := hg1.cell (by simp) (by simp)
      clear hb hg1
      cases b
      · go_wp2
        go_ret
        exact ⟨⟨false, rfl, by simp; intro _ _ hh; have := HB.out.2 hh; simp at this⟩, grown_trans (World.grownBy_alloc _ _ _) G1.out⟩
      · go_wp2_with fail
        refine (HA.out _ (HAV.out.grown (grown_trans (World.grownBy_alloc _ _ _) G1.out))).mono ?_
        rintro e w2 ⟨⟨b, rfl, hb⟩, hg2⟩
        have G2 := hide hg2
        have HB2 := hide hb
        clear hb hg2
        go_wp2
        go_ret
        exact ⟨⟨b, rfl, by rw [HB2.out]; constructor
                           · intro h; exact ⟨h0, h1, HB.out.1 (by simp), h⟩
                           · intro h; exact h.2.2.2⟩, grown_trans (grown_trans (World.grownBy_alloc _ _ _) G1.out) G2.out⟩
    · go_enter Try.func48, Try.ntmps48
      go_wp2
      go_ret
      exact ⟨⟨false, rfl, by simp; intro _ e; omega⟩, World.grownBy_alloc _ _ _⟩
  · go_enter Try.func48, Try.ntmps48
    go_wp2
    go_ret
    exact ⟨⟨false, rfl, by simp; intro e; omega⟩, World.grownBy_alloc _ _ _⟩

set_option maxRecDepth 100000 in
set_option maxHeartbeats 2000000 in
theorem right1_any (m : Msg) (a b : Option Addr) (ca cb : Nat) (w : World) (hav : PkRow w (.slice a m.na ca) m.na m.acts) (hk : m.kind = 1) :
    Calls Try.prog 39 #[msgV m (.slice a m.na ca) (.slice b m.np cb)] w (Says (ruleS m ∧ m.np = 0) w) := by
  generalize hP : (ruleS m ∧ m.np = 0) = P
  have HP := hide hP
  clear hP
  have HR := hide (fun w h => rightRule_any m (.slice a m.na ca) w h)
  have HAV := hide hav
  clear hav
  obtain ⟨kind, p, mt, na, acts, np, pks⟩ := m
  unfold ruleV at HR
  unfold msgV
  simp only at hk HR HAV HP ⊢
  subst hk
  generalize (Msg.mk 1 p mt na acts np pks) = m at *
  go_enter Try.func39, Try.ntmps39
  go_wp2_with fail
  refine (HR.out _ (HAV.out.grown (World.grownBy_alloc _ _ _))).mono ?_
  rintro e w1 ⟨⟨b, rfl, hb⟩, hg1⟩
  have G1 := hide hg1
  have HB := hide hb
  have c9 : w1.cell? ⟨w.heap.size, 9, none⟩ = some (.slice _ np cb) := hg1.cell (by simp; rfl) (by simp)
  clear hb hg1
  cases b
  · go_wp2
    go_ret
    exact says_no (fun h => by rw [← HP.out] at h; have := HB.out.2 h.1; simp at this) (grown_trans (World.grownBy_alloc _ _ _) G1.out)
  · by_cases h4 : np = 0
    · have H4 := hide h4
      have h5 : np ≤ 0 := by omega
      clear h4
      go_wp2
      go_ret
      exact says_t (by simp [H4.out]) (by rw [← HP.out]; exact ⟨HB.out.1 (by simp), H4.out⟩) (grown_trans (World.grownBy_alloc _ _ _) G1.out)
    · go_wp2
      go_ret
      exact says_f (by simp [h4]) (fun h => by rw [← HP.out] at h; exact h4 h.2) (grown_trans (World.grownBy_alloc _ _ _) G1.out)
set_option maxRecDepth 100000 in
set_option maxHeartbeats 2000000 in
theorem right2_any (m : Msg) (a b : Option Addr) (ca cb : Nat) (w : World) (hk : m.kind = 2 ∨ m.kind = 3 ∨ m.kind = 6) :
    Calls Try.prog 39 #[msgV m (.slice a m.na ca) (.slice b m.np cb)] w (Says (noRuleS m ∧ m.np = 0) w) := by
  generalize hP : (noRuleS m ∧ m.np = 0) = P
  have HP := hide hP
  clear hP
  have HR := hide (fun w => noRule_any m a ca w)
  obtain ⟨kind, p, mt, na, acts, np, pks⟩ := m
  unfold ruleV at HR
  unfold msgV
  simp only at hk HR HP ⊢
  generalize (Msg.mk kind p mt na acts np pks) = m at *
  rcases hk with rfl | rfl | rfl
  all_goals
    go_enter Try.func39, Try.ntmps39
    go_wp2_with fail
    refine (HR.out _).mono ?_
    rintro e w1 ⟨⟨b, rfl, hb⟩, hg1⟩
    have G1 := hide hg1
    have HB := hide hb
    have c9 : w1.cell? ⟨w.heap.size, 9, none⟩ = some (.slice _ np cb) := hg1.cell (by simp; rfl) (by simp)
    clear hb hg1
    cases b
    · go_wp2
      go_ret
      exact says_no (fun h => by rw [← HP.out] at h; have := HB.out.2 h.1; simp at this) (grown_trans (World.grownBy_alloc _ _ _) G1.out)
    · by_cases h4 : np = 0
      · have H4 := hide h4
        have h5 : np ≤ 0 := by omega
        clear h4
        go_wp2
        go_ret
        exact says_t (by simp [H4.out]) (by rw [← HP.out]; exact ⟨HB.out.1 (by simp), H4.out⟩) (grown_trans (World.grownBy_alloc _ _ _) G1.out)
      · go_wp2
        go_ret
        exact says_f (by simp [h4]) (fun h => by rw [← HP.out] at h; exact h4 h.2) (grown_trans (World.grownBy_alloc _ _ _) G1.out)
set_option maxRecDepth 100000 in
set_option maxHeartbeats 2000000 in
theorem right5_any (m : Msg) (a b : Option Addr) (ca cb : Nat) (w : World) (hpv : PkRow w (.slice b m.np cb) m.np m.pks) (hk : m.kind = 5) :
    Calls Try.prog 39 #[msgV m (.slice a m.na ca) (.slice b m.np cb)] w (Says (noRuleS m ∧ ∀ j, j < m.np → rightS (m.pks j)) w) := by
  generalize hP : (noRuleS m ∧ ∀ j, j < m.np → rightS (m.pks j)) = P
  have HP := hide hP
  clear hP
  have HR := hide (fun w => noRule_any m a ca w)
  have HA := hide (fun w h => allR_any rightS right_any (.slice b m.np cb) m.np m.pks w h)
  have HPV := hide hpv
  clear hpv
  obtain ⟨kind, p, mt, na, acts, np, pks⟩ := m
  unfold ruleV at HR
  unfold msgV
  simp only at hk HR HA HPV HP ⊢
  generalize (Msg.mk kind p mt na acts np pks) = m at *
  subst hk
  go_enter Try.func39, Try.ntmps39
  go_wp2_with fail
  refine (HR.out _).mono ?_
  rintro e w1 ⟨⟨b, rfl, hb⟩, hg1⟩
  have G1 := hide hg1
  have HB := hide hb
  have c9 : w1.cell? ⟨w.heap.size, 9, none⟩ = some (.slice _ np cb) := hg1.cell (by simp; rfl) (by simp)
  clear hb hg1
  cases b
  · go_wp2
    go_ret
    exact says_no (fun h => by rw [← HP.out] at h; have := HB.out.2 h.1; simp at this) (grown_trans (World.grownBy_alloc _ _ _) G1.out)
  · go_wp2_with fail
    refine (HA.out _ (HPV.out.grown (grown_trans (World.grownBy_alloc _ _ _) G1.out))).mono ?_
    rintro e w2 ⟨⟨b, rfl, hb⟩, hg2⟩
    have G2 := hide hg2
    have HB2 := hide hb
    clear hb hg2
    go_wp2
    go_ret
    exact says_as HB2.out (by rw [← HP.out]; exact ⟨fun h => ⟨HB.out.1 (by simp), h⟩, fun h => h.2⟩) (grown_trans (grown_trans (World.grownBy_alloc _ _ _) G1.out) G2.out)
set_option maxRecDepth 100000 in
set_option maxHeartbeats 2000000 in
theorem right4_any (m : Msg) (a b : Option Addr) (ca cb : Nat) (w : World) (hpv : PkRow w (.slice b m.np cb) m.np m.pks) (hk : m.kind = 4) :
    Calls Try.prog 39 #[msgV m (.slice a m.na ca) (.slice b m.np cb)] w (Says (noRuleS m ∧ m.np = 1 ∧ ∀ j, j < m.np → rightS (m.pks j)) w) := by
  generalize hP : (noRuleS m ∧ m.np = 1 ∧ ∀ j, j < m.np → rightS (m.pks j)) = P
  have HP := hide hP
  clear hP
  have HR := hide (fun w => noRule_any m a ca w)
  have HA := hide (fun w h => allR_any rightS right_any (.slice b m.np cb) m.np m.pks w h)
  have HPV := hide hpv
  clear hpv
  obtain ⟨kind, p, mt, na, acts, np, pks⟩ := m
  unfold ruleV at HR
  unfold msgV
  simp only at hk HR HA HPV HP ⊢
  generalize (Msg.mk kind p mt na acts np pks) = m at *
  subst hk
  go_enter Try.func39, Try.ntmps39
  go_wp2_with fail
  refine (HR.out _).mono ?_
  rintro e w1 ⟨⟨b, rfl, hb⟩, hg1⟩
  have G1 := hide hg1
  have HB := hide hb
  have c9 : w1.cell? ⟨w.heap.size, 9, none⟩ = some (.slice _ np cb) := hg1.cell (by simp; rfl) (by simp)
  clear hb hg1
  cases b
  · go_wp2
    go_ret
    exact says_no (fun h => by rw [← HP.out] at h; have := HB.out.2 h.1; simp at this) (grown_trans (World.grownBy_alloc _ _ _) G1.out)
  · by_cases h4 : np = 1
    · have H4 := hide h4
      have h5 : np ≤ 1 := by omega
      have h6 : 1 ≤ np := by omega
      clear h4
      go_wp2_with fail
      refine (HA.out _ (HPV.out.grown (grown_trans (World.grownBy_alloc _ _ _) G1.out))).mono ?_
      rintro e w2 ⟨⟨b, rfl, hb⟩, hg2⟩
      have G2 := hide hg2
      have HB2 := hide hb
      clear hb hg2
      go_wp2
      go_ret
      exact says_as HB2.out (by rw [← HP.out]; exact ⟨fun h => ⟨HB.out.1 (by simp), H4.out, h⟩, fun h => h.2.2⟩) (grown_trans (grown_trans (World.grownBy_alloc _ _ _) G1.out) G2.out)
    · go_wp2
      go_ret
      exact says_no (fun h => by rw [← HP.out] at h; exact h4 h.2.1) (grown_trans (World.grownBy_alloc _ _ _) G1.out)
set_option maxRecDepth 100000 in
set_option maxHeartbeats 2000000 in
theorem right0_any (m : Msg) (a b : Option Addr) (ca cb : Nat) (w : World) (h1 : m.kind ≠ 1) (h2 : m.kind ≠ 2) (h3 : m.kind ≠ 3) (h4 : m.kind ≠ 4) (h5 : m.kind ≠ 5) (h6 : m.kind ≠ 6) :
    Calls Try.prog 39 #[msgV m (.slice a m.na ca) (.slice b m.np cb)] w (Says False w) := by
  obtain ⟨kind, p, mt, na, acts, np, pks⟩ := m
  unfold msgV
  simp only at h1 h2 h3 h4 h5 h6 ⊢
  go_enter Try.func39, Try.ntmps39
  go_wp2
  go_ret
  exact says_no id (World.grownBy_alloc _ _ _)
theorem Says.cast {p q : Prop} {w : World} (h : p ↔ q) : Says p w = Says q w := by rw [propext h]
theorem msg_any (m : Msg) (a b : Option Addr) (ca cb : Nat) (w : World) (hav : PkRow w (.slice a m.na ca) m.na m.acts) (hpv : PkRow w (.slice b m.np cb) m.np m.pks) :
    Calls Try.prog 39 #[msgV m (.slice a m.na ca) (.slice b m.np cb)] w (Says (msgS m) w) := by
  by_cases h1 : m.kind = 1
  · rw [← Says.cast (p := ruleS m ∧ m.np = 0) (by unfold msgS; simp [h1])]; exact right1_any m a b ca cb w hav h1
  by_cases h2 : m.kind = 2
  · rw [← Says.cast (p := noRuleS m ∧ m.np = 0) (by unfold msgS; simp [h2])]; exact right2_any m a b ca cb w (.inl h2)
  by_cases h3 : m.kind = 3
  · rw [← Says.cast (p := noRuleS m ∧ m.np = 0) (by unfold msgS; simp [h3])]; exact right2_any m a b ca cb w (.inr (.inl h3))
  by_cases h4 : m.kind = 4
  · rw [← Says.cast (p := noRuleS m ∧ m.np = 1 ∧ ∀ j, j < m.np → rightS (m.pks j)) (by unfold msgS; simp [h4])]; exact right4_any m a b ca cb w hpv h4
  by_cases h5 : m.kind = 5
  · rw [← Says.cast (p := noRuleS m ∧ ∀ j, j < m.np → rightS (m.pks j)) (by unfold msgS; simp [h5])]; exact right5_any m a b ca cb w hpv h5
  by_cases h6 : m.kind = 6
  · rw [← Says.cast (p := noRuleS m ∧ m.np = 0) (by unfold msgS; simp [h6])]; exact right2_any m a b ca cb w (.inr (.inr h6))
  · rw [← Says.cast (p := False) (by unfold msgS; simp [h1, h2, h3, h4, h5, h6])]; exact right0_any m a b ca cb w h1 h2 h3 h4 h5 h6
end Go.Proofs.Ytlhkfafdioakeaa
