/- Plain facts: the rules of a table: the first that matches a packet is made of one that stands for it; each is the first for some packet. -/
import Derived.Test.YtlhkfafdioakeaaGreatDoorTbA
namespace Go.Proofs.YtlhkfafdioakeaaGreatDoor
open Go.RowKit Go.Weft Classical
set_option linter.unusedVariables false
set_option linter.unusedSimpArgs false
/-- The match of all packets. -/
def evry : Nat → Int := fun i => if i < 6 then -1 else 0
/-- The rules for packets that are as k ahead of the last n fields; T: what is tested, o: what nothing names, ac: the actions. -/
noncomputable def rulesS (T : Nat → List Int) (o : Nat → Int) (ac : (Nat → Int) → List (Nat → Int)) : Nat → (Nat → Int) → List ((Nat → Int) × List (Nat → Int))
  | 0, k => [(evry, ac k)]
  | n + 1, k => ((T (5 - n)).flatMap fun v => if rulesS T o ac n (putF k (5 - n) v) = rulesS T o ac n (putF k (5 - n) (o (5 - n))) then [] else (rulesS T o ac n (putF k (5 - n) v)).map fun r => (putF r.1 (5 - n) v, r.2)) ++ rulesS T o ac n (putF k (5 - n) (o (5 - n)))
section
variable {T : Nat → List Int} {o : Nat → Int} {ac : (Nat → Int) → List (Nat → Int)}
/-- What matches a rule has: nothing of the fields ahead, of the others nothing or what is tested. -/
theorem rules_open : ∀ (n : Nat) (k : Nat → Int), n ≤ 5 → ∀ r ∈ rulesS T o ac n k, (∀ i, i < 6 - n → r.1 i = -1) ∧ (∀ i, i < 6 → r.1 i = -1 ∨ r.1 i ∈ T i) ∧ (∀ i, 6 ≤ i → r.1 i = 0) ∧ ∃ k', r.2 = ac k'
  | 0, k, _, r, hr => by
    rw [rulesS, List.mem_singleton] at hr
    subst hr
    refine ⟨fun i hi => ?_, fun i hi => .inl ?_, fun i hi => ?_, k, rfl⟩
    · show evry i = -1; unfold evry; rw [if_pos hi]
    · show evry i = -1; unfold evry; rw [if_pos hi]
    · show evry i = 0; unfold evry; rw [if_neg (by omega)]
  | n + 1, k, hn, r, hr => by
    rw [rulesS, List.mem_append] at hr
    rcases hr with hr | hr
    · obtain ⟨v, hv, hr⟩ := List.mem_flatMap.1 hr
      split at hr
      · cases hr
      · obtain ⟨q, hq, rfl⟩ := List.mem_map.1 hr
        obtain ⟨h1, h2, h3, h4⟩ := rules_open n _ (by omega) q hq
        refine ⟨fun i hi => ?_, fun i hi => ?_, fun i hi => ?_, h4⟩
        · show putF q.1 (5 - n) v i = -1
          unfold putF
          rw [if_neg (by omega)]; exact h1 i (by omega)
        · show putF q.1 (5 - n) v i = -1 ∨ putF q.1 (5 - n) v i ∈ T i
          unfold putF
          by_cases e : i = 5 - n
          · rw [if_pos e, e]; exact .inr hv
          · rw [if_neg e]; exact h2 i hi
        · show putF q.1 (5 - n) v i = 0
          unfold putF
          rw [if_neg (by omega)]; exact h3 i hi
    · obtain ⟨h1, h2, h3, h4⟩ := rules_open n _ (by omega) r hr
      exact ⟨fun i hi => h1 i (by omega), h2, h3, h4⟩
noncomputable def hitB (x : Nat → Int) (r : (Nat → Int) × List (Nat → Int)) : Bool := decide (matchS r.1 x)
theorem findSome_none {α β : Type} {g : α → Option β} : ∀ {l : List α}, (∀ v ∈ l, g v = none) → l.findSome? g = none
  | [], _ => rfl
  | a :: l, h => by rw [List.findSome?_cons, h a (by simp)]; exact findSome_none (fun v hv => h v (by simp [hv]))
theorem findSome_at {β : Type} {g : Int → Option β} {v : Int} {s : β} (h1 : g v = some s) (h2 : ∀ u, u ≠ v → g u = none) : ∀ {l : List Int}, v ∈ l → l.findSome? g = some s
  | [], h => by cases h
  | a :: l, h => by
    rw [List.findSome?_cons]
    by_cases e : a = v
    · rw [e, h1]
    · rw [h2 a e]
      refine findSome_at h1 h2 ?_
      rcases List.mem_cons.1 h with h | h
      · exact absurd h.symm e
      · exact h
theorem match_tag {m x : Nat → Int} {f : Nat} {v : Int} (hf1 : 1 ≤ f) (hf : f < 6) (hm : m f = -1) (hv : v ≠ -1) : matchS (putF m f v) x ↔ x f = v ∧ matchS m x := by
  constructor
  · intro h
    have h1 := h f hf1 hf
    unfold putF at h1
    rw [if_pos rfl] at h1
    refine ⟨(h1.resolve_left hv).symm, fun i hi1 hi => ?_⟩
    by_cases e : i = f
    · subst e; exact .inl hm
    · have := h i hi1 hi
      unfold putF at this
      rw [if_neg e] at this
      exact this
  · rintro ⟨h1, h2⟩ i hi1 hi
    unfold putF
    by_cases e : i = f
    · subst e; rw [if_pos rfl]; exact .inr h1.symm
    · rw [if_neg e]; exact h2 i hi1 hi
/-- What stands in a block of rules that one value has. -/
theorem find_tag {x : Nat → Int} {f : Nat} {v : Int} (hf1 : 1 ≤ f) (hf : f < 6) (hv : v ≠ -1) {l : List ((Nat → Int) × List (Nat → Int))} (hl : ∀ r ∈ l, r.1 f = -1) :
    (x f ≠ v → (l.map fun r => (putF r.1 f v, r.2)).find? (hitB x) = none) ∧ (x f = v → (l.map fun r => (putF r.1 f v, r.2)).find? (hitB x) = (l.find? (hitB x)).map fun r => (putF r.1 f v, r.2)) := by
  constructor
  · intro h
    rw [List.find?_eq_none]
    intro q hq
    obtain ⟨r, hr, rfl⟩ := List.mem_map.1 hq
    unfold hitB
    rw [decide_eq_true_eq]
    exact fun hm => h ((match_tag hf1 hf (hl r hr) hv).1 hm).1
  · intro h
    induction l with
    | nil => rfl
    | cons r l ih =>
      have hr := hl r (by simp)
      have e : hitB x (putF r.1 f v, r.2) = hitB x r := by
        unfold hitB
        exact decide_eq_decide.2 ⟨fun hm => ((match_tag hf1 hf hr hv).1 hm).2, fun hm => (match_tag hf1 hf hr hv).2 ⟨h, hm⟩⟩
      rw [List.map_cons, List.find?_cons, List.find?_cons, e]
      cases hitB x r with
      | true => rfl
      | false => exact ih (fun q hq => hl q (by simp [hq]))
/-- One value for another one, in a field: the same; or one that nothing names for one that no test names. -/
def St (A : List Nat) (f : Nat) (a b : Int) : Prop := b = a ∨ ((∀ n ∈ A, fOf n = f → ¬ a = (vOf n : Int)) ∧ ∀ n ∈ A, n % 2 = 0 → fOf n = f → ¬ b = (vOf n : Int))
variable {A : List Nat}
/-- The first rule that matches a packet is made of one that stands for it. -/
theorem rules_first (hT : ∀ f v, f < 6 → (v ∈ T f ↔ ∃ n ∈ A, n % 2 = 0 ∧ fOf n = f ∧ v = (vOf n : Int))) (ho : ∀ f, f < 6 → ∀ n ∈ A, fOf n = f → ¬ o f = (vOf n : Int)) (x : Nat → Int) :
    ∀ (n : Nat) (k : Nat → Int), n ≤ 5 → (∀ f, (f < 6 - n ∨ 6 ≤ f) → St A f (k f) (x f)) → ∃ m k', (rulesS T o ac n k).find? (hitB x) = some (m, ac k') ∧ Stands A k' x
  | 0, k, _, h => by
    refine ⟨evry, k, ?_, fun f => ?_⟩
    · rw [rulesS, List.find?_cons]
      have : hitB x (evry, ac k) = true := by
        unfold hitB
        rw [decide_eq_true_eq]
        intro i _ hi
        left
        show evry i = -1
        unfold evry
        rw [if_pos hi]
      rw [this]
    · exact h f (by omega)
  | n + 1, k, hn, h => by
    have hTv : ∀ v ∈ T (5 - n), v ≠ -1 := fun v hv e => by
      obtain ⟨m, _, _, _, e2⟩ := (hT (5 - n) v (by omega)).1 hv
      omega
    have put : ∀ v, St A (5 - n) v (x (5 - n)) → ∀ f, (f < 6 - n ∨ 6 ≤ f) → St A f (putF k (5 - n) v f) (x f) := fun v hv f hf => by
      unfold putF
      by_cases e : f = 5 - n
      · rw [if_pos e, e]; exact hv
      · rw [if_neg e]; exact h f (by omega)
    have hop := fun k => rules_open (T := T) (o := o) (ac := ac) n k (by omega)
    have blk : ∀ v, v ≠ -1 → x (5 - n) ≠ v → (if rulesS T o ac n (putF k (5 - n) v) = rulesS T o ac n (putF k (5 - n) (o (5 - n))) then [] else (rulesS T o ac n (putF k (5 - n) v)).map fun r => (putF r.1 (5 - n) v, r.2)).find? (hitB x) = none := fun v hv hx => by
      split
      · rfl
      · exact (find_tag (by omega) (by omega) hv (fun r hr => (hop _ r hr).1 (5 - n) (by omega))).1 hx
    rw [rulesS, List.find?_append, List.find?_flatMap]
    by_cases hx : x (5 - n) ∈ T (5 - n)
    · obtain ⟨m, k', h1, h2⟩ := rules_first hT ho x n (putF k (5 - n) (x (5 - n))) (by omega) (put _ (.inl rfl))
      by_cases he : rulesS T o ac n (putF k (5 - n) (x (5 - n))) = rulesS T o ac n (putF k (5 - n) (o (5 - n)))
      · rw [findSome_none (fun v hv => ?_), Option.none_or, ← he]
        · exact ⟨m, k', h1, h2⟩
        · by_cases e : x (5 - n) = v
          · rw [← e, if_pos he]; rfl
          · exact blk v (hTv v hv) e
      · have hb := (find_tag (x := x) (f := 5 - n) (v := x (5 - n)) (by omega) (by omega) (hTv _ hx) (fun r hr => (hop (putF k (5 - n) (x (5 - n))) r hr).1 (5 - n) (by omega))).2 rfl
        rw [h1] at hb
        refine ⟨putF m (5 - n) (x (5 - n)), k', ?_, h2⟩
        have hg : (T (5 - n)).findSome? (fun v => (if rulesS T o ac n (putF k (5 - n) v) = rulesS T o ac n (putF k (5 - n) (o (5 - n))) then [] else (rulesS T o ac n (putF k (5 - n) v)).map fun r => (putF r.1 (5 - n) v, r.2)).find? (hitB x)) = some (putF m (5 - n) (x (5 - n)), ac k') := by
          have h3 : ∀ l : List Int, (∀ v ∈ l, v ≠ -1) → x (5 - n) ∈ l → l.findSome? (fun v => (if rulesS T o ac n (putF k (5 - n) v) = rulesS T o ac n (putF k (5 - n) (o (5 - n))) then [] else (rulesS T o ac n (putF k (5 - n) v)).map fun r => (putF r.1 (5 - n) v, r.2)).find? (hitB x)) = some (putF m (5 - n) (x (5 - n)), ac k') := by
            intro l
            induction l with
            | nil => intro _ hm; cases hm
            | cons a l ih =>
              intro hl hm
              rw [List.findSome?_cons]
              by_cases e : x (5 - n) = a
              · rw [← e, if_neg he, hb]; rfl
              · rw [blk a (hl a (by simp)) e]
                exact ih (fun v hv => hl v (by simp [hv])) ((List.mem_cons.1 hm).resolve_left e)
          exact h3 _ hTv hx
        rw [hg]; rfl
    · rw [findSome_none (fun v hv => blk v (hTv v hv) (fun e => hx (by rw [e]; exact hv))), Option.none_or]
      refine rules_first hT ho x n _ (by omega) (put _ (.inr ⟨ho (5 - n) (by omega), fun m hm he hf hv => hx ?_⟩))
      exact (hT (5 - n) _ (by omega)).2 ⟨m, hm, he, hf, hv⟩
/-- A packet that a rule matches: in fields that are open what nothing names. -/
def ownX (o m : Nat → Int) : Nat → Int := fun f => if m f = -1 then o f else m f
theorem ownX_match (o m : Nat → Int) : matchS m (ownX o m) := fun i _ _ => by
  unfold ownX
  by_cases e : m i = -1
  · exact .inl e
  · right; rw [if_neg e]
theorem ownX_at {m : Nat → Int} {f : Nat} {v : Int} (hv : v ≠ -1) : ownX o (putF m f v) f = v := by
  unfold ownX putF
  simp [hv]
theorem ownX_ne {m : Nat → Int} {f i : Nat} {v : Int} (h : i ≠ f) : ownX o (putF m f v) i = ownX o m i := by
  unfold ownX putF
  simp [h]
/-- No rule ahead of a rule matches that packet. -/
theorem rules_reached (hT1 : ∀ f, f < 6 → ∀ v ∈ T f, v ≠ -1 ∧ v ≠ o f) (hnd : ∀ f, f < 6 → (T f).Nodup) : ∀ (n : Nat) (k : Nat → Int), n ≤ 5 → (rulesS T o ac n k).Pairwise fun q r => ¬ matchS q.1 (ownX o r.1)
  | 0, k, _ => by rw [rulesS]; exact List.pairwise_singleton _ _
  | n + 1, k, hn => by
    have hop := fun k => rules_open (T := T) (o := o) (ac := ac) n k (by omega)
    rw [rulesS, List.pairwise_append]
    refine ⟨?_, rules_reached hT1 hnd n _ (by omega), fun q hq r hr hm => ?_⟩
    · rw [List.pairwise_flatMap]
      refine ⟨fun v hv => ?_, ?_⟩
      · split
        · exact List.Pairwise.nil
        · rw [List.pairwise_map]
          refine List.Pairwise.imp_of_mem (fun {q r} hq hr hqr hm => hqr ?_) (rules_reached hT1 hnd n _ (by omega))
          have hq1 := (hop _ q hq).1 (5 - n) (by omega)
          have hm2 := ((match_tag (by omega) (by omega) hq1 (hT1 _ (by omega) v hv).1).1 hm).2
          intro i hi1 hi
          by_cases e : i = 5 - n
          · rw [e]; exact .inl hq1
          · have := hm2 i hi1 hi
            rw [ownX_ne e] at this
            exact this
      · refine List.Pairwise.imp_of_mem (fun {u v} hu hv huv q hq r hr hm => ?_) (hnd (5 - n) (by omega))
        split at hq
        · cases hq
        · split at hr
          · cases hr
          · obtain ⟨q0, hq0, rfl⟩ := List.mem_map.1 hq
            obtain ⟨r0, hr0, rfl⟩ := List.mem_map.1 hr
            have h1 := ((match_tag (by omega) (by omega) ((hop _ q0 hq0).1 (5 - n) (by omega)) (hT1 _ (by omega) u hu).1).1 hm).1
            rw [ownX_at (hT1 _ (by omega) v hv).1] at h1
            exact huv h1.symm
    · obtain ⟨v, hv, hq⟩ := List.mem_flatMap.1 hq
      split at hq
      · cases hq
      · obtain ⟨q0, hq0, rfl⟩ := List.mem_map.1 hq
        have h1 := ((match_tag (by omega) (by omega) ((hop _ q0 hq0).1 (5 - n) (by omega)) (hT1 _ (by omega) v hv).1).1 hm).1
        unfold ownX at h1
        rw [if_pos ((hop _ r hr).1 (5 - n) (by omega))] at h1
        exact (hT1 _ (by omega) v hv).2 h1.symm
/-- How many rules there are at the most. -/
theorem rules_few (c : Nat → Nat) (hc : ∀ f, f < 6 → (T f).length ≤ c f) : ∀ (n : Nat) (k : Nat → Int), n ≤ 5 → (rulesS T o ac n k).length ≤ 2 ^ ((List.range n).map fun i => c (5 - i)).sum
  | 0, k, _ => by rw [rulesS]; simp
  | n + 1, k, hn => by
    have ih := fun k => rules_few c hc n k (by omega)
    rw [rulesS, List.length_append, List.length_flatMap, List.range_succ, List.map_append, List.sum_append]
    have h1 : ((T (5 - n)).map fun v => (if rulesS T o ac n (putF k (5 - n) v) = rulesS T o ac n (putF k (5 - n) (o (5 - n))) then [] else (rulesS T o ac n (putF k (5 - n) v)).map fun r => (putF r.1 (5 - n) v, r.2)).length).sum ≤ (T (5 - n)).length * 2 ^ ((List.range n).map fun i => c (5 - i)).sum := by
      generalize T (5 - n) = l
      induction l with
      | nil => simp
      | cons v l ih2 =>
        rw [List.map_cons, List.sum_cons, List.length_cons, Nat.add_mul, Nat.one_mul]
        have : (if rulesS T o ac n (putF k (5 - n) v) = rulesS T o ac n (putF k (5 - n) (o (5 - n))) then [] else (rulesS T o ac n (putF k (5 - n) v)).map fun r => (putF r.1 (5 - n) v, r.2)).length ≤ 2 ^ ((List.range n).map fun i => c (5 - i)).sum := by
          split
          · simp
          · rw [List.length_map]; exact ih _
        omega
    have h2 := ih (putF k (5 - n) (o (5 - n)))
    have h3 := hc (5 - n) (by omega)
    have h4 : c (5 - n) + 1 ≤ 2 ^ c (5 - n) := Nat.lt_two_pow_self
    simp only [List.map_cons, List.map_nil, List.sum_cons, List.sum_nil, Nat.add_zero]
    rw [Nat.pow_add]
    generalize 2 ^ ((List.range n).map fun i => c (5 - i)).sum = M at *
    have h5 : (T (5 - n)).length * M ≤ c (5 - n) * M := Nat.mul_le_mul_right _ h3
    have h6 : (c (5 - n) + 1) * M ≤ 2 ^ c (5 - n) * M := Nat.mul_le_mul_right _ h4
    rw [Nat.add_mul, Nat.one_mul] at h6
    rw [Nat.mul_comm M]
    omega
end
end Go.Proofs.YtlhkfafdioakeaaGreatDoor
