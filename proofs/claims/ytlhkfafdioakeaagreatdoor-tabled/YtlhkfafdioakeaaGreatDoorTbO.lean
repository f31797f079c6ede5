/- Plain facts: a table does what the policy does. -/
import Derived.Test.YtlhkfafdioakeaaGreatDoorTbN
namespace Go.Proofs.YtlhkfafdioakeaaGreatDoor
open Go.RowKit Go.Weft Classical
set_option linter.unusedVariables false
set_option linter.unusedSimpArgs false
section
variable {T : Nat → List Int} {o : Nat → Int} {ac : (Nat → Int) → List (Nat → Int)} {A : List Nat}
/-- The first rule that matches a packet is made of one that stands for it. -/
theorem rules_firstQ {Q : (Nat → Int) → Prop} (hQ : ∀ k f v, Q k → f < 6 → (v ∈ T f ∨ v = o f) → Q (putF k f v)) (hT : ∀ f v, f < 6 → (v ∈ T f ↔ ∃ n ∈ A, n % 2 = 0 ∧ fOf n = f ∧ v = (vOf n : Int))) (ho : ∀ f, f < 6 → ∀ n ∈ A, fOf n = f → ¬ o f = (vOf n : Int)) (x : Nat → Int) :
    ∀ (n : Nat) (k : Nat → Int), n ≤ 5 → Q k → (∀ f, (f < 6 - n ∨ 6 ≤ f) → St A f (k f) (x f)) → ∃ m k', (rulesS T o ac n k).find? (hitB x) = some (m, ac k') ∧ Stands A k' x ∧ Q k'
  | 0, k, _, hk, h => by
    refine ⟨evry, k, ?_, fun f => ?_, hk⟩
    · rw [rulesS, List.find?_cons]
      have : hitB x (evry, ac k) = true := by
        unfold hitB
        rw [decide_eq_true_eq]
        intro i _ hi
        left
        show evry i = -1
        unfold evry
        rw [if_pos hi]
      rw [this]
    · exact h f (by omega)
  | n + 1, k, hn, hk, h => by
    have hTv : ∀ v ∈ T (5 - n), v ≠ -1 := fun v hv e => by
      obtain ⟨m, _, _, _, e2⟩ := (hT (5 - n) v (by omega)).1 hv
      omega
    have put : ∀ v, St A (5 - n) v (x (5 - n)) → ∀ f, (f < 6 - n ∨ 6 ≤ f) → St A f (putF k (5 - n) v f) (x f) := fun v hv f hf => by
      unfold putF
      by_cases e : f = 5 - n
      · rw [if_pos e, e]; exact hv
      · rw [if_neg e]; exact h f (by omega)
    have hop := fun k => rules_open (T := T) (o := o) (ac := ac) n k (by omega)
    have blk : ∀ v, v ≠ -1 → x (5 - n) ≠ v → (if rulesS T o ac n (putF k (5 - n) v) = rulesS T o ac n (putF k (5 - n) (o (5 - n))) then [] else (rulesS T o ac n (putF k (5 - n) v)).map fun r => (putF r.1 (5 - n) v, r.2)).find? (hitB x) = none := fun v hv hx => by
      split
      · rfl
      · exact (find_tag (by omega) (by omega) hv (fun r hr => (hop _ r hr).1 (5 - n) (by omega))).1 hx
    rw [rulesS, List.find?_append, List.find?_flatMap]
    by_cases hx : x (5 - n) ∈ T (5 - n)
    · obtain ⟨m, k', h1, h2⟩ := rules_firstQ hQ hT ho x n (putF k (5 - n) (x (5 - n))) (by omega) (hQ k _ _ hk (by omega) (.inl hx)) (put _ (.inl rfl))
      by_cases he : rulesS T o ac n (putF k (5 - n) (x (5 - n))) = rulesS T o ac n (putF k (5 - n) (o (5 - n)))
      · rw [findSome_none (fun v hv => ?_), Option.none_or, ← he]
        · exact ⟨m, k', h1, h2⟩
        · by_cases e : x (5 - n) = v
          · rw [← e, if_pos he]; rfl
          · exact blk v (hTv v hv) e
      · have hb := (find_tag (x := x) (f := 5 - n) (v := x (5 - n)) (by omega) (by omega) (hTv _ hx) (fun r hr => (hop (putF k (5 - n) (x (5 - n))) r hr).1 (5 - n) (by omega))).2 rfl
        rw [h1] at hb
        refine ⟨putF m (5 - n) (x (5 - n)), k', ?_, h2⟩
        have hg : (T (5 - n)).findSome? (fun v => (if rulesS T o ac n (putF k (5 - n) v) = rulesS T o ac n (putF k (5 - n) (o (5 - n))) then [] else (rulesS T o ac n (putF k (5 - n) v)).map fun r => (putF r.1 (5 - n) v, r.2)).find? (hitB x)) = some (putF m (5 - n) (x (5 - n)), ac k') := by
          have h3 : ∀ l : List Int, (∀ v ∈ l, v ≠ -1) → x (5 - n) ∈ l → l.findSome? (fun v => (if rulesS T o ac n (putF k (5 - n) v) = rulesS T o ac n (putF k (5 - n) (o (5 - n))) then [] else (rulesS T o ac n (putF k (5 - n) v)).map fun r => (putF r.1 (5 - n) v, r.2)).find? (hitB x)) = some (putF m (5 - n) (x (5 - n)), ac k') := by
            intro l
            induction l with
            | nil => intro _ hm; cases hm
            | cons a l ih =>
              intro hl hm
              rw [List.findSome?_cons]
              by_cases e : x (5 - n) = a
              · rw [← e, if_neg he, hb]; rfl
              · rw [blk a (hl a (by simp)) e]
                exact ih (fun v hv => hl v (by simp [hv])) ((List.mem_cons.1 hm).resolve_left e)
          exact h3 _ hTv hx
        rw [hg]; rfl
    · rw [findSome_none (fun v hv => blk v (hTv v hv) (fun e => hx (by rw [e]; exact hv))), Option.none_or]
      refine rules_firstQ hQ hT ho x n _ (by omega) (hQ k _ _ hk (by omega) (.inr rfl)) (put _ (.inr ⟨ho (5 - n) (by omega), fun m hm he hf hv => hx ?_⟩))
      exact (hT (5 - n) _ (by omega)).2 ⟨m, hm, he, hf, hv⟩
end
/-- No setting sets the switch. -/
def NoSw (A : List Nat) : Prop := ∀ n ∈ A, n % 2 = 1 → fOf n ≠ 0
theorem leaf_sw {ys : List Sym} {n a : Nat} (h : LeafOk ys n a) : NoSw (atomsC (.exit n)) := by
  intro m hm hodd
  unfold atomsC at hm
  split at hm
  · cases hm
  · rename_i h1
    rw [List.mem_singleton] at hm
    subst hm
    rcases h with ⟨_, rfl, _⟩ | ⟨_, rfl, _⟩ | ⟨nm, f, k, tx, _, _, _, _, hk, hn, h31, he, _⟩
    · omega
    · omega
    · unfold leafC at he
      rcases hk with rfl | rfl
      · rw [if_neg (by omega)] at he
        cases he
        omega
      · rw [if_pos rfl] at he
        cases he
        unfold fOf
        have : f ≠ 0 := fun e => hn ⟨e, rfl⟩
        omega
theorem NoSw.app {A B : List Nat} (h : NoSw A) (k : NoSw B) : NoSw (A ++ B) := fun n hn => (List.mem_append.1 hn).elim (h n) (k n)
theorem NoSw.nil : NoSw [] := fun n hn => by cases hn
theorem atomsC_join2 (k : Nat) : ∀ l : List Code, NoSw (atomsL l) → NoSw (atomsC (joinC k l))
  | [], _ => by intro n hn; simp [joinC, atomsC, chain] at hn
  | [t], h => by simpa [joinC, atomsL] using h
  | t :: u :: l, h => by
    show NoSw (atomsC (chain (t :: u :: l)))
    rw [atomsC_chain]
    exact h
theorem sw_trees : ∀ c : Ct, okC c → NoSw (atomsC (trees c).1) ∧ NoSw (atomsL (trees c).2.1) ∧ NoSw (atomsL (trees c).2.2)
  | .leaf ys n a, h => by
    have := leaf_sw h
    exact ⟨this, by simpa [trees, atomsL] using this, by simpa [trees, atomsL] using this⟩
  | .neg a, h => by
    have := (sw_trees a h.2.1).1
    exact ⟨this, by simpa [trees, atomsL, atomsC] using this, by simpa [trees, atomsL, atomsC] using this⟩
  | .brk a, h => by
    have := (sw_trees a h).1
    exact ⟨this, by simpa [trees, atomsL] using this, by simpa [trees, atomsL] using this⟩
  | .star a, h => by
    have := (sw_trees a h.2).1
    exact ⟨this, by simpa [trees, atomsL, atomsC] using this, by simpa [trees, atomsL, atomsC] using this⟩
  | .sq a b, h => by
    have h3 : NoSw (atomsL ((trees a).1 :: (trees b).2.1)) := (sw_trees a h.2.2.1).1.app (sw_trees b h.2.2.2).2.1
    have h4 := atomsC_join2 1 _ h3
    exact ⟨h4, h3, by simpa [trees, atomsL] using h4⟩
  | .sm a b, h => by
    have h3 : NoSw (atomsL ((trees a).1 :: (trees b).2.2)) := (sw_trees a h.2.2.1).1.app (sw_trees b h.2.2.2).2.2
    have h4 := atomsC_join2 0 _ h3
    exact ⟨h4, by simpa [trees, atomsL] using h4, h3⟩
theorem read_sw {s : ByteArray} {t : Code} (h : readS s = .ok t) : NoSw (atomsC t) := by
  obtain ⟨c, rfl, hok, _, _, _, _⟩ := read_to s h
  exact (sw_trees c hok).1
/-- A policy leaves the switch as it is. -/
theorem sw_den (t : Code) : NoSw (atomsC t) → (∀ x z, (den t).1 x z → z 0 = x 0) ∧ (∀ x z, (den t).2.1 x z → z 0 = x 0) ∧ (∀ x z, (den t).2.2 x z → z 0 = x 0) := by
  induction t with
  | exit n =>
    intro h
    refine ⟨fun x z hd => ?_, fun x z hd => hd.elim, fun x z hd => by cases hd; rfl⟩
    have hd : leafD n x z := hd
    unfold leafD at hd
    split at hd
    · rw [hd]
    · split at hd
      · exact hd.elim
      · split at hd
        · rw [hd.2]
        · rename_i h0 h1 h2
          subst hd
          have := h n (by simp [atomsC]; omega) (by omega)
          unfold putF
          rw [if_neg (by omega)]
  | loop t ih =>
    intro h
    refine ⟨fun x z hd => ?_, fun x z hd => hd.elim, fun x z hd => by cases hd; rfl⟩
    have key : ∀ x z, Many (den t).1 x z → z 0 = x 0 := by
      intro x z hm
      induction hm with
      | refl a => rfl
      | step h1 _ ih2 => rw [ih2, (ih h).1 _ _ h1]
    exact key x z hd
  | scope t ih => exact fun h => ⟨fun x z hd => (by rw [hd.2]), fun x z hd => hd.elim, fun x z hd => by cases hd; rfl⟩
  | block k l ih =>
    intro h
    refine ⟨fun x z hd => ?_, fun x z hd => hd.elim, fun x z hd => by cases hd; rfl⟩
    have hd : (if k = 0 then (den l).2.1 else (den l).2.2) x z := hd
    split at hd
    · exact (ih h).2.1 x z hd
    · exact (ih h).2.2 x z hd
  | seq a l iha ihl =>
    intro h
    have ha := iha (fun n hn => h n (List.mem_append.2 (.inl hn)))
    have hl := ihl (fun n hn => h n (List.mem_append.2 (.inr hn)))
    refine ⟨fun x z hd => (by cases hd; rfl), fun x z hd => ?_, fun x z hd => ?_⟩
    · exact hd.elim (ha.1 x z) (hl.2.1 x z)
    · obtain ⟨v, h1, h2⟩ := hd
      rw [hl.2.2 v z h2, ha.1 x v h1]
  | _ => exact fun h => ⟨fun x z hd => (by cases hd; rfl), fun x z hd => hd.elim, fun x z hd => by cases hd; rfl⟩
/-- What a policy makes of a right packet is a set. -/
def unnum (u : Nat) : Nat → Int := fun i => if i = 0 then ((u % 32 : Nat) : Int) else if i = 1 then ((u / 32 % 32 : Nat) : Int) else if i = 2 then ((u / 1024 % 32 : Nat) : Int) else if i = 3 then ((u / 32768 % 32 : Nat) : Int) else if i = 4 then ((u / 1048576 % 32 : Nat) : Int) else if i = 5 then ((u / 33554432 % 32 : Nat) : Int) else 0
theorem unnum_nm (u : Nat) : Nm (unnum u) := fun i hi => by unfold unnum; simp [show ¬ i = 0 by omega, show ¬ i = 1 by omega, show ¬ i = 2 by omega, show ¬ i = 3 by omega, show ¬ i = 4 by omega, show ¬ i = 5 by omega]
theorem unnum_of {x : Nat → Int} (hx : Rt x) : unnum (numP x).toNat = x := by
  have x0 := hx.2 0 (by omega); have x1 := hx.2 1 (by omega); have x2 := hx.2 2 (by omega); have x3 := hx.2 3 (by omega); have x4 := hx.2 4 (by omega); have x5 := hx.2 5 (by omega)
  refine (unnum_nm _).ext hx.1 (fun t ht => ?_)
  unfold numP unnum
  rcases (show t = 0 ∨ t = 1 ∨ t = 2 ∨ t = 3 ∨ t = 4 ∨ t = 5 by omega) with rfl | rfl | rfl | rfl | rfl | rfl <;> simp <;> omega
theorem set_ex {t : Code} (hl : lfD t = true) {k : Nat → Int} (hk : Rt k) : ∃ B, SetOf B (D t k) := by
  obtain ⟨U, hU⟩ : ∃ U, U = (List.range 1073741824).map unnum := ⟨_, rfl⟩
  have hn : ∀ x ∈ U, Nm x := fun x hx => by
    rw [hU] at hx
    obtain ⟨u, _, rfl⟩ := List.mem_map.1 hx
    exact unnum_nm u
  have hm : ∀ x, Rt x → x ∈ U := fun x hx => by
    rw [hU]
    have := numP_range hx
    exact List.mem_map.2 ⟨(numP x).toNat, List.mem_range.2 (by omega), unnum_of hx⟩
  refine ⟨(setS U).filter (fun y => decide (D t k y)), List.Pairwise.filter _ (setS_srt hn), fun x hx => hn x ((setS_mem hn x).1 (List.mem_filter.1 hx).1), fun x => ?_⟩
  rw [List.mem_filter, decide_eq_true_eq, setS_mem hn]
  exact ⟨fun h => h.2, fun h => ⟨hm x ((den_right t hl).1 k x hk h), h⟩⟩
end Go.Proofs.YtlhkfafdioakeaaGreatDoor
