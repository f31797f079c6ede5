/- Plain facts: how long the lists of actions of a table are. -/
import Derived.Test.YtlhkfafdioakeaaGreatDoorTbW
import Derived.Test.YtlhkfafdioakeaaGreatDoorTbS
namespace Go.Proofs.YtlhkfafdioakeaaGreatDoor
open Go.RowKit Go.Weft
set_option linter.unusedVariables false
set_option linter.unusedSimpArgs false
/-- Rules with other lists of actions. -/
def cpR (rs : Nat → Rl) (xs : Nat → Value) : Nat → Rl := fun j => ⟨(rs j).prio, (rs j).mt, (rs j).na, (rs j).acts, xs j⟩
theorem own_empty (w : World) (d : Nat → Nat → Int) : Own (w.alloc (.cells #[] 46)) w.heap.size 0 0 d :=
  ⟨_, heap_alloc_new w _, rfl, Nat.le_refl _, by omega, fun j hj => by omega⟩
theorem rules_openQ {T : Nat → List Int} {o : Nat → Int} {ac : (Nat → Int) → List (Nat → Int)} {Q : (Nat → Int) → Prop} (hQ : ∀ k f v, Q k → f < 6 → (v ∈ T f ∨ v = o f) → Q (putF k f v)) : ∀ (n : Nat) (k : Nat → Int), n ≤ 5 → Q k → ∀ r ∈ rulesS T o ac n k, ∃ k', r.2 = ac k' ∧ Q k'
  | 0, k, _, hk, r, hr => by
    rw [rulesS, List.mem_singleton] at hr
    subst hr
    exact ⟨k, rfl, hk⟩
  | n + 1, k, hn, hk, r, hr => by
    rw [rulesS, List.mem_append] at hr
    rcases hr with hr | hr
    · obtain ⟨v, hv, hr⟩ := List.mem_flatMap.1 hr
      split at hr
      · cases hr
      · obtain ⟨q, hq, rfl⟩ := List.mem_map.1 hr
        obtain ⟨k', h1, h2⟩ := rules_openQ hQ n _ (by omega) (hQ k _ v hk (by omega) (.inl hv)) q hq
        exact ⟨k', h1, h2⟩
    · exact rules_openQ hQ n _ (by omega) (hQ k _ _ hk (by omega) (.inr rfl)) r hr
theorem acT_len {s : ByteArray} {t : Code} (h : readS s = .ok t) {k : Nat → Int} (hk : Rt k) : (acT t k).length ≤ 1073741824 := by
  obtain ⟨B, hB⟩ := set_ex (read_okT h).1.2.2 hk
  have h1 := ((read_okT h).1.out hk hB).2
  have h2 : (acT t k).length ≤ (B.map (maskK k)).length := by
    refine nodup_leS _ _ ?_ (fun x hx => ?_)
    · exact List.Pairwise.imp (fun h => h.ne) (acT_srt t k)
    · obtain ⟨z, hz, rfl⟩ := (acT_mem h hk x).1 hx
      exact List.mem_map.2 ⟨z, (hB.mem z).2 hz, rfl⟩
  rw [List.length_map] at h2
  omega
theorem table_len {s : ByteArray} {t : Code} (h : readS s = .ok t) {z : Int} (hz : 0 ≤ z ∧ z ≤ 31) {N : Nat} {rs : Nat → Rl} {AL : Nat → List (Nat → Int)} (hP : prL rs AL N = rulesS (tstd (atomsC t)) (oT t) (acT t) 5 (swK z)) : ∀ j, j < N → (AL j).length ≤ 1073741824 := fun j hj => by
  have hm : ((rs j).mt, AL j) ∈ rulesS (tstd (atomsC t)) (oT t) (acT t) 5 (swK z) := by
    rw [← hP]
    exact List.mem_map.2 ⟨j, List.mem_range.2 hj, rfl⟩
  obtain ⟨k', h1, h2⟩ := rules_openQ (Q := Rt) (fun k f v hk hf hv => put_right h k f v hk hf hv) 5 (swK z) (by omega) (swK_right hz) _ hm
  have h1 : AL j = acT t k' := h1
  rw [h1]
  exact acT_len h h2
end Go.Proofs.YtlhkfafdioakeaaGreatDoor
