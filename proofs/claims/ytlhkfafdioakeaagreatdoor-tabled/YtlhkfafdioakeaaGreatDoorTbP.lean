/- Plain facts: a look-up in the table of a policy tells what the policy makes. -/
import Derived.Test.YtlhkfafdioakeaaGreatDoorTbO
namespace Go.Proofs.YtlhkfafdioakeaaGreatDoor
open Go.RowKit Go.Weft Classical
set_option linter.unusedVariables false
set_option linter.unusedSimpArgs false
theorem lm_ex (zs : List Int) : ∃ m : Nat, LM zs m := by
  refine Classical.byContradiction fun h => ?_
  have key : ∀ m : Nat, (m : Int) ∈ zs := by
    intro m
    induction m using Nat.strongRecOn with
    | _ m ih => exact Classical.byContradiction fun hm => h ⟨m, fun v hv => ih v hv, hm⟩
  have h1 := nodup_le ((List.range (zs.length + 1)).map fun i : Nat => (i : Int)) zs (by
    refine List.Pairwise.map _ (fun a b hab => ?_) List.nodup_range
    intro e
    exact hab (by omega)) (fun x hx => by
      obtain ⟨i, _, rfl⟩ := List.mem_map.1 hx
      exact key i)
  simp at h1
  omega
section
variable {s : ByteArray} {t : Code}
theorem atoms_f (h : readS s = .ok t) : ∀ n ∈ atomsC t, fOf n < 6 := fun n hn => by
  have := atoms_in t (read_okT h).1.2.2 n hn
  unfold fOf
  omega
theorem tst_mem (h : readS s = .ok t) (f : Nat) (v : Int) (hf : f < 6) : v ∈ tstd (atomsC t) f ↔ ∃ n ∈ atomsC t, n % 2 = 0 ∧ fOf n = f ∧ v = (vOf n : Int) :=
  ((tstd_facts (atomsC t) f).1 v).trans (notes_mem (atomsC t) (atoms_f h) f hf v).1
theorem oT_not (h : readS s = .ok t) (f : Nat) (hf : f < 6) : ∀ n ∈ atomsC t, fOf n = f → ¬ oT t f = (vOf n : Int) := by
  intro n hn hfn e
  obtain ⟨m, hm⟩ := lm_ex (notesA (atomsC t) (6 + f))
  rw [oT_of hm] at e
  refine hm.2 ?_
  rw [e]
  exact ((notes_mem (atomsC t) (atoms_f h) f hf _).2).2 ⟨n, hn, hfn, rfl⟩
theorem oT_right (h : readS s = .ok t) (f : Nat) : 0 ≤ oT t f ∧ oT t f < 32 := by
  obtain ⟨m, hm⟩ := lm_ex (notesA (atomsC t) (6 + f))
  rw [oT_of hm]
  have h1 := lm_le hm
  have h2 := notes_len (atomsC t) (6 + f)
  have h3 := atoms_16 h
  omega
theorem tst_right (h : readS s = .ok t) (f : Nat) (v : Int) (hf : f < 6) (hv : v ∈ tstd (atomsC t) f) : 0 ≤ v ∧ v < 32 := by
  obtain ⟨n, _, _, _, rfl⟩ := (tst_mem h f v hf).1 hv
  unfold vOf
  omega
theorem put_right (h : readS s = .ok t) (k : Nat → Int) (f : Nat) (v : Int) (hk : Rt k) (hf : f < 6) (hv : v ∈ tstd (atomsC t) f ∨ v = oT t f) : Rt (putF k f v) := by
  refine putF_right hk f hf v ?_
  rcases hv with hv | rfl
  · exact tst_right h f v hf hv
  · exact oT_right h f
theorem swK_right {z : Int} (hz : 0 ≤ z ∧ z ≤ 31) : Rt (swK z) := ⟨fun i hi => by unfold swK; rw [if_neg (by omega)], fun i hi => by unfold swK; split <;> omega⟩
theorem act_mask {k z x : Nat → Int} (hk : Rt k) (hz : Rt z) (hx : Rt x) (h0 : z 0 = k 0) : actS (maskK k z) x = actK k z x := by
  funext i
  unfold actS maskK actK
  by_cases hi : i < 6
  · have hz1 := (hz.2 i hi).1
    by_cases e : z i = k i
    · rw [if_pos e]
      simp [hi, e]
    · rw [if_neg e]
      by_cases e1 : 1 ≤ i
      · simp [hi, e, e1]
        omega
      · obtain rfl : i = 0 := by omega
        exact absurd h0 e
  · have e : z i = k i := by rw [hz.1 i (by omega), hk.1 i (by omega)]
    rw [if_pos e, if_neg (by omega)]
theorem acT_mem (h : readS s = .ok t) {k : Nat → Int} (hk : Rt k) (a : Nat → Int) : a ∈ acT t k ↔ ∃ z, D t k z ∧ a = maskK k z := by
  obtain ⟨B, hB⟩ := set_ex (read_okT h).1.2.2 hk
  rw [← acT_of hB]
  unfold acS
  rw [setS_mem (fun x hx => by obtain ⟨z, hz, rfl⟩ := List.mem_map.1 hx; exact maskK_nm (hB.nm z hz)), List.mem_map]
  constructor
  · rintro ⟨z, hz, rfl⟩
    exact ⟨z, (hB.mem z).1 hz, rfl⟩
  · rintro ⟨z, hz, rfl⟩
    exact ⟨z, (hB.mem z).2 hz, rfl⟩
theorem acT_srt (t : Code) (k : Nat → Int) : Srt (acT t k) := by
  unfold acT
  split
  · rename_i h
    unfold acS
    exact setS_srt (fun x hx => by obtain ⟨z, hz, rfl⟩ := List.mem_map.1 hx; exact maskK_nm ((Classical.choose_spec h).nm z hz))
  · exact List.Pairwise.nil
theorem table_lookup (h : readS s = .ok t) {z : Int} (hz : 0 ≤ z ∧ z ≤ 31) {N : Nat} {rs : Nat → Rl} {AL : Nat → List (Nat → Int)} (hP : prL rs AL N = rulesS (tstd (atomsC t)) (oT t) (acT t) 5 (swK z)) (hI : ∀ j, j < N → Is (AL j) (rs j).na (rs j).acts) {x : Nat → Int} (hx : Rt x) (hx0 : x 0 = z) {L : List (Nat → Int)} {b : Bool} (hL : LkS rs N x L b) : b = true ∧ SetOf L (D t x) := by
  obtain ⟨m, k', hfi, hS, hk'⟩ := rules_firstQ (T := tstd (atomsC t)) (o := oT t) (ac := acT t) (A := atomsC t) (Q := Rt) (fun k f v hk hf hv => put_right h k f v hk hf hv) (fun f v hf => tst_mem h f v hf) (fun f hf => oT_not h f hf) x 5 (swK z) (by omega) (swK_right hz) (fun f hf => by
    left
    unfold swK
    by_cases e : f = 0
    · rw [if_pos e, e, hx0]
    · rw [if_neg e, hx.1 f (by omega)])
  rw [← hP, List.find?_eq_some_iff_getElem] at hfi
  obtain ⟨hhit, j, hj, he, hbef⟩ := hfi
  have hjN : j < N := by rw [prL_len] at hj; exact hj
  have hget : ∀ i (hi : i < (prL rs AL N).length), (prL rs AL N)[i] = ((rs i).mt, AL i) := fun i hi => by
    have : (prL rs AL N)[i]? = some ((rs i).mt, AL i) := by
      rw [prL_len] at hi
      unfold prL
      simp [hi]
    rw [List.getElem?_eq_getElem hi] at this
    exact Option.some.inj this
  rw [hget] at he
  obtain ⟨e1, e2⟩ := Prod.mk.inj he
  have hm : matchS (rs j).mt x := by rw [e1]; unfold hitB at hhit; simpa using hhit
  have hb : ∀ i, i < j → ¬ matchS (rs i).mt x := fun i hi hm => by
    have := hbef i hi
    rw [hget] at this
    unfold hitB at this
    simp [hm] at this
  obtain ⟨rfl, rfl⟩ := hL.one (.inl ⟨j, hjN, hb, hm, rfl, rfl⟩)
  refine ⟨rfl, ?_⟩
  have hI2 := hI j hjN
  have hnx : ∀ y ∈ (List.range (rs j).na).map (fun q => actS ((rs j).acts q) x), Nm y := fun y hy => by
    obtain ⟨q, _, rfl⟩ := List.mem_map.1 hy
    exact actS_nm hx.1
  refine ⟨setS_srt hnx, fun y hy => hnx y ((setS_mem hnx y).1 hy), fun y => ?_⟩
  rw [setS_mem hnx, map_range hI2 (fun a => actS a x), List.mem_map, acts_den (A := atomsC t) (fun n hn => hn) hS y]
  have hr2 := read_okT h
  have hkey : ∀ z', D t k' z' → actS (maskK k' z') x = actK k' z' x := fun z' hz' => act_mask hk' ((den_right t hr2.1.2.2).1 k' z' hk' hz') hx ((sw_den t (read_sw h)).1 k' z' hz')
  rw [e2]
  constructor
  · rintro ⟨a, ha, rfl⟩
    obtain ⟨z', hz', rfl⟩ := (acT_mem h hk' a).1 ha
    exact ⟨z', hz', hkey z' hz'⟩
  · rintro ⟨z', hz', rfl⟩
    exact ⟨maskK k' z', (acT_mem h hk' _).2 ⟨z', hz', rfl⟩, hkey z' hz'⟩
/-- What the rules of a table are. -/
theorem table_rules (h : readS s = .ok t) {z : Int} {N : Nat} {rs : Nat → Rl} {AL : Nat → List (Nat → Int)} (hP : prL rs AL N = rulesS (tstd (atomsC t)) (oT t) (acT t) 5 (swK z)) :
    (∀ j, j < N → (rs j).mt 0 = -1 ∧ (∀ i, 1 ≤ i → i < 6 → (rs j).mt i = -1 ∨ (0 ≤ (rs j).mt i ∧ (rs j).mt i ≤ 31)) ∧ Srt (AL j)) ∧ ∀ i j, i < j → j < N → ¬ matchS (rs i).mt (ownX (oT t) (rs j).mt) := by
  have hmem : ∀ j, j < N → ((rs j).mt, AL j) ∈ rulesS (tstd (atomsC t)) (oT t) (acT t) 5 (swK z) := fun j hj => by
    rw [← hP]
    exact List.mem_map.2 ⟨j, List.mem_range.2 hj, rfl⟩
  refine ⟨fun j hj => ?_, fun i j hij hj => ?_⟩
  · obtain ⟨h1, h2, h3, k', h4⟩ := rules_open 5 (swK z) (by omega) _ (hmem j hj)
    have h4 : AL j = acT t k' := h4
    refine ⟨h1 0 (by omega), fun i hi1 hi => ?_, by rw [h4]; exact acT_srt t k'⟩
    have h2 : (rs j).mt i = -1 ∨ (rs j).mt i ∈ tstd (atomsC t) i := h2 i hi
    rcases h2 with e | e
    · exact .inl e
    · have := tst_right h i _ hi e
      exact .inr ⟨this.1, by omega⟩
  · have hp := rules_reached (T := tstd (atomsC t)) (o := oT t) (ac := acT t) (fun f hf v hv => ⟨by have := tst_right h f v hf hv; omega, fun e => by
      obtain ⟨n, hn, _, hfn, e2⟩ := (tst_mem h f v hf).1 hv
      exact oT_not h f hf n hn hfn (by rw [← e, e2])⟩) (fun f _ => (tstd_facts (atomsC t) f).2.1) 5 (swK z) (by omega)
    rw [← hP] at hp
    unfold prL at hp
    rw [List.pairwise_map] at hp
    have := List.pairwise_iff_getElem.1 hp i j (by simp; omega) (by simp; omega) hij
    simpa using this
end
end Go.Proofs.YtlhkfafdioakeaaGreatDoor
