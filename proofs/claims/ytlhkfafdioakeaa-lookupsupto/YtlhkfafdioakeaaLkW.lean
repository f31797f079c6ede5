/- Proved here: weftlaw.Lookups, where what it reads is of the bulk that the second form asks: every Lookup answers as the document's: the law answers true, and its arguments read as before. -/
import Derived.Test.YtlhkfafdioakeaaFrB
import Derived.Test.YtlhkfafdioakeaaLkV
namespace Go.Proofs.Ytlhkfafdioakeaa
open Go.ChangeShapes Go.WideShapes Go.ChangeAt Go.WideMaps Go.WideElems Go.RowKit
set_option linter.unusedVariables false
set_option linter.unusedSimpArgs false
theorem own : ownKnob Try.prog.godebug = none := by kernel_rfl
theorem below_grown {w w' : World} (h : w.grownBy w' none) : Below w.heap.size w w' := ⟨h.os, h.tape, h.output, h.size, fun k hk => h.block k hk (by simp)⟩
instance : Inhabited Rl := ⟨⟨0, fun _ => 0, 0, fun _ _ => 0, .slice none 0 0⟩⟩
section
variable {H : Type} {enc : TypeId × Value → H} {w : World} {base : Nat} {held : Bool}
/-- A list of rules, opened. -/
theorem open_rules {fuel : Nat} {v : Value} {x : DataW H × List MemPlace} (h : DataW.trod enc Try.prog w base (fun _ => true) held fuel 22 [v] = some x) (hb : Rows.uptoBulk x.1 ≤ 1048576) :
    ∃ n rs, RlRow w v n rs ∧ n ≤ 1048576 ∧ ∀ j, j < n → (rs j).na ≤ 1048576 := by
  have hc : Try.prog.cellsOf 29 = 8 := by kernel_rfl
  rcases Deep.open_slice Try.underlying22 h with ⟨h0, _⟩ | ⟨a, len, cap, m, n, D, Pl, h1, h2, h3, h4, h5, h6, h7⟩
  · simp only [List.cons.injEq, and_true] at h0
    subst h0
    exact ⟨0, fun _ => default, .inl ⟨none, 0, rfl, rfl⟩, by omega, fun j hj => by omega⟩
  · simp only [List.cons.injEq, and_true] at h1
    subst h1
    simp only [if_true] at h5
    subst h5
    rw [hc] at h7
    rw [h6] at hb
    have hb' : Rows.uptoBulk (.slice ((List.range len).map D) ((List.range (m - len)).map fun j => D (len + j))) ≤ 1048576 := hb
    have hl := Opn.bulk_slice ((List.range len).map D) ((List.range (m - len)).map fun j => D (len + j))
    have hlen : len ≤ 1048576 := by
      have := hl.1
      simp only [List.length_map, List.length_range] at this
      omega
    have each : ∀ i, i < len → ∃ r : Rl, (∀ t, t < 8 → w.cell? ((a.add (i * 8)).add t) = some (rlC r.prio r.mt r.av t)) ∧ PkR w r.av r.na r.acts ∧ r.na ≤ 1048576 := by
      intro i hi
      obtain ⟨cs', g1, g2⟩ := h7 i (by omega)
      obtain ⟨p, k, v, y, f', k1, k2, k3⟩ := Opn.open_rule g2
      have hbi : Rows.uptoBulk (D i) ≤ 1048576 := Nat.le_trans (hl.2 (D i) (List.mem_map.2 ⟨i, by simpa using hi, rfl⟩)) hb'
      obtain ⟨na, acts, _, a1, a2⟩ := Opn.open_pks k2 (Nat.le_trans k3 hbi)
      obtain ⟨_, _, g3⟩ := World.cells?_some g1
      refine ⟨⟨p, k, na, acts, v⟩, fun t ht => ?_, a1, a2⟩
      rw [g3 t ht, k1]
      exact rlL_get p k v t ht
    obtain ⟨rs, hrs⟩ := Deep.choose_lt each
    refine ⟨len, rs, ?_, hlen, fun j hj => (hrs j hj).2.2⟩
    by_cases e0 : len = 0
    · subst e0
      exact .inl ⟨some a, m, rfl, rfl⟩
    · obtain ⟨b, o, rfl⟩ := Opn.addr_of_cell ((hrs 0 (by omega)).1 0 (by omega))
      have cc : ∀ j, j < len → ∀ t, t < 8 → w.cell? ⟨b, o + j * 8 + t, none⟩ = some (rlC (rs j).prio (rs j).mt (rs j).av t) := fun j hj t ht => by
        have := (hrs j hj).1 t ht
        rwa [Opn.addr_plain, Opn.addr_plain] at this
      refine .inr ⟨b, o, m, rfl, by omega, fun j hj => ⟨?_, fun i hi => ?_, ?_, (hrs j hj).2.1⟩⟩
      · exact cc j hj 0 (by omega)
      · rw [cc j hj (1 + i) (by omega)]
        unfold rlC
        rw [if_neg (by omega), if_pos (by omega), show 1 + i - 1 = i by omega]
      · exact cc j hj 7 (by omega)
set_option maxRecDepth 100000 in
theorem one_cell_rules {v : Value} (hv : Value.okWide Try.prog w .any base 22 v) : v.cells.toList = [v] := by
  cases v <;> first | rfl | (simp [Value.okWide, Try.underlying22, Cell.okWide, Cell.ok] at hv)
set_option maxRecDepth 100000 in
theorem one_cell_pks {v : Value} (hv : Value.okWide Try.prog w .any base 23 v) : v.cells.toList = [v] := by
  cases v <;> first | rfl | (simp [Value.okWide, Try.underlying23, Cell.okWide, Cell.ok] at hv)
end
set_option maxHeartbeats 1600000 in
set_option maxRecDepth 100000 in
theorem lookups_lifted (os : Os) (started : os.Started) (H : Type) (enc : TypeId × Value → H) (F : Stop.Interp) :
    ReturnsInHanded {} Try.checked os 3 .any ((Rows.OpenSpec.upto Rows.lookupsSpec).pre6 enc Try.prog Try.f3 Rows.lookupsUptoRow.domain false) (((Rows.OpenSpec.upto Rows.lookupsSpec).at F).post enc Try.prog Try.f3 false true false false) := by
  refine returnsInHanded_of_cond (C := Try.checked) (s := Rows.OpenSpec.upto Rows.lookupsSpec) (k := Rows.uptoSmall) rfl own started (by kernel_rfl) Try.func3
    (OpenSpec.witness (enc := enc) (C := Try.checked) (s := Rows.OpenSpec.upto Rows.lookupsSpec) (k := Rows.uptoSmall) rfl false ⟨#[], #[.slice none 0 0, .slice none 0 0], []⟩ 8 (by kernel_rfl) (by kernel_rfl) (by kernel_rfl)
      (x := ([.nil, .nil], [], [])) (by kernel_rfl) rfl (by kernel_rfl)) ?_
  intro W base args ds gs before hval0 hW _ hk _
  have hval : ∀ (j : Nat) t v, Try.f3.params[j]? = some t → args[j]? = some v → Value.okWide Try.prog W .any base t v := hval0
  have hW' : DataW.Whole enc Try.prog Try.f3.params.toList Rows.lookupsSpec.vars false W args.toList ds gs before := hW
  have hW := hW'
  obtain ⟨p, q, hA0, hV, rfl, hfz, hnd⟩ := hW
  have hA : DataW.TrodAll enc Try.prog W 0 (fun _ => true) true Try.f3.params.toList args.toList ds p := hA0
  rw [Try.params3] at hA hval
  obtain ⟨v0, v1, d0, d1, p0, p1, rfl, rfl, rfl, h0, h1⟩ := trodAll_two hA
  obtain ⟨rfl, rfl⟩ := trodVars_none hV
  clear hA0 hval0
  simp only [List.append_nil] at hW' hk
  have hbk : Rows.uptoBulkAll [d0, d1] ≤ 1048576 := of_decide_eq_true hk
  have hb0 : Rows.uptoBulk d0 ≤ 1048576 := Nat.le_trans (Opn.part_le (by simp)) hbk
  have hb1 : Rows.uptoBulk d1 ≤ 1048576 := Nat.le_trans (Opn.part_le (by simp)) hbk
  have hlt0 : ∀ x ∈ p0, x.block < W.heap.size := fun x hx => hW'.lt x (by simp [hx])
  have hlt1 : ∀ x ∈ p1, x.block < W.heap.size := fun x hx => hW'.lt x (by simp [hx])
  have h0' := h0
  have h1' := h1
  obtain ⟨f0, h0'⟩ := h0'
  obtain ⟨f1, h1'⟩ := h1'
  rw [one_cell_rules (hval 0 22 v0 rfl rfl)] at h0'
  rw [one_cell_pks (hval 1 23 v1 rfl rfl)] at h1'
  obtain ⟨n, rs, r1, r2, r3⟩ := open_rules h0' hb0
  obtain ⟨m, ps, s1, s2, s3⟩ := Opn.open_pks h1' hb1
  refine (lookups_any v0 v1 n m rs ps W r1 s2 (by omega) (fun j hj => by have := r3 j hj; omega) (by omega) (fun j _ => s1 j)).mono fun e W' ⟨he, hg⟩ => ?_
  subst he
  have hb := below_grown hg
  exact ⟨_, rfl, _, _, _, [], _, [], hW', trodAll_mk1 (shut_bool Try.underlying4 _), trodAll_mk2 (Below.trod (by kernel_rfl) (by kernel_rfl) (of_decide_eq_true (by kernel_rfl)) h0 hb hlt0) (Below.trod (by kernel_rfl) (by kernel_rfl) (of_decide_eq_true (by kernel_rfl)) h1 hb hlt1), rfl, hb.frame _, fun h => by cases h⟩
theorem lookupsUpto_holds : Rows.LookupsUptoSaid :=
  OpenClaim.holds_of_cond 3 Try.f3 rfl rfl rfl rfl rfl rfl rfl ⟨rfl, rfl, rfl, rfl, rfl⟩ rfl rfl rfl rfl rfl (by kernel_rfl) Try.func3 (by kernel_rfl)
    (of_decide_eq_true (by kernel_rfl)) (by unfold Func.isWrapper; first | (rw [if_pos (by decide +kernel)]; kernel_rfl) | (rw [if_neg (by decide +kernel)]; exact ⟨rfl, rfl⟩))
    (fun os started H enc _ F => lookups_lifted os started H enc F)
end Go.Proofs.Ytlhkfafdioakeaa
