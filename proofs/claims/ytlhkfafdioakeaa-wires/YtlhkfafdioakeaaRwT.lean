/- Proved here: weftlaw.Wires, whatever the input: every Encode and every Decode answers as the document's: the law answers true, and its arguments read as before. No condition. -/
import Derived.Test.YtlhkfafdioakeaaRows
import Derived.Test.YtlhkfafdioakeaaRwS
import Derived.Test.YtlhkfafdioakeaaFrA
namespace Go.Proofs.Ytlhkfafdioakeaa
open Go.ChangeShapes Go.WideShapes Go.ChangeAt Go.WideMaps Go.WideElems Go.RowKit
open Go.ChangeMaps (open_string shut_string)
set_option linter.unusedVariables false
set_option linter.unusedSimpArgs false
theorem own : ownKnob Try.prog.godebug = none := by kernel_rfl
theorem below_grown {w w' : World} (h : w.grownBy w' none) : Below w.heap.size w w' := ⟨h.os, h.tape, h.output, h.size, fun k hk => h.block k hk (by simp)⟩
section
variable {H : Type} {enc : TypeId × Value → H} {w : World} {base : Nat} {held : Bool}
theorem shape_lt {w : World} {b : Nat} {x : TypeId × Nat} (h : w.shape? b = some x) : b < w.heap.size := by
  rcases Nat.lt_or_ge b w.heap.size with g | g
  · exact g
  · simp [World.shape?, Array.getElem?_eq_none g] at h
set_option maxRecDepth 100000 in
theorem cell_plain {w : World} {base : Nat} {v : Value} (h : Cell.okWide Try.prog w .any base 23 v) {a : Addr} {n c : Nat} (hv : v = .slice (some a) n c) : a.spot = none ∧ a.block < w.heap.size := by
  subst hv
  simp only [Cell.okWide, Try.underlying23, Cell.ok, World.has] at h
  obtain ⟨_, _, _, h1, row, cells, h2, _⟩ := h
  exact ⟨h1, shape_lt h2⟩
theorem len_ten {α : Type} : ∀ {l : List α}, l.length = 10 → ∃ a0 a1 a2 a3 a4 a5 a6 a7 a8 a9, l = [a0, a1, a2, a3, a4, a5, a6, a7, a8, a9]
  | [a0, a1, a2, a3, a4, a5, a6, a7, a8, a9], _ => ⟨a0, a1, a2, a3, a4, a5, a6, a7, a8, a9, rfl⟩
theorem len_eight {α : Type} : ∀ {l : List α}, l.length = 8 → ∃ a0 a1 a2 a3 a4 a5 a6 a7, l = [a0, a1, a2, a3, a4, a5, a6, a7]
  | [a0, a1, a2, a3, a4, a5, a6, a7], _ => ⟨a0, a1, a2, a3, a4, a5, a6, a7, rfl⟩
theorem len_three {α : Type} : ∀ {l : List α}, l.length = 3 → ∃ a0 a1 a2, l = [a0, a1, a2]
  | [a0, a1, a2], _ => ⟨a0, a1, a2, rfl⟩
/-- A rule, opened. -/
theorem open_rule {fuel : Nat} {cs : List Value} {x : DataW H × List MemPlace} (h : DataW.trod enc Try.prog w base (fun _ => true) held fuel 29 cs = some x) (hz : ∀ z ∈ x.1.weights Try.prog 29, z ≤ reachBytes) :
    ∃ p k v y fuel', cs = [.int .i64 p, .int .i64 (k 0), .int .i64 (k 1), .int .i64 (k 2), .int .i64 (k 3), .int .i64 (k 4), .int .i64 (k 5), v] ∧ Nm k ∧ (-9223372036854775808 ≤ p ∧ p ≤ 9223372036854775807) ∧ (∀ i, i < 6 → -9223372036854775808 ≤ k i ∧ k i ≤ 9223372036854775807) ∧
      DataW.trod enc Try.prog w base (fun _ => true) held fuel' 23 [v] = some y ∧ ∀ z ∈ y.1.weights Try.prog 23, z ≤ reachBytes := by
  obtain ⟨xs, m, _, hx, hl, hn, hel⟩ := DataW.trod_struct Try.underlying29 h
  have hc : Try.prog.cellsOf 29 = 8 := by kernel_rfl
  have hc3 : Try.prog.cellsOf 3 = 1 := by kernel_rfl
  have hck : Try.prog.cellsOf 27 = 6 := by kernel_rfl
  have hcs : Try.prog.cellsOf 23 = 1 := by kernel_rfl
  rw [hc] at hl
  obtain ⟨c0, c1, c2, c3, c4, c5, c6, c7, rfl⟩ := len_eight hl
  obtain ⟨x0, x1, x2, rfl⟩ := len_three hn
  have e0 : DataW.trod enc Try.prog w base (fun _ => true) held m 3 (([c0, c1, c2, c3, c4, c5, c6, c7].drop 0).take (Try.prog.cellsOf 3)) = some x0 := hel 0 _ rfl
  have e1 : DataW.trod enc Try.prog w base (fun _ => true) held m 27 (([c0, c1, c2, c3, c4, c5, c6, c7].drop 1).take (Try.prog.cellsOf 27)) = some x1 := hel 1 _ rfl
  have e2 : DataW.trod enc Try.prog w base (fun _ => true) held m 23 (([c0, c1, c2, c3, c4, c5, c6, c7].drop 7).take (Try.prog.cellsOf 23)) = some x2 := hel 2 _ rfl
  simp only [hc3, hck, hcs, List.drop_zero, List.take_succ_cons, List.take_zero, List.drop_succ_cons, List.getElem?_cons_zero, List.getElem?_cons_succ] at e0 e1 e2
  obtain ⟨p, hp, _, hpr⟩ := DataW.trod_int Try.underlying3 e0
  simp only [List.cons.injEq, and_true] at hp
  subst hp
  obtain ⟨k, k1, k2, k3, _⟩ := open_pk e1
  simp only [pkA, List.cons.injEq, and_true] at k2
  obtain ⟨rfl, rfl, rfl, rfl, rfl, rfl⟩ := k2
  refine ⟨p, k, c7, x2, m, rfl, k1, wf_range64 hpr, k3, e2, fun z hz2 => hz z ?_⟩
  rw [hx]
  simp only [DataW.weights, Try.underlying29, List.map_cons, List.map_nil, DataW.weightsEach, List.mem_append]
  exact .inr (.inr (.inl hz2))
set_option maxRecDepth 100000 in
/-- A message, opened. -/
theorem open_msg {v : Value} {d : DataW H} {ps : List MemPlace} (hv : Value.okWide Try.prog w .any base 45 v) (h : DataW.Trod enc Try.prog w 0 (fun _ => true) true 45 v d ps) (hz : ∀ z ∈ d.weights Try.prog 45, z ≤ reachBytes) :
    ∃ (m : Msg) (a b : Option Addr) (ca cb : Nat), v = msgV m (.slice a m.na ca) (.slice b m.np cb) ∧ PkRow w (.slice a m.na ca) m.na m.acts ∧ PkRow w (.slice b m.np cb) m.np m.pks ∧ RowIn w.heap.size (.slice a m.na ca) ∧ RowIn w.heap.size (.slice b m.np cb) := by
  simp only [Value.okWide, Try.underlying45] at hv
  obtain ⟨cs, rfl, hsz, ts, hts, _, hrow⟩ := hv
  obtain ⟨fuel, h⟩ := h
  obtain ⟨xs, m, _, hx, hl, hn, hel⟩ := DataW.trod_struct Try.underlying45 h
  have hc : Try.prog.cellsOf 45 = 10 := by kernel_rfl
  have hc3 : Try.prog.cellsOf 3 = 1 := by kernel_rfl
  have hcr : Try.prog.cellsOf 29 = 8 := by kernel_rfl
  have hcs : Try.prog.cellsOf 23 = 1 := by kernel_rfl
  have htt : Try.prog.cellTypes Try.prog.depth 45 = some [3, 3, 3, 3, 3, 3, 3, 3, 23, 23] := by kernel_rfl
  rw [htt] at hts
  cases hts
  rw [hc] at hl
  obtain ⟨L, rfl⟩ : ∃ L, cs = L.toArray := ⟨cs.toList, by simp⟩
  simp only [Value.cells] at hl hel
  obtain ⟨c0, c1, c2, c3, c4, c5, c6, c7, c8, c9, rfl⟩ := len_ten hl
  obtain ⟨x0, x1, x2, rfl⟩ := len_three hn
  have e0 : DataW.trod enc Try.prog w 0 (fun _ => true) true m 3 (([c0, c1, c2, c3, c4, c5, c6, c7, c8, c9].drop 0).take (Try.prog.cellsOf 3)) = some x0 := hel 0 _ rfl
  have e1 : DataW.trod enc Try.prog w 0 (fun _ => true) true m 29 (([c0, c1, c2, c3, c4, c5, c6, c7, c8, c9].drop 1).take (Try.prog.cellsOf 29)) = some x1 := hel 1 _ rfl
  have e2 : DataW.trod enc Try.prog w 0 (fun _ => true) true m 23 (([c0, c1, c2, c3, c4, c5, c6, c7, c8, c9].drop 9).take (Try.prog.cellsOf 23)) = some x2 := hel 2 _ rfl
  simp only [hc3, hcr, hcs, List.drop_zero, List.take_succ_cons, List.take_zero, List.drop_succ_cons, List.getElem?_cons_zero, List.getElem?_cons_succ] at e0 e1 e2
  obtain ⟨kd, hkd, _, _⟩ := DataW.trod_int Try.underlying3 e0
  simp only [List.cons.injEq, and_true] at hkd
  subst hkd
  rw [Prod.mk.injEq] at hx
  obtain ⟨rfl, _⟩ := hx
  simp only [DataW.weights, Try.underlying45, List.map_cons, List.map_nil, DataW.weightsEach, List.mem_append] at hz
  obtain ⟨p, k, va, y, f1, hcs1, k1, _, _, t1, z1⟩ := open_rule e1 (fun z h => hz z (.inr (.inl h)))
  simp only [List.cons.injEq, and_true] at hcs1
  obtain ⟨rfl, rfl, rfl, rfl, rfl, rfl, rfl, rfl⟩ := hcs1
  obtain ⟨a, na, ca, ps1, rfl, _, _, _, _, _, p1, _, _⟩ := open_pks t1 z1
  obtain ⟨b, nb, cb, ps2, rfl, _, _, _, _, _, p2, _, _⟩ := open_pks e2 (fun z h => hz z (.inr (.inr (.inl h))))
  have o8 : Cell.okWide Try.prog w .any base 23 (.slice a na ca) := by
    obtain ⟨u, hu, ho⟩ := hrow 8 _ rfl
    cases hu
    exact ho
  have o9 : Cell.okWide Try.prog w .any base 23 (.slice b nb cb) := by
    obtain ⟨u, hu, ho⟩ := hrow 9 _ rfl
    cases hu
    exact ho
  refine ⟨⟨kd, p, k, na, ps1, nb, ps2⟩, a, b, ca, cb, rfl, p1 (fun ad e => by subst e; exact (cell_plain o8 rfl).1), p2 (fun ad e => by subst e; exact (cell_plain o9 rfl).1), fun g off n cap e => ?_, fun g off n cap e => ?_⟩
  · cases e; exact (cell_plain o8 rfl).2
  · cases e; exact (cell_plain o9 rfl).2
end
set_option maxHeartbeats 1600000 in
set_option maxRecDepth 100000 in
theorem wires_lifted (os : Os) (started : os.Started) (H : Type) (enc : TypeId × Value → H) :
    ReturnsInHanded {} Try.checked os 4 .any (Rows.wiresSpec.pre6 enc Try.prog Try.f4 Rows.wiresRow.domain false) (Rows.wiresSpec.post enc Try.prog Try.f4 false true false false) := by
  refine returnsInHanded_of_change_sized (C := Try.checked) own started (by kernel_rfl) Try.func4
    (ChangeSpec.witness6 (enc := enc) (C := Try.checked) false ⟨#[], #[.agg #[.int .i64 0, .int .i64 0, .int .i64 0, .int .i64 0, .int .i64 0, .int .i64 0, .int .i64 0, .int .i64 0, .slice none 0 0, .slice none 0 0], .string ByteArray.empty], []⟩ 8 (by kernel_rfl) (by kernel_rfl) (by kernel_rfl) (by kernel_rfl)) ?_
  intro W base args ds gs before hval0 hW _ hsz0 _
  have hsz : (DataW.weightsEach Try.prog (Try.f4.params.toList ++ Rows.wiresSpec.plain.varTypes Try.prog) (ds ++ gs)).all (· ≤ reachBytes) = true := hsz0
  clear hsz0
  have hval : ∀ (j : Nat) t v, Try.f4.params[j]? = some t → args[j]? = some v → Value.okWide Try.prog W .any base t v := hval0
  have hW' := hW
  obtain ⟨p, q, hA0, hV, rfl, hfz, hnd⟩ := hW
  have hA : DataW.TrodAll enc Try.prog W 0 (fun _ => true) true Try.f4.params.toList args.toList ds p := hA0
  rw [Try.params4] at hA hval hsz
  obtain ⟨v0, v1, d0, d1, p0, p1, rfl, rfl, rfl, h0, h1⟩ := trodAll_two hA
  obtain ⟨rfl, rfl⟩ := trodVars_none hV
  obtain ⟨s1, rfl, rfl, rfl, w1⟩ := open_string Try.underlying9 (hval 1 9 v1 rfl rfl) h1
  have hz : ∀ z ∈ d0.weights Try.prog 45, z ≤ reachBytes := fun z hz => by
    have := DataW.weights_mem_each (P := Try.prog) (ts := [45, 9]) (ds := [d0, .lit (.string s1.data.toList)]) (j := 0) (t := 45) (d := d0) rfl rfl z hz
    exact of_decide_eq_true (List.all_eq_true.1 hsz z this)
  obtain ⟨m, a, b, ca, cb, rfl, q1, q2, q3, q4⟩ := open_msg (hval 0 45 v0 rfl rfl) h0 hz
  have hs1 : s1.size ≤ 140737488355328 := by
    have := sized_string hsz (j := 1) (t := 9) rfl rfl
    have := reachBytes_lt
    have e : s1.data.toList.length = s1.size := (Lib.size_eq s1).symm
    omega
  clear hA0 hval0
  simp only [List.append_nil] at hW'
  have hlt : ∀ x ∈ p0, x.block < W.heap.size := fun x hx => hW'.lt x (by simp [hx])
  refine (wires_walk m a b ca cb s1 W q1 q2 q3 q4 hs1).mono fun e W' ⟨he, hg⟩ => ?_
  subst he
  have hb := below_grown hg
  exact ⟨_, rfl, _, _, _, [], _, [], hW', trodAll_mk1 (shut_bool Try.underlying4 _), trodAll_mk2 (Below.trod (by kernel_rfl) (by kernel_rfl) (of_decide_eq_true (by kernel_rfl)) h0 hb hlt) (shut_string Try.underlying9 w1), rfl, hb.frame _, fun h => by cases h⟩
theorem wires_holds : Rows.WiresSaid :=
  OpenClaim.holds_of_wide 4 Try.f4 rfl rfl rfl rfl rfl rfl rfl ⟨rfl, rfl, rfl, rfl, rfl⟩ rfl rfl rfl rfl rfl (by kernel_rfl) Try.func4 (by kernel_rfl)
    (of_decide_eq_true (by kernel_rfl)) (by unfold Func.isWrapper; first | (rw [if_pos (by decide +kernel)]; kernel_rfl) | (rw [if_neg (by decide +kernel)]; exact ⟨rfl, rfl⟩))
    (fun os started H enc _ => wires_lifted os started H enc)
end Go.Proofs.Ytlhkfafdioakeaa
