/- Proved here: what arguments that are packets and lists of packets read as, where their bulk is bounded. -/
import Derived.Test.YtlhkfafdioakeaaGreatDoorRows
import Derived.Test.YtlhkfafdioakeaaGreatDoorGLa
import Derived.ProofKit
import Derived.OpenShut
import Derived.JoinedCond
import Derived.Carry
import Derived.Deep.Slices
namespace Go.Proofs.YtlhkfafdioakeaaGreatDoor.Opn
open Go.ChangeShapes Go.WideShapes Go.ChangeAt Go.WideMaps Go.WideElems Go.RowKit
set_option linter.unusedVariables false
set_option linter.unusedSimpArgs false
section
variable {H : Type}
theorem one_le (d : DataW H) : 1 ≤ Rows.uptoBulk d := by
  cases d with
  | lit l => cases l <;> simp [Rows.uptoBulk]
  | nil => simp [Rows.uptoBulk]
  | ptr d => simp [Rows.uptoBulk]
  | slice elems spare => simp [Rows.uptoBulk]
  | agg parts => simp [Rows.uptoBulk]
  | iface t d => simp [Rows.uptoBulk]
  | map entries => simp [Rows.uptoBulk]
  | held h => simp [Rows.uptoBulk]
theorem part_le {d : DataW H} {l : List (DataW H)} (h : d ∈ l) : Rows.uptoBulk d ≤ Rows.uptoBulkAll l := by
  induction l with
  | nil => cases h
  | cons x r ih =>
    simp only [Rows.uptoBulkAll]
    rcases List.mem_cons.1 h with e | e
    · subst e; omega
    · have := ih e; omega
theorem length_le (l : List (DataW H)) : l.length ≤ Rows.uptoBulkAll l := by
  induction l with
  | nil => simp [Rows.uptoBulkAll]
  | cons x r ih => have := one_le x; simp only [Rows.uptoBulkAll, List.length_cons]; omega
end
theorem wf_range64 {n : Int} (h : (Lit.int .i64 n).wf = true) : -9223372036854775808 ≤ n ∧ n ≤ 9223372036854775807 := by
  simp only [Lit.wf, IntKind.min, IntKind.max, IntKind.signed, IntKind.bits, Bool.and_eq_true, decide_eq_true_eq, if_true] at h
  omega
/-- Six numbers as a packet. -/
def six (n0 n1 n2 n3 n4 n5 : Int) : Nat → Int := fun i => if i = 0 then n0 else if i = 1 then n1 else if i = 2 then n2 else if i = 3 then n3 else if i = 4 then n4 else if i = 5 then n5 else 0
theorem six_nm (n0 n1 n2 n3 n4 n5 : Int) : Nm (six n0 n1 n2 n3 n4 n5) := fun i hi => by
  unfold six
  rw [if_neg (by omega), if_neg (by omega), if_neg (by omega), if_neg (by omega), if_neg (by omega), if_neg (by omega)]
section
variable {H : Type} {enc : TypeId × Value → H} {w : World} {base : Nat} {spare : Nat → Bool} {held : Bool}
theorem take_one {l : List Value} {i : Nat} {v : Value} (h : l[i]? = some v) : (l.drop i).take 1 = [v] := by
  have hlt : i < l.length := (List.getElem?_eq_some_iff.1 h).1
  rw [List.drop_eq_getElem_cons hlt]
  simp only [List.take_succ_cons, List.take_zero]
  rw [(List.getElem?_eq_some_iff.1 h).2]
theorem len_six {α : Type} : ∀ {l : List α}, l.length = 6 → ∃ a0 a1 a2 a3 a4 a5, l = [a0, a1, a2, a3, a4, a5]
  | [a0, a1, a2, a3, a4, a5], _ => ⟨a0, a1, a2, a3, a4, a5, rfl⟩
theorem len_eight {α : Type} : ∀ {l : List α}, l.length = 8 → ∃ a0 a1 a2 a3 a4 a5 a6 a7, l = [a0, a1, a2, a3, a4, a5, a6, a7]
  | [a0, a1, a2, a3, a4, a5, a6, a7], _ => ⟨a0, a1, a2, a3, a4, a5, a6, a7, rfl⟩
theorem len_three {α : Type} : ∀ {l : List α}, l.length = 3 → ∃ a0 a1 a2, l = [a0, a1, a2]
  | [a0, a1, a2], _ => ⟨a0, a1, a2, rfl⟩
/-- A packet, opened. -/
theorem open_pk {fuel : Nat} {cs : List Value} {x : DataW H × List MemPlace} (h : DataW.trod enc Tryz.prog w base spare held fuel 46 cs = some x) : ∃ k, Nm k ∧ cs = (pkA k).toList ∧ (∀ i, i < 6 → -9223372036854775808 ≤ k i ∧ k i ≤ 9223372036854775807) ∧ x.2 = [] := by
  obtain ⟨xs, m, _, hx, hl, hn, hel⟩ := DataW.trod_array Tryz.underlying46 h
  have hc : Tryz.prog.cellsOf 46 = 6 := by kernel_rfl
  have hc3 : Tryz.prog.cellsOf 3 = 1 := by kernel_rfl
  rw [hc] at hl
  obtain ⟨c0, c1, c2, c3, c4, c5, rfl⟩ := len_six hl
  obtain ⟨x0, x1, x2, x3, x4, x5, rfl⟩ := len_six hn
  have one : ∀ i v, i < 6 → [c0, c1, c2, c3, c4, c5][i]? = some v → ∃ n, v = .int .i64 n ∧ (Lit.int .i64 n).wf = true ∧ ∃ y, [x0, x1, x2, x3, x4, x5][i]? = some y ∧ y.2 = [] := by
    intro i v hi hv
    have he := hel i hi
    rw [hc3, Nat.mul_one, take_one hv] at he
    obtain ⟨y, hy⟩ : ∃ y, [x0, x1, x2, x3, x4, x5][i]? = some y := ⟨_, List.getElem?_eq_getElem (by simpa using hi)⟩
    rw [hy] at he
    obtain ⟨n, h1, h2, h3⟩ := DataW.trod_int Tryz.underlying3 he
    simp only [List.cons.injEq, and_true] at h1
    exact ⟨n, h1, h3, y, hy, by rw [h2]⟩
  obtain ⟨n0, rfl, r0, y0, e0, z0⟩ := one 0 c0 (by omega) rfl
  obtain ⟨n1, rfl, r1, y1, e1, z1⟩ := one 1 c1 (by omega) rfl
  obtain ⟨n2, rfl, r2, y2, e2, z2⟩ := one 2 c2 (by omega) rfl
  obtain ⟨n3, rfl, r3, y3, e3, z3⟩ := one 3 c3 (by omega) rfl
  obtain ⟨n4, rfl, r4, y4, e4, z4⟩ := one 4 c4 (by omega) rfl
  obtain ⟨n5, rfl, r5, y5, e5, z5⟩ := one 5 c5 (by omega) rfl
  refine ⟨six n0 n1 n2 n3 n4 n5, six_nm _ _ _ _ _ _, rfl, fun i hi => ?_, ?_⟩
  · rcases (show i = 0 ∨ i = 1 ∨ i = 2 ∨ i = 3 ∨ i = 4 ∨ i = 5 by omega) with rfl | rfl | rfl | rfl | rfl | rfl
    · exact wf_range64 r0
    · exact wf_range64 r1
    · exact wf_range64 r2
    · exact wf_range64 r3
    · exact wf_range64 r4
    · exact wf_range64 r5
  · rw [hx]
    simp only [List.getElem?_cons_zero, List.getElem?_cons_succ, Option.some.injEq] at e0 e1 e2 e3 e4 e5
    subst e0 e1 e2 e3 e4 e5
    simp [z0, z1, z2, z3, z4, z5]
theorem addr_plain {b o r : Nat} : (⟨b, o, none⟩ : Addr).add r = ⟨b, o + r, none⟩ := by unfold Addr.add; split <;> simp_all
theorem addr_of_cell {a : Addr} {c : Nat} {v : Value} (h : w.cell? ((a.add (0 * c)).add 0) = some v) : ∃ b o, a = ⟨b, o, none⟩ := by
  have hsp := World.cell?_spot h
  rw [Nat.zero_mul] at hsp
  obtain ⟨b, o, sp⟩ := a
  refine ⟨b, o, ?_⟩
  have : sp = none := by simpa [Addr.add] using hsp
  rw [this]
theorem bulk_slice (l r : List (DataW H)) : l.length + 1 ≤ Rows.uptoBulk (.slice l r) ∧ ∀ d, d ∈ l → Rows.uptoBulk d ≤ Rows.uptoBulk (.slice l r) := by
  simp only [Rows.uptoBulk]
  refine ⟨?_, fun d hd => ?_⟩
  · have := length_le l; omega
  · have := part_le hd; omega
/-- A list of packets, opened. -/
theorem open_pks {fuel : Nat} {v : Value} {x : DataW H × List MemPlace} (h : DataW.trod enc Tryz.prog w base (fun _ => true) held fuel 29 [v] = some x) (hb : Rows.uptoBulk x.1 ≤ 1048576) :
    ∃ n ps, (∀ j, Nm (ps j)) ∧ PkR w v n ps ∧ n ≤ 1048576 := by
  have hc : Tryz.prog.cellsOf 46 = 6 := by kernel_rfl
  rcases Deep.open_slice Tryz.underlying29 h with ⟨h0, _⟩ | ⟨a, len, cap, m, n, D, Pl, h1, h2, h3, h4, h5, h6, h7⟩
  · simp only [List.cons.injEq, and_true] at h0
    subst h0
    exact ⟨0, fun _ _ => 0, fun _ _ _ => rfl, .inl ⟨none, 0, rfl, rfl, fun _ => rfl⟩, by omega⟩
  · simp only [List.cons.injEq, and_true] at h1
    subst h1
    simp only [if_true] at h5
    subst h5
    rw [hc] at h7
    rw [h6] at hb
    have hl := (bulk_slice ((List.range len).map D) ((List.range (m - len)).map fun j => D (len + j))).1
    simp only [List.length_map, List.length_range] at hl
    have hlen : len ≤ 1048576 := by
      have hb' : Rows.uptoBulk (.slice ((List.range len).map D) ((List.range (m - len)).map fun j => D (len + j))) ≤ 1048576 := hb
      omega
    have each : ∀ i, i < m → ∃ k : Nat → Int, Nm k ∧ ∀ t, t < 6 → w.cell? ((a.add (i * 6)).add t) = some (.int .i64 (k t)) := by
      intro i hi
      obtain ⟨cs', g1, g2⟩ := h7 i hi
      obtain ⟨k, k1, k2, k3, _⟩ := open_pk g2
      obtain ⟨_, _, g3⟩ := World.cells?_some g1
      refine ⟨k, k1, fun t ht => ?_⟩
      rw [g3 t ht, k2]
      have := pkA_get k t ht
      simpa using this
    obtain ⟨ps, hps⟩ := Deep.choose_lt each
    refine ⟨len, fun j => if j < m then ps j else fun _ => 0, fun j => ?_, ?_, hlen⟩
    · show Nm (if j < m then ps j else fun _ => 0)
      split
      · rename_i hj; exact (hps j hj).1
      · exact fun _ _ => rfl
    · by_cases e0 : len = 0
      · subst e0
        exact .inl ⟨some a, m, rfl, rfl, fun e => by cases e⟩
      · obtain ⟨b, o, rfl⟩ := addr_of_cell ((hps 0 (by omega)).2 0 (by omega))
        refine .inr ⟨b, o, m, rfl, by omega, fun j hj i hi => ?_⟩
        have := (hps j (by omega)).2 i hi
        rw [addr_plain, addr_plain] at this
        rw [this]
        show _ = some (Value.int .i64 ((if j < m then ps j else fun _ => 0) i))
        rw [if_pos (by omega)]
/-- A rule, opened. -/
theorem open_rule {fuel : Nat} {cs : List Value} {x : DataW H × List MemPlace} (h : DataW.trod enc Tryz.prog w base (fun _ => true) held fuel 68 cs = some x) :
    ∃ (p : Int) (k : Nat → Int) (v : Value) (y : DataW H × List MemPlace) (fuel' : Nat), cs = [.int .i64 p, .int .i64 (k 0), .int .i64 (k 1), .int .i64 (k 2), .int .i64 (k 3), .int .i64 (k 4), .int .i64 (k 5), v] ∧
      DataW.trod enc Tryz.prog w base (fun _ => true) held fuel' 29 [v] = some y ∧ Rows.uptoBulk y.1 ≤ Rows.uptoBulk x.1 := by
  obtain ⟨xs, m, _, hx, hl, hn, hel⟩ := DataW.trod_struct Tryz.underlying68 h
  have hc : Tryz.prog.cellsOf 68 = 8 := by kernel_rfl
  have hc3 : Tryz.prog.cellsOf 3 = 1 := by kernel_rfl
  have hck : Tryz.prog.cellsOf 46 = 6 := by kernel_rfl
  have hcs : Tryz.prog.cellsOf 29 = 1 := by kernel_rfl
  rw [hc] at hl
  obtain ⟨c0, c1, c2, c3, c4, c5, c6, c7, rfl⟩ := len_eight hl
  obtain ⟨x0, x1, x2, rfl⟩ := len_three hn
  have e0 : DataW.trod enc Tryz.prog w base (fun _ => true) held m 3 (([c0, c1, c2, c3, c4, c5, c6, c7].drop 0).take (Tryz.prog.cellsOf 3)) = some x0 := hel 0 _ rfl
  have e1 : DataW.trod enc Tryz.prog w base (fun _ => true) held m 46 (([c0, c1, c2, c3, c4, c5, c6, c7].drop 1).take (Tryz.prog.cellsOf 46)) = some x1 := hel 1 _ rfl
  have e2 : DataW.trod enc Tryz.prog w base (fun _ => true) held m 29 (([c0, c1, c2, c3, c4, c5, c6, c7].drop 7).take (Tryz.prog.cellsOf 29)) = some x2 := hel 2 _ rfl
  simp only [hc3, hck, hcs, List.drop_zero, List.take_succ_cons, List.take_zero, List.drop_succ_cons, List.getElem?_cons_zero, List.getElem?_cons_succ] at e0 e1 e2
  obtain ⟨p, hp, _, hpr⟩ := DataW.trod_int Tryz.underlying3 e0
  simp only [List.cons.injEq, and_true] at hp
  subst hp
  obtain ⟨k, k1, k2, k3, _⟩ := open_pk e1
  simp only [pkA, List.cons.injEq, and_true] at k2
  obtain ⟨rfl, rfl, rfl, rfl, rfl, rfl⟩ := k2
  refine ⟨p, k, c7, x2, m, rfl, e2, ?_⟩
  rw [hx]
  simp only [Rows.uptoBulk, Rows.uptoBulkAll, List.map_cons, List.map_nil]
  omega
end
end Go.Proofs.YtlhkfafdioakeaaGreatDoor.Opn
