/- Proved here: what arguments that are packets, lists of packets, rules and messages read as. -/
import Derived.Test.YtlhkfafdioakeaaLkA
import Derived.Test.YtlhkfafdioakeaaMsgE
import Derived.Test.YtlhkfafdioakeaaRwR
import Derived.ProofKit
import Derived.OpenShut
import Derived.ShutString
import Derived.SizedLaws
import Derived.Carry
import Derived.Deep.Slices
namespace Go.Proofs.Ytlhkfafdioakeaa
open Go.ChangeShapes Go.WideShapes Go.ChangeAt Go.WideMaps Go.WideElems Go.RowKit
set_option linter.unusedVariables false
set_option linter.unusedSimpArgs false
theorem wf_range64 {n : Int} (h : (Lit.int .i64 n).wf = true) : -9223372036854775808 ≤ n ∧ n ≤ 9223372036854775807 := by
  simp only [Lit.wf, IntKind.min, IntKind.max, IntKind.signed, IntKind.bits, Bool.and_eq_true, decide_eq_true_eq, if_true] at h
  omega
/-- Six numbers as a packet. -/
def six (n0 n1 n2 n3 n4 n5 : Int) : Nat → Int := fun i => if i = 0 then n0 else if i = 1 then n1 else if i = 2 then n2 else if i = 3 then n3 else if i = 4 then n4 else if i = 5 then n5 else 0
theorem six_nm (n0 n1 n2 n3 n4 n5 : Int) : Nm (six n0 n1 n2 n3 n4 n5) := fun i hi => by
  unfold six
  rw [if_neg (by omega), if_neg (by omega), if_neg (by omega), if_neg (by omega), if_neg (by omega), if_neg (by omega)]
section
variable {H : Type} {enc : TypeId × Value → H} {w : World} {base : Nat} {spare : Nat → Bool} {held : Bool}
theorem take_one {l : List Value} {i : Nat} {v : Value} (h : l[i]? = some v) : (l.drop i).take 1 = [v] := by
  have hlt : i < l.length := (List.getElem?_eq_some_iff.1 h).1
  rw [List.drop_eq_getElem_cons hlt]
  simp only [List.take_succ_cons, List.take_zero]
  rw [(List.getElem?_eq_some_iff.1 h).2]
theorem len_six {α : Type} : ∀ {l : List α}, l.length = 6 → ∃ a0 a1 a2 a3 a4 a5, l = [a0, a1, a2, a3, a4, a5]
  | [a0, a1, a2, a3, a4, a5], _ => ⟨a0, a1, a2, a3, a4, a5, rfl⟩
/-- A packet, opened. -/
theorem open_pk {fuel : Nat} {cs : List Value} {x : DataW H × List MemPlace} (h : DataW.trod enc Try.prog w base spare held fuel 27 cs = some x) : ∃ k, Nm k ∧ cs = (pkA k).toList ∧ (∀ i, i < 6 → -9223372036854775808 ≤ k i ∧ k i ≤ 9223372036854775807) ∧ x.2 = [] := by
  obtain ⟨xs, m, _, hx, hl, hn, hel⟩ := DataW.trod_array Try.underlying27 h
  have hc : Try.prog.cellsOf 27 = 6 := by kernel_rfl
  have hc3 : Try.prog.cellsOf 3 = 1 := by kernel_rfl
  rw [hc] at hl
  obtain ⟨c0, c1, c2, c3, c4, c5, rfl⟩ := len_six hl
  obtain ⟨x0, x1, x2, x3, x4, x5, rfl⟩ := len_six hn
  have one : ∀ i v, i < 6 → [c0, c1, c2, c3, c4, c5][i]? = some v → ∃ n, v = .int .i64 n ∧ (Lit.int .i64 n).wf = true ∧ ∃ y, [x0, x1, x2, x3, x4, x5][i]? = some y ∧ y.2 = [] := by
    intro i v hi hv
    have he := hel i hi
    rw [hc3, Nat.mul_one, take_one hv] at he
    obtain ⟨y, hy⟩ : ∃ y, [x0, x1, x2, x3, x4, x5][i]? = some y := ⟨_, List.getElem?_eq_getElem (by simpa using hi)⟩
    rw [hy] at he
    obtain ⟨n, h1, h2, h3⟩ := DataW.trod_int Try.underlying3 he
    simp only [List.cons.injEq, and_true] at h1
    exact ⟨n, h1, h3, y, hy, by rw [h2]⟩
  obtain ⟨n0, rfl, r0, y0, e0, z0⟩ := one 0 c0 (by omega) rfl
  obtain ⟨n1, rfl, r1, y1, e1, z1⟩ := one 1 c1 (by omega) rfl
  obtain ⟨n2, rfl, r2, y2, e2, z2⟩ := one 2 c2 (by omega) rfl
  obtain ⟨n3, rfl, r3, y3, e3, z3⟩ := one 3 c3 (by omega) rfl
  obtain ⟨n4, rfl, r4, y4, e4, z4⟩ := one 4 c4 (by omega) rfl
  obtain ⟨n5, rfl, r5, y5, e5, z5⟩ := one 5 c5 (by omega) rfl
  refine ⟨six n0 n1 n2 n3 n4 n5, six_nm _ _ _ _ _ _, rfl, fun i hi => ?_, ?_⟩
  · rcases (show i = 0 ∨ i = 1 ∨ i = 2 ∨ i = 3 ∨ i = 4 ∨ i = 5 by omega) with rfl | rfl | rfl | rfl | rfl | rfl
    · exact wf_range64 r0
    · exact wf_range64 r1
    · exact wf_range64 r2
    · exact wf_range64 r3
    · exact wf_range64 r4
    · exact wf_range64 r5
  · rw [hx]
    simp only [List.getElem?_cons_zero, List.getElem?_cons_succ, Option.some.injEq] at e0 e1 e2 e3 e4 e5
    subst e0 e1 e2 e3 e4 e5
    simp [z0, z1, z2, z3, z4, z5]
theorem addr_plain {b o r : Nat} : (⟨b, o, none⟩ : Addr).add r = ⟨b, o + r, none⟩ := by unfold Addr.add; split <;> simp_all
/-- A list of packets, opened, as far as its address is plain. -/
theorem open_pks {fuel : Nat} {v : Value} {x : DataW H × List MemPlace} (h : DataW.trod enc Try.prog w base (fun _ => true) held fuel 23 [v] = some x) (hz : ∀ z ∈ x.1.weights Try.prog 23, z ≤ reachBytes) :
    ∃ a n c ps, v = .slice a n c ∧ (∀ j, Nm (ps j)) ∧ (∀ j i, -9223372036854775808 ≤ ps j i ∧ ps j i ≤ 9223372036854775807) ∧ n ≤ 3000000000000 ∧ c ≤ 3000000000000 ∧ n ≤ c ∧
      ((∀ ad, a = some ad → ad.spot = none) → PkRow w (.slice a n c) n ps) ∧ (a = none → n = 0 ∧ c = 0) ∧ (0 < c → ∃ b o, a = some ⟨b, o, none⟩ ∧ b < w.heap.size) := by
  have hc : Try.prog.cellsOf 27 = 6 := by kernel_rfl
  have hb : Try.prog.bytesOf 27 = 48 := by kernel_rfl
  rcases Deep.open_slice Try.underlying23 h with ⟨h0, _⟩ | ⟨a, len, cap, m, n, D, Pl, h1, h2, h3, h4, h5, h6, h7⟩
  · simp only [List.cons.injEq, and_true] at h0
    subst h0
    exact ⟨none, 0, 0, fun _ _ => 0, rfl, fun _ _ _ => rfl, fun _ _ => ⟨by show _ ≤ (0 : Int); omega, by show (0 : Int) ≤ _; omega⟩, by omega, by omega, by omega, fun _ => .inl ⟨rfl, rfl⟩, fun _ => ⟨rfl, rfl⟩, fun h => by omega⟩
  · simp only [List.cons.injEq, and_true] at h1
    subst h1
    simp only [if_true] at h5
    subst h5
    have hw := hz ((len + (m - len)) * 48) (by
      rw [h6]
      unfold DataW.weights
      rw [Try.underlying23]
      simp only [List.length_map, List.length_range, hb]
      exact List.mem_cons_self)
    have hlt := reachBytes_lt
    have hcapB : m ≤ 3000000000000 := by omega
    rw [hc] at h7
    have each : ∀ i, i < m → ∃ k : Nat → Int, Nm k ∧ (∀ t, t < 6 → -9223372036854775808 ≤ k t ∧ k t ≤ 9223372036854775807) ∧ ∀ t, t < 6 → w.cell? ((a.add (i * 6)).add t) = some (.int .i64 (k t)) := by
      intro i hi
      obtain ⟨cs', g1, g2⟩ := h7 i hi
      obtain ⟨k, k1, k2, k3, _⟩ := open_pk g2
      obtain ⟨_, _, g3⟩ := World.cells?_some g1
      refine ⟨k, k1, k3, fun t ht => ?_⟩
      rw [g3 t ht, k2]
      have := pkA_get k t ht
      simpa using this
    obtain ⟨ps, hps⟩ := Deep.choose_lt each
    have hplain : 0 < m → ∃ b o, a = ⟨b, o, none⟩ := by
      intro hm
      have h0 := (hps 0 hm).2.2 0 (by omega)
      have hsp := World.cell?_spot h0
      obtain ⟨b, o, sp⟩ := a
      refine ⟨b, o, ?_⟩
      have : sp = none := by simpa [Addr.add] using hsp
      rw [this]
    refine ⟨some a, len, m, fun j => if j < m then ps j else fun _ => 0, rfl, fun j => ?_, fun j i => ?_, by omega, hcapB, h3, fun hsp => ?_, (fun e => by cases e), fun hm => ?_⟩
    · show Nm (if j < m then ps j else fun _ => 0)
      split
      · rename_i hj; exact (hps j hj).1
      · exact fun _ _ => rfl
    · show _ ≤ (if j < m then ps j else fun _ => 0) i ∧ (if j < m then ps j else fun _ => 0) i ≤ _
      split
      · rename_i hj
        by_cases hi : i < 6
        · exact (hps j hj).2.1 i hi
        · rw [(hps j hj).1 i (by omega)]; omega
      · exact ⟨by show _ ≤ (0 : Int); omega, by show (0 : Int) ≤ _; omega⟩
    · obtain ⟨b, o, sp⟩ := a
      obtain rfl : sp = none := hsp _ rfl
      refine .inr ⟨b, o, m, rfl, by omega, fun j hj i hi => ?_⟩
      have := (hps j (by omega)).2.2 i hi
      rw [addr_plain, addr_plain] at this
      rw [this]
      show _ = some (Value.int .i64 ((if j < m then ps j else fun _ => 0) i))
      rw [if_pos (by omega)]
    · obtain ⟨b, o, rfl⟩ := hplain hm
      refine ⟨b, o, rfl, ?_⟩
      have h0 := (hps 0 hm).2.2 0 (by omega)
      rw [addr_plain, addr_plain] at h0
      simp only [World.cell?] at h0
      rcases Nat.lt_or_ge b w.heap.size with g | g
      · exact g
      · rw [Array.getElem?_eq_none g] at h0
        cases h0
end
end Go.Proofs.Ytlhkfafdioakeaa
