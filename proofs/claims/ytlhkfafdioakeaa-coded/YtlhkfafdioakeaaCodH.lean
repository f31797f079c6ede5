/- Proved here: weftkeep.Coded, whatever the input: what Encode writes is read as it was; cut, or with more behind it, it is not: the law answers true, and its arguments read as before. No condition. -/
import Derived.Test.YtlhkfafdioakeaaRows
import Derived.Test.YtlhkfafdioakeaaCodD
import Derived.Test.YtlhkfafdioakeaaCodE
import Derived.Test.YtlhkfafdioakeaaCodF
import Derived.Test.YtlhkfafdioakeaaCodG
import Derived.ProofKit
import Derived.OpenShut
import Derived.ShutString
import Derived.SizedLaws
import Derived.Carry
import Derived.Deep.Matrix
namespace Go.Proofs.Ytlhkfafdioakeaa
open Go.ChangeShapes Go.WideShapes Go.ChangeAt Go.WideMaps Go.WideElems Go.RowKit
open Go.ChangeMaps (open_string shut_string)
set_option linter.unusedVariables false
set_option linter.unusedSimpArgs false
theorem coded_walk (kind prio cut : Int) (rv : Value) (n : Nat) (more : ByteArray) (w : World) (hr : RRow w rv n) (hk1 : -9223372036854775808 ≤ kind) (hk2 : kind ≤ 9223372036854775807) (hp1 : -9223372036854775808 ≤ prio) (hp2 : prio ≤ 9223372036854775807)
    (hc1 : -9223372036854775808 ≤ cut) (hc2 : cut ≤ 9223372036854775807) (hm : more.size ≤ 140737488355328) :
    Calls Try.prog 5 #[.int .i64 kind, .int .i64 prio, rv, .int .i64 cut, .string more] w fun e w' => e = .returned (.bool true) ∧ w.grownBy w' none := by
  have h := pickS_range kind 6 (by omega)
  rcases (show pickS kind 6 = 0 ∨ pickS kind 6 = 3 ∨ pickS kind 6 = 4 ∨ (pickS kind 6 = 1 ∨ pickS kind 6 = 2 ∨ pickS kind 6 = 5) by omega) with h | h | h | h
  · exact coded1 kind prio cut rv n more w hr hk1 hk2 hp1 hp2 hc1 hc2 hm h
  · exact coded4 kind prio cut rv n more w hr hk1 hk2 hp1 hp2 hc1 hc2 hm h
  · exact coded5 kind prio cut rv n more w hr hk1 hk2 hp1 hp2 hc1 hc2 hm h
  · exact coded0 kind prio cut rv n more w hr hk1 hk2 hp1 hp2 hc1 hc2 hm h
theorem own : ownKnob Try.prog.godebug = none := by kernel_rfl
theorem below_grown {w w' : World} (h : w.grownBy w' none) : Below w.heap.size w w' := ⟨h.os, h.tape, h.output, h.size, fun k hk => h.block k hk (by simp)⟩
section
variable {H : Type} {enc : TypeId × Value → H} {P : Program} {w : World} {base : Nat} {spare : Nat → Bool} {held : Bool}
theorem trodAll_five {t0 t1 t2 t3 t4 : TypeId} {args : Array Value} {ds : List (DataW H)} {ps : List MemPlace} (h : DataW.TrodAll enc P w base spare held [t0, t1, t2, t3, t4] args.toList ds ps) :
    ∃ v0 v1 v2 v3 v4 d0 d1 d2 d3 d4 p0 p1 p2 p3 p4, args = #[v0, v1, v2, v3, v4] ∧ ds = [d0, d1, d2, d3, d4] ∧ ps = p0 ++ (p1 ++ (p2 ++ (p3 ++ p4))) ∧ DataW.Trod enc P w base spare held t0 v0 d0 p0 ∧ DataW.Trod enc P w base spare held t1 v1 d1 p1 ∧ DataW.Trod enc P w base spare held t2 v2 d2 p2 ∧ DataW.Trod enc P w base spare held t3 v3 d3 p3 ∧ DataW.Trod enc P w base spare held t4 v4 d4 p4 := by
  obtain ⟨v, vs, d, ds', p, q, hargs, rfl, rfl, hd, hrest⟩ := trodAll_cons h
  obtain ⟨v', vs', d', ds'', p', q', rfl, rfl, rfl, hd', hrest'⟩ := trodAll_cons hrest
  obtain ⟨v'', vs'', d'', ds''', p'', q'', rfl, rfl, rfl, hd'', hrest''⟩ := trodAll_cons hrest'
  obtain ⟨v3, vs3, d3, ds3, p3, q3, rfl, rfl, rfl, hd3, hrest3⟩ := trodAll_cons hrest''
  obtain ⟨v4, vs4, d4, ds4, p4, q4, rfl, rfl, rfl, hd4, hrest4⟩ := trodAll_cons hrest3
  obtain ⟨rfl, rfl, rfl⟩ := trodAll_nil hrest4
  exact ⟨v, v', v'', v3, v4, d, d', d'', d3, d4, p, p', p'', p3, p4, by cases args; simp_all, rfl, by simp, hd, hd', hd'', hd3, hd4⟩
theorem trodAll_mk5 {t0 t1 t2 t3 t4 : TypeId} {v0 v1 v2 v3 v4 : Value} {d0 d1 d2 d3 d4 : DataW H} {p0 p1 p2 p3 p4 : List MemPlace} (h0 : DataW.Trod enc P w base spare held t0 v0 d0 p0) (h1 : DataW.Trod enc P w base spare held t1 v1 d1 p1)
    (h2 : DataW.Trod enc P w base spare held t2 v2 d2 p2) (h3 : DataW.Trod enc P w base spare held t3 v3 d3 p3) (h4 : DataW.Trod enc P w base spare held t4 v4 d4 p4) : DataW.TrodAll enc P w base spare held [t0, t1, t2, t3, t4] [v0, v1, v2, v3, v4] [d0, d1, d2, d3, d4] (p0 ++ (p1 ++ (p2 ++ (p3 ++ p4)))) :=
  ⟨p0, p1 ++ (p2 ++ (p3 ++ p4)), h0, trodAll_mk4 h1 h2 h3 h4, rfl⟩
end
theorem wf_range {n : Int} (h : (Lit.int .i64 n).wf = true) : -9223372036854775808 ≤ n ∧ n ≤ 9223372036854775807 := by
  simp only [Lit.wf, IntKind.min, IntKind.max, IntKind.signed, IntKind.bits, Bool.and_eq_true, decide_eq_true_eq, if_true] at h
  omega
/-- A list of lists of numbers, as the reader reads it. -/
theorem rrow_of_trod {H : Type} {enc : TypeId × Value → H} {W : World} {a0 : Option Addr} {n c0 : Nat} {d : DataW H} {ps : List MemPlace} (h : DataW.Trod enc Try.prog W 0 (fun _ => true) true 52 (.slice a0 n c0) d ps) : RRow W (.slice a0 n c0) n := by
  obtain ⟨fuel, hf⟩ := h
  rcases Deep.open_int_rows Try.underlying52 Try.underlying34 Try.underlying3 (by kernel_rfl) (by kernel_rfl) hf with ⟨hcs, _⟩ | ⟨a, len, cap, A, L, C, Z, hcs, _, hl, hm, _, hrows⟩
  · simp [Value.cells] at hcs
    obtain ⟨rfl, rfl, rfl⟩ := hcs
    exact .inl ⟨_, _, rfl, rfl⟩
  · simp [Value.cells] at hcs
    obtain ⟨rfl, rfl, rfl⟩ := hcs
    by_cases h0 : n = 0
    · exact .inl ⟨_, _, rfl, h0⟩
    have hm63 : c0 ≤ 9223372036854775807 := by unfold maxLen at hm; omega
    obtain ⟨bm, om, spot⟩ := a
    have hspot : spot = none := by simpa [Addr.add] using World.cell?_spot (hrows 0 (by omega)).1
    subst hspot
    have plain : ∀ b o r, (⟨b, o, none⟩ : Addr).add r = ⟨b, o + r, none⟩ := fun b o r => by unfold Addr.add; split <;> simp_all
    refine .inr ⟨bm, om, c0, rfl, by omega, fun j hj => ?_⟩
    obtain ⟨hc, h1, h2, h3, h4, h5, h6⟩ := hrows j (by omega)
    rw [plain] at hc
    refine ⟨_, L j, hc, ?_⟩
    by_cases hL : L j = 0
    · exact .inl ⟨_, _, rfl, hL⟩
    cases hA : A j with
    | none => have := h5 hA; omega
    | some a' =>
      obtain ⟨_, hcell⟩ := h6 a' hA
      obtain ⟨b', o', sp'⟩ := a'
      have hsp : sp' = none := by simpa [Addr.add] using World.cell?_spot (hcell 0 (by omega))
      subst hsp
      refine .inr ⟨b', o', C j, rfl, by unfold maxLen at h2; omega, fun i hi => ?_⟩
      have hci := hcell i (by omega)
      rw [plain] at hci
      have hmem : (Z j).getD i 0 ∈ Z j := by
        have hlt : i < (Z j).length := by omega
        simp [List.getD, List.getElem?_eq_getElem hlt]
      exact ⟨_, hci, (wf_range (h4 _ hmem)).1, (wf_range (h4 _ hmem)).2⟩
set_option maxHeartbeats 1600000 in
set_option maxRecDepth 100000 in
theorem coded_lifted (os : Os) (started : os.Started) (H : Type) (enc : TypeId × Value → H) :
    ReturnsInHanded {} Try.checked os 5 .any (Rows.codedSpec.pre6 enc Try.prog Try.f5 Rows.codedRow.domain false) (Rows.codedSpec.post enc Try.prog Try.f5 false true false false) := by
  refine returnsInHanded_of_change_sized (C := Try.checked) own started (by kernel_rfl) Try.func5
    (ChangeSpec.witness6 (enc := enc) (C := Try.checked) false ⟨#[], #[.int .i64 0, .int .i64 0, .slice none 0 0, .int .i64 0, .string ByteArray.empty], []⟩ 8 (by kernel_rfl) (by kernel_rfl) (by kernel_rfl) (by kernel_rfl)) ?_
  intro W base args ds gs before hval0 hW _ hsz0 _
  have hsz : (DataW.weightsEach Try.prog (Try.f5.params.toList ++ Rows.codedSpec.plain.varTypes Try.prog) (ds ++ gs)).all (· ≤ reachBytes) = true := hsz0
  clear hsz0
  have hval : ∀ (j : Nat) t v, Try.f5.params[j]? = some t → args[j]? = some v → Value.okWide Try.prog W .any base t v := hval0
  have hW' := hW
  obtain ⟨p, q, hA0, hV, rfl, hfz, hnd⟩ := hW
  have hA : DataW.TrodAll enc Try.prog W 0 (fun _ => true) true Try.f5.params.toList args.toList ds p := hA0
  rw [Try.params5] at hA hval hsz
  obtain ⟨v0, v1, v2, v3, v4, d0, d1, d2, d3, d4, p0, p1, p2, p3, p4, rfl, rfl, rfl, h0, h1, h2, h3, h4⟩ := trodAll_five hA
  obtain ⟨rfl, rfl⟩ := trodVars_none hV
  obtain ⟨x0, rfl, rfl, rfl, w0⟩ := open_int Try.underlying3 (hval 0 3 v0 rfl rfl) h0
  obtain ⟨x1, rfl, rfl, rfl, w1⟩ := open_int Try.underlying3 (hval 1 3 v1 rfl rfl) h1
  obtain ⟨x3, rfl, rfl, rfl, w3⟩ := open_int Try.underlying3 (hval 3 3 v3 rfl rfl) h3
  obtain ⟨s4, rfl, rfl, rfl, w4⟩ := open_string Try.underlying9 (hval 4 9 v4 rfl rfl) h4
  obtain ⟨a2, n, c2, rfl⟩ := okWide_slice Try.underlying52 (hval 2 52 v2 rfl rfl)
  have hR := rrow_of_trod h2
  have hs4 : s4.size ≤ 140737488355328 := by
    have := sized_string hsz (j := 4) (t := 9) rfl rfl
    have := reachBytes_lt
    have e : s4.data.toList.length = s4.size := (Lib.size_eq s4).symm
    omega
  clear hA0 hval0
  simp only [List.append_nil] at hW'
  have hlt : ∀ x ∈ p2, x.block < W.heap.size := fun x hx => hW'.lt x (by simp [hx])
  refine (coded_walk x0 x1 x3 (.slice a2 n c2) n s4 W hR (wf_range w0).1 (wf_range w0).2 (wf_range w1).1 (wf_range w1).2 (wf_range w3).1 (wf_range w3).2 hs4).mono fun e W' ⟨he, hg⟩ => ?_
  subst he
  have hb := below_grown hg
  exact ⟨_, rfl, _, _, _, [], _, [], hW', trodAll_mk1 (shut_bool Try.underlying4 _), trodAll_mk5 (shut_int Try.underlying3 w0) (shut_int Try.underlying3 w1) (Below.trod (by kernel_rfl) (by kernel_rfl) (of_decide_eq_true (by kernel_rfl)) h2 hb hlt) (shut_int Try.underlying3 w3) (shut_string Try.underlying9 w4), rfl, hb.frame _, fun h => by cases h⟩
theorem coded_holds : Rows.CodedSaid :=
  OpenClaim.holds_of_wide 5 Try.f5 rfl rfl rfl rfl rfl rfl rfl ⟨rfl, rfl, rfl, rfl, rfl⟩ rfl rfl rfl rfl rfl (by kernel_rfl) Try.func5 (by kernel_rfl)
    (of_decide_eq_true (by kernel_rfl)) (by unfold Func.isWrapper; first | (rw [if_pos (by decide +kernel)]; kernel_rfl) | (rw [if_neg (by decide +kernel)]; exact ⟨rfl, rfl⟩))
    (fun os started H enc _ => coded_lifted os started H enc)
end Go.Proofs.Ytlhkfafdioakeaa
