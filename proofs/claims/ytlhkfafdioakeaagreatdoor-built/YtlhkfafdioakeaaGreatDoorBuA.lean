/- Proved here: what the walks of this law stand on: the law that sums, seqs, stars and negations do what their parts do, over any two texts and raw numbers. -/
import Derived.Test.YtlhkfafdioakeaaGreatDoorGSy
import Derived.Test.YtlhkfafdioakeaaGreatDoorGKq
import Derived.Test.YtlhkfafdioakeaaGreatDoorGKp
import Derived.Deep.DeepCutAuto
namespace Go.Proofs.YtlhkfafdioakeaaGreatDoor
open Go.RowKit Go.Weft
set_option linter.unusedVariables false
set_option linter.unusedSimpArgs false
/-- What Compile answers of a text that is a policy, or is too much. -/
def CmpO (T : Code) (lim : Int → Prop) (w : World) (x : Ending) (w' : World) : Prop := ∃ P e p, x = .returned (.tuple #[.pointer P, .int .i64 e, .int .i64 p]) ∧ ((∃ c, P = some ⟨c, 0, none⟩ ∧ e = 0 ∧ Pol w' c T) ∨ (P = none ∧ lim e)) ∧ w.grownBy w' none
theorem comp_gen (s : ByteArray) (T : Code) (lim : Int → Prop) (w : World) (hn : Names w) (hs : s.size ≤ 9223372036854775807) (h : readS s = .ok T ∨ ∃ e p, lim e ∧ readS s = .error (e, p)) : Calls Tryz.prog 13 #[.string s] w (CmpO T lim w) := by
  rcases h with h | ⟨e, p, hl, h⟩
  · obtain ⟨ok, _, _, hc⟩ := read_okT h
    refine (compile_ok s w hn hs T h).mono ?_
    rintro x w' ⟨b, rfl, hp, _, hg⟩
    exact ⟨some ⟨b, 0, none⟩, 0, 0, rfl, .inl ⟨b, rfl, rfl, hp, ok, hc⟩, hg⟩
  · refine (compile_err s w hn hs e p h).mono ?_
    rintro x w' ⟨rfl, hg⟩
    exact ⟨none, e, p, rfl, .inr ⟨rfl, hl⟩, hg⟩
theorem o_grown {P : Option Addr} {e : Int} {T : Code} {L : Prop} {w w' : World} (h : (∃ c, P = some ⟨c, 0, none⟩ ∧ e = 0 ∧ Pol w c T) ∨ (P = none ∧ L)) (hg : w.grownBy w' none) : (∃ c, P = some ⟨c, 0, none⟩ ∧ e = 0 ∧ Pol w' c T) ∨ (P = none ∧ L) := h.imp (fun ⟨c, h1, h2, h3⟩ => ⟨c, h1, h2, h3.grown hg⟩) id
theorem D_two0 (t u : Code) (k y : Nat → Int) : D (.block 0 (chain [t, u])) k y ↔ D t k y ∨ D u k y := by
  rw [D_sum, elems_chain']
  simp
theorem one_is (k : Nat → Int) : Is [k] 1 (fun _ => k) := ⟨rfl, fun j hj => by
  have e : j = 0 := by omega
  subst e
  rfl⟩
theorem D_two1 (t u : Code) (k y : Nat → Int) : D (.block 1 (chain [t, u])) k y ↔ ∃ z, D t k z ∧ D u z y := by
  rw [D_seq, elems_chain']
  simp only [thru]
  constructor
  · rintro ⟨z, h1, v, h2, rfl⟩; exact ⟨z, h1, h2⟩
  · rintro ⟨z, h1, h2⟩; exact ⟨z, h1, y, h2, rfl⟩
theorem seq_all (t u : Code) (k : Nat → Int) {X : List (Nat → Int)} (hX : SetOf X (D t k)) (y : Nat → Int) : D (.block 1 (chain [t, u])) k y ↔ allD u X y := by
  rw [D_two1]
  unfold allD
  exact ⟨fun ⟨z, h1, h2⟩ => ⟨z, (hX.mem z).2 h1, h2⟩, fun ⟨z, h1, h2⟩ => ⟨z, (hX.mem z).1 h1, h2⟩⟩
set_option maxRecDepth 100000 in
set_option maxHeartbeats 2000000 in
theorem built_ee (a b : ByteArray) (rv : Value) (w : World) (hn : Names w) (ha4 : a.size ≤ 9223372036854775807) (hb4 : b.size ≤ 9223372036854775807) (en : Int) (pl : Nat) (ha : readS a = .error (en, pl)) (en2 : Int) (pl2 : Nat) (hb : readS b = .error (en2, pl2)) :
    Calls Tryz.prog 5 #[.string a, .string b, rv] w fun e w' => e = .returned (.bool true) ∧ w.grownBy w' none := by
  have P1 := hide (known_any w hn)
  have P2 := hide (fun (ww : World) (hg : w.grownBy ww none) => compile_err a ww (hn.kept hg) ha4 en pl ha)
  have P3 := hide (fun (ww : World) (hg : w.grownBy ww none) => compile_err b ww (hn.kept hg) hb4 en2 pl2 hb)
  have hne := read_errno ha
  have hne2 := read_errno hb
  clear hn ha hb
  go_enter Tryz.func5, Tryz.ntmps5
  go_wp2_with fail
  refine P1.out.mono ?_
  rintro x w1 ⟨b0, rfl, g1⟩
  go_wp2_with fail
  refine (P2.out w1 g1).mono ?_
  rintro x w2 ⟨rfl, g2⟩
  have G2 := hide (grown_trans g1 g2)
  clear g1 g2 P1 P2
  go_wp2_with fail
  refine (P3.out w2 G2.out).mono ?_
  rintro x w3 ⟨rfl, g3⟩
  have G3 := hide (grown_trans G2.out g3)
  clear g3 G2 P3
  go_wp2
  go_ret
  exact ⟨rfl, G3.out⟩
set_option maxRecDepth 100000 in
set_option maxHeartbeats 2000000 in
theorem built_eo (a b : ByteArray) (rv : Value) (w : World) (hn : Names w) (ha4 : a.size ≤ 9223372036854775807) (hb4 : b.size ≤ 9223372036854775807) (en : Int) (pl : Nat) (ha : readS a = .error (en, pl)) (u : Code) (hb : readS b = .ok u) :
    Calls Tryz.prog 5 #[.string a, .string b, rv] w fun e w' => e = .returned (.bool true) ∧ w.grownBy w' none := by
  have P1 := hide (known_any w hn)
  have P2 := hide (fun (ww : World) (hg : w.grownBy ww none) => compile_err a ww (hn.kept hg) ha4 en pl ha)
  have P3 := hide (fun (ww : World) (hg : w.grownBy ww none) => compile_ok b ww (hn.kept hg) hb4 u hb)
  have hne := read_errno ha
  clear hn ha hb
  go_enter Tryz.func5, Tryz.ntmps5
  go_wp2_with fail
  refine P1.out.mono ?_
  rintro x w1 ⟨b0, rfl, g1⟩
  go_wp2_with fail
  refine (P2.out w1 g1).mono ?_
  rintro x w2 ⟨rfl, g2⟩
  have G2 := hide (grown_trans g1 g2)
  clear g1 g2 P1 P2
  go_wp2_with fail
  refine (P3.out w2 G2.out).mono ?_
  rintro x w3 ⟨c2, rfl, _, _, g3⟩
  have G3 := hide (grown_trans G2.out g3)
  clear g3 G2 P3
  go_wp2
  go_ret
  exact ⟨rfl, G3.out⟩
set_option maxRecDepth 100000 in
set_option maxHeartbeats 2000000 in
theorem built_oe (a b : ByteArray) (rv : Value) (w : World) (hn : Names w) (ha4 : a.size ≤ 9223372036854775807) (hb4 : b.size ≤ 9223372036854775807) (t : Code) (ha : readS a = .ok t) (en2 : Int) (pl2 : Nat) (hb : readS b = .error (en2, pl2)) :
    Calls Tryz.prog 5 #[.string a, .string b, rv] w fun e w' => e = .returned (.bool true) ∧ w.grownBy w' none := by
  have P1 := hide (known_any w hn)
  have P2 := hide (fun (ww : World) (hg : w.grownBy ww none) => compile_ok a ww (hn.kept hg) ha4 t ha)
  have P3 := hide (fun (ww : World) (hg : w.grownBy ww none) => compile_err b ww (hn.kept hg) hb4 en2 pl2 hb)
  have hne2 := read_errno hb
  clear hn ha hb
  go_enter Tryz.func5, Tryz.ntmps5
  go_wp2_with fail
  refine P1.out.mono ?_
  rintro x w1 ⟨b0, rfl, g1⟩
  go_wp2_with fail
  refine (P2.out w1 g1).mono ?_
  rintro x w2 ⟨c1, rfl, _, _, g2⟩
  have G2 := hide (grown_trans g1 g2)
  clear g1 g2 P1 P2
  go_wp2_with fail
  refine (P3.out w2 G2.out).mono ?_
  rintro x w3 ⟨rfl, g3⟩
  have G3 := hide (grown_trans G2.out g3)
  clear g3 G2 P3
  go_wp2
  go_ret
  exact ⟨rfl, G3.out⟩
/-- Compile of a text that is a policy; of one that is too much. -/
def KOk (s : ByteArray) (T : Code) (w : World) : Prop := ∀ ww, w.grownBy ww none → Calls Tryz.prog 13 #[.string s] ww fun x w' => ∃ c, x = .returned (.tuple #[.pointer (some ⟨c, 0, none⟩), .int .i64 0, .int .i64 0]) ∧ Pol w' c T ∧ ww.grownBy w' none
def KEr (s : ByteArray) (L : Int → Prop) (w : World) : Prop := ∀ ww, w.grownBy ww none → Calls Tryz.prog 13 #[.string s] ww fun x w' => ∃ e p, x = .returned (.tuple #[.pointer none, .int .i64 e, .int .i64 p]) ∧ L e ∧ ww.grownBy w' none
def lim2 (e : Int) : Prop := e = 2 ∨ e = 7
def lim6 (e : Int) : Prop := e = 6
theorem kok_of {s : ByteArray} {T : Code} {w : World} (hn : Names w) (hs : s.size ≤ 9223372036854775807) (h : readS s = .ok T) : KOk s T w := fun ww hg => by
  obtain ⟨ok, _, _, hc⟩ := read_okT h
  refine (compile_ok s ww (hn.kept hg) hs T h).mono ?_
  rintro x w' ⟨b, rfl, hp, _, hg2⟩
  exact ⟨b, rfl, ⟨hp, ok, hc⟩, hg2⟩
theorem ker_of {s : ByteArray} {L : Int → Prop} {e : Int} {p : Nat} {w : World} (hn : Names w) (hs : s.size ≤ 9223372036854775807) (hL : L e) (h : readS s = .error (e, p)) : KEr s L w := fun ww hg => by
  refine (compile_err s ww (hn.kept hg) hs e p h).mono ?_
  rintro x w' ⟨rfl, hg2⟩
  exact ⟨e, p, rfl, hL, hg2⟩
theorem lim_yes {e : Int} (h : lim2 e) (ww : World) : Calls Tryz.prog 23 #[.int .i64 e] ww fun x w' => x = .returned (.bool true) ∧ w' = ww := (limit_any e ww).mono (fun x w' ⟨h1, h2⟩ => ⟨by rw [h1, decide_eq_true (show e = 2 ∨ e = 7 from h)], h2⟩)
theorem lim_no {e : Int} (h : lim6 e) (ww : World) : Calls Tryz.prog 23 #[.int .i64 e] ww fun x w' => x = .returned (.bool false) ∧ w' = ww := (limit_any e ww).mono (fun x w' ⟨h1, h2⟩ => ⟨by rw [h1, decide_eq_false (show ¬ (e = 2 ∨ e = 7) by unfold lim6 at h; omega)], h2⟩)
/-- The calls of the statement, each as the walks want it. -/
theorem ev_row (c : Nat) (T : Code) (k : Nat → Int) (w ww : World) (h : Pol w c T) (hg : w.grownBy ww none) (hk : Rt k) : Calls Tryz.prog 25 #[.pointer (some ⟨c, 0, none⟩), .agg #[.int .i64 (k 0), .int .i64 (k 1), .int .i64 (k 2), .int .i64 (k 3), .int .i64 (k 4), .int .i64 (k 5)]] ww fun e w' => ∃ a c n d A, e = .returned (.tuple #[.slice a n c, .bool true]) ∧ PkR w' (.slice a n c) n d ∧ Is A n d ∧ (SetOf A (D T k) ∧ (∀ x ∈ A, Rt x) ∧ A.length ≤ 1073741824) ∧ ww.grownBy w' none :=
  (keval_any c T k ww (h.grown hg) hk).mono (fun e w' ⟨a, c, n, d, A, h1, h2, h3, h4, h5⟩ => ⟨a, c, n, d, A, h1, h2.row.any, h3, ⟨h4, h.2.1.out hk h4⟩, h5⟩)
theorem eq_row {va vb : Value} {na nb : Nat} {ps qs : Nat → Nat → Int} {A B : List (Nat → Int)} {Q : (Nat → Int) → Prop} {w : World} (ha : PkR w va na ps) (hb : PkR w vb nb qs) (hA : Is A na ps) (hB : Is B nb qs) (sA : SetOf A Q) (sB : SetOf B Q) : Calls Tryz.prog 26 #[va, vb] w fun e w' => e = .returned (.bool true) ∧ w.grownBy w' none :=
  (equal_any va vb na nb ps qs A B w ha hb hA hB sA.nm sB.nm).mono (fun e w' ⟨⟨bq, h1, h2⟩, h3⟩ => ⟨by rw [h1, h2.2 (sA.one sB)], h3⟩)
theorem un_row {va vb : Value} {na nb : Nat} {ps qs : Nat → Nat → Int} {A B : List (Nat → Int)} {Q R : (Nat → Int) → Prop} {w : World} (ha : PkR w va na ps) (hb : PkR w vb nb qs) (hA : Is A na ps) (hB : Is B nb qs) (sA : SetOf A Q ∧ (∀ x ∈ A, Rt x) ∧ A.length ≤ 1073741824) (sB : SetOf B R ∧ (∀ x ∈ B, Rt x) ∧ B.length ≤ 1073741824) : Calls Tryz.prog 27 #[va, vb] w fun e w' => ∃ a c n d A, e = .returned (.slice a n c) ∧ PkR w' (.slice a n c) n d ∧ Is A n d ∧ SetOf A (fun x => Q x ∨ R x) ∧ w.grownBy w' none := by
  refine (union_any va vb na nb ps qs A B w ha hb hA hB sA.1.nm sB.1.nm (by have := hA.len; have := hB.len; have := sA.2.2; have := sB.2.2; omega)).mono ?_
  rintro e w' ⟨v, q, g, rfl, o1, o2, o3⟩
  obtain ⟨a5, c5, rfl⟩ := o1.slice
  exact ⟨a5, c5, q, g, _, rfl, o1.row.any, o2, mergeS_set sA.1 sB.1, o3⟩
/-- A negation's set: the packet, where the test makes nothing of it; else nothing. -/
theorem not_set {t : Code} {k : Nat → Int} {X L : List (Nat → Int)} (hX : SetOf X (D t k)) (hL : SetOf L (D (.scope t) k)) : (X = [] → L = [k]) ∧ (X ≠ [] → L = []) := by
  constructor
  · intro e
    refine hL.one ⟨List.pairwise_singleton _ _, fun x hx => hL.nm x ?_, fun y => ?_⟩
    · rw [List.mem_singleton] at hx
      rw [hx, hL.mem]
      exact ⟨fun ⟨z, hz⟩ => (by have := (hX.mem z).2 hz; rw [e] at this; cases this), rfl⟩
    · rw [List.mem_singleton]
      exact ⟨fun h => ⟨fun ⟨z, hz⟩ => (by have := (hX.mem z).2 hz; rw [e] at this; cases this), h⟩, fun h => h.2⟩
  · intro e
    obtain ⟨z, hz⟩ := List.exists_mem_of_ne_nil X e
    cases hL' : L with
    | nil => rfl
    | cons y l => exact absurd ⟨z, (hX.mem z).1 hz⟩ ((hL.mem y).1 (by rw [hL']; simp)).1
end Go.Proofs.YtlhkfafdioakeaaGreatDoor
