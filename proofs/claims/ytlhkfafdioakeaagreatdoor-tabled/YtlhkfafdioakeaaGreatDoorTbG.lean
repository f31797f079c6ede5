/- Proved here: the rules of a packet of which all fields are known. -/
import Derived.Test.YtlhkfafdioakeaaGreatDoorTbF
import Derived.Test.YtlhkfafdioakeaaGreatDoorTbC
namespace Go.Proofs.YtlhkfafdioakeaaGreatDoor
open Go.RowKit Go.Weft
set_option linter.unusedVariables false
set_option linter.unusedSimpArgs false
/-- What a maker's rules hang on. -/
structure MkF (T : Nat → List Int) (o : Nat → Int) (ac : (Nat → Int) → List (Nat → Int)) (Rt : (Nat → Int) → Prop) (pa : Option Addr) (pn pc : Nat) (st : Int) (ra : Nat → Option Addr) (rn rc : Nat → Nat) (t : Code) (w : World) : Prop where
  run : ∀ k, Rt k → RunC pa pn pc st t k w
  tst : ∀ f, f < 6 → rn f = (T f).length ∧ ∃ B, w.ownsRow B 3 1 (.slice (ra f) (rn f) (rc f)) (rn f) (intZ (T f))
  ev : ∀ i, i < 6 → w.cell? ⟨0, i, none⟩ = some (.int .i64 (-1))
  acs : ∀ k A, Rt k → SetOf A (D t k) → acS A k = ac k
  acn : ∀ k, Rt k → ∀ x ∈ ac k, Nm x
  few : ∀ n k, n ≤ 5 → (rulesS T o ac n k).length ≤ 100000
  put : ∀ k f v, Rt k → f < 6 → (v ∈ T f ∨ v = o f) → Rt (putF k f v)
theorem MkF.grown {T : Nat → List Int} {o : Nat → Int} {ac : (Nat → Int) → List (Nat → Int)} {Rt : (Nat → Int) → Prop} {pa : Option Addr} {pn pc : Nat} {st : Int} {ra : Nat → Option Addr} {rn rc : Nat → Nat} {t : Code} {w w' : World} (h : MkF T o ac Rt pa pn pc st ra rn rc t w) (hg : w.grownBy w' none) : MkF T o ac Rt pa pn pc st ra rn rc t w' :=
  ⟨fun k hk ww hw => h.run k hk ww (grown_trans hg hw), fun f hf => ⟨(h.tst f hf).1, (h.tst f hf).2.imp fun B hB => hB.kept hg (by cases ra f with | none => exact .inl rfl | some a => exact .inr (by simp [Value.ownBlock]))⟩, fun i hi => hg.cell (h.ev i hi) (by simp), h.acs, h.acn, h.few, h.put⟩
theorem RlO.drew {B : Nat} {w : World} {v : Value} {N : Nat} {rs : Nat → Rl} {AL : Nat → List (Nat → Int)} (h : RlO B w v N rs AL) : RlO B w.drew v N rs AL :=
  ⟨h.row, fun j hj => h.own j hj, h.is, h.anm, h.nm, h.prio, h.apart⟩
theorem RlO.one {B : Nat} {w : World} {a : Option Addr} {n c : Nat} {d : Nat → Nat → Int} {L : List (Nat → Int)} (h : OwnV B w (.slice a n c) n d) (hB : B ≤ w.heap.size) (hI : Is L n d) (hL : ∀ x ∈ L, Nm x) :
    RlO B (w.alloc (.cells #[.int .i64 0, .int .i64 (-1), .int .i64 (-1), .int .i64 (-1), .int .i64 (-1), .int .i64 (-1), .int .i64 (-1), .slice a n c] 68)) (.slice (some ⟨w.heap.size, 0, none⟩) 1 1) 1 (fun _ => ⟨0, evry, n, d, .slice a n c⟩) (fun _ => L) := by
  refine ⟨⟨rfl, .inr ⟨_, _, _, rfl, hB, heap_alloc_new w _, Nat.le_refl _, by unfold maxLen; omega, rfl, rfl⟩⟩, fun j hj => h.grown (World.grownBy_alloc w _ none) (fun b e => by cases e), fun _ _ => hI, fun _ _ => hL, fun _ _ i hi => ?_, fun _ _ => rfl, fun i j hij hj => by omega⟩
  show evry i = 0
  unfold evry
  rw [if_neg (by omega)]
/-- What rules come to. -/
def RlsO (T : Nat → List Int) (o : Nat → Int) (ac : (Nat → Int) → List (Nat → Int)) (n : Nat) (k : Nat → Int) (w : World) (e : Ending) (w' : World) : Prop :=
  ∃ v N rs AL, e = .returned v ∧ RlO w.heap.size w' v N rs AL ∧ prL rs AL N = rulesS T o ac n k ∧ w.grownBy w' none
set_option maxRecDepth 100000 in
set_option maxHeartbeats 4000000 in
theorem rules_base {T : Nat → List Int} {o : Nat → Int} {ac : (Nat → Int) → List (Nat → Int)} {Rt : (Nat → Int) → Prop} {pa : Option Addr} {pn pc : Nat} {st : Int} {ra : Nat → Option Addr} {rn rc : Nat → Nat} {t : Code} (k : Nat → Int) (hk : Rt k) (w : World) (F : MkF T o ac Rt pa pn pc st ra rn rc t w) :
    Calls Tryz.prog 154 #[.agg (mkC pa pn pc st ra rn rc o), .agg #[.int .i64 (k 0), .int .i64 (k 1), .int .i64 (k 2), .int .i64 (k 3), .int .i64 (k 4), .int .i64 (k 5)], .int .i64 6] w (RlsO T o ac 0 k w) := by
  have HA : Hid (∀ ww, w.grownBy ww none → Calls Tryz.prog 215 #[.agg (mkC pa pn pc st ra rn rc o), .agg #[.int .i64 (k 0), .int .i64 (k 1), .int .i64 (k 2), .int .i64 (k 3), .int .i64 (k 4), .int .i64 (k 5)]] ww fun e w' => ∃ a c n d A, e = .returned (.slice a n c) ∧ OwnV ww.heap.size w' (.slice a n c) n d ∧ Is (acS A k) n d ∧ SetOf A (D t k) ∧ ww.grownBy w' none) := fun ww hg => actions_any pa pn pc st ra rn rc o t k ww ((F.grown hg).run k hk)
  obtain ⟨w1, hw1⟩ : ∃ w1, w1 = w.alloc (.cells (mkC pa pn pc st ra rn rc o) 112) := ⟨_, rfl⟩
  obtain ⟨w2, hw2⟩ : ∃ w2, w2 = w1.alloc (.cells (pkA k) 46) := ⟨_, rfl⟩
  have z1 : w1.heap.size = w.heap.size + 1 := by rw [hw1]; simp
  have hB : pkBlk w2 (w.heap.size + 1) k := by rw [hw2, ← z1]; exact pkBlk.alloc w1 k
  have hg2 : w.grownBy w2 none := by rw [hw2, hw1]; exact grown_trans (World.grownBy_alloc _ _ _) (World.grownBy_alloc _ _ _)
  have hmh : w2.heap[w.heap.size]? = some (.cells (mkC pa pn pc st ra rn rc o) 112 (0, 0)) := by
    have h1 : w1.heap[w.heap.size]? = some (.cells (mkC pa pn pc st ra rn rc o) 112 (0, 0)) := by rw [hw1]; exact heap_alloc_new w _
    rw [hw2, (World.grownBy_alloc w1 _ none).block w.heap.size (by omega) (by simp), h1]
  have mm : ∀ j u, (mkC pa pn pc st ra rn rc o)[j]? = some u → w2.cell? ⟨w.heap.size, j, none⟩ = some u := fun j u h => by simp only [World.cell?, hmh]; simpa using h
  have m0 := mm 0 _ rfl
  have m1 := mm 1 _ rfl
  have m2 := mm 2 _ rfl
  have m3 := mm 3 _ rfl
  have m4 := mm 4 _ rfl
  have m5 := mm 5 _ rfl
  have m6 := mm 6 _ rfl
  have m7 := mm 7 _ rfl
  have m8 := mm 8 _ rfl
  have m9 := mm 9 _ rfl
  have m10 := mm 10 _ rfl
  have m11 := mm 11 _ rfl
  have m12 := mm 12 _ rfl
  have m13 := mm 13 _ rfl
  have HF := hide (F.grown hg2)
  have HK := hide hk
  have G2 := hide hg2
  obtain ⟨p0, p1, p2, p3, p4, p5⟩ := results2 hB
  have v0 := HF.out.ev 0 (by omega)
  have v1 := HF.out.ev 1 (by omega)
  have v2 := HF.out.ev 2 (by omega)
  have v3 := HF.out.ev 3 (by omega)
  have v4 := HF.out.ev 4 (by omega)
  have v5 := HF.out.ev 5 (by omega)
  have hz : w.heap.size + 1 < w2.heap.size := World.block_lt_of_cell? w2 _ p0
  rw [hw1] at hw2
  unfold mkC pkA at hw2
  unfold mkC at HA ⊢
  clear hB hg2 hw1 z1 F hk mm hmh
  go_enter Tryz.func154, Tryz.ntmps154
  go_upto_region 2 with fail
  rw [← hw2]
  clear hw2
  go_region_with (go_at_call 215; refine (HA.out _ (by first | exact grown_drew G2.out | exact G2.out)).mono ?_; rintro x w3 ⟨a, c, n, d, A, rfl, h1, h2, h3, h4⟩; have K1 := hide (show OwnV w2.heap.size w3 (.slice a n c) n d from h1); have K2 := hide h2; have K3 := hide h3; have K4 := hide (show w2.grownBy w3 none by first | exact grown_undrew h4 | exact h4); have x0 := K4.out.cell v0 (by simp); have x1 := K4.out.cell v1 (by simp); have x2 := K4.out.cell v2 (by simp); have x3 := K4.out.cell v3 (by simp); have x4 := K4.out.cell v4 (by simp); have x5 := K4.out.cell v5 (by simp); clear h1 h2 h3 h4)
  all_goals
    go_wp2
    go_ret
    refine ⟨_, 1, fun _ => ⟨0, evry, n, d, .slice a n c⟩, fun _ => ac k, rfl, ?_, ?_, ?_⟩
    · have e : acS A k = ac k := HF.out.acs k A HK.out K3.out
      have K2' := K2.out
      rw [e] at K2'
      have hR := RlO.one (K1.out.mono (show w.heap.size ≤ w2.heap.size by omega)) (by have := K4.out.size; omega) K2' (HF.out.acn k HK.out)
      first
        | exact hR
        | exact hR.drew
        | exact hR.drew.drew
    · rw [rulesS]; rfl
    · first
        | exact grown_trans G2.out (grown_trans K4.out (World.grownBy_alloc _ _ _))
        | exact grown_trans G2.out (grown_trans K4.out (grown_alloc_drew _ _ _))
end Go.Proofs.YtlhkfafdioakeaaGreatDoor
