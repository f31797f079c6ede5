/- GRa: several parts, each with what it proves in plain words at its head. -/
import Derived.Test.YtlhkfafdioakeaaGreatDoorGEb
import Derived.Test.YtlhkfafdioakeaaGreatDoorGRefA
import Derived.Test.YtlhkfafdioakeaaGreatDoorGDn
import Derived.Deep.LoopGhost
/- Proved here: what the document's all makes of a set: leaves. -/
namespace Go.Proofs.YtlhkfafdioakeaaGreatDoor
open Go.RowKit Go.Weft
set_option linter.unusedVariables false
set_option linter.unusedSimpArgs false
/-- What 'all' leaves: a set that can be read. -/
def AllO (L : List (Nat → Int)) (w : World) (e : Ending) (w' : World) : Prop := ∃ v n d, e = .returned v ∧ PkR w' v n d ∧ Is L n d ∧ w.grownBy w' none
theorem PkR.none (w : World) (d : Nat → Nat → Int) : PkR w (.slice none 0 0) 0 d := .inl ⟨Option.none, 0, rfl, rfl, fun _ => rfl⟩
set_option maxRecDepth 100000 in
set_option maxHeartbeats 1000000 in
theorem all_id (b : Nat) (v : Value) (n : Nat) (d : Nat → Nat → Int) (L : List (Nat → Int)) (w : World) (h : nodeAt w b (rLeaf 0)) (hv : PkR w v n d) (hL : Is L n d) : Calls Tryz.prog 57 #[ptrV b, v] w (AllO L w) := by
  have c0 : w.cell? ⟨b, 0, none⟩ = some (.int .u8 105) := h.cell 0
  have hl := h.lt
  obtain ⟨a, c, rfl⟩ := hv.slice
  have HV := hide hv
  have HL := hide hL
  have HQ : Hid (∀ e w', AllO L w e w' ↔ ∃ v n d, e = .returned v ∧ PkR w' v n d ∧ Is L n d ∧ w.grownBy w' none) := fun _ _ => Iff.rfl
  generalize AllO L w = Q at HQ ⊢
  unfold ptrV
  clear h hv hL
  go_enter Tryz.func57, Tryz.ntmps57
  go_wp2
  refine (HQ.out _ _).2 ⟨_, n, d, rfl, HV.out, HL.out, grown_refl _ _⟩
set_option maxRecDepth 100000 in
set_option maxHeartbeats 1000000 in
theorem all_drop (b : Nat) (v : Value) (n : Nat) (d : Nat → Nat → Int) (w : World) (h : nodeAt w b (rLeaf 1)) (hv : PkR w v n d) : Calls Tryz.prog 57 #[ptrV b, v] w (AllO [] w) := by
  have c0 : w.cell? ⟨b, 0, none⟩ = some (.int .u8 100) := h.cell 0
  have hl := h.lt
  obtain ⟨a, c, rfl⟩ := hv.slice
  have HQ : Hid (∀ e w', AllO [] w e w' ↔ ∃ v n d, e = .returned v ∧ PkR w' v n d ∧ Is [] n d ∧ w.grownBy w' none) := fun _ _ => Iff.rfl
  generalize AllO [] w = Q at HQ ⊢
  unfold ptrV
  clear h hv
  go_enter Tryz.func57, Tryz.ntmps57
  go_wp2
  refine (HQ.out _ _).2 ⟨_, 0, fun _ _ => 0, rfl, PkR.none _ _, Is.none _, grown_refl _ _⟩
theorem filter_step {L : List (Nat → Int)} {n : Nat} {d : Nat → Nat → Int} (h : Is L n d) {i : Nat} (hi : i < n) (p : (Nat → Int) → Bool) : (p (d i) = true → (L.take (i + 1)).filter p = (L.take i).filter p ++ [d i]) ∧ (p (d i) = false → (L.take (i + 1)).filter p = (L.take i).filter p) := by
  have e : L.take (i + 1) = L.take i ++ [d i] := by rw [List.take_add_one, h.get i hi]; rfl
  rw [e, List.filter_append]
  exact ⟨fun h => by simp [h], fun h => by simp [h]⟩
set_option maxRecDepth 100000 in
set_option maxHeartbeats 4000000 in
theorem all_test (b F V : Nat) (hF : F < 6) (v : Value) (n : Nat) (d : Nat → Nat → Int) (L : List (Nat → Int)) (w : World) (h : nodeAt w b #[.int .u8 61, .int .i64 (F : Int), .int .i64 (V : Int), .slice none 0 0]) (hv : PkR w v n d) (hL : Is L n d) (hl : n ≤ 1000000000000) : Calls Tryz.prog 57 #[ptrV b, v] w (AllO (L.filter fun x => decide (x F = (V : Int))) w) := by
  have a0 : w.cell? ⟨b, 0, none⟩ = some (.int .u8 61) := h.cell 0
  have a1 : w.cell? ⟨b, 1, none⟩ = some (.int .i64 (F : Int)) := h.cell 1
  have a2 : w.cell? ⟨b, 2, none⟩ = some (.int .i64 (V : Int)) := h.cell 2
  have hlt0 := h.lt
  obtain ⟨la, lc, rfl⟩ := hv.slice
  have HV := hide hv
  have HL := hide hL
  obtain ⟨p, hp⟩ : ∃ p : (Nat → Int) → Bool, p = fun x => decide (x F = (V : Int)) := ⟨_, rfl⟩
  rw [← hp]
  have HP := hide hp
  have HQ : Hid (∀ e w', AllO (L.filter p) w e w' ↔ ∃ v n d, e = .returned v ∧ PkR w' v n d ∧ Is (L.filter p) n d ∧ w.grownBy w' none) := fun _ _ => Iff.rfl
  generalize AllO (L.filter p) w = Q at HQ ⊢
  have HA : Hid (∀ ww, w.grownBy ww none → ww.cell? ⟨b, 1, none⟩ = some (.int .i64 (F : Int)) ∧ ww.cell? ⟨b, 2, none⟩ = some (.int .i64 (V : Int)) ∧ b < ww.heap.size) := fun ww hg => ⟨hg.cell a1 (by simp), hg.cell a2 (by simp), Nat.lt_of_lt_of_le hlt0 hg.size⟩
  have hFI : (F : Int) < 6 := by omega
  unfold ptrV
  clear h hv hL hp
  go_enter Tryz.func57, Tryz.ntmps57
  go_wp2_with fail
  clear a0 a1 a2
  go_loopw [5, 6] (fun s5 s6 wr => ∃ (i m : Nat) (e : Nat → Nat → Int), i ≤ n ∧ s6 = .int .i64 i ∧ m ≤ i ∧ OwnV w.heap.size wr s5 m e ∧ Is ((L.take i).filter p) m e ∧ w.grownBy wr none) (fun _ s6 _ => n - (intOf s6).toNat)
  case atStart => exact ⟨0, 0, fun _ _ => 0, by omega, rfl, by omega, OwnV.nil _ _ _, Is.none _, grown_refl _ _⟩
  case round =>
    obtain ⟨i, m, e, hi, rfl, hm, ho, hO, hg⟩ := hrel
    obtain ⟨oa, oc, rfl⟩ := ho.slice
    have HOW := hide ho
    have HO := hide hO
    have HG := hide hg
    have hsz := hg.size
    clear ho hO hg
    by_cases hlt : i < n
    · have hltI : (i : Int) < n := by omega
      rcases HV.out with ⟨_, _, _, h0, _⟩ | ⟨g, off, capg, hvg, _, hcellg⟩
      · omega
      cases hvg
      obtain ⟨x, hx⟩ : ∃ x, x = d i := ⟨_, rfl⟩
      have CX : Hid (∀ wx, w.grownBy wx none → ∀ t, t < 6 → wx.cell? ⟨g, off + i * 6 + t, none⟩ = some (.int .i64 (x t))) := fun wx hgx t ht => by rw [hx]; exact hgx.cell (hcellg i (by omega) t ht) (by simp)
      have STP := hide (filter_step HL.out hlt p)
      rw [← hx] at STP
      clear hcellg hx
      have cF : wr.cell? ⟨g, off + i * 6 + F, none⟩ = some (.int .i64 (x F)) := CX.out wr HG.out F hF
      obtain ⟨b1, b2, b3⟩ := HA.out wr HG.out
      obtain ⟨xf, hxf⟩ : ∃ xf, xf = x F := ⟨_, rfl⟩
      rw [← hxf] at cF
      have HXF := hide hxf
      clear hxf
      by_cases hc : xf = (V : Int)
      · have HC : Hid (p x = true) := by rw [HP.out]; show decide (x F = _) = true; rw [← HXF.out]; exact decide_eq_true hc
        go_wp2_with fail
        go_quiet (fail)
        have GW := hide (grown_drewN HG.out nq)
        have OW3 := hide (HOW.out.grown (grown_drewN (grown_refl wr none) nq) (fun b e => by cases e))
        obtain ⟨w3, hw3⟩ : ∃ w3, w3 = wr.drewN nq := ⟨_, rfl⟩
        rw [← hw3] at GW OW3
        rw [← hw3]
        clear hw3 cF b1 b2 b3
        have cZ := CX.out w3 GW.out
        have h0 : w3.cell? ⟨g, off + i * 6, none⟩ = some (.int .i64 (x 0)) := cZ 0 (by omega)
        have h1 : w3.cell? ⟨g, off + i * 6 + 1, none⟩ = some (.int .i64 (x 1)) := cZ 1 (by omega)
        have h2 : w3.cell? ⟨g, off + i * 6 + 2, none⟩ = some (.int .i64 (x 2)) := cZ 2 (by omega)
        have h3 : w3.cell? ⟨g, off + i * 6 + 3, none⟩ = some (.int .i64 (x 3)) := cZ 3 (by omega)
        have h4 : w3.cell? ⟨g, off + i * 6 + 4, none⟩ = some (.int .i64 (x 4)) := cZ 4 (by omega)
        have h5 : w3.cell? ⟨g, off + i * 6 + 5, none⟩ = some (.int .i64 (x 5)) := cZ 5 (by omega)
        clear cZ
        have HR := hide (one_row w3 x)
        unfold pkA at HR
        go_wp2_with (at_builtin; refine wpList_append_pk _ rfl _ _ rfl w.heap.size (.slice oa m oc) m e rfl (OW3.out.grown (World.grownBy_alloc _ _ none) (fun b e => by cases e)) _ 1 (fun _ => x) rfl HR.out (by omega) (by have := GW.out.size; simp; omega) ?_)
        intro v5 w5 o5 g5 _
        obtain ⟨a5, q5, rfl⟩ := o5.slice
        have G5 := hide (grew_one (v' := .slice a5 (m + 1) q5) GW.out OW3.out (World.grownBy_alloc _ _ none) g5)
        have O5 := hide o5
        clear o5 g5
        go_wp2_with fail
        exact ⟨⟨i + 1, m + 1, _, by omega, by go_num, by omega, O5.out, by rw [STP.out.1 HC.out]; exact HO.out.more x, G5.out⟩, by simp [intOf]; omega⟩
      · have HC : Hid (p x = false) := by rw [HP.out]; show decide (x F = _) = false; rw [← HXF.out]; exact decide_eq_false hc
        go_wp2_with fail
        go_quiet (fail)
        have GW := hide (grown_drewN HG.out nq)
        have OW3 := hide (HOW.out.grown (grown_drewN (grown_refl wr none) nq) (fun b e => by cases e))
        obtain ⟨w3, hw3⟩ : ∃ w3, w3 = wr.drewN nq := ⟨_, rfl⟩
        rw [← hw3] at GW OW3
        rw [← hw3]
        clear hw3 cF b1 b2 b3
        have hbq : (xf == (V : Int)) = false := by simp [hc]
        go_wp2_with fail
        exact ⟨⟨i + 1, m, e, by omega, by go_num, by omega, OW3.out, by rw [STP.out.2 HC.out]; exact HO.out, GW.out⟩, by simp [intOf]; omega⟩
    · have hltI : ¬ (i : Int) < n := by omega
      go_wp2
      refine (HQ.out _ _).2 ⟨_, m, e, rfl, HOW.out.row.any, ?_, HG.out⟩
      have e2 : L.take i = L := List.take_of_length_le (by rw [HL.out.len]; omega)
      have := HO.out
      rwa [e2] at this
end Go.Proofs.YtlhkfafdioakeaaGreatDoor
/- Proved here: what the document's all makes of a set: a setting. -/
namespace Go.Proofs.YtlhkfafdioakeaaGreatDoor
open Go.RowKit Go.Weft
set_option linter.unusedVariables false
set_option linter.unusedSimpArgs false
theorem insS_few (k : Nat → Int) : ∀ l : List (Nat → Int), (insS k l).length ≤ l.length + 1
  | [] => by simp [insS]
  | x :: l => by
    have := insS_few k l
    unfold insS
    repeat' split
    all_goals simp only [List.length_cons] at *
    all_goals omega
theorem setS_few (l : List (Nat → Int)) : (setS l).length ≤ l.length := by
  have key : ∀ (l s : List (Nat → Int)), (l.foldl (fun s k => insS k s) s).length ≤ s.length + l.length := by
    intro l
    induction l with
    | nil => intro s; simp
    | cons x l ih =>
      intro s
      have h1 := ih (insS x s)
      have h2 := insS_few x s
      simp only [List.foldl_cons, List.length_cons]
      omega
  have := key l []
  simpa [setS] using this
theorem setS_snoc (l : List (Nat → Int)) (k : Nat → Int) : setS (l ++ [k]) = insS k (setS l) := by unfold setS; rw [List.foldl_append]; rfl
theorem map_step {L : List (Nat → Int)} {n : Nat} {d : Nat → Nat → Int} (h : Is L n d) {i : Nat} (hi : i < n) (f : (Nat → Int) → (Nat → Int)) : setS ((L.take (i + 1)).map f) = insS (f (d i)) (setS ((L.take i).map f)) := by
  have e : L.take (i + 1) = L.take i ++ [d i] := by rw [List.take_add_one, h.get i hi]; rfl
  rw [e, List.map_append, List.map_singleton, setS_snoc]
set_option maxRecDepth 100000 in
set_option maxHeartbeats 4000000 in
theorem all_put (b F V : Nat) (hF : F < 6) (v : Value) (n : Nat) (d : Nat → Nat → Int) (L : List (Nat → Int)) (w : World) (h : nodeAt w b #[.int .u8 58, .int .i64 (F : Int), .int .i64 (V : Int), .slice none 0 0]) (hv : PkR w v n d) (hL : Is L n d) (hl : n ≤ 1000000000000) : Calls Tryz.prog 57 #[ptrV b, v] w (AllO (setS (L.map fun x => putF x F (V : Int))) w) := by
  have a0 : w.cell? ⟨b, 0, none⟩ = some (.int .u8 58) := h.cell 0
  have a1 : w.cell? ⟨b, 1, none⟩ = some (.int .i64 (F : Int)) := h.cell 1
  have a2 : w.cell? ⟨b, 2, none⟩ = some (.int .i64 (V : Int)) := h.cell 2
  have hlt0 := h.lt
  obtain ⟨la, lc, rfl⟩ := hv.slice
  have HV := hide hv
  have HL := hide hL
  obtain ⟨p, hp⟩ : ∃ p : (Nat → Int) → (Nat → Int), p = fun x => putF x F (V : Int) := ⟨_, rfl⟩
  rw [← hp]
  have HP := hide hp
  have HQ : Hid (∀ e w', AllO (setS (L.map p)) w e w' ↔ ∃ v n d, e = .returned v ∧ PkR w' v n d ∧ Is (setS (L.map p)) n d ∧ w.grownBy w' none) := fun _ _ => Iff.rfl
  generalize AllO (setS (L.map p)) w = Q at HQ ⊢
  have HA : Hid (∀ ww, w.grownBy ww none → ww.cell? ⟨b, 1, none⟩ = some (.int .i64 (F : Int)) ∧ ww.cell? ⟨b, 2, none⟩ = some (.int .i64 (V : Int)) ∧ b < ww.heap.size) := fun ww hg => ⟨hg.cell a1 (by simp), hg.cell a2 (by simp), Nat.lt_of_lt_of_le hlt0 hg.size⟩
  have hFI : (F : Int) < 6 := by omega
  unfold ptrV
  clear h hv hL hp
  go_enter Tryz.func57, Tryz.ntmps57
  go_wp2_with fail
  clear a0 a1 a2
  go_loopw [5, 7] (fun s5 s6 wr => ∃ (i m : Nat) (e : Nat → Nat → Int), i ≤ n ∧ s6 = .int .i64 i ∧ OwnV w.heap.size wr s5 m e ∧ Is (setS ((L.take i).map p)) m e ∧ w.grownBy wr none) (fun _ s6 _ => n - (intOf s6).toNat)
  case atStart => exact ⟨0, 0, fun _ _ => 0, by omega, rfl, OwnV.nil _ _ _, Is.none _, grown_refl _ _⟩
  case round =>
    obtain ⟨i, m, e, hi, rfl, ho, hO, hg⟩ := hrel
    obtain ⟨oa, oc, rfl⟩ := ho.slice
    have hm : m ≤ 1000000000000 := by
      have h1 := setS_few ((L.take i).map p)
      rw [hO.len, List.length_map, List.length_take] at h1
      omega
    have HOW := hide ho
    have HO := hide hO
    have HG := hide hg
    have hsz := hg.size
    clear ho hO hg
    by_cases hlt : i < n
    · have hltI : (i : Int) < n := by omega
      rcases HV.out with ⟨_, _, _, h0, _⟩ | ⟨g, off, capg, hvg, _, hcellg⟩
      · omega
      cases hvg
      obtain ⟨x, hx⟩ : ∃ x, x = d i := ⟨_, rfl⟩
      have CX : Hid (∀ wx, w.grownBy wx none → ∀ t, t < 6 → wx.cell? ⟨g, off + i * 6 + t, none⟩ = some (.int .i64 (x t))) := fun wx hgx t ht => by rw [hx]; exact hgx.cell (hcellg i (by omega) t ht) (by simp)
      have STP := hide (map_step HL.out hlt p)
      rw [← hx] at STP
      clear hcellg hx
      have cX := CX.out wr HG.out
      have c0 : wr.cell? ⟨g, off + i * 6, none⟩ = some (.int .i64 (x 0)) := cX 0 (by omega)
      have c1 := cX 1 (by omega)
      have c2 := cX 2 (by omega)
      have c3 := cX 3 (by omega)
      have c4 := cX 4 (by omega)
      have c5 := cX 5 (by omega)
      have hgw : g < wr.heap.size := World.block_lt_of_cell? wr _ c0
      clear cX
      go_upto_region 19 with fail
      obtain ⟨wB, hB⟩ : ∃ wB, wB = wr.alloc (.cells #[.int .i64 (x 0), .int .i64 (x 1), .int .i64 (x 2), .int .i64 (x 3), .int .i64 (x 4), .int .i64 (x 5)] 46) := ⟨_, rfl⟩
      have BB : pkBlk wB wr.heap.size x := by rw [hB]; exact pkBlk.alloc wr x
      have gB : Hid (wr.grownBy wB none) := by rw [hB]; exact World.grownBy_alloc _ _ _
      obtain ⟨b1, b2, b3⟩ := HA.out wB (grown_trans HG.out gB.out)
      have cF : wB.cell? ⟨wr.heap.size, F, none⟩ = some (.int .i64 (x F)) := BB.cell F hF
      have fF := BB.frozen F
      have HBB := hide BB
      rw [← hB]
      clear hB c0 c1 c2 c3 c4 c5 BB
      go_region
      obtain ⟨w4, hw4⟩ : ∃ w4, w4 = (wB.setCell ⟨wr.heap.size, F, none⟩ (.int .i64 (V : Int))).drew := ⟨_, rfl⟩
      obtain ⟨z, hz⟩ : ∃ z, z = putF x F (V : Int) := ⟨_, rfl⟩
      have BZ : pkBlk w4 wr.heap.size z := by rw [hw4, hz]; exact HBB.out.set F hF (V : Int)
      have g4 : wr.grownBy w4 none := by rw [hw4]; exact grown_drew (grown_new gB.out (grown_set _ _ _ _) (Nat.le_refl _))
      have G4 := hide (grown_trans HG.out g4)
      have HZ : Hid (p x = z) := by rw [HP.out, hz]; rfl
      have HW : Hid (Calls Tryz.prog 100 #[.slice oa m oc, .agg #[.int .i64 (z 0), .int .i64 (z 1), .int .i64 (z 2), .int .i64 (z 3), .int .i64 (z 4), .int .i64 (z 5)]] w4 fun e2 w' => ∃ a2 c2 n2 d2 bb, e2 = .returned (.tuple #[.slice a2 n2 c2, .bool bb]) ∧ OwnV w.heap.size w' (.slice a2 n2 c2) n2 d2 ∧ Is (insS z (setS ((L.take i).map p))) n2 d2 ∧ w4.grownBy w' none) := by
        refine (with_any w.heap.size (.slice oa m oc) m e _ z w4 (HOW.out.grown g4 (fun b e => by cases e)) HO.out hm (by have := G4.out.size; omega)).mono ?_
        rintro e2 w' ⟨v2, n2, d2, bb, h1, h2, rfl, h4⟩
        obtain ⟨a2, c2, rfl⟩ := h2.slice
        exact ⟨a2, c2, n2, d2, bb, rfl, h2, h1, h4⟩
      obtain ⟨z0, z1, z2, z3, z4, z5⟩ := results2 BZ
      have hzw : wr.heap.size < w4.heap.size := World.block_lt_of_cell? w4 _ z0
      rw [← hw4]
      clear hw4 hz BZ g4 cF fF b1 b2 b3 HBB gB
      go_wp2_with fail
      refine HW.out.mono ?_
      rintro e2 w5 ⟨a2, c2, n2, d2, bb, rfl, o5, i5, g5⟩
      have O5 := hide o5
      have I5 := hide i5
      have G5 := hide (grown_trans G4.out g5)
      clear o5 i5 g5 HW
      go_wp2_with fail
      exact ⟨⟨i + 1, n2, d2, by omega, by go_num, O5.out, by rw [STP.out, HZ.out]; exact I5.out, G5.out⟩, by simp [intOf]; omega⟩
    · have hltI : ¬ (i : Int) < n := by omega
      go_wp2
      refine (HQ.out _ _).2 ⟨_, m, e, rfl, HOW.out.row.any, ?_, HG.out⟩
      have e2 : L.take i = L := List.take_of_length_le (by rw [HL.out.len]; omega)
      have := HO.out
      rwa [e2] at this
end Go.Proofs.YtlhkfafdioakeaaGreatDoor
/- Proved here: what the document's all makes of a set: a negation. -/
namespace Go.Proofs.YtlhkfafdioakeaaGreatDoor
open Go.RowKit Go.Weft
set_option linter.unusedVariables false
set_option linter.unusedSimpArgs false
/-- What 'all' leaves, its value written out. -/
theorem AllO.slice {L : List (Nat → Int)} {w : World} {e : Ending} {w' : World} (h : AllO L w e w') : ∃ a c n d, e = .returned (.slice a n c) ∧ PkR w' (.slice a n c) n d ∧ Is L n d ∧ w.grownBy w' none := by
  obtain ⟨v, n, d, rfl, h1, h2, h3⟩ := h
  obtain ⟨a, c, rfl⟩ := h1.slice
  exact ⟨a, c, n, d, rfl, h1, h2, h3⟩
set_option maxRecDepth 100000 in
set_option maxHeartbeats 4000000 in
theorem all_not (b b2 g cap : Nat) (v : Value) (n : Nat) (d : Nat → Nat → Int) (L A1 : List (Nat → Int)) (w : World) (h : nodeAt w b (rGroup 33 g 1 cap)) (hx : w.cell? ⟨g, 0, none⟩ = some (ptrV b2)) (hv : PkR w v n d) (hL : Is L n d)
    (hC : ∀ ww, w.grownBy ww none → Calls Tryz.prog 57 #[ptrV b2, v] ww (AllO A1 ww)) (hnL : ∀ x ∈ L, Nm x) (hnA : ∀ x ∈ A1, Nm x) (hsL : Srt L) (hsA : Srt A1) (hl : n + A1.length ≤ 1000000000000) :
    Calls Tryz.prog 57 #[ptrV b, v] w (AllO (lessS L A1) w) := by
  have a0 : w.cell? ⟨b, 0, none⟩ = some (.int .u8 33) := h.cell 0
  have a3 : w.cell? ⟨b, 3, none⟩ = some (.slice (some ⟨g, 0, none⟩) 1 cap) := h.cell 3
  have hlt0 := h.lt
  have hgw : g < w.heap.size := World.block_lt_of_cell? w _ hx
  obtain ⟨la, lc, rfl⟩ := hv.slice
  have HV := hide hv
  have HC : Hid (Calls Tryz.prog 57 #[.pointer (some ⟨b2, 0, none⟩), .slice la n lc] w fun e w' => ∃ a c m d, e = .returned (.slice a m c) ∧ PkR w' (.slice a m c) m d ∧ Is A1 m d ∧ w.grownBy w' none) := (hC w (grown_refl _ _)).mono (fun e w' h => h.slice)
  have HWO : Hid (∀ ww a c m d1, w.grownBy ww none → PkR ww (.slice a m c) m d1 → Is A1 m d1 → Calls Tryz.prog 101 #[.slice la n lc, .slice a m c] ww fun e w' => ∃ a c m d, e = .returned (.slice a m c) ∧ PkR w' (.slice a m c) m d ∧ Is (lessS L A1) m d ∧ ww.grownBy w' none) := by
    intro ww a c m d1 hg hp hi
    refine (without_any _ _ n m d d1 L A1 ww (HV.out.grown hg) hp hL hi hnL hnA hsL hsA (by rw [← hi.len]; exact hl)).mono ?_
    rintro e w' ⟨v, m2, d2, rfl, h1, h2, h3⟩
    obtain ⟨a2, c2, rfl⟩ := h1.slice
    exact ⟨a2, c2, m2, d2, rfl, h1.row.any, h2, h3⟩
  have HQ : Hid (∀ e w', AllO (lessS L A1) w e w' ↔ ∃ v n d, e = .returned v ∧ PkR w' v n d ∧ Is (lessS L A1) n d ∧ w.grownBy w' none) := fun _ _ => Iff.rfl
  generalize AllO (lessS L A1) w = Q at HQ ⊢
  unfold ptrV at hx ⊢
  clear h hv hL hC hnL hnA hsL hsA
  go_enter Tryz.func57, Tryz.ntmps57
  go_wp2_with fail
  refine HC.out.mono ?_
  rintro e w1 ⟨a1, c1, m1, d1, rfl, hp1, hi1, hg1⟩
  have HW := hide (HWO.out w1 a1 c1 m1 d1 hg1 hp1 hi1)
  have G1 := hide hg1
  clear hp1 hi1 hg1 HC HWO a0 a3 hx hlt0 hgw
  go_wp2_with fail
  refine HW.out.mono ?_
  rintro e w2 ⟨a2, c2, m2, d2, rfl, hp2, hi2, hg2⟩
  have P2 := hide hp2
  have I2 := hide hi2
  have G2 := hide (grown_trans G1.out hg2)
  clear hp2 hi2 hg2 HW
  go_wp2
  refine (HQ.out _ _).2 ⟨_, m2, d2, rfl, P2.out, I2.out, G2.out⟩
end Go.Proofs.YtlhkfafdioakeaaGreatDoor
/- Proved here: what the document's all makes of a set: a seq. -/
namespace Go.Proofs.YtlhkfafdioakeaaGreatDoor
open Go.RowKit Go.Weft
set_option linter.unusedVariables false
set_option linter.unusedSimpArgs false
set_option maxRecDepth 100000 in
set_option maxHeartbeats 4000000 in
theorem all_seq (b g cap m : Nat) (hm : m ≤ 5000) (bs : Nat → Nat) (S : Nat → List (Nat → Int)) (v : Value) (n : Nat) (d : Nat → Nat → Int) (w : World) (h : nodeAt w b (rGroup 59 g m cap)) (hx : ∀ j, j < m → w.cell? ⟨g, j, none⟩ = some (ptrV (bs j))) (hv : PkR w v n d) (hL : Is (S 0) n d)
    (hC : ∀ j, j < m → ∀ ww v n d, w.grownBy ww none → PkR ww v n d → Is (S j) n d → Calls Tryz.prog 57 #[ptrV (bs j), v] ww (AllO (S (j + 1)) ww)) :
    Calls Tryz.prog 57 #[ptrV b, v] w (AllO (S m) w) := by
  have a0 : w.cell? ⟨b, 0, none⟩ = some (.int .u8 59) := h.cell 0
  have a3 : w.cell? ⟨b, 3, none⟩ = some (.slice (some ⟨g, 0, none⟩) m cap) := h.cell 3
  have hlt0 := h.lt
  obtain ⟨la, lc, rfl⟩ := hv.slice
  have HV := hide hv
  have HL := hide hL
  have HX := hide hx
  have HC : Hid (∀ j, j < m → ∀ ww a c n d, w.grownBy ww none → PkR ww (.slice a n c) n d → Is (S j) n d → Calls Tryz.prog 57 #[.pointer (some ⟨bs j, 0, none⟩), .slice a n c] ww (fun e w' => ∃ a c n d, e = .returned (.slice a n c) ∧ PkR w' (.slice a n c) n d ∧ Is (S (j + 1)) n d ∧ ww.grownBy w' none)) :=
    fun j hj ww a c n d hg hp hi => (hC j hj ww _ n d hg hp hi).mono (fun e w' h => h.slice)
  have HA : Hid (∀ ww, w.grownBy ww none → ww.cell? ⟨b, 3, none⟩ = some (.slice (some ⟨g, 0, none⟩) m cap)) := fun ww hg => hg.cell a3 (by simp)
  have HQ : Hid (∀ e w', AllO (S m) w e w' ↔ ∃ v n d, e = .returned v ∧ PkR w' v n d ∧ Is (S m) n d ∧ w.grownBy w' none) := fun _ _ => Iff.rfl
  generalize AllO (S m) w = Q at HQ ⊢
  unfold ptrV
  clear h hv hL hC hx
  go_enter Tryz.func57, Tryz.ntmps57
  go_wp2_with fail
  clear a0 a3
  go_loopw [5, 12] (fun s5 s12 wr => ∃ (j q : Nat) (e : Nat → Nat → Int), j ≤ m ∧ s12 = .int .i64 j ∧ (∃ a c, s5 = .slice a q c) ∧ PkR wr s5 q e ∧ Is (S j) q e ∧ w.grownBy wr none) (fun _ s12 _ => m - (intOf s12).toNat)
  case atStart => exact ⟨0, n, d, by omega, rfl, ⟨_, _, rfl⟩, HV.out, HL.out, grown_refl _ _⟩
  case round =>
    obtain ⟨j, q, e, hj, rfl, ⟨oa, oc, rfl⟩, hp, hi, hg⟩ := hrel
    have P := hide hp
    have I := hide hi
    have G := hide hg
    clear hp hi hg
    have b3 := HA.out wr G.out
    by_cases hlt : j < m
    · have hltI : (j : Int) < m := by omega
      have c0 := G.out.cell (HX.out j hlt) (by simp)
      unfold ptrV at c0
      have HK := hide (HC.out j hlt wr oa oc q e G.out P.out I.out)
      go_wp2_with fail
      refine HK.out.mono ?_
      rintro e2 w2 ⟨a2, c2, n2, d2, rfl, hp2, hi2, hg2⟩
      have P2 := hide hp2
      have I2 := hide hi2
      have G2 := hide (grown_trans G.out hg2)
      clear hp2 hi2 hg2 HK
      go_wp2_with fail
      exact ⟨⟨j + 1, n2, d2, by omega, by go_num, ⟨_, _, rfl⟩, P2.out, I2.out, G2.out⟩, by simp [intOf]; omega⟩
    · obtain rfl : j = m := by omega
      go_wp2
      refine (HQ.out _ _).2 ⟨_, q, e, rfl, P.out, I.out, G.out⟩
end Go.Proofs.YtlhkfafdioakeaaGreatDoor
/- Proved here: what the document's all makes of a set: a sum. -/
namespace Go.Proofs.YtlhkfafdioakeaaGreatDoor
open Go.RowKit Go.Weft
set_option linter.unusedVariables false
set_option linter.unusedSimpArgs false
/-- The sets of the parts, one after the other in one. -/
noncomputable def sumS (R : Nat → List (Nat → Int)) : Nat → List (Nat → Int)
  | 0 => []
  | j + 1 => mergeS (sumS R j) (R j)
set_option maxRecDepth 100000 in
set_option maxHeartbeats 4000000 in
theorem all_sum (b g cap m : Nat) (hm : m ≤ 5000) (bs : Nat → Nat) (R : Nat → List (Nat → Int)) (v : Value) (n : Nat) (d : Nat → Nat → Int) (w : World) (h : nodeAt w b (rGroup 43 g m cap)) (hx : ∀ j, j < m → w.cell? ⟨g, j, none⟩ = some (ptrV (bs j))) (hv : PkR w v n d)
    (hC : ∀ j, j < m → ∀ ww, w.grownBy ww none → Calls Tryz.prog 57 #[ptrV (bs j), v] ww (AllO (R j) ww)) (hn : ∀ j, j < m → ∀ x ∈ R j, Nm x) (hs : ∀ j, j ≤ m → ∀ x ∈ sumS R j, Nm x) (hl : ∀ j, j < m → (sumS R j).length + (R j).length ≤ 1000000000000) :
    Calls Tryz.prog 57 #[ptrV b, v] w (AllO (sumS R m) w) := by
  have a0 : w.cell? ⟨b, 0, none⟩ = some (.int .u8 43) := h.cell 0
  have a3 : w.cell? ⟨b, 3, none⟩ = some (.slice (some ⟨g, 0, none⟩) m cap) := h.cell 3
  have hlt0 := h.lt
  obtain ⟨la, lc, rfl⟩ := hv.slice
  have HX := hide hx
  have HC : Hid (∀ j, j < m → ∀ ww, w.grownBy ww none → Calls Tryz.prog 57 #[.pointer (some ⟨bs j, 0, none⟩), .slice la n lc] ww (fun e w' => ∃ a c n d, e = .returned (.slice a n c) ∧ PkR w' (.slice a n c) n d ∧ Is (R j) n d ∧ ww.grownBy w' none)) :=
    fun j hj ww hg => (hC j hj ww hg).mono (fun e w' h => h.slice)
  have HM : Hid (∀ j, j < m → ∀ ww a c p e a2 c2 p2 e2, PkR ww (.slice a p c) p e → Is (sumS R j) p e → PkR ww (.slice a2 p2 c2) p2 e2 → Is (R j) p2 e2 → Calls Tryz.prog 102 #[.slice a p c, .slice a2 p2 c2] ww (fun e w' => ∃ a c n d, e = .returned (.slice a n c) ∧ PkR w' (.slice a n c) n d ∧ Is (sumS R (j + 1)) n d ∧ ww.grownBy w' none)) := by
    intro j hj ww a c p e a2 c2 p2 e2 h1 h2 h3 h4
    refine (merged_any _ _ p p2 e e2 (sumS R j) (R j) ww h1 h3 h2 h4 (hs j (by omega)) (hn j hj) (by rw [← h2.len, ← h4.len]; exact hl j hj)).mono ?_
    rintro x w' ⟨v, k, f, rfl, o1, o2, o3⟩
    obtain ⟨a5, c5, rfl⟩ := o1.slice
    exact ⟨a5, c5, k, f, rfl, o1.row.any, o2, o3⟩
  have HA : Hid (∀ ww, w.grownBy ww none → ww.cell? ⟨b, 3, none⟩ = some (.slice (some ⟨g, 0, none⟩) m cap)) := fun ww hg => hg.cell a3 (by simp)
  have HQ : Hid (∀ e w', AllO (sumS R m) w e w' ↔ ∃ v n d, e = .returned v ∧ PkR w' v n d ∧ Is (sumS R m) n d ∧ w.grownBy w' none) := fun _ _ => Iff.rfl
  generalize AllO (sumS R m) w = Q at HQ ⊢
  unfold ptrV
  clear h hv hC hx hn hs hl
  go_enter Tryz.func57, Tryz.ntmps57
  go_wp2_with fail
  clear a0 a3
  go_loopw [5, 10] (fun s5 s12 wr => ∃ (j q : Nat) (e : Nat → Nat → Int), j ≤ m ∧ s12 = .int .i64 j ∧ (∃ a c, s5 = .slice a q c) ∧ PkR wr s5 q e ∧ Is (sumS R j) q e ∧ w.grownBy wr none) (fun _ s12 _ => m - (intOf s12).toNat)
  case atStart => exact ⟨0, 0, fun _ _ => 0, by omega, rfl, ⟨_, _, rfl⟩, PkR.none _ _, Is.none _, grown_refl _ _⟩
  case round =>
    obtain ⟨j, q, e, hj, rfl, ⟨oa, oc, rfl⟩, hp, hi, hg⟩ := hrel
    have P := hide hp
    have I := hide hi
    have G := hide hg
    clear hp hi hg
    have b3 := HA.out wr G.out
    by_cases hlt : j < m
    · have hltI : (j : Int) < m := by omega
      have c0 := G.out.cell (HX.out j hlt) (by simp)
      unfold ptrV at c0
      have HK := hide (HC.out j hlt wr G.out)
      go_wp2_with fail
      refine HK.out.mono ?_
      rintro e2 w2 ⟨a2, c2, n2, d2, rfl, hp2, hi2, hg2⟩
      have HK2 := hide (HM.out j hlt w2 oa oc q e a2 c2 n2 d2 (P.out.grown hg2) I.out hp2 hi2)
      have G2 := hide (grown_trans G.out hg2)
      clear hp2 hi2 hg2 HK
      go_wp2_with fail
      refine HK2.out.mono ?_
      rintro e3 w3 ⟨a3, c3, n3, d3, rfl, hp3, hi3, hg3⟩
      have P3 := hide hp3
      have I3 := hide hi3
      have G3 := hide (grown_trans G2.out hg3)
      clear hp3 hi3 hg3 HK2
      go_wp2_with fail
      exact ⟨⟨j + 1, n3, d3, by omega, by go_num, ⟨_, _, rfl⟩, P3.out, I3.out, G3.out⟩, by simp [intOf]; omega⟩
    · obtain rfl : j = m := by omega
      go_wp2
      refine (HQ.out _ _).2 ⟨_, q, e, rfl, P.out, I.out, G.out⟩
end Go.Proofs.YtlhkfafdioakeaaGreatDoor
/- Proved here: a star's set grows till nothing is new. -/
namespace Go.Proofs.YtlhkfafdioakeaaGreatDoor
open Go.RowKit Go.Weft
set_option linter.unusedVariables false
set_option linter.unusedSimpArgs false
/-- What stands while a star is worked off: out, and of it what is fresh. -/
structure StI (R : (Nat → Int) → (Nat → Int) → Prop) (L O F : List (Nat → Int)) : Prop where
  srt : Srt O
  nm : ∀ x ∈ O, Nm x
  srtF : Srt F
  beg : ∀ x ∈ L, x ∈ O
  rch : ∀ y ∈ O, ∃ x, x ∈ L ∧ Many R x y
  sub : ∀ x ∈ F, x ∈ O
  cls : ∀ x ∈ O, x ∉ F → ∀ y, R x y → y ∈ O
theorem StI.start {R : (Nat → Int) → (Nat → Int) → Prop} {L : List (Nat → Int)} (hs : Srt L) (hn : ∀ x ∈ L, Nm x) : StI R L L L :=
  ⟨hs, hn, hs, fun x hx => hx, fun y hy => ⟨y, hy, .refl y⟩, fun x hx => hx, fun x h1 h2 => absurd h1 h2⟩
theorem StI.step {R : (Nat → Int) → (Nat → Int) → Prop} {L O F X : List (Nat → Int)} (h : StI R L O F) (hX : SetOf X (fun y => ∃ x, x ∈ F ∧ R x y)) : StI R L (mergeS O (lessS X O)) (lessS X O) := by
  have hsl : Srt (lessS X O) := List.Pairwise.filter _ hX.srt
  have hnl : ∀ x ∈ lessS X O, Nm x := fun x hx => hX.nm x ((lessS_in x).1 hx).1
  refine ⟨mergeS_srt _ _ _ (Nat.le_refl _) h.srt hsl h.nm hnl, fun x hx => ?_, hsl, fun x hx => (mergeS_in x).2 (.inl (h.beg x hx)), fun y hy => ?_, fun x hx => (mergeS_in x).2 (.inr hx), fun x hx hn y hr => ?_⟩
  · rcases (mergeS_in x).1 hx with hx | hx
    · exact h.nm x hx
    · exact hnl x hx
  · rcases (mergeS_in y).1 hy with hy | hy
    · exact h.rch y hy
    · obtain ⟨x, hx, hr⟩ := (hX.mem y).1 ((lessS_in y).1 hy).1
      obtain ⟨z, hz, hm⟩ := h.rch x (h.sub x hx)
      exact ⟨z, hz, hm.trans (Many.one hr)⟩
  · rcases (mergeS_in x).1 hx with hx | hx
    · by_cases hf : x ∈ F
      · by_cases hy : y ∈ O
        · exact (mergeS_in y).2 (.inl hy)
        · exact (mergeS_in y).2 (.inr ((lessS_in y).2 ⟨(hX.mem y).2 ⟨x, hf, hr⟩, hy⟩))
      · exact (mergeS_in y).2 (.inl (h.cls x hx hf y hr))
    · exact absurd hx hn
theorem StI.done {R : (Nat → Int) → (Nat → Int) → Prop} {L O : List (Nat → Int)} (h : StI R L O []) : SetOf O (fun y => ∃ x, x ∈ L ∧ Many R x y) := by
  refine ⟨h.srt, h.nm, fun y => ⟨h.rch y, ?_⟩⟩
  rintro ⟨x, hx, hm⟩
  have key : ∀ u v, Many R u v → u ∈ O → v ∈ O := by
    intro u v huv
    induction huv with
    | refl => exact id
    | step hs _ ih => exact fun hu => ih (h.cls _ hu (by simp) _ hs)
  exact key x y hm (h.beg x hx)
end Go.Proofs.YtlhkfafdioakeaaGreatDoor
/- Proved here: what the document's all makes of a set: a star. -/
namespace Go.Proofs.YtlhkfafdioakeaaGreatDoor
open Go.RowKit Go.Weft Classical
set_option linter.unusedVariables false
set_option linter.unusedSimpArgs false
/-- All that has a property of right packets, in some list. -/
theorem some_list (N : Nat) (P : (Nat → Int) → Prop) (hN : ∀ x, P x → Rt x) (hr : ∀ x, P x → numP x < (N : Int)) : ∃ Y : List (Nat → Int), ∀ x, x ∈ Y ↔ P x := by
  refine ⟨(List.range N).filterMap (fun (u : Nat) => if h : ∃ x, P x ∧ numP x = (u : Int) then some h.choose else none), fun x => ?_⟩
  rw [List.mem_filterMap]
  constructor
  · rintro ⟨u, _, hu⟩
    split at hu
    · rename_i h
      cases hu
      exact h.choose_spec.1
    · cases hu
  · intro hx
    have h1 := numP_range (hN x hx)
    have h2 := hr x hx
    refine ⟨(numP x).toNat, List.mem_range.2 (by omega), ?_⟩
    have hex : ∃ y, P y ∧ numP y = (((numP x).toNat : Nat) : Int) := ⟨x, hx, by omega⟩
    rw [dif_pos hex]
    have h3 := hex.choose_spec
    have h4 : hex.choose = x := numP_inj (hN _ h3.1) (hN x hx) (by rw [h3.2]; omega)
    rw [h4]
theorem some_set (P : (Nat → Int) → Prop) (hP : ∀ x, P x → Rt x) : ∃ Y, SetOf Y P := by
  obtain ⟨Y, hY⟩ := some_list 1073741824 P hP (fun x hx => by have := (numP_range (hP x hx)).2; omega)
  have hn : ∀ x ∈ Y, Nm x := fun x hx => (hP x ((hY x).1 hx)).1
  exact ⟨setS Y, setS_srt hn, fun x hx => hn x ((setS_mem hn x).1 hx), fun x => (setS_mem hn x).trans (hY x)⟩
/-- The set of what has a property. -/
noncomputable def theS (P : (Nat → Int) → Prop) : List (Nat → Int) := if h : ∃ Y, SetOf Y P then h.choose else []
theorem theS_set {P : (Nat → Int) → Prop} (hP : ∀ x, P x → Rt x) : SetOf (theS P) P := by
  unfold theS
  rw [dif_pos (some_set P hP)]
  exact (some_set P hP).choose_spec
theorem theS_eq {P : (Nat → Int) → Prop} (hP : ∀ x, P x → Rt x) {l : List (Nat → Int)} (h : SetOf l P) : theS P = l := (theS_set hP).one h
theorem theS_cong {P Q : (Nat → Int) → Prop} (h : ∀ x, P x ↔ Q x) : theS P = theS Q := by rw [show P = Q from funext fun x => propext (h x)]
/-- A star of a star is that star. -/
def unl : Code → Code
  | .loop t => unl t
  | t => t
theorem unl_self {t : Code} (h : isLoop t = false) : unl t = t := by cases t <;> first | rfl | cases h
theorem unl_den (t : Code) : ∀ (x y : Nat → Int), Many (D t) x y ↔ Many (D (unl t)) x y := by
  induction t with
  | loop t ih =>
    intro x y
    show Many (Many (D t)) x y ↔ Many (D (unl t)) x y
    rw [← ih x y]
    exact ⟨fun k => k.flat, fun k => .one k⟩
  | _ => exact fun x y => Iff.rfl
theorem grow_len {O X : List (Nat → Int)} (hO : Srt O) {f : Nat → Int} {F : List (Nat → Int)} (hF : lessS X O = F) (hf : f ∈ F) : O.length < (mergeS O F).length := by
  have h1 := nodup_leS (f :: O) (mergeS O F) (List.nodup_cons.2 ⟨by rw [← hF] at hf; exact ((lessS_in f).1 hf).2, hO.nodup⟩) (fun x hx => by
    rw [mergeS_in]
    rcases List.mem_cons.1 hx with rfl | hx
    · exact .inr hf
    · exact .inl hx)
  exact h1
theorem RV_kind {ok : Nat → Prop} {w : World} {t : Code} {b : Nat} (h : (RV ok w t).1 (ptrV b)) : w.cell? ⟨b, 0, none⟩ = some (.int .u8 (kindR t)) ∧ b < w.heap.size := by
  obtain ⟨b2, x, y, z, e, _, hn⟩ := RV_node h
  cases e
  exact ⟨hn.cell 0, hn.lt⟩
theorem kindR_loop {t : Code} (h : isLoop t = false) : (kindR t == 42) = false := by
  cases t with
  | exit n =>
    show ((if n = 0 then (105 : Int) else if n = 1 then 100 else if n % 2 = 0 then 61 else 58) == 42) = false
    repeat' split
    all_goals rfl
  | block k l =>
    show ((if k = 0 then (43 : Int) else 59) == 42) = false
    split <;> rfl
  | loop t => cases h
  | _ => rfl
theorem kindR_u8 (t : Code) : 0 ≤ kindR t ∧ kindR t < 256 := by
  cases t with
  | exit n =>
    show (0 : Int) ≤ (if n = 0 then (105 : Int) else if n = 1 then 100 else if n % 2 = 0 then 61 else 58) ∧ (if n = 0 then (105 : Int) else if n = 1 then 100 else if n % 2 = 0 then 61 else 58) < (256 : Int)
    refine ⟨?_, ?_⟩ <;> (repeat' split) <;> decide
  | block k l =>
    show (0 : Int) ≤ (if k = 0 then (43 : Int) else 59) ∧ (if k = 0 then (43 : Int) else 59) < (256 : Int)
    refine ⟨?_, ?_⟩ <;> split <;> decide
  | loop t => exact ⟨by show (0 : Int) ≤ 42; decide, by show (42 : Int) < 256; decide⟩
  | scope t => exact ⟨by show (0 : Int) ≤ 33; decide, by show (33 : Int) < 256; decide⟩
  | _ => exact ⟨by show (0 : Int) ≤ 0; decide, by show (0 : Int) < 256; decide⟩
set_option maxRecDepth 100000 in
set_option maxHeartbeats 8000000 in
theorem all_star (ok : Nat → Prop) (t : Code) (b g cap : Nat) (x0 : Value) (v : Value) (n : Nat) (d : Nat → Nat → Int) (L : List (Nat → Int)) (w : World) (h : nodeAt w b (rGroup 42 g 1 cap)) (hx : w.cell? ⟨g, 0, none⟩ = some x0) (hR : (RV ok w t).1 x0) (hv : PkR w v n d) (hL : Is L n d) (hs : Srt L) (hr : ∀ x ∈ L, Rt x)
    (Rel : (Nat → Int) → (Nat → Int) → Prop) (hRel : ∀ x y, Rt x → Rel x y → Rt y)
    (hC : ∀ x1, (RV ok w (unl t)).1 x1 → ∀ ww v n d X, w.grownBy ww none → PkR ww v n d → Is X n d → Srt X → (∀ x ∈ X, Rt x) → Calls Tryz.prog 57 #[x1, v] ww (AllO (theS (fun y => ∃ x, x ∈ X ∧ Rel x y)) ww)) :
    Calls Tryz.prog 57 #[ptrV b, v] w (AllO (theS (fun y => ∃ x, x ∈ L ∧ Many Rel x y)) w) := by
  have a0 : w.cell? ⟨b, 0, none⟩ = some (.int .u8 42) := h.cell 0
  have a3 : w.cell? ⟨b, 3, none⟩ = some (.slice (some ⟨g, 0, none⟩) 1 cap) := h.cell 3
  have hlt0 := h.lt
  have hgw : g < w.heap.size := World.block_lt_of_cell? w _ hx
  obtain ⟨la, lc, rfl⟩ := hv.slice
  obtain ⟨b1, rfl, _, hb1⟩ := RV_ptr hR
  have HV := hide hv
  have HL := hide hL
  have HS := hide hs
  have HRL := hide hr
  have HR := hide hR
  have hMany : ∀ x y, Rt x → Many Rel x y → Rt y := fun x y hx hm => by
    induction hm with
    | refl a => exact hx
    | step h1 _ ih => exact ih (hRel _ _ hx h1)
  have hP : ∀ y, (∃ x, x ∈ L ∧ Many Rel x y) → Rt y := fun y hy => by
    obtain ⟨x, h1, h2⟩ := hy
    exact hMany x y (hr x h1) h2
  obtain ⟨A, hA⟩ : ∃ A, A = theS (fun y => ∃ x, x ∈ L ∧ Many Rel x y) := ⟨_, rfl⟩
  have HA : Hid (∀ O, StI Rel L O [] → O = A) := fun O hO => by rw [hA]; exact (theS_eq hP hO.done).symm
  rw [← hA]
  clear hA
  have HX : Hid (∀ X : List (Nat → Int), (∀ x ∈ X, Rt x) → SetOf (theS (fun y => ∃ x, x ∈ X ∧ Rel x y)) (fun y => ∃ x, x ∈ X ∧ Rel x y)) := fun X hX => theS_set (fun y hy => by
    obtain ⟨x, h1, h2⟩ := hy
    exact hRel x y (hX x h1) h2)
  have HRT : Hid (∀ O, StI Rel L O O → True) := fun _ _ => trivial
  have HO : Hid (∀ O F, StI Rel L O F → ∀ x ∈ O, Rt x) := fun O F hO x hxO => by
    obtain ⟨z, h1, h2⟩ := hO.rch x hxO
    exact hMany z x (hr z h1) h2
  have HC : Hid (∀ c, (RV ok w (unl t)).1 (ptrV c) → ∀ ww a q m e X, w.grownBy ww none → PkR ww (.slice a m q) m e → Is X m e → Srt X → (∀ x ∈ X, Rt x) → Calls Tryz.prog 57 #[.pointer (some ⟨c, 0, none⟩), .slice a m q] ww (fun e w' => ∃ a c n d, e = .returned (.slice a n c) ∧ PkR w' (.slice a n c) n d ∧ Is (theS (fun y => ∃ x, x ∈ X ∧ Rel x y)) n d ∧ ww.grownBy w' none)) :=
    fun c hc ww a q m e X h1 h2 h3 h4 h5 => (hC _ hc ww _ m e X h1 h2 h3 h4 h5).mono (fun e w' h => h.slice)
  have HM : Hid (∀ A B : List (Nat → Int), Srt A → Srt B → (∀ x ∈ A, Rt x) → (∀ x ∈ B, Rt x) → ∀ ww a c p e a2 c2 p2 e2, PkR ww (.slice a p c) p e → Is A p e → PkR ww (.slice a2 p2 c2) p2 e2 → Is B p2 e2 → Calls Tryz.prog 102 #[.slice a p c, .slice a2 p2 c2] ww (fun e w' => ∃ a c n d, e = .returned (.slice a n c) ∧ PkR w' (.slice a n c) n d ∧ Is (mergeS A B) n d ∧ ww.grownBy w' none)) := by
    intro A B sA sB rA rB ww a c p e a2 c2 p2 e2 h1 h2 h3 h4
    refine (merged_any _ _ p p2 e e2 A B ww h1 h3 h2 h4 (fun x hx => (rA x hx).1) (fun x hx => (rB x hx).1) (by have := right_few sA rA; have := right_few sB rB; rw [← h2.len, ← h4.len]; omega)).mono ?_
    rintro x w' ⟨v, k, f, rfl, o1, o2, o3⟩
    obtain ⟨a5, c5, rfl⟩ := o1.slice
    exact ⟨a5, c5, k, f, rfl, o1.row.any, o2, o3⟩
  have HW : Hid (∀ A B : List (Nat → Int), Srt A → Srt B → (∀ x ∈ A, Rt x) → (∀ x ∈ B, Rt x) → ∀ ww a c p e a2 c2 p2 e2, PkR ww (.slice a p c) p e → Is A p e → PkR ww (.slice a2 p2 c2) p2 e2 → Is B p2 e2 → Calls Tryz.prog 101 #[.slice a p c, .slice a2 p2 c2] ww (fun e w' => ∃ a c n d, e = .returned (.slice a n c) ∧ PkR w' (.slice a n c) n d ∧ Is (lessS A B) n d ∧ ww.grownBy w' none)) := by
    intro A B sA sB rA rB ww a c p e a2 c2 p2 e2 h1 h2 h3 h4
    refine (without_any _ _ p p2 e e2 A B ww h1 h3 h2 h4 (fun x hx => (rA x hx).1) (fun x hx => (rB x hx).1) sA sB (by have := right_few sA rA; have := right_few sB rB; rw [← h2.len, ← h4.len]; omega)).mono ?_
    rintro x w' ⟨v, k, f, rfl, o1, o2, o3⟩
    obtain ⟨a5, c5, rfl⟩ := o1.slice
    exact ⟨a5, c5, k, f, rfl, o1.row.any, o2, o3⟩
  have HQ : Hid (∀ e w', AllO A w e w' ↔ ∃ v n d, e = .returned v ∧ PkR w' v n d ∧ Is A n d ∧ w.grownBy w' none) := fun _ _ => Iff.rfl
  generalize AllO A w = Q at HQ ⊢
  have HRX : Hid (∀ X : List (Nat → Int), (∀ x ∈ X, Rt x) → ∀ y ∈ theS (fun y => ∃ x, x ∈ X ∧ Rel x y), Rt y) := fun X hX y hy => by
    obtain ⟨x, h1, h2⟩ := ((HX.out X hX).mem y).1 hy
    exact hRel x y (hX x h1) h2
  unfold ptrV at hx ⊢
  clear h hv hC hL hs hr hR hP hMany hRel
  go_enter Tryz.func57, Tryz.ntmps57
  go_wp2_with fail
  clear a0 a3 hx hlt0 hgw hb1
  go_loopg [13] (szC t) (fun gk s13 wr => ∃ u c, szC u ≤ gk ∧ s13 = .pointer (some ⟨c, 0, none⟩) ∧ (RV ok w u).1 (ptrV c) ∧ unl u = unl t ∧ w.grownBy wr none)
  case atStart => exact ⟨t, b1, Nat.le_refl _, rfl, HR.out, rfl, grown_refl _ _⟩
  case round =>
    obtain ⟨u, c, hu, rfl, hRu, hun, hg⟩ := hrel
    have HRU := hide hRu
    have HUN := hide hun
    have HG := hide hg
    clear hRu hun hg HR
    by_cases hlp : isLoop u = true
    · obtain ⟨u2, rfl⟩ : ∃ u2, u = .loop u2 := by cases u <;> first | exact ⟨_, rfl⟩ | cases hlp
      obtain ⟨b2, g2, cap2, x2, e2, _, hn2, _, hc2, hR2⟩ := HRU.out
      cases e2
      obtain ⟨c3, rfl, _, hb3⟩ := RV_ptr hR2
      have k0 := HG.out.cell (hn2.cell 0) (by simp)
      have k0' : wr.cell? ⟨c, 0, none⟩ = some (.int .u8 42) := HG.out.cell (show w.cell? ⟨c, 0, none⟩ = _ from hn2.cell 0) (by simp)
      have k3 : wr.cell? ⟨c, 3, none⟩ = some (.slice (some ⟨g2, 0, none⟩) 1 cap2) := HG.out.cell (show w.cell? ⟨c, 3, none⟩ = _ from hn2.cell 3) (by simp)
      have kc : wr.cell? ⟨g2, 0, none⟩ = some (.pointer (some ⟨c3, 0, none⟩)) := HG.out.cell (show w.cell? ⟨g2, 0, none⟩ = _ from hc2) (by simp)
      have HR2 := hide hR2
      have hcl : c < wr.heap.size := World.block_lt_of_cell? wr _ k0'
      have hgl : g2 < wr.heap.size := World.block_lt_of_cell? wr _ kc
      clear hn2 hc2 hR2 k0 hlp hb3
      go_wp2_with fail
      go_roundg (szC u2)
      case measure => simp only [szC] at hu; omega
      case rel => exact ⟨u2, c3, Nat.le_refl _, rfl, HR2.out, HUN.out, HG.out⟩
    · have hlp' : isLoop u = false := by simpa using hlp
      have hk1 := (RV_kind HRU.out).1
      have k0 : wr.cell? ⟨c, 0, none⟩ = some (.int .u8 (kindR u)) := HG.out.cell hk1 (by simp)
      have hk2 := kindR_loop hlp'
      have hk3 := kindR_u8 u
      have HRN : Hid ((RV ok w (unl t)).1 (ptrV c)) := by have := HRU.out; rw [← HUN.out, unl_self hlp']; exact this
      have hcl : c < wr.heap.size := World.block_lt_of_cell? wr _ k0
      generalize kindR u = kk at k0 hk2 hk3
      obtain ⟨hk3a, hk3b⟩ := hk3
      clear hlp hlp' hk1 hu HRU HUN
      go_wp2_with fail
      clear k0 hk2 hk3a hk3b hcl
      go_loopg [5, 14] (2 * 1073741824 + 1) (fun gk s5 s14 wr => ∃ O F no nf eo ef, (∃ a c, s5 = .slice a no c) ∧ (∃ a c, s14 = .slice a nf c) ∧ PkR wr s5 no eo ∧ PkR wr s14 nf ef ∧ Is O no eo ∧ Is F nf ef ∧ StI Rel L O F ∧ 2 * (1073741824 - O.length) + (if nf = 0 then 0 else 1) ≤ gk ∧ w.grownBy wr none)
      case atStart => exact ⟨L, L, n, n, d, d, ⟨_, _, rfl⟩, ⟨_, _, rfl⟩, HV.out.grown HG.out, HV.out.grown HG.out, HL.out, HL.out, StI.start HS.out (fun x hx => (HRL.out x hx).1), by split <;> omega, HG.out⟩
      case round =>
        obtain ⟨O, F, no, nf, eo, ef, ⟨oa, oc, rfl⟩, ⟨fa, fc, rfl⟩, hpo, hpf, hio, hif, hst, hgk, hg2⟩ := hrel
        have PO := hide hpo
        have PF := hide hpf
        have HIO := hide hio
        have IF := hide hif
        have ST := hide hst
        have G2 := hide hg2
        have GK := hide hgk
        clear hpo hpf hio hif hst hg2 hgk HG
        by_cases hnf : 0 < nf
        · have hnfI : (0 : Int) < nf := by omega
          have rO := hide (HO.out O F ST.out)
          have rF : Hid (∀ x ∈ F, Rt x) := fun x hx => rO.out x (ST.out.sub x hx)
          have SX := hide (HX.out F rF.out)
          have RX := hide (HRX.out F rF.out)
          have K1 := hide (HC.out c HRN.out _ fa fc nf ef F G2.out PF.out IF.out ST.out.srtF rF.out)
          obtain ⟨X, hX⟩ : ∃ X, X = theS (fun y => ∃ x, x ∈ F ∧ Rel x y) := ⟨_, rfl⟩
          rw [← hX] at SX RX K1
          clear hX
          go_wp2_with fail
          refine K1.out.mono ?_
          rintro e1 w1 ⟨xa, xc, nx, ex, rfl, hpx, hix, hgx⟩
          have K2 := hide (HW.out X O SX.out.srt ST.out.srt RX.out rO.out w1 xa xc nx ex oa oc no eo hpx hix (PO.out.grown hgx) HIO.out)
          have PO1 := hide (PO.out.grown hgx)
          have G3 := hide (grown_trans G2.out hgx)
          clear hpx hix hgx K1 PO PF IF
          go_wp2_with fail
          refine K2.out.mono ?_
          rintro e2 w2 ⟨ya, yc, ny, ey, rfl, hpy, hiy, hgy⟩
          have SL : Hid (Srt (lessS X O)) := List.Pairwise.filter _ SX.out.srt
          have RL : Hid (∀ x ∈ lessS X O, Rt x) := fun x hx => RX.out x ((lessS_in x).1 hx).1
          have K3 := hide (HM.out O (lessS X O) ST.out.srt SL.out rO.out RL.out w2 oa oc no eo ya yc ny ey (PO1.out.grown hgy) HIO.out hpy hiy)
          have PY := hide hpy
          have IY := hide hiy
          have G4 := hide (grown_trans G3.out hgy)
          clear hpy hiy hgy K2 PO1
          go_wp2_with fail
          refine K3.out.mono ?_
          rintro e3 w3 ⟨za, zc, nz, ez, rfl, hpz, hiz, hgz⟩
          have PZ := hide hpz
          have IZ := hide hiz
          have PY2 := hide (PY.out.grown hgz)
          have G5 := hide (grown_trans G4.out hgz)
          have ST2 := hide (ST.out.step SX.out)
          have LN : Hid ((mergeS O (lessS X O)).length ≤ 1073741824 ∧ O.length ≤ (mergeS O (lessS X O)).length ∧ (0 < ny → O.length < (mergeS O (lessS X O)).length)) := by
            refine ⟨right_few ST2.out.srt (HO.out _ _ ST2.out), ?_, fun hny => ?_⟩
            · exact nodup_leS _ _ ST.out.srt.nodup (fun x hx => (mergeS_in x).2 (.inl hx))
            · have : (lessS X O).length = ny := IY.out.len
              obtain ⟨f, hf⟩ : ∃ f, f ∈ lessS X O := List.exists_mem_of_length_pos (by omega)
              exact grow_len ST.out.srt rfl hf
          clear hpz hiz hgz K3 PY
          go_wp2_with fail
          go_roundg (2 * (1073741824 - (mergeS O (lessS X O)).length) + (if ny = 0 then 0 else 1))
          case measure =>
            have h1 := GK.out
            obtain ⟨l1, l2, l3⟩ := LN.out
            rw [if_neg (by omega)] at h1
            by_cases hy : ny = 0
            · rw [if_pos hy]; omega
            · have := l3 (by omega)
              rw [if_neg hy]; omega
          case rel => exact ⟨_, _, nz, ny, ez, ey, ⟨_, _, rfl⟩, ⟨_, _, rfl⟩, PZ.out, PY2.out, IZ.out, IY.out, ST2.out, Nat.le_refl _, G5.out⟩
        · obtain rfl : nf = 0 := by omega
          have hF0 : F = [] := List.eq_nil_of_length_eq_zero IF.out.len
          have EQ : Hid (O = A) := by have := ST.out; rw [hF0] at this; exact HA.out O this
          clear hF0
          go_wp2
          refine (HQ.out _ _).2 ⟨_, no, eo, rfl, PO.out, by rw [← EQ.out]; exact HIO.out, G2.out⟩
end Go.Proofs.YtlhkfafdioakeaaGreatDoor
/- Proved here: what the document's Eval makes of a packet is what its tree makes of it. -/
namespace Go.Proofs.YtlhkfafdioakeaaGreatDoor
open Go.RowKit Go.Weft Classical
set_option linter.unusedVariables false
set_option linter.unusedSimpArgs false
theorem okT.loop {t : Code} (h : okT (.loop t)) : okT t := h
theorem okT.strip {t : Code} : okT t → okT (unl t) ∧ szC (unl t) ≤ szC t := by
  induction t with
  | loop t ih =>
    intro h
    have := ih h
    exact ⟨this.1, by show szC (unl t) ≤ szC t + 1; omega⟩
  | _ => exact fun h => ⟨h, Nat.le_refl _⟩
theorem leafs_set {m : Nat} {L : List (Nat → Int)} (hL : Srt L) (hr : ∀ x ∈ L, Rt x) :
    (m = 0 → SetOf L (allD (.exit m) L)) ∧ (m = 1 → SetOf [] (allD (.exit m) L)) ∧ (1 < m → m % 2 = 0 → SetOf (L.filter fun x => decide (x (fOf m) = (vOf m : Int))) (allD (.exit m) L)) ∧ (1 < m → m % 2 = 1 → SetOf (setS (L.map fun x => putF x (fOf m) (vOf m : Int))) (allD (.exit m) L) ∨ 386 ≤ m) := by
  have e : ∀ y, allD (.exit m) L y ↔ ∃ x, x ∈ L ∧ leafD m x y := fun y => Iff.rfl
  refine ⟨fun h => ⟨hL, fun x hx => (hr x hx).1, fun y => ?_⟩, fun h => ⟨List.Pairwise.nil, fun x hx => by simp at hx, fun y => ?_⟩, fun h1 h2 => ⟨List.Pairwise.filter _ hL, fun x hx => (hr x (List.mem_filter.1 hx).1).1, fun y => ?_⟩, fun h1 h2 => ?_⟩
  · rw [e]
    unfold leafD
    simp only [if_pos h]
    exact ⟨fun hy => ⟨y, hy, rfl⟩, fun ⟨x, hx, hy⟩ => by rw [hy]; exact hx⟩
  · rw [e]
    unfold leafD
    simp only [if_neg (show ¬ m = 0 by omega), if_pos h]
    simp
  · rw [e, List.mem_filter]
    unfold leafD
    simp only [if_neg (show ¬ m = 0 by omega), if_neg (show ¬ m = 1 by omega), if_pos h2, decide_eq_true_eq]
    exact ⟨fun hy => ⟨y, hy.1, hy.2, rfl⟩, fun ⟨x, hx, hv, hy⟩ => by rw [hy]; exact ⟨hx, hv⟩⟩
  · by_cases hm : 386 ≤ m
    · exact .inr hm
    left
    have hn : ∀ x ∈ L.map (fun x => putF x (fOf m) (vOf m : Int)), Nm x := fun x hx => by
      obtain ⟨z, hz, rfl⟩ := List.mem_map.1 hx
      exact (putF_right (hr z hz) _ (by unfold fOf; omega) _ ⟨by omega, by unfold vOf; omega⟩).1
    refine ⟨setS_srt hn, fun x hx => hn x ((setS_mem hn x).1 hx), fun y => ?_⟩
    rw [setS_mem hn, e, List.mem_map]
    unfold leafD
    simp only [if_neg (show ¬ m = 0 by omega), if_neg (show ¬ m = 1 by omega), if_neg (show ¬ m % 2 = 0 by omega)]
    exact ⟨fun ⟨x, h1, h2⟩ => ⟨x, h1, h2.symm⟩, fun ⟨x, h1, h2⟩ => ⟨x, h1, h2.symm⟩⟩
theorem neg_set {t : Code} (h : okT (.scope t)) {L A : List (Nat → Int)} (hL : Srt L) (hr : ∀ x ∈ L, Rt x) (hA : SetOf A (allD t L)) : SetOf (lessS L A) (allD (.scope t) L) := by
  have hk : (isT t && kdC t) = true := h.2.1
  rw [Bool.and_eq_true] at hk
  have hsame := (test_same t).1 h.1 hk.1
  refine ⟨List.Pairwise.filter _ hL, fun x hx => (hr x ((lessS_in x).1 hx).1).1, fun y => ?_⟩
  rw [lessS_in, hA.mem]
  constructor
  · rintro ⟨h1, h2⟩
    refine ⟨y, h1, fun ⟨z, hz⟩ => h2 ⟨y, h1, ?_⟩, rfl⟩
    have := hsame y z hz
    subst this
    exact hz
  · rintro ⟨x, h1, h2, rfl⟩
    refine ⟨h1, fun ⟨z, h3, h4⟩ => h2 ?_⟩
    have := hsame z y h4
    subst this
    exact ⟨_, h4⟩
/-- The part of a chain at a place. -/
def elAt (l : Code) (j : Nat) : Code := (elems l)[j]?.getD .skip
theorem elAt_mem {l : Code} {j : Nat} (h : j < (elems l).length) : elAt l j ∈ elems l := by
  unfold elAt
  rw [List.getElem?_eq_getElem h]
  exact List.getElem_mem h
theorem sum_set {L : List (Nat → Int)} (hr : ∀ x ∈ L, Rt x) (l : Code) (he : ∀ t, t ∈ elems l → okT t) : ∀ j, j ≤ (elems l).length → SetOf (sumS (fun i => theS (allD (elAt l i) L)) j) (fun y => ∃ i, i < j ∧ allD (elAt l i) L y)
  | 0, _ => ⟨List.Pairwise.nil, fun x hx => by simp [sumS] at hx, fun y => by simp [sumS]⟩
  | j + 1, hj => by
    have h1 := sum_set hr l he j (by omega)
    have h2 := theS_set ((he _ (elAt_mem (show j < (elems l).length by omega))).right hr)
    refine (mergeS_set h1 h2).cong (fun y => ?_)
    constructor
    · rintro (⟨i, hi, h⟩ | h)
      · exact ⟨i, by omega, h⟩
      · exact ⟨j, by omega, h⟩
    · rintro ⟨i, hi, h⟩
      by_cases c : i = j
      · subst c; exact .inr h
      · exact .inl ⟨i, by omega, h⟩
/-- The sets behind the first parts of a seq. -/
noncomputable def seqS (l : Code) (L : List (Nat → Int)) : Nat → List (Nat → Int)
  | 0 => L
  | j + 1 => theS (allD (elAt l j) (seqS l L j))
theorem seq_set {L : List (Nat → Int)} (hL : Srt L) (hr : ∀ x ∈ L, Rt x) (l : Code) (he : ∀ t, t ∈ elems l → okT t) : ∀ j, j ≤ (elems l).length → SetOf (seqS l L j) (fun y => ∃ x, x ∈ L ∧ thru ((elems l).take j) x y) ∧ ∀ x ∈ seqS l L j, Rt x
  | 0, _ => ⟨⟨hL, fun x hx => (hr x hx).1, fun y => by simp [seqS, thru]⟩, hr⟩
  | j + 1, hj => by
    obtain ⟨h1, h1r⟩ := seq_set hL hr l he j (by omega)
    have hR := (he _ (elAt_mem (show j < (elems l).length by omega))).right h1r
    have h2 := theS_set hR
    refine ⟨h2.cong (fun y => ?_), fun x hx => hR x ((h2.mem x).1 hx)⟩
    have e : (elems l).take (j + 1) = (elems l).take j ++ [elAt l j] := by
      rw [List.take_add_one, List.getElem?_eq_getElem (by omega)]
      unfold elAt
      rw [List.getElem?_eq_getElem (by omega)]
      rfl
    rw [e]
    simp only [thru_append, thru]
    constructor
    · rintro ⟨x, hx, hd⟩
      obtain ⟨z, hz, ht⟩ := (h1.mem x).1 hx
      exact ⟨z, hz, x, ht, y, hd, rfl⟩
    · rintro ⟨z, hz, x, ht, u, hd, rfl⟩
      exact ⟨x, (h1.mem x).2 ⟨z, hz, ht⟩, hd⟩
theorem leafCase (ok : Nat → Prop) (q : Nat) (v : Value) (w : World) (h : (RV ok w (.exit q)).1 v) (hok : okT (.exit q)) (vp : Value) (m : Nat) (d : Nat → Nat → Int) (L : List (Nat → Int)) (hp : PkR w vp m d) (hi : Is L m d) (hs : Srt L) (hr : ∀ x ∈ L, Rt x) :
    Calls Tryz.prog 57 #[v, vp] w (AllO (theS (allD (.exit q) L)) w) := by
  have hP := hok.right hr
  have hq : q < 386 := by have := hok.2.2; simpa [lfD] using this
  have hm : m ≤ 1000000000000 := by have := right_few hs hr; rw [← hi.len]; omega
  obtain ⟨b, cs, rfl, _, hnd, hl⟩ := h
  rcases hl with ⟨_, rfl⟩ | ⟨h2, _⟩
  case inr => omega
  obtain ⟨s0, s1, s2, s3⟩ := leafs_set (m := q) hs hr
  by_cases h0 : q = 0
  · rw [theS_eq hP (s0 h0)]
    subst h0
    exact all_id b vp m d L w hnd hp hi
  by_cases h1 : q = 1
  · rw [theS_eq hP (s1 h1)]
    subst h1
    exact all_drop b vp m d w hnd hp
  by_cases h2 : q % 2 = 0
  · rw [theS_eq hP (s2 (by omega) h2)]
    have e : rLeaf q = #[.int .u8 61, .int .i64 (((q - 2) / 2 / 32 : Nat) : Int), .int .i64 (((q - 2) / 2 % 32 : Nat) : Int), .slice none 0 0] := by unfold rLeaf; rw [if_neg h0, if_neg h1, if_pos h2]
    rw [e] at hnd
    exact all_test b (fOf q) (vOf q) (by unfold fOf; omega) vp m d L w hnd hp hi hm
  · rcases s3 (by omega) (by omega) with s | s
    · rw [theS_eq hP s]
      have e : rLeaf q = #[.int .u8 58, .int .i64 (((q - 2) / 2 / 32 : Nat) : Int), .int .i64 (((q - 2) / 2 % 32 : Nat) : Int), .slice none 0 0] := by unfold rLeaf; rw [if_neg h0, if_neg h1, if_neg h2]
      rw [e] at hnd
      exact all_put b (fOf q) (vOf q) (by unfold fOf; omega) vp m d L w hnd hp hi hm
    · omega
theorem all_any (ok : Nat → Prop) : ∀ (n : Nat) (t : Code) (v : Value) (w : World), szC t ≤ n → (RV ok w t).1 v → okT t → ∀ (vp : Value) (m : Nat) (d : Nat → Nat → Int) (L : List (Nat → Int)), PkR w vp m d → Is L m d → Srt L → (∀ x ∈ L, Rt x) →
    Calls Tryz.prog 57 #[v, vp] w (AllO (theS (allD t L)) w) := by
  intro n
  induction n with
  | zero =>
    intro t v w hn h hok vp m d L hp hi hs hr
    cases t with
    | exit q => exact leafCase ok q v w h hok vp m d L hp hi hs hr
    | loop t => simp [szC] at hn
    | scope t => simp [szC] at hn
    | block k l => simp [szC] at hn
    | _ => exact h.elim
  | succ n ih =>
    intro t v w hn h hok vp m d L hp hi hs hr
    have hP := hok.right hr
    cases t with
    | exit q => exact leafCase ok q v w h hok vp m d L hp hi hs hr
    | loop t =>
      obtain ⟨b, g, cap, x, rfl, _, hnd, _, hc, hR⟩ := h
      have hu := hok.loop.strip
      have hn' : szC t + 1 ≤ n + 1 := hn
      have := all_star ok t b g cap x vp m d L w hnd hc hR hp hi hs hr (D (unl t)) (fun x y hx hd => (den_right _ hu.1.2.2).1 x y hx hd) (fun x1 h1 ww v2 n2 d2 X hg hp2 hi2 hs2 hr2 => ih (unl t) x1 ww (by omega) (RV_kept h1 hg) hu.1 v2 n2 d2 X hp2 hi2 hs2 hr2)
      rw [theS_cong (Q := allD (.loop t) L) (fun y => ⟨fun ⟨x, h1, h2⟩ => ⟨x, h1, (unl_den t x y).2 h2⟩, fun ⟨x, h1, h2⟩ => ⟨x, h1, (unl_den t x y).1 h2⟩⟩)] at this
      exact this
    | scope t =>
      obtain ⟨b, g, cap, x, rfl, _, hnd, _, hc, hR⟩ := h
      obtain ⟨b2, rfl, _, _⟩ := RV_ptr hR
      have hk : (isT t && kdC t) = true := hok.2.1
      rw [Bool.and_eq_true] at hk
      have hok2 : okT t := ⟨hok.1, hk.2, hok.2.2⟩
      have hA := theS_set (hok2.right hr)
      have hRA : ∀ x ∈ theS (allD t L), Rt x := fun x hx => hok2.right hr x ((hA.mem x).1 hx)
      have hn' : szC t + 1 ≤ n + 1 := hn
      rw [theS_eq hP (neg_set hok hs hr hA)]
      exact all_not b b2 g cap vp m d L _ w hnd hc hp hi (fun ww hg => ih t _ ww (by omega) (RV_kept hR hg) hok2 vp m d L (hp.grown hg) hi hs hr) (fun x hx => (hr x hx).1) hA.nm hs hA.srt (by have := right_few hs hr; have := right_few hA.srt hRA; rw [← hi.len]; omega)
    | block k l =>
      obtain ⟨b, g, q, cap, rfl, _, hnd, hk, _, hq, _, _, hl⟩ := h
      obtain ⟨hlen, hel⟩ := RV_elems hl
      have hn' : szC l + 1 ≤ n + 1 := hn
      have hex : ∀ j, ∃ c, j < q → w.cell? ⟨g, j, none⟩ = some (ptrV c) ∧ (RV ok w (elAt l j)).1 (ptrV c) := by
        intro j
        by_cases hj : j < q
        · obtain ⟨x, h1, h2⟩ := hel j (by omega)
          obtain ⟨c, rfl, _⟩ := RV_ptr h2
          refine ⟨c, fun _ => ⟨by simpa using h1, ?_⟩⟩
          unfold elAt
          rw [List.getElem?_eq_getElem (by omega)]
          exact h2
        · exact ⟨0, fun h => absurd h hj⟩
      have hbs : ∀ j, j < q → w.cell? ⟨g, j, none⟩ = some (ptrV (hex j).choose) ∧ (RV ok w (elAt l j)).1 (ptrV (hex j).choose) := fun j => (hex j).choose_spec
      obtain ⟨bs, hbse⟩ : ∃ bs : Nat → Nat, ∀ j, bs j = (hex j).choose := ⟨_, fun _ => rfl⟩
      have hb2 : ∀ j, j < q → w.cell? ⟨g, j, none⟩ = some (ptrV (bs j)) ∧ (RV ok w (elAt l j)).1 (ptrV (bs j)) := fun j hj => by rw [hbse j]; exact hbs j hj
      have hoe := hok.elems
      have hsz : ∀ j, j < q → szC (elAt l j) ≤ n := fun j hj => by have := szC_elems (elAt_mem (show j < (elems l).length by omega)); omega
      rcases (show k = 0 ∨ k = 1 by omega) with rfl | rfl
      · have hset := sum_set hr l hoe q (by omega)
        rw [theS_eq hP (hset.cong (fun y => by
          show _ ↔ ∃ x, x ∈ L ∧ D (.block 0 l) x y
          simp only [D_sum]
          constructor
          · rintro ⟨i, hi, x, hx, hd⟩
            exact ⟨x, hx, _, elAt_mem (show i < (elems l).length by omega), hd⟩
          · rintro ⟨x, hx, t, ht, hd⟩
            obtain ⟨i, hi, rfl⟩ := List.getElem_of_mem ht
            refine ⟨i, by omega, x, hx, ?_⟩
            unfold elAt
            rw [List.getElem?_eq_getElem hi]
            exact hd))]
        have hrR : ∀ j, j < q → ∀ x ∈ theS (allD (elAt l j) L), Rt x := fun j hj x hx => by
          have hh := (hoe _ (elAt_mem (show j < (elems l).length by omega))).right hr
          exact hh x (((theS_set hh).mem x).1 hx)
        have hrS : ∀ j, j ≤ q → ∀ x ∈ sumS (fun i => theS (allD (elAt l i) L)) j, Rt x := fun j hj x hx => by
          obtain ⟨i, hi, hd⟩ := ((sum_set hr l hoe j (by omega)).mem x).1 hx
          exact (hoe _ (elAt_mem (show i < (elems l).length by omega))).right hr x hd
        exact all_sum b g cap q hq bs (fun j => theS (allD (elAt l j) L)) vp m d w hnd (fun j hj => (hb2 j hj).1) hp (fun j hj ww hg => ih (elAt l j) _ ww (hsz j hj) (RV_kept (hb2 j hj).2 hg) (hoe _ (elAt_mem (by omega))) vp m d L (hp.grown hg) hi hs hr) (fun j hj x hx => (hrR j hj x hx).1) (fun j hj x hx => (hrS j hj x hx).1) (fun j hj => by
          have h1 := right_few (sum_set hr l hoe j (by omega)).srt (hrS j (by omega))
          have h2 := right_few (theS_set ((hoe _ (elAt_mem (show j < (elems l).length by omega))).right hr)).srt (hrR j hj)
          show _ + (theS (allD (elAt l j) L)).length ≤ _
          omega)
      · have hset := (seq_set hs hr l hoe q (by omega)).1
        rw [theS_eq hP (hset.cong (fun y => by
          show _ ↔ ∃ x, x ∈ L ∧ D (.block 1 l) x y
          simp only [D_seq]
          rw [List.take_of_length_le (by omega)]))]
        exact all_seq b g cap q hq bs (seqS l L) vp m d w hnd (fun j hj => (hb2 j hj).1) hp hi (fun j hj ww v2 n2 d2 hg hp2 hi2 => by
          have h1 := seq_set hs hr l hoe j (by omega)
          exact ih (elAt l j) _ ww (hsz j hj) (RV_kept (hb2 j hj).2 hg) (hoe _ (elAt_mem (by omega))) v2 n2 d2 (seqS l L j) hp2 hi2 h1.1.srt h1.2)
    | _ => exact h.elim
set_option maxRecDepth 100000 in
set_option maxHeartbeats 2000000 in
theorem reval_any (ok : Nat → Prop) (t : Code) (b : Nat) (k : Nat → Int) (w : World) (h : (RV ok w t).1 (ptrV b)) (hok : okT t) (hk : Rt k) :
    Calls Tryz.prog 18 #[.pointer (some ⟨b, 0, none⟩), pkV k] w fun e w' => ∃ a c n d A, e = .returned (.slice a n c) ∧ PkR w' (.slice a n c) n d ∧ Is A n d ∧ SetOf A (D t k) ∧ w.grownBy w' none := by
  obtain ⟨w1, hw1⟩ : ∃ w1, w1 = w.alloc (.cells (pkA k) 46) := ⟨_, rfl⟩
  obtain ⟨w2, hw2⟩ : ∃ w2, w2 = w1.alloc (.cells (pkA k) 46) := ⟨_, rfl⟩
  have B1 : pkBlk w1 w.heap.size k := by rw [hw1]; exact pkBlk.alloc w k
  have z1 : w1.heap.size = w.heap.size + 1 := by rw [hw1]; simp
  have g2 : w.grownBy w2 none := by rw [hw2, hw1]; exact grown_trans (World.grownBy_alloc _ _ _) (World.grownBy_alloc _ _ _)
  have HC : Hid (Calls Tryz.prog 57 #[.pointer (some ⟨b, 0, none⟩), .slice (some ⟨w1.heap.size, 0, none⟩) 1 1] w2 (fun e w' => ∃ a c n d A, e = .returned (.slice a n c) ∧ PkR w' (.slice a n c) n d ∧ Is A n d ∧ SetOf A (D t k) ∧ w.grownBy w' none)) := by
    have hone : PkR w2 (.slice (some ⟨w1.heap.size, 0, none⟩) 1 1) 1 (fun _ => k) := by rw [hw2]; exact one_row w1 k
    have hrt : ∀ x ∈ [k], Rt x := fun x hx => by rw [List.mem_singleton] at hx; rw [hx]; exact hk
    have hIs : Is [k] 1 (fun _ => k) := ⟨rfl, fun j hj => by
      have e : j = 0 := by omega
      subst e
      rfl⟩
    refine (all_any ok (szC t) t _ w2 (Nat.le_refl _) (RV_kept h g2) hok _ 1 (fun _ => k) [k] hone hIs (List.pairwise_singleton _ _) hrt).mono ?_
    intro e w' ho
    obtain ⟨a, c, n, d, h1, h2, h3, h4⟩ := ho.slice
    refine ⟨a, c, n, d, _, h1, h2, h3, (theS_set (hok.right hrt)).cong (fun y => ?_), grown_trans g2 h4⟩
    unfold allD
    simp
  obtain ⟨p0, p1, p2, p3, p4, p5⟩ := results2 B1
  rw [hw1] at hw2
  rw [z1] at HC
  unfold pkA at hw1 hw2
  unfold pkV pkA
  clear h g2 z1 B1 hw1
  go_enter Tryz.func18, Tryz.ntmps18
  go_wp2_with fail
  rw [← hw2]
  refine HC.out.mono ?_
  rintro e w3 ⟨a, c, n, d, A, rfl, hp, hi, hs, hg⟩
  have P := hide hp
  have I := hide hi
  have S := hide hs
  have G := hide hg
  clear hp hi hs hg HC hw2 p0 p1 p2 p3 p4 p5
  go_wp2
  go_ret
  exact ⟨a, c, n, d, A, rfl, P.out, I.out, S.out, G.out⟩
end Go.Proofs.YtlhkfafdioakeaaGreatDoor
