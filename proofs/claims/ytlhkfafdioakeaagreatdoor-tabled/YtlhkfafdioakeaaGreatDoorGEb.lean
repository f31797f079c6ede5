/- GEb: several parts, each with what it proves in plain words at its head. -/
import Derived.Test.YtlhkfafdioakeaaGreatDoorGDn
import Derived.Test.YtlhkfafdioakeaaGreatDoorGLh
/- Proved here: the document's merged: two sets in one. -/
namespace Go.Proofs.YtlhkfafdioakeaaGreatDoor
open Go.RowKit Go.Weft
set_option linter.unusedVariables false
set_option linter.unusedSimpArgs false
theorem Is.drop {L : List (Nat → Int)} {n : Nat} {d : Nat → Nat → Int} (h : Is L n d) {i : Nat} (hi : i < n) : L.drop i = d i :: L.drop (i + 1) := by
  have hl : i < L.length := by rw [h.len]; exact hi
  rw [List.drop_eq_getElem_cons hl]
  have h1 := h.get i hi
  rw [List.getElem?_eq_getElem hl] at h1
  rw [Option.some.inj h1]
theorem Is.past {L : List (Nat → Int)} {n : Nat} {d : Nat → Nat → Int} (h : Is L n d) {i : Nat} (hi : ¬ i < n) : L.drop i = [] := List.drop_of_length_le (by rw [h.len]; omega)
theorem Is.mem {L : List (Nat → Int)} {n : Nat} {d : Nat → Nat → Int} (h : Is L n d) {i : Nat} (hi : i < n) : d i ∈ L := List.mem_of_getElem? (h.get i hi)
theorem Is.more {L : List (Nat → Int)} {n : Nat} {d : Nat → Nat → Int} (h : Is L n d) (k : Nat → Int) : Is (L ++ [k]) (n + 1) (cat n d fun _ => k) := by
  refine ⟨by simp [h.len], fun j hj => ?_⟩
  unfold cat
  by_cases e : j < n
  · rw [if_pos e, List.getElem?_append_left (by rw [h.len]; exact e)]; exact h.get j e
  · rw [if_neg e, List.getElem?_append_right (by rw [h.len]; omega), h.len, show j - n = 0 by omega]; rfl
theorem Is.none (d : Nat → Nat → Int) : Is [] 0 d := ⟨rfl, fun j hj => by omega⟩
/-- What a call that makes a set leaves. -/
def SetO (L : List (Nat → Int)) (w : World) (e : Ending) (w' : World) : Prop := ∃ v n d, e = .returned v ∧ OwnV w.heap.size w' v n d ∧ Is L n d ∧ w.grownBy w' none
theorem mergeS_eq {x : Nat → Int} {a b : List (Nat → Int)} : mergeS (x :: a) (x :: b) = x :: mergeS a b := by rw [mergeS, if_pos rfl]
theorem mergeS_lt {x y : Nat → Int} {a b : List (Nat → Int)} (h : ltP x y) : mergeS (x :: a) (y :: b) = x :: mergeS a (y :: b) := by rw [mergeS, if_neg h.ne, if_pos h]
theorem mergeS_gt {x y : Nat → Int} {a b : List (Nat → Int)} (h : x ≠ y) (k : ¬ ltP x y) : mergeS (x :: a) (y :: b) = y :: mergeS (x :: a) b := by rw [mergeS, if_neg h, if_neg k]
theorem grew_one {w wr w1 w2 : World} {v v' : Value} {n : Nat} {d : Nat → Nat → Int} (hg : w.grownBy wr none) (ho : OwnV w.heap.size wr v n d) (h1 : wr.grownBy w1 none) (h2 : w1.grownBy w2 v.ownBlock) : w.grownBy w2 none :=
  grown_own (grown_trans hg h1) h2 (fun b hb => (ho.lt b hb).1)
set_option maxRecDepth 100000 in
set_option maxHeartbeats 8000000 in
theorem merged_any (va vb : Value) (na nb : Nat) (ps qs : Nat → Nat → Int) (A B : List (Nat → Int)) (w : World) (ha : PkR w va na ps) (hb : PkR w vb nb qs) (hA : Is A na ps) (hB : Is B nb qs) (hnA : ∀ x ∈ A, Nm x) (hnB : ∀ x ∈ B, Nm x) (hl : na + nb ≤ 1000000000000) :
    Calls Tryz.prog 102 #[va, vb] w (SetO (mergeS A B) w) := by
  obtain ⟨a, ca, rfl⟩ := ha.slice
  obtain ⟨b, cb, rfl⟩ := hb.slice
  have HPA := hide ha
  have HPB := hide hb
  have HIA := hide hA
  have HIB := hide hB
  have HNA := hide hnA
  have HNB := hide hnB
  have HQ : Hid (∀ e w', SetO (mergeS A B) w e w' ↔ ∃ v n d, e = .returned v ∧ OwnV w.heap.size w' v n d ∧ Is (mergeS A B) n d ∧ w.grownBy w' none) := fun _ _ => Iff.rfl
  clear ha hb hA hB hnA hnB
  generalize SetO (mergeS A B) w = Q at HQ ⊢
  go_enter Tryz.func102, Tryz.ntmps102
  go_wp2_with fail
  go_loopw [5, 6, 7] (fun s5 s6 s7 wr => ∃ (i k n : Nat) (d : Nat → Nat → Int) (O : List (Nat → Int)), i ≤ na ∧ k ≤ nb ∧ s6 = .int .i64 i ∧ s7 = .int .i64 k ∧ n ≤ i + k ∧ OwnV w.heap.size wr s5 n d ∧ Is O n d ∧ O ++ mergeS (A.drop i) (B.drop k) = mergeS A B ∧ w.grownBy wr none) (fun _ s6 s7 _ => (na - (intOf s6).toNat) + (nb - (intOf s7).toNat))
  case atStart => exact ⟨0, 0, 0, fun _ _ => 0, [], by omega, by omega, rfl, rfl, by omega, OwnV.nil _ _ _, Is.none _, rfl, grown_refl _ _⟩
  case round =>
    obtain ⟨i, k, n, d, O, hi, hk, rfl, rfl, hn, ho, hO, hm, hg⟩ := hrel
    obtain ⟨oa, oc, rfl⟩ := ho.slice
    have HOW := hide ho
    have HO := hide hO
    have HM := hide hm
    have HG := hide hg
    have hsz := hg.size
    clear ho hO hm hg
    by_cases hlt : i < na
    · by_cases hlt2 : k < nb
      have hltI : (i : Int) < na := by omega
      have hlt2I : (k : Int) < nb := by omega
      have hge : ¬ (nb : Int) ≤ k := by omega
      rcases HPA.out with ⟨_, _, _, h0, _⟩ | ⟨g, off, capg, hvg, _, hcellg⟩
      · omega
      cases hvg
      obtain ⟨x, hx⟩ : ∃ x, x = ps i := ⟨_, rfl⟩
      have CX : Hid (∀ wx, w.grownBy wx none → ∀ t, t < 6 → wx.cell? ⟨g, off + i * 6 + t, none⟩ = some (.int .i64 (x t))) := fun wx hgx t ht => by rw [hx]; exact hgx.cell (hcellg i (by omega) t ht) (by simp)
      clear hcellg
      rcases HPB.out with ⟨_, _, _, h0, _⟩ | ⟨g2, off2, capg2, hvg2, _, hcellg2⟩
      · omega
      cases hvg2
      obtain ⟨y, hy⟩ : ∃ y, y = qs k := ⟨_, rfl⟩
      have CY : Hid (∀ wx, w.grownBy wx none → ∀ t, t < 6 → wx.cell? ⟨g2, off2 + k * 6 + t, none⟩ = some (.int .i64 (y t))) := fun wx hgx t ht => by rw [hy]; exact hgx.cell (hcellg2 k (by omega) t ht) (by simp)
      clear hcellg2
      have DA : Hid (A.drop i = x :: A.drop (i + 1)) := by rw [hx]; exact HIA.out.drop hlt
      have DB : Hid (B.drop k = y :: B.drop (k + 1)) := by rw [hy]; exact HIB.out.drop hlt2
      have NX : Nm x := by rw [hx]; exact HNA.out _ (HIA.out.mem hlt)
      have NY : Nm y := by rw [hy]; exact HNB.out _ (HIB.out.mem hlt2)
      have LESS := hide (fun ww => less_any x y ww)
      unfold pkV pkA at LESS
      have cX := CX.out wr HG.out
      have cY := CY.out wr HG.out
      have c0 : wr.cell? ⟨g, off + i * 6, none⟩ = some (.int .i64 (x 0)) := cX 0 (by omega)
      have c1 : wr.cell? ⟨g, off + i * 6 + 1, none⟩ = some (.int .i64 (x 1)) := cX 1 (by omega)
      have c2 : wr.cell? ⟨g, off + i * 6 + 2, none⟩ = some (.int .i64 (x 2)) := cX 2 (by omega)
      have c3 : wr.cell? ⟨g, off + i * 6 + 3, none⟩ = some (.int .i64 (x 3)) := cX 3 (by omega)
      have c4 : wr.cell? ⟨g, off + i * 6 + 4, none⟩ = some (.int .i64 (x 4)) := cX 4 (by omega)
      have c5 : wr.cell? ⟨g, off + i * 6 + 5, none⟩ = some (.int .i64 (x 5)) := cX 5 (by omega)
      have d0 : wr.cell? ⟨g2, off2 + k * 6, none⟩ = some (.int .i64 (y 0)) := cY 0 (by omega)
      have d1 : wr.cell? ⟨g2, off2 + k * 6 + 1, none⟩ = some (.int .i64 (y 1)) := cY 1 (by omega)
      have d2 : wr.cell? ⟨g2, off2 + k * 6 + 2, none⟩ = some (.int .i64 (y 2)) := cY 2 (by omega)
      have d3 : wr.cell? ⟨g2, off2 + k * 6 + 3, none⟩ = some (.int .i64 (y 3)) := cY 3 (by omega)
      have d4 : wr.cell? ⟨g2, off2 + k * 6 + 4, none⟩ = some (.int .i64 (y 4)) := cY 4 (by omega)
      have d5 : wr.cell? ⟨g2, off2 + k * 6 + 5, none⟩ = some (.int .i64 (y 5)) := cY 5 (by omega)
      clear hx hy cX cY
      by_cases hxy : x = y
      · have he : eq6 (x 0) (x 1) (x 2) (x 3) (x 4) (x 5) (y 0) (y 1) (y 2) (y 3) (y 4) (y 5) = true := eq6_true ((cmpP_zero x y).2 (fun t _ => by rw [hxy]))
        have HXY := hide hxy
        clear hxy NX NY
        go_upto_region 7 with fail
        go_region_with (go_at_call 153; refine (LESS.out _).mono ?_; rintro e w2 ⟨⟨bb, rfl, hbb⟩, g2'⟩; have G2 := hide (grown_trans HG.out (show wr.grownBy w2 none by first | exact grown_undrew g2' | exact g2')); have OW := hide (HOW.out.grown (show wr.grownBy w2 none by first | exact grown_undrew g2' | exact g2') (fun b e => by cases e)); obtain rfl : bb = false := (by cases bb with | false => rfl | true => exact absurd (hbb.1 rfl) (by rw [HXY.out]; exact ltP.irrefl y)); have cX2 := CX.out w2 G2.out; have cY2 := CY.out w2 G2.out; have e0 : w2.cell? ⟨g, off + i * 6, none⟩ = some (.int .i64 (x 0)) := cX2 0 (by omega); have e1 : w2.cell? ⟨g, off + i * 6 + 1, none⟩ = some (.int .i64 (x 1)) := cX2 1 (by omega); have e2 : w2.cell? ⟨g, off + i * 6 + 2, none⟩ = some (.int .i64 (x 2)) := cX2 2 (by omega); have e3 : w2.cell? ⟨g, off + i * 6 + 3, none⟩ = some (.int .i64 (x 3)) := cX2 3 (by omega); have e4 : w2.cell? ⟨g, off + i * 6 + 4, none⟩ = some (.int .i64 (x 4)) := cX2 4 (by omega); have e5 : w2.cell? ⟨g, off + i * 6 + 5, none⟩ = some (.int .i64 (x 5)) := cX2 5 (by omega); have f0 : w2.cell? ⟨g2, off2 + k * 6, none⟩ = some (.int .i64 (y 0)) := cY2 0 (by omega); have f1 : w2.cell? ⟨g2, off2 + k * 6 + 1, none⟩ = some (.int .i64 (y 1)) := cY2 1 (by omega); have f2 : w2.cell? ⟨g2, off2 + k * 6 + 2, none⟩ = some (.int .i64 (y 2)) := cY2 2 (by omega); have f3 : w2.cell? ⟨g2, off2 + k * 6 + 3, none⟩ = some (.int .i64 (y 3)) := cY2 3 (by omega); have f4 : w2.cell? ⟨g2, off2 + k * 6 + 4, none⟩ = some (.int .i64 (y 4)) := cY2 4 (by omega); have f5 : w2.cell? ⟨g2, off2 + k * 6 + 5, none⟩ = some (.int .i64 (y 5)) := cY2 5 (by omega); clear cX2 cY2 g2' hbb)
        all_goals
          go_wp2_with fail
          go_quiet (fail)
          have GW := hide (grown_drewN G2.out nq)
          have OW := hide (OW.out.grown (grown_drewN (grown_refl w2 none) nq) (fun b e => by cases e))
          clear e0 e1 e2 e3 e4 e5 f0 f1 f2 f3 f4 f5
          obtain ⟨w3, hw3⟩ : ∃ w3, w3 = w2.drewN nq := ⟨_, rfl⟩
          rw [← hw3] at GW OW
          rw [← hw3]
          clear hw3
          have cZ := CX.out w3 GW.out
          have h0 : w3.cell? ⟨g, off + i * 6, none⟩ = some (.int .i64 (x 0)) := cZ 0 (by omega)
          have h1 : w3.cell? ⟨g, off + i * 6 + 1, none⟩ = some (.int .i64 (x 1)) := cZ 1 (by omega)
          have h2 : w3.cell? ⟨g, off + i * 6 + 2, none⟩ = some (.int .i64 (x 2)) := cZ 2 (by omega)
          have h3 : w3.cell? ⟨g, off + i * 6 + 3, none⟩ = some (.int .i64 (x 3)) := cZ 3 (by omega)
          have h4 : w3.cell? ⟨g, off + i * 6 + 4, none⟩ = some (.int .i64 (x 4)) := cZ 4 (by omega)
          have h5 : w3.cell? ⟨g, off + i * 6 + 5, none⟩ = some (.int .i64 (x 5)) := cZ 5 (by omega)
          clear cZ
          have HR := hide (one_row w3 x)
          unfold pkA at HR
          go_wp2_with (at_builtin; refine wpList_append_pk _ rfl _ _ rfl w.heap.size (.slice oa n oc) n d rfl (OW.out.grown (World.grownBy_alloc _ _ none) (fun b e => by cases e)) _ 1 (fun _ => x) rfl HR.out (by omega) (by have := GW.out.size; simp; omega) ?_)
          intro v5 w5 o5 g5 _
          obtain ⟨a5, q5, rfl⟩ := o5.slice
          have G5 := hide (grew_one (v' := .slice a5 (n + 1) q5) GW.out OW.out (World.grownBy_alloc _ _ none) g5)
          have O5 := hide o5
          clear o5 g5
          go_wp2_with fail
          exact ⟨⟨i + 1, k + 1, n + 1, _, O ++ [x], by omega, by omega, by go_num, by go_num, by omega, O5.out, HO.out.more x, by rw [← HM.out, List.append_assoc]; congr 1; rw [DA.out, DB.out, ← HXY.out, mergeS_eq]; rfl, G5.out⟩, by simp [intOf]; omega⟩
      · by_cases hlt3 : ltP x y
        · have he : eq6 (x 0) (x 1) (x 2) (x 3) (x 4) (x 5) (y 0) (y 1) (y 2) (y 3) (y 4) (y 5) = false := eq6_false (fun h => hxy (NX.ext NY ((cmpP_zero x y).1 h)))
          have HXY := hide hxy
          have HLT := hide hlt3
          clear hxy hlt3 NX NY
          go_upto_region 7 with fail
          go_region_with (go_at_call 153; refine (LESS.out _).mono ?_; rintro e w2 ⟨⟨bb, rfl, hbb⟩, g2'⟩; have G2 := hide (grown_trans HG.out (show wr.grownBy w2 none by first | exact grown_undrew g2' | exact g2')); have OW := hide (HOW.out.grown (show wr.grownBy w2 none by first | exact grown_undrew g2' | exact g2') (fun b e => by cases e)); obtain rfl : bb = true := hbb.2 HLT.out; have cX2 := CX.out w2 G2.out; have cY2 := CY.out w2 G2.out; have e0 : w2.cell? ⟨g, off + i * 6, none⟩ = some (.int .i64 (x 0)) := cX2 0 (by omega); have e1 : w2.cell? ⟨g, off + i * 6 + 1, none⟩ = some (.int .i64 (x 1)) := cX2 1 (by omega); have e2 : w2.cell? ⟨g, off + i * 6 + 2, none⟩ = some (.int .i64 (x 2)) := cX2 2 (by omega); have e3 : w2.cell? ⟨g, off + i * 6 + 3, none⟩ = some (.int .i64 (x 3)) := cX2 3 (by omega); have e4 : w2.cell? ⟨g, off + i * 6 + 4, none⟩ = some (.int .i64 (x 4)) := cX2 4 (by omega); have e5 : w2.cell? ⟨g, off + i * 6 + 5, none⟩ = some (.int .i64 (x 5)) := cX2 5 (by omega); have f0 : w2.cell? ⟨g2, off2 + k * 6, none⟩ = some (.int .i64 (y 0)) := cY2 0 (by omega); have f1 : w2.cell? ⟨g2, off2 + k * 6 + 1, none⟩ = some (.int .i64 (y 1)) := cY2 1 (by omega); have f2 : w2.cell? ⟨g2, off2 + k * 6 + 2, none⟩ = some (.int .i64 (y 2)) := cY2 2 (by omega); have f3 : w2.cell? ⟨g2, off2 + k * 6 + 3, none⟩ = some (.int .i64 (y 3)) := cY2 3 (by omega); have f4 : w2.cell? ⟨g2, off2 + k * 6 + 4, none⟩ = some (.int .i64 (y 4)) := cY2 4 (by omega); have f5 : w2.cell? ⟨g2, off2 + k * 6 + 5, none⟩ = some (.int .i64 (y 5)) := cY2 5 (by omega); clear cX2 cY2 g2' hbb)
          all_goals
            go_wp2_with fail
            go_quiet (fail)
            have GW := hide (grown_drewN G2.out nq)
            have OW := hide (OW.out.grown (grown_drewN (grown_refl w2 none) nq) (fun b e => by cases e))
            clear e0 e1 e2 e3 e4 e5 f0 f1 f2 f3 f4 f5
            obtain ⟨w3, hw3⟩ : ∃ w3, w3 = w2.drewN nq := ⟨_, rfl⟩
            rw [← hw3] at GW OW
            rw [← hw3]
            clear hw3
            have cZ := CX.out w3 GW.out
            have h0 : w3.cell? ⟨g, off + i * 6, none⟩ = some (.int .i64 (x 0)) := cZ 0 (by omega)
            have h1 : w3.cell? ⟨g, off + i * 6 + 1, none⟩ = some (.int .i64 (x 1)) := cZ 1 (by omega)
            have h2 : w3.cell? ⟨g, off + i * 6 + 2, none⟩ = some (.int .i64 (x 2)) := cZ 2 (by omega)
            have h3 : w3.cell? ⟨g, off + i * 6 + 3, none⟩ = some (.int .i64 (x 3)) := cZ 3 (by omega)
            have h4 : w3.cell? ⟨g, off + i * 6 + 4, none⟩ = some (.int .i64 (x 4)) := cZ 4 (by omega)
            have h5 : w3.cell? ⟨g, off + i * 6 + 5, none⟩ = some (.int .i64 (x 5)) := cZ 5 (by omega)
            clear cZ
            have HR := hide (one_row w3 x)
            unfold pkA at HR
            go_wp2_with (at_builtin; refine wpList_append_pk _ rfl _ _ rfl w.heap.size (.slice oa n oc) n d rfl (OW.out.grown (World.grownBy_alloc _ _ none) (fun b e => by cases e)) _ 1 (fun _ => x) rfl HR.out (by omega) (by have := GW.out.size; simp; omega) ?_)
            intro v5 w5 o5 g5 _
            obtain ⟨a5, q5, rfl⟩ := o5.slice
            have G5 := hide (grew_one (v' := .slice a5 (n + 1) q5) GW.out OW.out (World.grownBy_alloc _ _ none) g5)
            have O5 := hide o5
            clear o5 g5
            go_wp2_with fail
            exact ⟨⟨i + 1, k, n + 1, _, O ++ [x], by omega, by omega, by go_num, by go_num, by omega, O5.out, HO.out.more x, by rw [← HM.out, List.append_assoc]; congr 1; rw [DA.out, DB.out, mergeS_lt HLT.out]; rfl, G5.out⟩, by simp [intOf]; omega⟩
        · have he : eq6 (x 0) (x 1) (x 2) (x 3) (x 4) (x 5) (y 0) (y 1) (y 2) (y 3) (y 4) (y 5) = false := eq6_false (fun h => hxy (NX.ext NY ((cmpP_zero x y).1 h)))
          have HXY := hide hxy
          have HLT := hide hlt3
          clear hxy hlt3 NX NY
          go_upto_region 7 with fail
          go_region_with (go_at_call 153; refine (LESS.out _).mono ?_; rintro e w2 ⟨⟨bb, rfl, hbb⟩, g2'⟩; have G2 := hide (grown_trans HG.out (show wr.grownBy w2 none by first | exact grown_undrew g2' | exact g2')); have OW := hide (HOW.out.grown (show wr.grownBy w2 none by first | exact grown_undrew g2' | exact g2') (fun b e => by cases e)); obtain rfl : bb = false := (by cases bb with | false => rfl | true => exact absurd (hbb.1 rfl) HLT.out); have cX2 := CX.out w2 G2.out; have cY2 := CY.out w2 G2.out; have e0 : w2.cell? ⟨g, off + i * 6, none⟩ = some (.int .i64 (x 0)) := cX2 0 (by omega); have e1 : w2.cell? ⟨g, off + i * 6 + 1, none⟩ = some (.int .i64 (x 1)) := cX2 1 (by omega); have e2 : w2.cell? ⟨g, off + i * 6 + 2, none⟩ = some (.int .i64 (x 2)) := cX2 2 (by omega); have e3 : w2.cell? ⟨g, off + i * 6 + 3, none⟩ = some (.int .i64 (x 3)) := cX2 3 (by omega); have e4 : w2.cell? ⟨g, off + i * 6 + 4, none⟩ = some (.int .i64 (x 4)) := cX2 4 (by omega); have e5 : w2.cell? ⟨g, off + i * 6 + 5, none⟩ = some (.int .i64 (x 5)) := cX2 5 (by omega); have f0 : w2.cell? ⟨g2, off2 + k * 6, none⟩ = some (.int .i64 (y 0)) := cY2 0 (by omega); have f1 : w2.cell? ⟨g2, off2 + k * 6 + 1, none⟩ = some (.int .i64 (y 1)) := cY2 1 (by omega); have f2 : w2.cell? ⟨g2, off2 + k * 6 + 2, none⟩ = some (.int .i64 (y 2)) := cY2 2 (by omega); have f3 : w2.cell? ⟨g2, off2 + k * 6 + 3, none⟩ = some (.int .i64 (y 3)) := cY2 3 (by omega); have f4 : w2.cell? ⟨g2, off2 + k * 6 + 4, none⟩ = some (.int .i64 (y 4)) := cY2 4 (by omega); have f5 : w2.cell? ⟨g2, off2 + k * 6 + 5, none⟩ = some (.int .i64 (y 5)) := cY2 5 (by omega); clear cX2 cY2 g2' hbb)
          all_goals
            go_wp2_with fail
            go_quiet (fail)
            have GW := hide (grown_drewN G2.out nq)
            have OW := hide (OW.out.grown (grown_drewN (grown_refl w2 none) nq) (fun b e => by cases e))
            clear e0 e1 e2 e3 e4 e5 f0 f1 f2 f3 f4 f5
            obtain ⟨w3, hw3⟩ : ∃ w3, w3 = w2.drewN nq := ⟨_, rfl⟩
            rw [← hw3] at GW OW
            rw [← hw3]
            clear hw3
            have cZ := CY.out w3 GW.out
            have h0 : w3.cell? ⟨g2, off2 + k * 6, none⟩ = some (.int .i64 (y 0)) := cZ 0 (by omega)
            have h1 : w3.cell? ⟨g2, off2 + k * 6 + 1, none⟩ = some (.int .i64 (y 1)) := cZ 1 (by omega)
            have h2 : w3.cell? ⟨g2, off2 + k * 6 + 2, none⟩ = some (.int .i64 (y 2)) := cZ 2 (by omega)
            have h3 : w3.cell? ⟨g2, off2 + k * 6 + 3, none⟩ = some (.int .i64 (y 3)) := cZ 3 (by omega)
            have h4 : w3.cell? ⟨g2, off2 + k * 6 + 4, none⟩ = some (.int .i64 (y 4)) := cZ 4 (by omega)
            have h5 : w3.cell? ⟨g2, off2 + k * 6 + 5, none⟩ = some (.int .i64 (y 5)) := cZ 5 (by omega)
            clear cZ
            have HR := hide (one_row w3 y)
            unfold pkA at HR
            go_wp2_with (at_builtin; refine wpList_append_pk _ rfl _ _ rfl w.heap.size (.slice oa n oc) n d rfl (OW.out.grown (World.grownBy_alloc _ _ none) (fun b e => by cases e)) _ 1 (fun _ => y) rfl HR.out (by omega) (by have := GW.out.size; simp; omega) ?_)
            intro v5 w5 o5 g5 _
            obtain ⟨a5, q5, rfl⟩ := o5.slice
            have G5 := hide (grew_one (v' := .slice a5 (n + 1) q5) GW.out OW.out (World.grownBy_alloc _ _ none) g5)
            have O5 := hide o5
            clear o5 g5
            go_wp2_with fail
            exact ⟨⟨i, k + 1, n + 1, _, O ++ [y], by omega, by omega, by go_num, by go_num, by omega, O5.out, HO.out.more y, by rw [← HM.out, List.append_assoc]; congr 1; rw [DA.out, DB.out, mergeS_gt HXY.out HLT.out]; rfl, G5.out⟩, by simp [intOf]; omega⟩
      · have hltI : (i : Int) < na := by omega
        have hgeI : (nb : Int) ≤ k := by omega
        have hlt2I : ¬ (k : Int) < nb := by omega
        rcases HPA.out with ⟨_, _, _, h0, _⟩ | ⟨g, off, capg, hvg, _, hcellg⟩
        · omega
        cases hvg
        obtain ⟨x, hx⟩ : ∃ x, x = ps i := ⟨_, rfl⟩
        have CX : Hid (∀ wx, w.grownBy wx none → ∀ t, t < 6 → wx.cell? ⟨g, off + i * 6 + t, none⟩ = some (.int .i64 (x t))) := fun wx hgx t ht => by rw [hx]; exact hgx.cell (hcellg i (by omega) t ht) (by simp)
        clear hcellg
        have DA : Hid (A.drop i = x :: A.drop (i + 1)) := by rw [hx]; exact HIA.out.drop hlt
        have DB : Hid (B.drop k = []) := HIB.out.past hlt2
        have cX := CX.out wr HG.out
        have c0 : wr.cell? ⟨g, off + i * 6, none⟩ = some (.int .i64 (x 0)) := cX 0 (by omega)
        have c1 : wr.cell? ⟨g, off + i * 6 + 1, none⟩ = some (.int .i64 (x 1)) := cX 1 (by omega)
        have c2 : wr.cell? ⟨g, off + i * 6 + 2, none⟩ = some (.int .i64 (x 2)) := cX 2 (by omega)
        have c3 : wr.cell? ⟨g, off + i * 6 + 3, none⟩ = some (.int .i64 (x 3)) := cX 3 (by omega)
        have c4 : wr.cell? ⟨g, off + i * 6 + 4, none⟩ = some (.int .i64 (x 4)) := cX 4 (by omega)
        have c5 : wr.cell? ⟨g, off + i * 6 + 5, none⟩ = some (.int .i64 (x 5)) := cX 5 (by omega)
        clear hx cX
        go_wp2_with fail
        go_quiet (fail)
        have GW := hide (grown_drewN HG.out nq)
        have OW := hide (HOW.out.grown (grown_drewN (grown_refl wr none) nq) (fun b e => by cases e))
        obtain ⟨w3, hw3⟩ : ∃ w3, w3 = wr.drewN nq := ⟨_, rfl⟩
        rw [← hw3] at GW OW
        rw [← hw3]
        clear hw3 c0 c1 c2 c3 c4 c5
        have cZ := CX.out w3 GW.out
        have h0 : w3.cell? ⟨g, off + i * 6, none⟩ = some (.int .i64 (x 0)) := cZ 0 (by omega)
        have h1 : w3.cell? ⟨g, off + i * 6 + 1, none⟩ = some (.int .i64 (x 1)) := cZ 1 (by omega)
        have h2 : w3.cell? ⟨g, off + i * 6 + 2, none⟩ = some (.int .i64 (x 2)) := cZ 2 (by omega)
        have h3 : w3.cell? ⟨g, off + i * 6 + 3, none⟩ = some (.int .i64 (x 3)) := cZ 3 (by omega)
        have h4 : w3.cell? ⟨g, off + i * 6 + 4, none⟩ = some (.int .i64 (x 4)) := cZ 4 (by omega)
        have h5 : w3.cell? ⟨g, off + i * 6 + 5, none⟩ = some (.int .i64 (x 5)) := cZ 5 (by omega)
        clear cZ
        have HR := hide (one_row w3 x)
        unfold pkA at HR
        go_wp2_with (at_builtin; refine wpList_append_pk _ rfl _ _ rfl w.heap.size (.slice oa n oc) n d rfl (OW.out.grown (World.grownBy_alloc _ _ none) (fun b e => by cases e)) _ 1 (fun _ => x) rfl HR.out (by omega) (by have := GW.out.size; simp; omega) ?_)
        intro v5 w5 o5 g5 _
        obtain ⟨a5, q5, rfl⟩ := o5.slice
        have G5 := hide (grew_one (v' := .slice a5 (n + 1) q5) GW.out OW.out (World.grownBy_alloc _ _ none) g5)
        have O5 := hide o5
        clear o5 g5
        go_wp2_with fail
        exact ⟨⟨i + 1, k, n + 1, _, O ++ [x], by omega, by omega, by go_num, by go_num, by omega, O5.out, HO.out.more x, by rw [← HM.out, List.append_assoc]; congr 1; rw [DA.out, DB.out, mergeS_nil, mergeS_nil]; rfl, G5.out⟩, by simp [intOf]; omega⟩
    · by_cases hlt2 : k < nb
      · have hltI : ¬ (i : Int) < na := by omega
        have hlt2I : (k : Int) < nb := by omega
        have hge : ¬ (nb : Int) ≤ k := by omega
        rcases HPB.out with ⟨_, _, _, h0, _⟩ | ⟨g2, off2, capg2, hvg2, _, hcellg2⟩
        · omega
        cases hvg2
        obtain ⟨y, hy⟩ : ∃ y, y = qs k := ⟨_, rfl⟩
        have CY : Hid (∀ wx, w.grownBy wx none → ∀ t, t < 6 → wx.cell? ⟨g2, off2 + k * 6 + t, none⟩ = some (.int .i64 (y t))) := fun wx hgx t ht => by rw [hy]; exact hgx.cell (hcellg2 k (by omega) t ht) (by simp)
        clear hcellg2
        have DB : Hid (B.drop k = y :: B.drop (k + 1)) := by rw [hy]; exact HIB.out.drop hlt2
        have DA : Hid (A.drop i = []) := HIA.out.past hlt
        have cY := CY.out wr HG.out
        have d0 : wr.cell? ⟨g2, off2 + k * 6, none⟩ = some (.int .i64 (y 0)) := cY 0 (by omega)
        have d1 : wr.cell? ⟨g2, off2 + k * 6 + 1, none⟩ = some (.int .i64 (y 1)) := cY 1 (by omega)
        have d2 : wr.cell? ⟨g2, off2 + k * 6 + 2, none⟩ = some (.int .i64 (y 2)) := cY 2 (by omega)
        have d3 : wr.cell? ⟨g2, off2 + k * 6 + 3, none⟩ = some (.int .i64 (y 3)) := cY 3 (by omega)
        have d4 : wr.cell? ⟨g2, off2 + k * 6 + 4, none⟩ = some (.int .i64 (y 4)) := cY 4 (by omega)
        have d5 : wr.cell? ⟨g2, off2 + k * 6 + 5, none⟩ = some (.int .i64 (y 5)) := cY 5 (by omega)
        clear hy cY
        go_wp2_with fail
        go_quiet (fail)
        have GW := hide (grown_drewN HG.out nq)
        have OW := hide (HOW.out.grown (grown_drewN (grown_refl wr none) nq) (fun b e => by cases e))
        obtain ⟨w3, hw3⟩ : ∃ w3, w3 = wr.drewN nq := ⟨_, rfl⟩
        rw [← hw3] at GW OW
        rw [← hw3]
        clear hw3 d0 d1 d2 d3 d4 d5
        have cZ := CY.out w3 GW.out
        have h0 : w3.cell? ⟨g2, off2 + k * 6, none⟩ = some (.int .i64 (y 0)) := cZ 0 (by omega)
        have h1 : w3.cell? ⟨g2, off2 + k * 6 + 1, none⟩ = some (.int .i64 (y 1)) := cZ 1 (by omega)
        have h2 : w3.cell? ⟨g2, off2 + k * 6 + 2, none⟩ = some (.int .i64 (y 2)) := cZ 2 (by omega)
        have h3 : w3.cell? ⟨g2, off2 + k * 6 + 3, none⟩ = some (.int .i64 (y 3)) := cZ 3 (by omega)
        have h4 : w3.cell? ⟨g2, off2 + k * 6 + 4, none⟩ = some (.int .i64 (y 4)) := cZ 4 (by omega)
        have h5 : w3.cell? ⟨g2, off2 + k * 6 + 5, none⟩ = some (.int .i64 (y 5)) := cZ 5 (by omega)
        clear cZ
        have HR := hide (one_row w3 y)
        unfold pkA at HR
        go_wp2_with (at_builtin; refine wpList_append_pk _ rfl _ _ rfl w.heap.size (.slice oa n oc) n d rfl (OW.out.grown (World.grownBy_alloc _ _ none) (fun b e => by cases e)) _ 1 (fun _ => y) rfl HR.out (by omega) (by have := GW.out.size; simp; omega) ?_)
        intro v5 w5 o5 g5 _
        obtain ⟨a5, q5, rfl⟩ := o5.slice
        have G5 := hide (grew_one (v' := .slice a5 (n + 1) q5) GW.out OW.out (World.grownBy_alloc _ _ none) g5)
        have O5 := hide o5
        clear o5 g5
        go_wp2_with fail
        exact ⟨⟨i, k + 1, n + 1, _, O ++ [y], by omega, by omega, by go_num, by go_num, by omega, O5.out, HO.out.more y, by rw [← HM.out, List.append_assoc]; congr 1; rw [DA.out, DB.out, nil_mergeS, nil_mergeS]; rfl, G5.out⟩, by simp [intOf]; omega⟩
      · have hltI : ¬ (i : Int) < na := by omega
        have hlt2I : ¬ (k : Int) < nb := by omega
        go_wp2
        refine (HQ.out _ _).2 ⟨_, n, d, rfl, HOW.out, ?_, HG.out⟩
        have := HM.out
        rw [HIA.out.past hlt, HIB.out.past hlt2, nil_mergeS, List.append_nil] at this
        rw [← this]
        exact HO.out
end Go.Proofs.YtlhkfafdioakeaaGreatDoor
/- Proved here: the document's without: the packets of a set that are not in another one. -/
namespace Go.Proofs.YtlhkfafdioakeaaGreatDoor
open Go.RowKit Go.Weft
set_option linter.unusedVariables false
set_option linter.unusedSimpArgs false
theorem in_at {B : List (Nat → Int)} {nb : Nat} {qs : Nat → Nat → Int} (hB : Is B nb qs) (hs : Srt B) {k : Nat} {x : Nat → Int} (h1 : ∀ t, t < k → ltP (qs t) x) (h2 : k < nb → ¬ ltP (qs k) x) : x ∈ B ↔ k < nb ∧ qs k = x := by
  constructor
  · intro hx
    obtain ⟨t, ht, e⟩ := List.getElem_of_mem hx
    have htn : t < nb := by rw [← hB.len]; exact ht
    have e2 : qs t = x := by
      have := hB.get t htn
      rw [List.getElem?_eq_getElem ht, e] at this
      exact (Option.some.inj this).symm
    rcases Nat.lt_trichotomy t k with h | h | h
    · have := h1 t h
      rw [e2] at this
      exact absurd this (ltP.irrefl x)
    · subst h; exact ⟨htn, e2⟩
    · exfalso
      have hk : k < nb := by omega
      apply h2 hk
      have := hs.get h ht
      have ek : B[k]'(by omega) = qs k := by
        have h3 := hB.get k hk
        rw [List.getElem?_eq_getElem (by omega)] at h3
        exact Option.some.inj h3
      rw [ek, e] at this
      exact this
  · rintro ⟨hk, rfl⟩
    exact hB.mem hk
theorem lessS_step {A B : List (Nat → Int)} {na : Nat} {ps : Nat → Nat → Int} (hA : Is A na ps) {i : Nat} (hi : i < na) : (ps i ∈ B → lessS (A.take (i + 1)) B = lessS (A.take i) B) ∧ (ps i ∉ B → lessS (A.take (i + 1)) B = lessS (A.take i) B ++ [ps i]) := by
  have e : A.take (i + 1) = A.take i ++ [ps i] := by rw [List.take_add_one, hA.get i hi]; rfl
  unfold lessS
  rw [e, List.filter_append]
  constructor
  · intro h
    simp [h]
  · intro h
    simp [h]
set_option maxRecDepth 100000 in
set_option maxHeartbeats 8000000 in
theorem without_any (va vb : Value) (na nb : Nat) (ps qs : Nat → Nat → Int) (A B : List (Nat → Int)) (w : World) (ha : PkR w va na ps) (hb : PkR w vb nb qs) (hA : Is A na ps) (hB : Is B nb qs) (hnA : ∀ x ∈ A, Nm x) (hnB : ∀ x ∈ B, Nm x) (hsA : Srt A) (hsB : Srt B) (hl : na + nb ≤ 1000000000000) :
    Calls Tryz.prog 101 #[va, vb] w (SetO (lessS A B) w) := by
  obtain ⟨a, ca, rfl⟩ := ha.slice
  obtain ⟨b, cb, rfl⟩ := hb.slice
  have HPA := hide ha
  have HPB := hide hb
  have HIA := hide hA
  have HIB := hide hB
  have HNA := hide hnA
  have HNB := hide hnB
  have HSA := hide hsA
  have HSB := hide hsB
  have HQ : Hid (∀ e w', SetO (lessS A B) w e w' ↔ ∃ v n d, e = .returned v ∧ OwnV w.heap.size w' v n d ∧ Is (lessS A B) n d ∧ w.grownBy w' none) := fun _ _ => Iff.rfl
  clear ha hb hA hB hnA hnB hsA hsB
  generalize SetO (lessS A B) w = Q at HQ ⊢
  go_enter Tryz.func101, Tryz.ntmps101
  go_wp2_with fail
  go_loopw [5, 6, 7] (fun s5 s6 s7 wr => ∃ (i k n : Nat) (d : Nat → Nat → Int), i ≤ na ∧ k ≤ nb ∧ s6 = .int .i64 k ∧ s7 = .int .i64 i ∧ n ≤ i ∧ OwnV w.heap.size wr s5 n d ∧ Is (lessS (A.take i) B) n d ∧ (∀ t, t < k → ∀ s, i ≤ s → s < na → ltP (qs t) (ps s)) ∧ w.grownBy wr none) (fun _ _ s7 _ => na - (intOf s7).toNat)
  case atStart => exact ⟨0, 0, 0, fun _ _ => 0, by omega, by omega, rfl, rfl, by omega, OwnV.nil _ _ _, Is.none _, fun t ht => by omega, grown_refl _ _⟩
  case round =>
    obtain ⟨i, k, n, d, hi, hk, rfl, rfl, hn, ho, hO, hm, hg⟩ := hrel
    obtain ⟨oa, oc, rfl⟩ := ho.slice
    have HOW := hide ho
    have HO := hide hO
    have HM := hide hm
    have HG := hide hg
    have hsz := hg.size
    clear ho hO hm hg
    by_cases hlt : i < na
    · have hltI : (i : Int) < na := by omega
      rcases HPA.out with ⟨_, _, _, h0, _⟩ | ⟨g, off, capg, hvg, _, hcellg⟩
      · omega
      cases hvg
      obtain ⟨x, hx⟩ : ∃ x, x = ps i := ⟨_, rfl⟩
      have CX : Hid (∀ wx, w.grownBy wx none → ∀ t, t < 6 → wx.cell? ⟨g, off + i * 6 + t, none⟩ = some (.int .i64 (x t))) := fun wx hgx t ht => by rw [hx]; exact hgx.cell (hcellg i (by omega) t ht) (by simp)
      clear hcellg
      have HX := hide hx
      have HL : Hid (∀ t, t < k → ltP (qs t) x) := fun t ht => by rw [HX.out]; exact HM.out t ht i (Nat.le_refl _) hlt
      have STP := hide (lessS_step (B := B) HIA.out hlt)
      rw [← hx] at STP
      clear hx
      go_wp2_with fail
      go_loopw [6] (fun s6 wq => ∃ (k2 : Nat), k2 ≤ nb ∧ s6 = .int .i64 k2 ∧ (∀ t, t < k2 → ltP (qs t) x) ∧ OwnV w.heap.size wq (.slice oa n oc) n d ∧ w.grownBy wq none) (fun s6 _ => nb - (intOf s6).toNat)
      case atStart => exact ⟨k, hk, rfl, HL.out, HOW.out, HG.out⟩
      case round =>
        obtain ⟨k2, hk2, rfl, hall, ho2, hg2⟩ := hrel
        have HALL := hide hall
        have HOW2 := hide ho2
        have HG2 := hide hg2
        have hsz2 := hg2.size
        have NXT : Hid (∀ t, t < k2 → ∀ s, i + 1 ≤ s → s < na → ltP (qs t) (ps s)) := fun t ht s h1 h2 => by
          have h3 := HALL.out t ht
          have h4 := HSA.out.get (show i < s by omega) (by rw [HIA.out.len]; exact h2)
          have ei : A[i]'(by rw [HIA.out.len]; exact hlt) = ps i := by
            have h5 := HIA.out.get i hlt
            rw [List.getElem?_eq_getElem (by rw [HIA.out.len]; exact hlt)] at h5
            exact Option.some.inj h5
          have es : A[s]'(by rw [HIA.out.len]; exact h2) = ps s := by
            have h5 := HIA.out.get s h2
            rw [List.getElem?_eq_getElem (by rw [HIA.out.len]; exact h2)] at h5
            exact Option.some.inj h5
          rw [ei, es, ← HX.out] at h4
          exact h3.trans h4
        clear hall ho2 hg2 HOW HG HL HM
        by_cases hlt2 : k2 < nb
        · have hlt2I : (k2 : Int) < nb := by omega
          have hge : ¬ (nb : Int) ≤ k2 := by omega
          rcases HPB.out with ⟨_, _, _, h0, _⟩ | ⟨g2, off2, capg2, hvg2, _, hcellg2⟩
          · omega
          cases hvg2
          obtain ⟨y, hy⟩ : ∃ y, y = qs k2 := ⟨_, rfl⟩
          have CY : Hid (∀ wx, w.grownBy wx none → ∀ t, t < 6 → wx.cell? ⟨g2, off2 + k2 * 6 + t, none⟩ = some (.int .i64 (y t))) := fun wx hgx t ht => by rw [hy]; exact hgx.cell (hcellg2 k2 (by omega) t ht) (by simp)
          clear hcellg2
          have NX : Nm x := by rw [HX.out]; exact HNA.out _ (HIA.out.mem hlt)
          have NY : Nm y := by rw [hy]; exact HNB.out _ (HIB.out.mem hlt2)
          have INA : Hid (¬ ltP y x → (x ∈ B ↔ y = x)) := fun hnl => by
            rw [in_at HIB.out HSB.out HALL.out (fun _ => by rw [← hy]; exact hnl), ← hy]
            exact ⟨fun h => h.2, fun h => ⟨hlt2, h⟩⟩
          have HALL2 : Hid (ltP y x → ∀ t, t < k2 + 1 → ltP (qs t) x) := fun hl2 t ht => by
            by_cases e : t = k2
            · subst e; rw [← hy]; exact hl2
            · exact HALL.out t (by omega)
          have LESS := hide (fun ww => less_any y x ww)
          unfold pkV pkA at LESS
          have cX := CX.out wr HG2.out
          have cY := CY.out wr HG2.out
          have c0 : wr.cell? ⟨g, off + i * 6, none⟩ = some (.int .i64 (x 0)) := cX 0 (by omega)
          have c1 : wr.cell? ⟨g, off + i * 6 + 1, none⟩ = some (.int .i64 (x 1)) := cX 1 (by omega)
          have c2 : wr.cell? ⟨g, off + i * 6 + 2, none⟩ = some (.int .i64 (x 2)) := cX 2 (by omega)
          have c3 : wr.cell? ⟨g, off + i * 6 + 3, none⟩ = some (.int .i64 (x 3)) := cX 3 (by omega)
          have c4 : wr.cell? ⟨g, off + i * 6 + 4, none⟩ = some (.int .i64 (x 4)) := cX 4 (by omega)
          have c5 : wr.cell? ⟨g, off + i * 6 + 5, none⟩ = some (.int .i64 (x 5)) := cX 5 (by omega)
          have d0 : wr.cell? ⟨g2, off2 + k2 * 6, none⟩ = some (.int .i64 (y 0)) := cY 0 (by omega)
          have d1 : wr.cell? ⟨g2, off2 + k2 * 6 + 1, none⟩ = some (.int .i64 (y 1)) := cY 1 (by omega)
          have d2 : wr.cell? ⟨g2, off2 + k2 * 6 + 2, none⟩ = some (.int .i64 (y 2)) := cY 2 (by omega)
          have d3 : wr.cell? ⟨g2, off2 + k2 * 6 + 3, none⟩ = some (.int .i64 (y 3)) := cY 3 (by omega)
          have d4 : wr.cell? ⟨g2, off2 + k2 * 6 + 4, none⟩ = some (.int .i64 (y 4)) := cY 4 (by omega)
          have d5 : wr.cell? ⟨g2, off2 + k2 * 6 + 5, none⟩ = some (.int .i64 (y 5)) := cY 5 (by omega)
          clear hy cX cY
          go_upto_region 7 with fail
          go_region_with (go_at_call 153; refine (LESS.out _).mono ?_; rintro e w2 ⟨⟨bb, rfl, hbb⟩, g2'⟩; have G2 := hide (grown_trans HG2.out (show wr.grownBy w2 none by first | exact grown_undrew g2' | exact g2')); have OW := hide (HOW2.out.grown (show wr.grownBy w2 none by first | exact grown_undrew g2' | exact g2') (fun b e => by cases e)); have HBB := hide hbb; have cX2 := CX.out w2 G2.out; have cY2 := CY.out w2 G2.out; have e0 : w2.cell? ⟨g, off + i * 6, none⟩ = some (.int .i64 (x 0)) := cX2 0 (by omega); have e1 : w2.cell? ⟨g, off + i * 6 + 1, none⟩ = some (.int .i64 (x 1)) := cX2 1 (by omega); have e2 : w2.cell? ⟨g, off + i * 6 + 2, none⟩ = some (.int .i64 (x 2)) := cX2 2 (by omega); have e3 : w2.cell? ⟨g, off + i * 6 + 3, none⟩ = some (.int .i64 (x 3)) := cX2 3 (by omega); have e4 : w2.cell? ⟨g, off + i * 6 + 4, none⟩ = some (.int .i64 (x 4)) := cX2 4 (by omega); have e5 : w2.cell? ⟨g, off + i * 6 + 5, none⟩ = some (.int .i64 (x 5)) := cX2 5 (by omega); have f0 : w2.cell? ⟨g2, off2 + k2 * 6, none⟩ = some (.int .i64 (y 0)) := cY2 0 (by omega); have f1 : w2.cell? ⟨g2, off2 + k2 * 6 + 1, none⟩ = some (.int .i64 (y 1)) := cY2 1 (by omega); have f2 : w2.cell? ⟨g2, off2 + k2 * 6 + 2, none⟩ = some (.int .i64 (y 2)) := cY2 2 (by omega); have f3 : w2.cell? ⟨g2, off2 + k2 * 6 + 3, none⟩ = some (.int .i64 (y 3)) := cY2 3 (by omega); have f4 : w2.cell? ⟨g2, off2 + k2 * 6 + 4, none⟩ = some (.int .i64 (y 4)) := cY2 4 (by omega); have f5 : w2.cell? ⟨g2, off2 + k2 * 6 + 5, none⟩ = some (.int .i64 (y 5)) := cY2 5 (by omega); clear cX2 cY2 g2' hbb c0 c1 c2 c3 c4 c5 d0 d1 d2 d3 d4 d5)
          all_goals
            cases bb
            · have hnl : ¬ ltP y x := fun h => by have := HBB.out.2 h; cases this
              by_cases hxy : y = x
              · have he : eq6 (y 0) (y 1) (y 2) (y 3) (y 4) (y 5) (x 0) (x 1) (x 2) (x 3) (x 4) (x 5) = true := eq6_true ((cmpP_zero y x).2 (fun t _ => by rw [hxy]))
                have IN := hide ((INA.out hnl).2 hxy)
                clear hxy hnl NX NY
                go_wp2_with fail
                go_quiet (fail)
                have GW := hide (grown_drewN G2.out nq)
                have OW3 := hide (OW.out.grown (grown_drewN (grown_refl w2 none) nq) (fun b e => by cases e))
                obtain ⟨w3, hw3⟩ : ∃ w3, w3 = w2.drewN nq := ⟨_, rfl⟩
                rw [← hw3] at GW OW3
                rw [← hw3]
                clear hw3
                have hgeN : ¬ nb ≤ k2 := by omega
                go_wp2_with fail
                exact ⟨⟨i + 1, k2, n, d, by omega, hk2, rfl, by go_num, by omega, OW3.out, by rw [STP.out.1 IN.out]; exact HO.out, NXT.out, GW.out⟩, by simp [intOf]; omega⟩
              · have he : eq6 (y 0) (y 1) (y 2) (y 3) (y 4) (y 5) (x 0) (x 1) (x 2) (x 3) (x 4) (x 5) = false := eq6_false (fun h => hxy (NY.ext NX ((cmpP_zero y x).1 h)))
                have NIN : Hid (x ∉ B) := fun h => hxy ((INA.out hnl).1 h)
                clear hxy hnl NX NY
                go_wp2_with fail
                go_quiet (fail)
                have GW := hide (grown_drewN G2.out nq)
                have OW3 := hide (OW.out.grown (grown_drewN (grown_refl w2 none) nq) (fun b e => by cases e))
                obtain ⟨w3, hw3⟩ : ∃ w3, w3 = w2.drewN nq := ⟨_, rfl⟩
                rw [← hw3] at GW OW3
                rw [← hw3]
                clear hw3
                clear e0 e1 e2 e3 e4 e5 f0 f1 f2 f3 f4 f5
                have cZ := CX.out w3 GW.out
                have h0 : w3.cell? ⟨g, off + i * 6, none⟩ = some (.int .i64 (x 0)) := cZ 0 (by omega)
                have h1 : w3.cell? ⟨g, off + i * 6 + 1, none⟩ = some (.int .i64 (x 1)) := cZ 1 (by omega)
                have h2 : w3.cell? ⟨g, off + i * 6 + 2, none⟩ = some (.int .i64 (x 2)) := cZ 2 (by omega)
                have h3 : w3.cell? ⟨g, off + i * 6 + 3, none⟩ = some (.int .i64 (x 3)) := cZ 3 (by omega)
                have h4 : w3.cell? ⟨g, off + i * 6 + 4, none⟩ = some (.int .i64 (x 4)) := cZ 4 (by omega)
                have h5 : w3.cell? ⟨g, off + i * 6 + 5, none⟩ = some (.int .i64 (x 5)) := cZ 5 (by omega)
                clear cZ
                have HR := hide (one_row w3 x)
                unfold pkA at HR
                go_wp2_with (at_builtin; refine wpList_append_pk _ rfl _ _ rfl w.heap.size (.slice oa n oc) n d rfl (OW3.out.grown (World.grownBy_alloc _ _ none) (fun b e => by cases e)) _ 1 (fun _ => x) rfl HR.out (by omega) (by have := GW.out.size; simp; omega) ?_)
                intro v5 w5 o5 g5 _
                obtain ⟨a5, q5, rfl⟩ := o5.slice
                have G5 := hide (grew_one (v' := .slice a5 (n + 1) q5) GW.out OW3.out (World.grownBy_alloc _ _ none) g5)
                have O5 := hide o5
                clear o5 g5
                go_wp2_with fail
                exact ⟨⟨i + 1, k2, n + 1, _, by omega, hk2, rfl, by go_num, by omega, O5.out, by rw [STP.out.2 NIN.out]; exact HO.out.more x, NXT.out, G5.out⟩, by simp [intOf]; omega⟩
            · have HL2 := hide (HALL2.out (HBB.out.1 rfl))
              go_wp2_with fail
              exact ⟨⟨k2 + 1, by omega, by go_num, HL2.out, OW.out, G2.out⟩, by simp [intOf]; omega⟩
        · obtain rfl : k2 = nb := by omega
          have NIN : Hid (x ∉ B) := fun h => by
            have := (in_at HIB.out HSB.out HALL.out (fun h => absurd h (Nat.lt_irrefl _))).1 h
            exact absurd this.1 (Nat.lt_irrefl _)
          have cX := CX.out wr HG2.out
          have c0 : wr.cell? ⟨g, off + i * 6, none⟩ = some (.int .i64 (x 0)) := cX 0 (by omega)
          have c1 : wr.cell? ⟨g, off + i * 6 + 1, none⟩ = some (.int .i64 (x 1)) := cX 1 (by omega)
          have c2 : wr.cell? ⟨g, off + i * 6 + 2, none⟩ = some (.int .i64 (x 2)) := cX 2 (by omega)
          have c3 : wr.cell? ⟨g, off + i * 6 + 3, none⟩ = some (.int .i64 (x 3)) := cX 3 (by omega)
          have c4 : wr.cell? ⟨g, off + i * 6 + 4, none⟩ = some (.int .i64 (x 4)) := cX 4 (by omega)
          have c5 : wr.cell? ⟨g, off + i * 6 + 5, none⟩ = some (.int .i64 (x 5)) := cX 5 (by omega)
          clear cX
          go_wp2_with fail
          go_quiet (fail)
          have GW := hide (grown_drewN HG2.out nq)
          have OW3 := hide (HOW2.out.grown (grown_drewN (grown_refl wr none) nq) (fun b e => by cases e))
          obtain ⟨w3, hw3⟩ : ∃ w3, w3 = wr.drewN nq := ⟨_, rfl⟩
          rw [← hw3] at GW OW3
          rw [← hw3]
          clear hw3
          clear c0 c1 c2 c3 c4 c5
          have cZ := CX.out w3 GW.out
          have h0 : w3.cell? ⟨g, off + i * 6, none⟩ = some (.int .i64 (x 0)) := cZ 0 (by omega)
          have h1 : w3.cell? ⟨g, off + i * 6 + 1, none⟩ = some (.int .i64 (x 1)) := cZ 1 (by omega)
          have h2 : w3.cell? ⟨g, off + i * 6 + 2, none⟩ = some (.int .i64 (x 2)) := cZ 2 (by omega)
          have h3 : w3.cell? ⟨g, off + i * 6 + 3, none⟩ = some (.int .i64 (x 3)) := cZ 3 (by omega)
          have h4 : w3.cell? ⟨g, off + i * 6 + 4, none⟩ = some (.int .i64 (x 4)) := cZ 4 (by omega)
          have h5 : w3.cell? ⟨g, off + i * 6 + 5, none⟩ = some (.int .i64 (x 5)) := cZ 5 (by omega)
          clear cZ
          have HR := hide (one_row w3 x)
          unfold pkA at HR
          go_wp2_with (at_builtin; refine wpList_append_pk _ rfl _ _ rfl w.heap.size (.slice oa n oc) n d rfl (OW3.out.grown (World.grownBy_alloc _ _ none) (fun b e => by cases e)) _ 1 (fun _ => x) rfl HR.out (by omega) (by have := GW.out.size; simp; omega) ?_)
          intro v5 w5 o5 g5 _
          obtain ⟨a5, q5, rfl⟩ := o5.slice
          have G5 := hide (grew_one (v' := .slice a5 (n + 1) q5) GW.out OW3.out (World.grownBy_alloc _ _ none) g5)
          have O5 := hide o5
          clear o5 g5
          go_wp2_with fail
          exact ⟨⟨i + 1, k2, n + 1, _, by omega, hk2, rfl, by go_num, by omega, O5.out, by rw [STP.out.2 NIN.out]; exact HO.out.more x, NXT.out, G5.out⟩, by simp [intOf]; omega⟩
    · have hltI : ¬ (i : Int) < na := by omega
      go_wp2
      refine (HQ.out _ _).2 ⟨_, n, d, rfl, HOW.out, ?_, HG.out⟩
      have e : A.take i = A := List.take_of_length_le (by rw [HIA.out.len]; omega)
      have := HO.out
      rwa [e] at this
end Go.Proofs.YtlhkfafdioakeaaGreatDoor
