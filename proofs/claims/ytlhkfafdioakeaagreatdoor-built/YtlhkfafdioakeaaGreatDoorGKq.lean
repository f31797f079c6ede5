/- GKq: several parts, each with what it proves in plain words at its head. -/
import Derived.Test.YtlhkfafdioakeaaGreatDoorGKp
import Derived.Test.YtlhkfafdioakeaaGreatDoorGEc
import Derived.Deep.LoopGhost
/- Proved here: what eval, all and closed of the statements without the document's answer make of a policy and packets. -/
namespace Go.Proofs.YtlhkfafdioakeaaGreatDoor
open Go.RowKit Go.Weft
set_option linter.unusedVariables false
set_option linter.unusedSimpArgs false
theorem PkR.empty (w : World) (d : Nat → Nat → Int) : PkR w (.slice none 0 0) 0 d := .inl ⟨Option.none, 0, rfl, rfl, fun _ => rfl⟩
/-- A policy in memory, as all that is asked of it holds of it. -/
def Pol (w : World) (b : Nat) (t : Code) : Prop := PolAt w b t ∧ okT t ∧ cn t ≤ 1900
theorem Pol.grown {w w' : World} {b : Nat} {t : Code} (h : Pol w b t) (hg : w.grownBy w' none) : Pol w' b t := ⟨h.1.grown hg, h.2⟩
theorem Rt.right {k : Nat → Int} (h : Rt k) : rightS k := (right_Rt h.1).2 h
/-- What is made of a right packet is right, and not more than there are. -/
theorem okT.out {t : Code} (h : okT t) {k : Nat → Int} (hk : Rt k) {A : List (Nat → Int)} (hA : SetOf A (D t k)) : (∀ x ∈ A, Rt x) ∧ A.length ≤ 1073741824 := by
  have h1 : ∀ x ∈ A, Rt x := fun x hx => (den_right t h.2.2).1 k x hk ((hA.mem x).1 hx)
  exact ⟨h1, right_few hA.srt h1⟩
set_option maxRecDepth 100000 in
set_option maxHeartbeats 4000000 in
theorem keval_any (b : Nat) (t : Code) (k : Nat → Int) (w : World) (h : Pol w b t) (hk : Rt k) :
    Calls Tryz.prog 25 #[.pointer (some ⟨b, 0, none⟩), .agg #[.int .i64 (k 0), .int .i64 (k 1), .int .i64 (k 2), .int .i64 (k 3), .int .i64 (k 4), .int .i64 (k 5)]] w fun e w' => ∃ a c n d A, e = .returned (.tuple #[.slice a n c, .bool true]) ∧ OwnV w.heap.size w' (.slice a n c) n d ∧ Is A n d ∧ SetOf A (D t k) ∧ w.grownBy w' none := by
  obtain ⟨w1, hw1⟩ : ∃ w1, w1 = w.alloc (.cells (pkA k) 46) := ⟨_, rfl⟩
  have B1 : pkBlk w1 w.heap.size k := by rw [hw1]; exact pkBlk.alloc w k
  have hg1 : w.grownBy w1 none := by rw [hw1]; exact World.grownBy_alloc _ _ _
  have G1 := hide hg1
  obtain ⟨p0, p1, p2, p3, p4, p5⟩ := results2 B1
  have hz1 : w.heap.size < w1.heap.size := World.block_lt_of_cell? w1 _ p0
  have HE : Hid (Calls Tryz.prog 16 #[.pointer (some ⟨b, 0, none⟩), .agg #[.int .i64 (k 0), .int .i64 (k 1), .int .i64 (k 2), .int .i64 (k 3), .int .i64 (k 4), .int .i64 (k 5)]] w1 fun e w' => ∃ a c n d A, e = .returned (.tuple #[.slice a n c, .int .i64 0]) ∧ OwnV w.heap.size w' (.slice a n c) n d ∧ Is A n d ∧ SetOf A (D t k) ∧ w1.grownBy w' none) := by
    refine (eval_any b t k w1 (h.1.grown hg1) hk.1 h.2.2 h.2.1.1 h.2.1.2.1 h.2.1.2.2).mono ?_
    rintro e w' ⟨v, n, d, A, h1, h2, h3, h4⟩
    obtain ⟨a, c, rfl⟩ := h2.slice
    rcases h1 with ⟨_, rfl, hs⟩ | ⟨hx, _⟩
    · exact ⟨a, c, n, d, A, rfl, h2.mono hg1.size, h3, hs, h4⟩
    · exact absurd hk.right hx
  clear h hk B1 hg1
  unfold pkA at hw1
  go_enter Tryz.func25, Tryz.ntmps25
  go_wp2_with fail
  rw [← hw1]
  refine HE.out.mono ?_
  rintro x w2 ⟨a, c, n, d, A, rfl, ho, hi, hs, g2⟩
  have HR := hide (rises_any _ n d A w2 ho.row.any hi hs.srt)
  have O2 := hide ho
  have I2 := hide hi
  have S2 := hide hs
  have G2 := hide (grown_trans G1.out g2)
  clear hw1 p0 p1 p2 p3 p4 p5 ho hi hs g2 HE G1
  go_wp2_with fail
  refine HR.out.mono ?_
  rintro x w3 ⟨rfl, g3⟩
  have G3 := hide (grown_trans G2.out g3)
  have O3 := hide (O2.out.grown g3 (fun b e => by cases e))
  clear g3 HR G2 O2
  go_wp2
  go_ret2
  exact ⟨a, c, n, d, A, rfl, O3.out, I2.out, S2.out, G3.out⟩
set_option maxRecDepth 100000 in
set_option maxHeartbeats 4000000 in
theorem kall_any (b : Nat) (t : Code) (v : Value) (n : Nat) (d : Nat → Nat → Int) (X : List (Nat → Int)) (w : World) (h : Pol w b t) (hp : PkR w v n d) (hX : Is X n d) (hr : ∀ x ∈ X, Rt x) :
    Calls Tryz.prog 28 #[.pointer (some ⟨b, 0, none⟩), v] w fun e w' => ∃ a c m f A, e = .returned (.tuple #[.slice a m c, .bool true]) ∧ PkR w' (.slice a m c) m f ∧ Is A m f ∧ SetOf A (allD t X) ∧ w.grownBy w' none := by
  obtain ⟨va, vc, rfl⟩ := hp.slice
  have HP := hide hp
  have HX := hide hX
  have HRT : Hid (∀ j, j < n → Rt (d j)) := fun j hj => hr _ (hX.mem hj)
  have hfew := hp.few
  have HOUT : Hid (∀ j O, j ≤ n → SetOf O (fun y => ∃ i, i < j ∧ D t (d i) y) → (∀ x ∈ O, Rt x) ∧ O.length ≤ 1073741824) := fun j O hj hO => by
    have h1 : ∀ x ∈ O, Rt x := fun x hx => by
      obtain ⟨i, hi, hd⟩ := (hO.mem x).1 hx
      exact (den_right t h.2.1.2.2).1 _ x (HRT.out i (by omega)) hd
    exact ⟨h1, right_few hO.srt h1⟩
  have HK : Hid (∀ ww j, j < n → w.grownBy ww none → Calls Tryz.prog 25 #[.pointer (some ⟨b, 0, none⟩), .agg #[.int .i64 (d j 0), .int .i64 (d j 1), .int .i64 (d j 2), .int .i64 (d j 3), .int .i64 (d j 4), .int .i64 (d j 5)]] ww fun e w' => ∃ a c n f A, e = .returned (.tuple #[.slice a n c, .bool true]) ∧ PkR w' (.slice a n c) n f ∧ Is A n f ∧ SetOf A (D t (d j)) ∧ ww.grownBy w' none) := fun ww j hj hg =>
    (keval_any b t (d j) ww (h.grown hg) (HRT.out j hj)).mono (fun e w' ⟨a, c, m, f, A, h1, h2, h3, h4, h5⟩ => ⟨a, c, m, f, A, h1, h2.row.any, h3, h4, h5⟩)
  have HOK : Hid (∀ j A, j < n → SetOf A (D t (d j)) → (∀ x ∈ A, Rt x) ∧ A.length ≤ 1073741824) := fun j A hj hA => h.2.1.out (HRT.out j hj) hA
  have HU : Hid (∀ ww a c m f O a2 c2 m2 f2 A2, PkR ww (.slice a m c) m f → Is O m f → PkR ww (.slice a2 m2 c2) m2 f2 → Is A2 m2 f2 → (∀ x ∈ O, Rt x) ∧ O.length ≤ 1073741824 → (∀ x ∈ A2, Rt x) ∧ A2.length ≤ 1073741824 → Calls Tryz.prog 27 #[.slice a m c, .slice a2 m2 c2] ww fun e w' => ∃ a c m f, e = .returned (.slice a m c) ∧ PkR w' (.slice a m c) m f ∧ Is (mergeS O A2) m f ∧ ww.grownBy w' none) := by
    intro ww a c m f O a2 c2 m2 f2 A2 h1 h2 h3 h4 h5 h6
    refine (union_any _ _ m m2 f f2 O A2 ww h1 h3 h2 h4 (fun x hx => (h5.1 x hx).1) (fun x hx => (h6.1 x hx).1) (by have := h2.len; have := h4.len; omega)).mono ?_
    rintro e w' ⟨v, q, g, rfl, o1, o2, o3⟩
    obtain ⟨a5, c5, rfl⟩ := o1.slice
    exact ⟨a5, c5, q, g, rfl, o1.row.any, o2, o3⟩
  have HALL : Hid (∀ O, SetOf O (fun y => ∃ i, i < n ∧ D t (d i) y) → SetOf O (allD t X)) := fun O hO => hO.cong (fun y => by
    constructor
    · rintro ⟨i, hi, hd⟩; exact ⟨_, HX.out.mem hi, hd⟩
    · rintro ⟨x, hx, hd⟩
      obtain ⟨i, hi, e⟩ := List.getElem_of_mem hx
      have hi' : i < n := by rw [← HX.out.len]; exact hi
      have := HX.out.get i hi'
      rw [List.getElem?_eq_getElem hi, e] at this
      exact ⟨i, hi', by rw [← Option.some.inj this]; exact hd⟩)
  clear h hp hX hr
  go_enter Tryz.func28, Tryz.ntmps28
  go_wp2_with fail
  go_loopw [6, 7] (fun s6 s7 wr => ∃ (i m : Nat) (f : Nat → Nat → Int) (O : List (Nat → Int)), i ≤ n ∧ s7 = .int .i64 i ∧ (∃ a c, s6 = .slice a m c) ∧ PkR wr s6 m f ∧ Is O m f ∧ SetOf O (fun y => ∃ j, j < i ∧ D t (d j) y) ∧ w.grownBy wr none) (fun _ s7 _ => n - (intOf s7).toNat)
  case atStart => exact ⟨0, 0, fun _ _ => 0, [], by omega, rfl, ⟨_, _, rfl⟩, PkR.empty _ _, Is.none _, ⟨List.Pairwise.nil, fun x hx => (by cases hx), fun y => ⟨fun h => (by cases h), fun ⟨j, hj, _⟩ => by omega⟩⟩, grown_refl _ _⟩
  case round =>
    obtain ⟨i, m, f, O, hi, rfl, ⟨oa, oc, rfl⟩, hpo, hio, hso, hg⟩ := hrel
    have PO := hide hpo
    have HIO := hide hio
    have SO := hide hso
    have HG := hide hg
    clear hpo hio hso hg
    by_cases hlt : i < n
    · rcases HP.out with ⟨_, _, _, h0, _⟩ | ⟨g, off, capg, hvg, _, hcellg⟩
      · omega
      cases hvg
      obtain ⟨x, hx⟩ : ∃ x, x = d i := ⟨_, rfl⟩
      have CX : Hid (∀ wx, w.grownBy wx none → ∀ t, t < 6 → wx.cell? ⟨g, off + i * 6 + t, none⟩ = some (.int .i64 (x t))) := fun wx hgx t ht => by rw [hx]; exact hgx.cell (hcellg i (by omega) t ht) (by simp)
      have HKI := hide (HK.out wr i hlt HG.out)
      rw [← hx] at HKI
      have HX1 := hide hx
      clear hcellg hx
      have cZ := CX.out wr HG.out
      have h0 : wr.cell? ⟨g, off + i * 6, none⟩ = some (.int .i64 (x 0)) := cZ 0 (by omega)
      have h1 : wr.cell? ⟨g, off + i * 6 + 1, none⟩ = some (.int .i64 (x 1)) := cZ 1 (by omega)
      have h2 : wr.cell? ⟨g, off + i * 6 + 2, none⟩ = some (.int .i64 (x 2)) := cZ 2 (by omega)
      have h3 : wr.cell? ⟨g, off + i * 6 + 3, none⟩ = some (.int .i64 (x 3)) := cZ 3 (by omega)
      have h4 : wr.cell? ⟨g, off + i * 6 + 4, none⟩ = some (.int .i64 (x 4)) := cZ 4 (by omega)
      have h5 : wr.cell? ⟨g, off + i * 6 + 5, none⟩ = some (.int .i64 (x 5)) := cZ 5 (by omega)
      clear cZ
      have hltI : (i : Int) < n := by omega
      go_wp2_with fail
      refine HKI.out.mono ?_
      rintro e w2 ⟨a2, c2, n2, f2, A2, rfl, hp2, hi2, hs2, hg2⟩
      have hA2 := HOK.out i A2 hlt (by rw [← HX1.out]; exact hs2)
      have HU2 := hide (HU.out w2 oa oc m f O a2 c2 n2 f2 A2 (PO.out.grown hg2) HIO.out hp2 hi2 (HOUT.out i O (by omega) SO.out) hA2)
      have SM : Hid (SetOf (mergeS O A2) (fun y => ∃ j, j < i + 1 ∧ D t (d j) y)) := (mergeS_set SO.out hs2).cong (fun y => by
        constructor
        · rintro (⟨j, hj, hd⟩ | hd)
          · exact ⟨j, by omega, hd⟩
          · exact ⟨i, by omega, by rw [← HX1.out]; exact hd⟩
        · rintro ⟨j, hj, hd⟩
          by_cases e : j = i
          · subst e; right; rw [HX1.out]; exact hd
          · exact .inl ⟨j, by omega, hd⟩)
      have G2 := hide (grown_trans HG.out hg2)
      clear hp2 hi2 hs2 hg2 hA2 HKI h0 h1 h2 h3 h4 h5 PO HIO SO
      go_wp2_with fail
      refine HU2.out.mono ?_
      rintro e w3 ⟨a3, c3, n3, f3, rfl, hp3, hi3, hg3⟩
      have P3 := hide hp3
      have I3 := hide hi3
      have G3 := hide (grown_trans G2.out hg3)
      clear hp3 hi3 hg3 HU2
      go_wp2_with fail
      exact ⟨⟨i + 1, n3, f3, _, by omega, by go_num, ⟨_, _, rfl⟩, P3.out, I3.out, SM.out, G3.out⟩, by simp [intOf]; omega⟩
    · obtain rfl : i = n := by omega
      have SA := hide (HALL.out O SO.out)
      go_wp2
      go_ret2
      exact ⟨oa, oc, m, f, O, rfl, PO.out, HIO.out, SA.out, HG.out⟩
theorem many_right {t : Code} (h : okT t) {k y : Nat → Int} (hk : Rt k) (hm : Many (D t) k y) : Rt y := by
  induction hm with
  | refl a => exact hk
  | step h1 _ ih => exact ih ((den_right t h.2.2).1 _ _ hk h1)
set_option maxRecDepth 100000 in
set_option maxHeartbeats 4000000 in
theorem kclosed_any (b : Nat) (t : Code) (v : Value) (d : Nat → Nat → Int) (k : Nat → Int) (w : World) (h : Pol w b t) (hp : PkR w v 1 d) (hX : Is [k] 1 d) (hk : Rt k) :
    Calls Tryz.prog 29 #[.pointer (some ⟨b, 0, none⟩), v] w fun e w' => ∃ a c m f A, e = .returned (.tuple #[.slice a m c, .bool true]) ∧ PkR w' (.slice a m c) m f ∧ Is A m f ∧ SetOf A (D (.loop t) k) ∧ w.grownBy w' none := by
  obtain ⟨va, vc, rfl⟩ := hp.slice
  have HP := hide hp
  have HX := hide hX
  have HKR := hide hk
  have HOK := hide h.2.1
  have HA : Hid (∀ ww a c m f L, w.grownBy ww none → PkR ww (.slice a m c) m f → Is L m f → (∀ x ∈ L, Rt x) → Calls Tryz.prog 28 #[.pointer (some ⟨b, 0, none⟩), .slice a m c] ww fun e w' => ∃ a c m f A, e = .returned (.tuple #[.slice a m c, .bool true]) ∧ PkR w' (.slice a m c) m f ∧ Is A m f ∧ SetOf A (allD t L) ∧ ww.grownBy w' none) := fun ww a c m f L hg h1 h2 h3 => kall_any b t _ m f L ww (h.grown hg) h1 h2 h3
  have HU : Hid (∀ ww a c m f O a2 c2 m2 f2 A2, PkR ww (.slice a m c) m f → Is O m f → PkR ww (.slice a2 m2 c2) m2 f2 → Is A2 m2 f2 → (∀ x ∈ O, Rt x) ∧ O.length ≤ 1073741824 → (∀ x ∈ A2, Rt x) ∧ A2.length ≤ 1073741824 → Calls Tryz.prog 27 #[.slice a m c, .slice a2 m2 c2] ww fun e w' => ∃ a c m f, e = .returned (.slice a m c) ∧ PkR w' (.slice a m c) m f ∧ Is (mergeS O A2) m f ∧ ww.grownBy w' none) := by
    intro ww a c m f O a2 c2 m2 f2 A2 h1 h2 h3 h4 h5 h6
    refine (union_any _ _ m m2 f f2 O A2 ww h1 h3 h2 h4 (fun x hx => (h5.1 x hx).1) (fun x hx => (h6.1 x hx).1) (by have := h2.len; have := h4.len; omega)).mono ?_
    rintro e w' ⟨v, q, g, rfl, o1, o2, o3⟩
    obtain ⟨a5, c5, rfl⟩ := o1.slice
    exact ⟨a5, c5, q, g, rfl, o1.row.any, o2, o3⟩
  clear h hp hX hk
  go_enter Tryz.func29, Tryz.ntmps29
  go_wp2_with fail
  go_loopg [1] 1073741824 (fun gk s1 wr => ∃ (m : Nat) (f : Nat → Nat → Int) (L : List (Nat → Int)), (∃ a c, s1 = .slice a m c) ∧ PkR wr s1 m f ∧ Is L m f ∧ Srt L ∧ k ∈ L ∧ (∀ y ∈ L, Many (D t) k y) ∧ 1073741824 - L.length ≤ gk ∧ w.grownBy wr none)
  case atStart => exact ⟨1, d, [k], ⟨_, _, rfl⟩, HP.out, HX.out, List.pairwise_singleton _ _, by simp, fun y hy => by rw [List.mem_singleton] at hy; rw [hy]; exact .refl _, by omega, grown_refl _ _⟩
  case round =>
    obtain ⟨m, f, L, ⟨oa, oc, rfl⟩, hpl, hil, hsl, hkl, hml, hgk, hg⟩ := hrel
    have rL : Hid (∀ x ∈ L, Rt x) := fun x hx => many_right HOK.out HKR.out (hml x hx)
    have PL := hide hpl
    have IL := hide hil
    have SL := hide hsl
    have KL := hide hkl
    have ML := hide hml
    have GK := hide hgk
    have HG := hide hg
    have HA1 := hide (HA.out wr oa oc m f L hg hpl hil rL.out)
    clear hpl hil hsl hkl hml hgk hg HP HX
    go_wp2_with fail
    refine HA1.out.mono ?_
    rintro e w2 ⟨a2, c2, n2, f2, A2, rfl, hp2, hi2, hs2, hg2⟩
    have rA : Hid (∀ x ∈ A2, Rt x) := fun y hy => by
      obtain ⟨x, h1, h2⟩ := (hs2.mem y).1 hy
      exact (den_right t HOK.out.2.2).1 x y (rL.out x h1) h2
    have HU2 := hide (HU.out w2 oa oc m f L a2 c2 n2 f2 A2 (PL.out.grown hg2) IL.out hp2 hi2 ⟨rL.out, right_few SL.out rL.out⟩ ⟨rA.out, right_few hs2.srt rA.out⟩)
    have S2 := hide hs2
    have PL2 := hide (PL.out.grown hg2)
    have G2 := hide (grown_trans HG.out hg2)
    clear hp2 hi2 hs2 hg2 HA1 PL
    go_wp2_with fail
    refine HU2.out.mono ?_
    rintro e w3 ⟨a3, c3, n3, f3, rfl, hp3, hi3, hg3⟩
    have P3 := hide hp3
    have I3 := hide hi3
    have PL3 := hide (PL2.out.grown hg3)
    have G3 := hide (grown_trans G2.out hg3)
    have SM : Hid (Srt (mergeS L A2)) := mergeS_srt _ _ _ (Nat.le_refl _) SL.out S2.out.srt (fun x hx => (rL.out x hx).1) (fun x hx => (rA.out x hx).1)
    have MM : Hid (∀ y ∈ mergeS L A2, Many (D t) k y) := fun y hy => by
      rcases (mergeS_in y).1 hy with hy | hy
      · exact ML.out y hy
      · obtain ⟨x, h1, h2⟩ := (S2.out.mem y).1 hy
        exact (ML.out x h1).trans (.one h2)
    have RM : Hid (∀ y ∈ mergeS L A2, Rt y) := fun y hy => many_right HOK.out HKR.out (MM.out y hy)
    have LN : Hid ((mergeS L A2).length = n3 ∧ L.length = m ∧ n3 ≤ 1073741824 ∧ m ≤ n3) := by
      refine ⟨I3.out.len, IL.out.len, by rw [← I3.out.len]; exact right_few SM.out RM.out, ?_⟩
      rw [← I3.out.len, ← IL.out.len]
      exact nodup_leS _ _ SL.out.nodup (fun x hx => (mergeS_in x).2 (.inl hx))
    clear hp3 hi3 hg3 HU2 PL2 G2
    by_cases he : n3 = m
    · have SF : Hid (SetOf L (D (.loop t) k)) := by
        have hsub : ∀ y, y ∈ A2 → y ∈ L := fun y hy => by
          by_cases hyl : y ∈ L
          · exact hyl
          · exfalso
            have h1 := nodup_leS (y :: L) (mergeS L A2) (List.nodup_cons.2 ⟨hyl, SL.out.nodup⟩) (fun x hx => by
              rw [mergeS_in]
              rcases List.mem_cons.1 hx with rfl | hx
              · exact .inr hy
              · exact .inl hx)
            have := LN.out
            rw [List.length_cons] at h1
            omega
        have hcl : ∀ u y, Many (D t) u y → u ∈ L → y ∈ L := by
          intro u y hm
          induction hm with
          | refl a => exact id
          | step h1 _ ih => exact fun hu => ih (hsub _ ((S2.out.mem _).2 ⟨_, hu, h1⟩))
        refine ⟨SL.out, fun x hx => (rL.out x hx).1, fun y => ⟨ML.out y, fun hm => hcl k y hm KL.out⟩⟩
      subst he
      go_wp2
      go_ret2
      exact ⟨oa, oc, n3, f, L, rfl, PL3.out, IL.out, SF.out, G3.out⟩
    · have heI : ((n3 : Int) == m) = false := by rw [beq_eq_false_iff_ne]; omega
      have heJ : ¬ (n3 : Int) = m := by omega
      go_wp2_with fail
      go_roundg (1073741824 - (mergeS L A2).length)
      case measure => have := LN.out; have := GK.out; omega
      case rel => exact ⟨n3, f3, _, ⟨_, _, rfl⟩, P3.out, I3.out, SM.out, (mergeS_in k).2 (.inl KL.out), MM.out, Nat.le_refl _, G3.out⟩
set_option maxRecDepth 100000 in
theorem limit_any (e : Int) (w : World) : Calls Tryz.prog 23 #[.int .i64 e] w fun x w' => x = .returned (.bool (decide (e = 2 ∨ e = 7))) ∧ w' = w := by
  by_cases h2 : e = 2
  · subst h2
    go_enter Tryz.func23, Tryz.ntmps23
    go_wp2
    go_ret
    exact ⟨rfl, rfl⟩
  · have h2' : (e == 2) = false := by rw [beq_eq_false_iff_ne]; exact h2
    by_cases h7 : e = 7
    · subst h7
      go_enter Tryz.func23, Tryz.ntmps23
      go_wp2
      go_ret
      exact ⟨rfl, rfl⟩
    · have h7' : (e == 7) = false := by rw [beq_eq_false_iff_ne]; exact h7
      rw [decide_eq_false (show ¬ (e = 2 ∨ e = 7) by omega)]
      go_enter Tryz.func23, Tryz.ntmps23
      go_wp2
      go_ret
      exact ⟨rfl, rfl⟩
end Go.Proofs.YtlhkfafdioakeaaGreatDoor
/- Proved here: the policy that the statements without the document's answer begin with does what it must. -/
namespace Go.Proofs.YtlhkfafdioakeaaGreatDoor
open Go.RowKit Go.Weft
set_option linter.unusedVariables false
set_option linter.unusedSimpArgs false
def exK : ByteArray := ⟨#[40, 112, 116, 61, 51, 59, 116, 97, 103, 58, 61, 49, 32, 43, 32, 112, 116, 61, 52, 41, 42, 59, 33, 112, 116, 61, 53, 59, 100, 115, 116, 58, 61, 50]⟩
def tK : Code := .block 1 (chain [.loop (.block 0 (chain [.block 1 (chain [.exit 72, .exit 325]), .exit 74])), .scope (.exit 76), .exit 263])
set_option maxRecDepth 100000 in
theorem read_exK : readS exK = .ok tK := by kernel_rfl
/-- What stands beneath the star. -/
def RK (x y : Nat → Int) : Prop := (x 1 = 3 ∧ y = putF x 5 1) ∨ (x 1 = 4 ∧ y = x)
theorem D_exK (k y : Nat → Int) : D tK k y ↔ ∃ z, Many RK k z ∧ ¬ z 1 = 5 ∧ y = putF z 4 2 := by
  have l72 : ∀ x y, D (.exit 72) x y ↔ x 1 = 3 ∧ y = x := fun x y => by show leafD 72 x y ↔ _; simp [leafD, fOf, vOf]
  have l325 : ∀ x y, D (.exit 325) x y ↔ y = putF x 5 1 := fun x y => by show leafD 325 x y ↔ _; simp [leafD, fOf, vOf]
  have l74 : ∀ x y, D (.exit 74) x y ↔ x 1 = 4 ∧ y = x := fun x y => by show leafD 74 x y ↔ _; simp [leafD, fOf, vOf]
  have l76 : ∀ x y, D (.exit 76) x y ↔ x 1 = 5 ∧ y = x := fun x y => by show leafD 76 x y ↔ _; simp [leafD, fOf, vOf]
  have l263 : ∀ x y, D (.exit 263) x y ↔ y = putF x 4 2 := fun x y => by show leafD 263 x y ↔ _; simp [leafD, fOf, vOf]
  have lR : ∀ x y, D (.block 0 (chain [.block 1 (chain [.exit 72, .exit 325]), .exit 74])) x y ↔ RK x y := fun x y => by
    rw [D_sum, elems_chain']
    simp only [List.mem_cons, List.not_mem_nil, or_false]
    constructor
    · rintro ⟨t, rfl | rfl, h⟩
      · rw [D_seq, elems_chain'] at h
        obtain ⟨z, h1, u, h2, h3⟩ := h
        rw [l72] at h1; rw [l325] at h2
        have h3 : y = u := h3
        exact .inl ⟨h1.1, by rw [h3, h2, h1.2]⟩
      · exact .inr ((l74 x y).1 h)
    · rintro (⟨h1, h2⟩ | h)
      · refine ⟨_, .inl rfl, ?_⟩
        rw [D_seq, elems_chain']
        exact ⟨x, (l72 x x).2 ⟨h1, rfl⟩, y, (l325 x y).2 h2, rfl⟩
      · exact ⟨_, .inr rfl, (l74 x y).2 h⟩
  unfold tK
  rw [D_seq, elems_chain']
  constructor
  · rintro ⟨z, h1, u, h2, v, h3, h4⟩
    have h1 : Many (D (.block 0 (chain [.block 1 (chain [.exit 72, .exit 325]), .exit 74]))) k z := h1
    have h2 : (¬ ∃ q, D (.exit 76) z q) ∧ u = z := h2
    rw [l263] at h3
    have h4 : y = v := h4
    refine ⟨z, h1.mono (fun a b => (lR a b).1), fun e => h2.1 ⟨z, (l76 z z).2 ⟨e, rfl⟩⟩, by rw [h4, h3, h2.2]⟩
  · rintro ⟨z, h1, h2, h3⟩
    refine ⟨z, h1.mono (fun a b => (lR a b).2), z, ⟨fun ⟨q, hq⟩ => h2 ((l76 z q).1 hq).1, rfl⟩, y, (l263 z y).2 h3, rfl⟩
def kK (a e f : Int) : Nat → Int := fun i => if i = 0 then 1 else if i = 1 then a else if i = 4 then e else if i = 5 then f else 0
theorem kK_nm (a e f : Int) : Nm (kK a e f) := fun i hi => by unfold kK; rw [if_neg (by omega), if_neg (by omega), if_neg (by omega), if_neg (by omega)]
theorem kK_rt (a e f : Int) (ha : 0 ≤ a ∧ a < 32) (he : 0 ≤ e ∧ e < 32) (hf : 0 ≤ f ∧ f < 32) : Rt (kK a e f) := ⟨kK_nm a e f, fun i hi => by
  unfold kK
  repeat' split
  all_goals omega⟩
theorem put_tag (a e f g : Int) : putF (kK a e f) 5 g = kK a e g := by
  funext i
  unfold putF kK
  by_cases h0 : i = 0
  · simp [h0]
  · by_cases h1 : i = 1
    · simp [h1]
    · by_cases h4 : i = 4
      · simp [h4]
      · by_cases h5 : i = 5 <;> simp [h0, h1, h4, h5]
theorem put_dst (a e f g : Int) : putF (kK a e f) 4 g = kK a g f := by
  funext i
  unfold putF kK
  by_cases h0 : i = 0
  · simp [h0]
  · by_cases h1 : i = 1
    · simp [h1]
    · by_cases h4 : i = 4
      · simp [h4]
      · simp [h0, h1, h4]
theorem manyK3 (z : Nat → Int) : Many RK (kK 3 0 0) z ↔ z = kK 3 0 0 ∨ z = kK 3 0 1 := by
  constructor
  · intro h
    have key : ∀ x z, Many RK x z → (x = kK 3 0 0 ∨ x = kK 3 0 1) → (z = kK 3 0 0 ∨ z = kK 3 0 1) := by
      intro x z hm
      induction hm with
      | refl a => exact id
      | step h1 _ ih =>
        intro hx
        apply ih
        rcases h1 with ⟨_, rfl⟩ | ⟨_, rfl⟩
        · rcases hx with rfl | rfl
          · exact .inr (put_tag 3 0 0 1)
          · exact .inr (put_tag 3 0 1 1)
        · exact hx
    exact key _ _ h (.inl rfl)
  · rintro (rfl | rfl)
    · exact .refl _
    · exact .one (.inl ⟨rfl, (put_tag 3 0 0 1).symm⟩)
theorem manyK5 (z : Nat → Int) (h : Many RK (kK 5 0 0) z) : z = kK 5 0 0 := by
  cases h with
  | refl => rfl
  | step h1 _ =>
    exfalso
    rcases h1 with ⟨h, _⟩ | ⟨h, _⟩
    · exact absurd h (by show ¬ (5 : Int) = 3; decide)
    · exact absurd h (by show ¬ (5 : Int) = 4; decide)
theorem setK3 : SetOf [kK 3 2 0, kK 3 2 1] (D tK (kK 3 0 0)) := by
  refine ⟨List.pairwise_cons.2 ⟨fun x hx => ?_, List.pairwise_singleton _ _⟩, fun x hx => ?_, fun y => ?_⟩
  · rw [List.mem_singleton] at hx
    rw [hx]
    refine ⟨5, by omega, fun t ht => ?_, by show (0 : Int) < 1; decide⟩
    unfold kK
    rw [if_neg (show ¬ t = 5 by omega), if_neg (show ¬ t = 5 by omega)]
  · simp only [List.mem_cons, List.not_mem_nil, or_false] at hx
    rcases hx with rfl | rfl <;> exact kK_nm _ _ _
  · rw [D_exK]
    simp only [List.mem_cons, List.not_mem_nil, or_false, manyK3]
    constructor
    · rintro (rfl | rfl)
      · exact ⟨_, .inl rfl, by show ¬ (3 : Int) = 5; decide, (put_dst 3 0 0 2).symm⟩
      · exact ⟨_, .inr rfl, by show ¬ (3 : Int) = 5; decide, (put_dst 3 0 1 2).symm⟩
    · rintro ⟨z, rfl | rfl, _, rfl⟩
      · exact .inl (put_dst 3 0 0 2)
      · exact .inr (put_dst 3 0 1 2)
theorem setK5 : SetOf [] (D tK (kK 5 0 0)) := by
  refine ⟨List.Pairwise.nil, fun x hx => (by cases hx), fun y => ?_⟩
  rw [D_exK]
  refine ⟨fun h => (by cases h), fun ⟨z, h1, h2, _⟩ => absurd (show z 1 = 5 by rw [manyK5 z h1]; rfl) h2⟩
set_option maxRecDepth 100000 in
set_option maxHeartbeats 4000000 in
theorem known_any (w : World) (hn : Names w) : Calls Tryz.prog 22 #[] w fun e w' => ∃ b, e = .returned (.pointer (some ⟨b, 0, none⟩)) ∧ w.grownBy w' none := by
  obtain ⟨ok, _, _, hcn⟩ := read_okT read_exK
  have P1 := hide (compile_ok exK w hn (by decide) tK read_exK)
  have EV : Hid (∀ b a ww, Rt (kK a 0 0) → PolAt ww b tK → Calls Tryz.prog 16 #[.pointer (some ⟨b, 0, none⟩), .agg #[.int .i64 1, .int .i64 a, .int .i64 0, .int .i64 0, .int .i64 0, .int .i64 0]] ww fun e w' => ∃ ad c n d A, e = .returned (.tuple #[.slice ad n c, .int .i64 0]) ∧ PkR w' (.slice ad n c) n d ∧ Is A n d ∧ SetOf A (D tK (kK a 0 0)) ∧ PolAt w' b tK ∧ ww.grownBy w' none) := by
    intro b a ww hr hp
    refine (eval_any b tK (kK a 0 0) ww hp (kK_nm _ _ _) hcn ok.1 ok.2.1 ok.2.2).mono ?_
    rintro e w' ⟨v, n, d, A, h1, h2, h3, h4⟩
    rcases h1 with ⟨_, rfl, hs⟩ | ⟨hx, _⟩
    · obtain ⟨ad, c, rfl⟩ := h2.slice
      exact ⟨ad, c, n, d, A, rfl, h2.row.any, h3, hs, hp.grown h4, h4⟩
    · exact absurd hr.right hx
  clear hn ok hcn
  unfold exK at P1
  go_enter Tryz.func22, Tryz.ntmps22
  go_wp2_with fail
  refine P1.out.mono ?_
  rintro x w1 ⟨b, rfl, hp, _, g1⟩
  have E1 := hide (EV.out b 3 w1 (kK_rt _ _ _ (by omega) (by omega) (by omega)) hp)
  have G1 := hide g1
  clear hp g1 P1
  go_wp2_with fail
  refine E1.out.mono ?_
  rintro x w2 ⟨a2, c2, n2, d2, A2, rfl, p2, i2, s2, hp2, g2⟩
  obtain rfl := s2.one setK3
  have hn2 : n2 = 2 := i2.len.symm
  subst hn2
  have P2 := hide p2
  have I2 := hide i2
  have E2 := hide (EV.out b 5 w2 (kK_rt _ _ _ (by omega) (by omega) (by omega)) hp2)
  have G2 := hide (grown_trans G1.out g2)
  clear p2 i2 s2 hp2 g2 E1 EV
  go_wp2_with fail
  refine E2.out.mono ?_
  rintro x w3 ⟨a3, c3, n3, d3, A3, rfl, p3, i3, s3, hp3, g3⟩
  obtain rfl := s3.one setK5
  have hn3 : n3 = 0 := i3.len.symm
  subst hn3
  have G3 := hide (grown_trans G2.out g3)
  have P3 := hide (P2.out.grown g3)
  clear p3 i3 s3 hp3 g3 E2 P2
  have HS : Hid (Calls Tryz.prog 26 #[.slice a2 2 c2, .slice (some ⟨w3.heap.size, 0, none⟩) 2 2] (w3.alloc (.cells #[.int .i64 1, .int .i64 3, .int .i64 0, .int .i64 0, .int .i64 2, .int .i64 0, .int .i64 1, .int .i64 3, .int .i64 0, .int .i64 0, .int .i64 2, .int .i64 1] 46)) fun e w' => e = .returned (.bool true) ∧ w.grownBy w' none) := by
    refine (equal_any _ _ 2 2 d2 (fun j => if j = 0 then kK 3 2 0 else kK 3 2 1) [kK 3 2 0, kK 3 2 1] [kK 3 2 0, kK 3 2 1] (w3.alloc (.cells (pkA (kK 3 2 0) ++ pkA (kK 3 2 1)) 46)) (P3.out.grown (World.grownBy_alloc _ _ _)) (two_row w3 _ _) I2.out ⟨rfl, fun j hj => ?_⟩ setK3.nm setK3.nm).mono ?_
    · rcases (show j = 0 ∨ j = 1 by omega) with rfl | rfl <;> rfl
    · rintro e w' ⟨⟨bq, rfl, hb⟩, hg⟩
      exact ⟨by rw [hb.2 rfl], grown_trans G3.out (grown_trans (World.grownBy_alloc _ _ _) hg)⟩
  clear P3 I2 G2 G1
  go_wp2_with fail
  refine HS.out.mono ?_
  rintro e w4 ⟨rfl, g4⟩
  have G4 := hide g4
  clear g4 HS G3
  go_wp2
  go_ret
  exact ⟨b, rfl, G4.out⟩
end Go.Proofs.YtlhkfafdioakeaaGreatDoor
