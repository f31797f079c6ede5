/- Pk11: several parts, each with what it proves in plain words at its head. -/
import Derived.Test.YtlhkfafdioakeaaGreatDoorPk10
import Derived.Test.YtlhkfafdioakeaaGreatDoorPk04
import Derived.Test.YtlhkfafdioakeaaGreatDoorGRefA
import Derived.Test.YtlhkfafdioakeaaGreatDoorPk07
import Derived.Test.YtlhkfafdioakeaaGreatDoorPk08
/- Proved here: the policy that the document's example tells of does what the document says. -/
namespace Go.Proofs.YtlhkfafdioakeaaGreatDoor
open Go.RowKit Go.Weft
set_option linter.unusedVariables false
set_option linter.unusedSimpArgs false
def exC : ByteArray := ⟨#[112, 116, 61, 49, 59, 112, 116, 58, 61, 50, 32, 43, 32, 112, 116, 61, 49, 59, 116, 97, 103, 58, 61, 55, 59, 112, 116, 58, 61, 51]⟩
def tC : Code := .block 0 (chain [.block 1 (chain [.exit 68, .exit 71]), .block 1 (chain [.exit 68, .exit 337, .exit 73])])
set_option maxRecDepth 100000 in
theorem read_exC : readS exC = .ok tC := by kernel_rfl
theorem D_exC (k y : Nat → Int) : D tC k y ↔ k 1 = 1 ∧ (y = putF k 1 2 ∨ y = putF (putF k 5 7) 1 3) := by
  have l68 : ∀ x y, D (.exit 68) x y ↔ x 1 = 1 ∧ y = x := fun x y => by show leafD 68 x y ↔ _; simp [leafD, fOf, vOf]
  have l71 : ∀ x y, D (.exit 71) x y ↔ y = putF x 1 2 := fun x y => by show leafD 71 x y ↔ _; simp [leafD, fOf, vOf]
  have l337 : ∀ x y, D (.exit 337) x y ↔ y = putF x 5 7 := fun x y => by show leafD 337 x y ↔ _; simp [leafD, fOf, vOf]
  have l73 : ∀ x y, D (.exit 73) x y ↔ y = putF x 1 3 := fun x y => by show leafD 73 x y ↔ _; simp [leafD, fOf, vOf]
  unfold tC
  rw [D_sum, elems_chain']
  simp only [List.mem_cons, List.not_mem_nil, or_false]
  constructor
  · rintro ⟨t, rfl | rfl, h⟩
    · rw [D_seq, elems_chain'] at h
      obtain ⟨z, h1, u, h2, h3⟩ := h
      rw [l68] at h1; rw [l71] at h2
      have h3 : y = u := h3
      rw [h3, h2, h1.2]
      exact ⟨h1.1, .inl rfl⟩
    · rw [D_seq, elems_chain'] at h
      obtain ⟨z, h1, u, h2, v, h3, h4⟩ := h
      rw [l68] at h1; rw [l337] at h2; rw [l73] at h3
      have h4 : y = v := h4
      rw [h4, h3, h2, h1.2]
      exact ⟨h1.1, .inr rfl⟩
  · rintro ⟨h1, rfl | rfl⟩
    · refine ⟨_, .inl rfl, ?_⟩
      rw [D_seq, elems_chain']
      exact ⟨k, (l68 k k).2 ⟨h1, rfl⟩, _, (l71 k _).2 rfl, rfl⟩
    · refine ⟨_, .inr rfl, ?_⟩
      rw [D_seq, elems_chain']
      exact ⟨k, (l68 k k).2 ⟨h1, rfl⟩, _, (l337 k _).2 rfl, _, (l73 _ _).2 rfl, rfl⟩
/-- The packets of the example: by their second and their last field. -/
def kC (a b : Int) : Nat → Int := fun i => if i = 1 then a else if i = 5 then b else 0
theorem kC_nm (a b : Int) : Nm (kC a b) := fun i hi => by unfold kC; rw [if_neg (by omega), if_neg (by omega)]
theorem put_k1 : putF (kC 1 0) 1 2 = kC 2 0 := by
  funext i
  unfold putF kC
  by_cases h : i = 1 <;> simp [h]
theorem put_k2 : putF (putF (kC 1 0) 5 7) 1 3 = kC 3 7 := by
  funext i
  unfold putF kC
  by_cases h : i = 1
  · simp [h]
  · by_cases h5 : i = 5 <;> simp [h, h5]
theorem ltC : ltP (kC 2 0) (kC 3 7) := by
  refine ⟨1, by omega, fun t ht => ?_, by show (2 : Int) < 3; decide⟩
  have e : t = 0 := by omega
  subst e
  rfl
theorem setC : SetOf [kC 2 0, kC 3 7] (D tC (kC 1 0)) := by
  refine ⟨List.pairwise_cons.2 ⟨fun x hx => by rw [List.mem_singleton] at hx; rw [hx]; exact ltC, List.pairwise_singleton _ _⟩, fun x hx => ?_, fun y => ?_⟩
  · simp only [List.mem_cons, List.not_mem_nil, or_false] at hx
    rcases hx with rfl | rfl
    · exact kC_nm _ _
    · exact kC_nm _ _
  · rw [D_exC, put_k1, put_k2]
    simp only [List.mem_cons, List.not_mem_nil, or_false]
    exact ⟨fun h => ⟨rfl, h⟩, fun h => h.2⟩
theorem setN : SetOf [] (D tC (kC 5 0)) := by
  refine ⟨List.Pairwise.nil, fun x hx => (by cases hx), fun y => ?_⟩
  rw [D_exC]
  exact ⟨fun h => (by cases h), fun h => absurd h.1 (by show ¬ (5 : Int) = 1; decide)⟩
theorem right_kC (a b : Int) (ha : 0 ≤ a ∧ a ≤ 31) (hb : 0 ≤ b ∧ b ≤ 31) : rightS (kC a b) := fun i hi => by
  unfold kC okF
  repeat' split
  all_goals omega
/-- A new row of two packets. -/
theorem two_row (w : World) (k l : Nat → Int) : PkR (w.alloc (.cells (pkA k ++ pkA l) 46)) (.slice (some ⟨w.heap.size, 0, none⟩) 2 2) 2 (fun j => if j = 0 then k else l) := by
  obtain ⟨W, hW⟩ : ∃ W, W = w.alloc (.cells (pkA k ++ pkA l) 46) := ⟨_, rfl⟩
  have e : W.heap[w.heap.size]? = some (.cells (pkA k ++ pkA l) 46 (0, 0)) := by rw [hW]; exact heap_alloc_new _ _
  have hc : ∀ j, W.cell? ⟨w.heap.size, j, none⟩ = (pkA k ++ pkA l)[j]? := fun j => by simp [World.cell?, e]
  rw [← hW]
  refine .inr ⟨w.heap.size, 0, 2, rfl, by omega, fun j hj i hi => ?_⟩
  rw [show 0 + j * 6 + i = j * 6 + i by omega, hc]
  rcases (show j = 0 ∨ j = 1 by omega) with rfl | rfl
  · rcases (show i = 0 ∨ i = 1 ∨ i = 2 ∨ i = 3 ∨ i = 4 ∨ i = 5 by omega) with rfl | rfl | rfl | rfl | rfl | rfl <;> rfl
  · rcases (show i = 0 ∨ i = 1 ∨ i = 2 ∨ i = 3 ∨ i = 4 ∨ i = 5 by omega) with rfl | rfl | rfl | rfl | rfl | rfl <;> rfl
set_option maxRecDepth 100000 in
set_option maxHeartbeats 4000000 in
theorem example_any (w : World) (hn : Names w) : Calls Tryz.prog 14 #[] w fun e w' => ∃ b, e = .returned (.pointer (some ⟨b, 0, none⟩)) ∧ w.grownBy w' none := by
  obtain ⟨ok, _, _, hcn⟩ := read_okT read_exC
  have P1 := hide (compile_ok exC w hn (by decide) tC read_exC)
  have EV : Hid (∀ b a ww, rightS (kC a 0) → PolAt ww b tC → Calls Tryz.prog 16 #[.pointer (some ⟨b, 0, none⟩), .agg #[.int .i64 0, .int .i64 a, .int .i64 0, .int .i64 0, .int .i64 0, .int .i64 0]] ww fun e w' => ∃ ad c n d A, e = .returned (.tuple #[.slice ad n c, .int .i64 0]) ∧ PkR w' (.slice ad n c) n d ∧ Is A n d ∧ SetOf A (D tC (kC a 0)) ∧ PolAt w' b tC ∧ ww.grownBy w' none) := by
    intro b a ww hr hp
    refine (eval_any b tC (kC a 0) ww hp (kC_nm _ _) hcn ok.1 ok.2.1 ok.2.2).mono ?_
    rintro e w' ⟨v, n, d, A, h1, h2, h3, h4⟩
    rcases h1 with ⟨_, rfl, hs⟩ | ⟨hx, _⟩
    · obtain ⟨ad, c, rfl⟩ := h2.slice
      exact ⟨ad, c, n, d, A, rfl, h2.row.any, h3, hs, hp.grown h4, h4⟩
    · exact absurd hr hx
  clear hn ok hcn
  unfold exC at P1
  go_enter Tryz.func14, Tryz.ntmps14
  go_wp2_with fail
  refine P1.out.mono ?_
  rintro x w1 ⟨b, rfl, hp, _, g1⟩
  have E1 := hide (EV.out b 1 w1 (right_kC _ _ (by omega) (by omega)) hp)
  have G1 := hide g1
  clear hp g1 P1
  go_wp2_with fail
  refine E1.out.mono ?_
  rintro x w2 ⟨a2, c2, n2, d2, A2, rfl, p2, i2, s2, hp2, g2⟩
  obtain rfl := s2.one setC
  have hn2 : n2 = 2 := i2.len.symm
  subst hn2
  have P2 := hide p2
  have I2 := hide i2
  have E2 := hide (EV.out b 5 w2 (right_kC _ _ (by omega) (by omega)) hp2)
  have G2 := hide (grown_trans G1.out g2)
  clear p2 i2 s2 hp2 g2 E1 EV
  go_wp2_with fail
  refine E2.out.mono ?_
  rintro x w3 ⟨a3, c3, n3, d3, A3, rfl, p3, i3, s3, hp3, g3⟩
  obtain rfl := s3.one setN
  have hn3 : n3 = 0 := i3.len.symm
  subst hn3
  have G3 := hide (grown_trans G2.out g3)
  have P3 := hide (P2.out.grown g3)
  clear p3 i3 s3 hp3 g3 E2 P2
  have HS : Hid (Calls Tryz.prog 19 #[.slice a2 2 c2, .slice (some ⟨w3.heap.size, 0, none⟩) 2 2] (w3.alloc (.cells #[.int .i64 0, .int .i64 2, .int .i64 0, .int .i64 0, .int .i64 0, .int .i64 0, .int .i64 0, .int .i64 3, .int .i64 0, .int .i64 0, .int .i64 0, .int .i64 7] 46)) fun e w' => e = .returned (.bool true) ∧ w.grownBy w' none) := by
    refine (samePR _ _ 2 d2 (fun j => if j = 0 then kC 2 0 else kC 3 7) (w3.alloc (.cells (pkA (kC 2 0) ++ pkA (kC 3 7)) 46)) (P3.out.grown (World.grownBy_alloc _ _ _)) (two_row w3 _ _) (fun j hj i hi => ?_)).mono ?_
    · have := I2.out.get j hj
      rcases (show j = 0 ∨ j = 1 by omega) with rfl | rfl
      · have e : kC 2 0 = d2 0 := by simpa using this
        rw [← e]; rfl
      · have e : kC 3 7 = d2 1 := by simpa using this
        rw [← e]; rfl
    · rintro e w' ⟨rfl, hg⟩
      exact ⟨rfl, grown_trans G3.out (grown_trans (World.grownBy_alloc _ _ _) hg)⟩
  clear P3 I2 G2 G1
  go_wp2_with fail
  refine HS.out.mono ?_
  rintro e w4 ⟨rfl, g4⟩
  have G4 := hide g4
  clear g4 HS G3
  go_wp2
  go_ret
  exact ⟨b, rfl, G4.out⟩
end Go.Proofs.YtlhkfafdioakeaaGreatDoor
/- Proved here: the document's without: the packets of a set that are not in another one. -/
namespace Go.Proofs.YtlhkfafdioakeaaGreatDoor
open Go.RowKit Go.Weft
set_option linter.unusedVariables false
set_option linter.unusedSimpArgs false
theorem in_at {B : List (Nat → Int)} {nb : Nat} {qs : Nat → Nat → Int} (hB : Is B nb qs) (hs : Srt B) {k : Nat} {x : Nat → Int} (h1 : ∀ t, t < k → ltP (qs t) x) (h2 : k < nb → ¬ ltP (qs k) x) : x ∈ B ↔ k < nb ∧ qs k = x := by
  constructor
  · intro hx
    obtain ⟨t, ht, e⟩ := List.getElem_of_mem hx
    have htn : t < nb := by rw [← hB.len]; exact ht
    have e2 : qs t = x := by
      have := hB.get t htn
      rw [List.getElem?_eq_getElem ht, e] at this
      exact (Option.some.inj this).symm
    rcases Nat.lt_trichotomy t k with h | h | h
    · have := h1 t h
      rw [e2] at this
      exact absurd this (ltP.irrefl x)
    · subst h; exact ⟨htn, e2⟩
    · exfalso
      have hk : k < nb := by omega
      apply h2 hk
      have := hs.get h ht
      have ek : B[k]'(by omega) = qs k := by
        have h3 := hB.get k hk
        rw [List.getElem?_eq_getElem (by omega)] at h3
        exact Option.some.inj h3
      rw [ek, e] at this
      exact this
  · rintro ⟨hk, rfl⟩
    exact hB.mem hk
theorem lessS_step {A B : List (Nat → Int)} {na : Nat} {ps : Nat → Nat → Int} (hA : Is A na ps) {i : Nat} (hi : i < na) : (ps i ∈ B → lessS (A.take (i + 1)) B = lessS (A.take i) B) ∧ (ps i ∉ B → lessS (A.take (i + 1)) B = lessS (A.take i) B ++ [ps i]) := by
  have e : A.take (i + 1) = A.take i ++ [ps i] := by rw [List.take_add_one, hA.get i hi]; rfl
  unfold lessS
  rw [e, List.filter_append]
  constructor
  · intro h
    simp [h]
  · intro h
    simp [h]
set_option maxRecDepth 100000 in
set_option maxHeartbeats 8000000 in
theorem without_any (va vb : Value) (na nb : Nat) (ps qs : Nat → Nat → Int) (A B : List (Nat → Int)) (w : World) (ha : PkR w va na ps) (hb : PkR w vb nb qs) (hA : Is A na ps) (hB : Is B nb qs) (hnA : ∀ x ∈ A, Nm x) (hnB : ∀ x ∈ B, Nm x) (hsA : Srt A) (hsB : Srt B) (hl : na + nb ≤ 1000000000000) :
    Calls Tryz.prog 101 #[va, vb] w (SetO (lessS A B) w) := by
  obtain ⟨a, ca, rfl⟩ := ha.slice
  obtain ⟨b, cb, rfl⟩ := hb.slice
  have HPA := hide ha
  have HPB := hide hb
  have HIA := hide hA
  have HIB := hide hB
  have HNA := hide hnA
  have HNB := hide hnB
  have HSA := hide hsA
  have HSB := hide hsB
  have HQ : Hid (∀ e w', SetO (lessS A B) w e w' ↔ ∃ v n d, e = .returned v ∧ OwnV w.heap.size w' v n d ∧ Is (lessS A B) n d ∧ w.grownBy w' none) := fun _ _ => Iff.rfl
  clear ha hb hA hB hnA hnB hsA hsB
  generalize SetO (lessS A B) w = Q at HQ ⊢
  go_enter Tryz.func101, Tryz.ntmps101
  go_wp2_with fail
  go_loopw [5, 6, 7] (fun s5 s6 s7 wr => ∃ (i k n : Nat) (d : Nat → Nat → Int), i ≤ na ∧ k ≤ nb ∧ s6 = .int .i64 k ∧ s7 = .int .i64 i ∧ n ≤ i ∧ OwnV w.heap.size wr s5 n d ∧ Is (lessS (A.take i) B) n d ∧ (∀ t, t < k → ∀ s, i ≤ s → s < na → ltP (qs t) (ps s)) ∧ w.grownBy wr none) (fun _ _ s7 _ => na - (intOf s7).toNat)
  case atStart => exact ⟨0, 0, 0, fun _ _ => 0, by omega, by omega, rfl, rfl, by omega, OwnV.nil _ _ _, Is.none _, fun t ht => by omega, grown_refl _ _⟩
  case round =>
    obtain ⟨i, k, n, d, hi, hk, rfl, rfl, hn, ho, hO, hm, hg⟩ := hrel
    obtain ⟨oa, oc, rfl⟩ := ho.slice
    have HOW := hide ho
    have HO := hide hO
    have HM := hide hm
    have HG := hide hg
    have hsz := hg.size
    clear ho hO hm hg
    by_cases hlt : i < na
    · have hltI : (i : Int) < na := by omega
      rcases HPA.out with ⟨_, _, _, h0, _⟩ | ⟨g, off, capg, hvg, _, hcellg⟩
      · omega
      cases hvg
      obtain ⟨x, hx⟩ : ∃ x, x = ps i := ⟨_, rfl⟩
      have CX : Hid (∀ wx, w.grownBy wx none → ∀ t, t < 6 → wx.cell? ⟨g, off + i * 6 + t, none⟩ = some (.int .i64 (x t))) := fun wx hgx t ht => by rw [hx]; exact hgx.cell (hcellg i (by omega) t ht) (by simp)
      clear hcellg
      have HX := hide hx
      have HL : Hid (∀ t, t < k → ltP (qs t) x) := fun t ht => by rw [HX.out]; exact HM.out t ht i (Nat.le_refl _) hlt
      have STP := hide (lessS_step (B := B) HIA.out hlt)
      rw [← hx] at STP
      clear hx
      go_wp2_with fail
      go_loopw [6] (fun s6 wq => ∃ (k2 : Nat), k2 ≤ nb ∧ s6 = .int .i64 k2 ∧ (∀ t, t < k2 → ltP (qs t) x) ∧ OwnV w.heap.size wq (.slice oa n oc) n d ∧ w.grownBy wq none) (fun s6 _ => nb - (intOf s6).toNat)
      case atStart => exact ⟨k, hk, rfl, HL.out, HOW.out, HG.out⟩
      case round =>
        obtain ⟨k2, hk2, rfl, hall, ho2, hg2⟩ := hrel
        have HALL := hide hall
        have HOW2 := hide ho2
        have HG2 := hide hg2
        have hsz2 := hg2.size
        have NXT : Hid (∀ t, t < k2 → ∀ s, i + 1 ≤ s → s < na → ltP (qs t) (ps s)) := fun t ht s h1 h2 => by
          have h3 := HALL.out t ht
          have h4 := HSA.out.get (show i < s by omega) (by rw [HIA.out.len]; exact h2)
          have ei : A[i]'(by rw [HIA.out.len]; exact hlt) = ps i := by
            have h5 := HIA.out.get i hlt
            rw [List.getElem?_eq_getElem (by rw [HIA.out.len]; exact hlt)] at h5
            exact Option.some.inj h5
          have es : A[s]'(by rw [HIA.out.len]; exact h2) = ps s := by
            have h5 := HIA.out.get s h2
            rw [List.getElem?_eq_getElem (by rw [HIA.out.len]; exact h2)] at h5
            exact Option.some.inj h5
          rw [ei, es, ← HX.out] at h4
          exact h3.trans h4
        clear hall ho2 hg2 HOW HG HL HM
        by_cases hlt2 : k2 < nb
        · have hlt2I : (k2 : Int) < nb := by omega
          have hge : ¬ (nb : Int) ≤ k2 := by omega
          rcases HPB.out with ⟨_, _, _, h0, _⟩ | ⟨g2, off2, capg2, hvg2, _, hcellg2⟩
          · omega
          cases hvg2
          obtain ⟨y, hy⟩ : ∃ y, y = qs k2 := ⟨_, rfl⟩
          have CY : Hid (∀ wx, w.grownBy wx none → ∀ t, t < 6 → wx.cell? ⟨g2, off2 + k2 * 6 + t, none⟩ = some (.int .i64 (y t))) := fun wx hgx t ht => by rw [hy]; exact hgx.cell (hcellg2 k2 (by omega) t ht) (by simp)
          clear hcellg2
          have NX : Nm x := by rw [HX.out]; exact HNA.out _ (HIA.out.mem hlt)
          have NY : Nm y := by rw [hy]; exact HNB.out _ (HIB.out.mem hlt2)
          have INA : Hid (¬ ltP y x → (x ∈ B ↔ y = x)) := fun hnl => by
            rw [in_at HIB.out HSB.out HALL.out (fun _ => by rw [← hy]; exact hnl), ← hy]
            exact ⟨fun h => h.2, fun h => ⟨hlt2, h⟩⟩
          have HALL2 : Hid (ltP y x → ∀ t, t < k2 + 1 → ltP (qs t) x) := fun hl2 t ht => by
            by_cases e : t = k2
            · subst e; rw [← hy]; exact hl2
            · exact HALL.out t (by omega)
          have LESS := hide (fun ww => less_any y x ww)
          unfold pkV pkA at LESS
          have cX := CX.out wr HG2.out
          have cY := CY.out wr HG2.out
          have c0 : wr.cell? ⟨g, off + i * 6, none⟩ = some (.int .i64 (x 0)) := cX 0 (by omega)
          have c1 : wr.cell? ⟨g, off + i * 6 + 1, none⟩ = some (.int .i64 (x 1)) := cX 1 (by omega)
          have c2 : wr.cell? ⟨g, off + i * 6 + 2, none⟩ = some (.int .i64 (x 2)) := cX 2 (by omega)
          have c3 : wr.cell? ⟨g, off + i * 6 + 3, none⟩ = some (.int .i64 (x 3)) := cX 3 (by omega)
          have c4 : wr.cell? ⟨g, off + i * 6 + 4, none⟩ = some (.int .i64 (x 4)) := cX 4 (by omega)
          have c5 : wr.cell? ⟨g, off + i * 6 + 5, none⟩ = some (.int .i64 (x 5)) := cX 5 (by omega)
          have d0 : wr.cell? ⟨g2, off2 + k2 * 6, none⟩ = some (.int .i64 (y 0)) := cY 0 (by omega)
          have d1 : wr.cell? ⟨g2, off2 + k2 * 6 + 1, none⟩ = some (.int .i64 (y 1)) := cY 1 (by omega)
          have d2 : wr.cell? ⟨g2, off2 + k2 * 6 + 2, none⟩ = some (.int .i64 (y 2)) := cY 2 (by omega)
          have d3 : wr.cell? ⟨g2, off2 + k2 * 6 + 3, none⟩ = some (.int .i64 (y 3)) := cY 3 (by omega)
          have d4 : wr.cell? ⟨g2, off2 + k2 * 6 + 4, none⟩ = some (.int .i64 (y 4)) := cY 4 (by omega)
          have d5 : wr.cell? ⟨g2, off2 + k2 * 6 + 5, none⟩ = some (.int .i64 (y 5)) := cY 5 (by omega)
          clear hy cX cY
          go_upto_region 7 with fail
          go_region_with (go_at_call 153; refine (LESS.out _).mono ?_; rintro e w2 ⟨⟨bb, rfl, hbb⟩, g2'⟩; have G2 := hide (grown_trans HG2.out (show wr.grownBy w2 none by first | exact grown_undrew g2' | exact g2')); have OW := hide (HOW2.out.grown (show wr.grownBy w2 none by first | exact grown_undrew g2' | exact g2') (fun b e => by cases e)); have HBB := hide hbb; have cX2 := CX.out w2 G2.out; have cY2 := CY.out w2 G2.out; have e0 : w2.cell? ⟨g, off + i * 6, none⟩ = some (.int .i64 (x 0)) := cX2 0 (by omega); have e1 : w2.cell? ⟨g, off + i * 6 + 1, none⟩ = some (.int .i64 (x 1)) := cX2 1 (by omega); have e2 : w2.cell? ⟨g, off + i * 6 + 2, none⟩ = some (.int .i64 (x 2)) := cX2 2 (by omega); have e3 : w2.cell? ⟨g, off + i * 6 + 3, none⟩ = some (.int .i64 (x 3)) := cX2 3 (by omega); have e4 : w2.cell? ⟨g, off + i * 6 + 4, none⟩ = some (.int .i64 (x 4)) := cX2 4 (by omega); have e5 : w2.cell? ⟨g, off + i * 6 + 5, none⟩ = some (.int .i64 (x 5)) := cX2 5 (by omega); have f0 : w2.cell? ⟨g2, off2 + k2 * 6, none⟩ = some (.int .i64 (y 0)) := cY2 0 (by omega); have f1 : w2.cell? ⟨g2, off2 + k2 * 6 + 1, none⟩ = some (.int .i64 (y 1)) := cY2 1 (by omega); have f2 : w2.cell? ⟨g2, off2 + k2 * 6 + 2, none⟩ = some (.int .i64 (y 2)) := cY2 2 (by omega); have f3 : w2.cell? ⟨g2, off2 + k2 * 6 + 3, none⟩ = some (.int .i64 (y 3)) := cY2 3 (by omega); have f4 : w2.cell? ⟨g2, off2 + k2 * 6 + 4, none⟩ = some (.int .i64 (y 4)) := cY2 4 (by omega); have f5 : w2.cell? ⟨g2, off2 + k2 * 6 + 5, none⟩ = some (.int .i64 (y 5)) := cY2 5 (by omega); clear cX2 cY2 g2' hbb c0 c1 c2 c3 c4 c5 d0 d1 d2 d3 d4 d5)
          all_goals
            cases bb
            · have hnl : ¬ ltP y x := fun h => by have := HBB.out.2 h; cases this
              by_cases hxy : y = x
              · have he : eq6 (y 0) (y 1) (y 2) (y 3) (y 4) (y 5) (x 0) (x 1) (x 2) (x 3) (x 4) (x 5) = true := eq6_true ((cmpP_zero y x).2 (fun t _ => by rw [hxy]))
                have IN := hide ((INA.out hnl).2 hxy)
                clear hxy hnl NX NY
                go_wp2_with fail
                go_quiet (fail)
                have GW := hide (grown_drewN G2.out nq)
                have OW3 := hide (OW.out.grown (grown_drewN (grown_refl w2 none) nq) (fun b e => by cases e))
                obtain ⟨w3, hw3⟩ : ∃ w3, w3 = w2.drewN nq := ⟨_, rfl⟩
                rw [← hw3] at GW OW3
                rw [← hw3]
                clear hw3
                have hgeN : ¬ nb ≤ k2 := by omega
                go_wp2_with fail
                exact ⟨⟨i + 1, k2, n, d, by omega, hk2, rfl, by go_num, by omega, OW3.out, by rw [STP.out.1 IN.out]; exact HO.out, NXT.out, GW.out⟩, by simp [intOf]; omega⟩
              · have he : eq6 (y 0) (y 1) (y 2) (y 3) (y 4) (y 5) (x 0) (x 1) (x 2) (x 3) (x 4) (x 5) = false := eq6_false (fun h => hxy (NY.ext NX ((cmpP_zero y x).1 h)))
                have NIN : Hid (x ∉ B) := fun h => hxy ((INA.out hnl).1 h)
                clear hxy hnl NX NY
                go_wp2_with fail
                go_quiet (fail)
                have GW := hide (grown_drewN G2.out nq)
                have OW3 := hide (OW.out.grown (grown_drewN (grown_refl w2 none) nq) (fun b e => by cases e))
                obtain ⟨w3, hw3⟩ : ∃ w3, w3 = w2.drewN nq := ⟨_, rfl⟩
                rw [← hw3] at GW OW3
                rw [← hw3]
                clear hw3
                clear e0 e1 e2 e3 e4 e5 f0 f1 f2 f3 f4 f5
                have cZ := CX.out w3 GW.out
                have h0 : w3.cell? ⟨g, off + i * 6, none⟩ = some (.int .i64 (x 0)) := cZ 0 (by omega)
                have h1 : w3.cell? ⟨g, off + i * 6 + 1, none⟩ = some (.int .i64 (x 1)) := cZ 1 (by omega)
                have h2 : w3.cell? ⟨g, off + i * 6 + 2, none⟩ = some (.int .i64 (x 2)) := cZ 2 (by omega)
                have h3 : w3.cell? ⟨g, off + i * 6 + 3, none⟩ = some (.int .i64 (x 3)) := cZ 3 (by omega)
                have h4 : w3.cell? ⟨g, off + i * 6 + 4, none⟩ = some (.int .i64 (x 4)) := cZ 4 (by omega)
                have h5 : w3.cell? ⟨g, off + i * 6 + 5, none⟩ = some (.int .i64 (x 5)) := cZ 5 (by omega)
                clear cZ
                have HR := hide (one_row w3 x)
                unfold pkA at HR
                go_wp2_with (at_builtin; refine wpList_append_pk _ rfl _ _ rfl w.heap.size (.slice oa n oc) n d rfl (OW3.out.grown (World.grownBy_alloc _ _ none) (fun b e => by cases e)) _ 1 (fun _ => x) rfl HR.out (by omega) (by have := GW.out.size; simp; omega) ?_)
                intro v5 w5 o5 g5 _
                obtain ⟨a5, q5, rfl⟩ := o5.slice
                have G5 := hide (grew_one (v' := .slice a5 (n + 1) q5) GW.out OW3.out (World.grownBy_alloc _ _ none) g5)
                have O5 := hide o5
                clear o5 g5
                go_wp2_with fail
                exact ⟨⟨i + 1, k2, n + 1, _, by omega, hk2, rfl, by go_num, by omega, O5.out, by rw [STP.out.2 NIN.out]; exact HO.out.more x, NXT.out, G5.out⟩, by simp [intOf]; omega⟩
            · have HL2 := hide (HALL2.out (HBB.out.1 rfl))
              go_wp2_with fail
              exact ⟨⟨k2 + 1, by omega, by go_num, HL2.out, OW.out, G2.out⟩, by simp [intOf]; omega⟩
        · obtain rfl : k2 = nb := by omega
          have NIN : Hid (x ∉ B) := fun h => by
            have := (in_at HIB.out HSB.out HALL.out (fun h => absurd h (Nat.lt_irrefl _))).1 h
            exact absurd this.1 (Nat.lt_irrefl _)
          have cX := CX.out wr HG2.out
          have c0 : wr.cell? ⟨g, off + i * 6, none⟩ = some (.int .i64 (x 0)) := cX 0 (by omega)
          have c1 : wr.cell? ⟨g, off + i * 6 + 1, none⟩ = some (.int .i64 (x 1)) := cX 1 (by omega)
          have c2 : wr.cell? ⟨g, off + i * 6 + 2, none⟩ = some (.int .i64 (x 2)) := cX 2 (by omega)
          have c3 : wr.cell? ⟨g, off + i * 6 + 3, none⟩ = some (.int .i64 (x 3)) := cX 3 (by omega)
          have c4 : wr.cell? ⟨g, off + i * 6 + 4, none⟩ = some (.int .i64 (x 4)) := cX 4 (by omega)
          have c5 : wr.cell? ⟨g, off + i * 6 + 5, none⟩ = some (.int .i64 (x 5)) := cX 5 (by omega)
          clear cX
          go_wp2_with fail
          go_quiet (fail)
          have GW := hide (grown_drewN HG2.out nq)
          have OW3 := hide (HOW2.out.grown (grown_drewN (grown_refl wr none) nq) (fun b e => by cases e))
          obtain ⟨w3, hw3⟩ : ∃ w3, w3 = wr.drewN nq := ⟨_, rfl⟩
          rw [← hw3] at GW OW3
          rw [← hw3]
          clear hw3
          clear c0 c1 c2 c3 c4 c5
          have cZ := CX.out w3 GW.out
          have h0 : w3.cell? ⟨g, off + i * 6, none⟩ = some (.int .i64 (x 0)) := cZ 0 (by omega)
          have h1 : w3.cell? ⟨g, off + i * 6 + 1, none⟩ = some (.int .i64 (x 1)) := cZ 1 (by omega)
          have h2 : w3.cell? ⟨g, off + i * 6 + 2, none⟩ = some (.int .i64 (x 2)) := cZ 2 (by omega)
          have h3 : w3.cell? ⟨g, off + i * 6 + 3, none⟩ = some (.int .i64 (x 3)) := cZ 3 (by omega)
          have h4 : w3.cell? ⟨g, off + i * 6 + 4, none⟩ = some (.int .i64 (x 4)) := cZ 4 (by omega)
          have h5 : w3.cell? ⟨g, off + i * 6 + 5, none⟩ = some (.int .i64 (x 5)) := cZ 5 (by omega)
          clear cZ
          have HR := hide (one_row w3 x)
          unfold pkA at HR
          go_wp2_with (at_builtin; refine wpList_append_pk _ rfl _ _ rfl w.heap.size (.slice oa n oc) n d rfl (OW3.out.grown (World.grownBy_alloc _ _ none) (fun b e => by cases e)) _ 1 (fun _ => x) rfl HR.out (by omega) (by have := GW.out.size; simp; omega) ?_)
          intro v5 w5 o5 g5 _
          obtain ⟨a5, q5, rfl⟩ := o5.slice
          have G5 := hide (grew_one (v' := .slice a5 (n + 1) q5) GW.out OW3.out (World.grownBy_alloc _ _ none) g5)
          have O5 := hide o5
          clear o5 g5
          go_wp2_with fail
          exact ⟨⟨i + 1, k2, n + 1, _, by omega, hk2, rfl, by go_num, by omega, O5.out, by rw [STP.out.2 NIN.out]; exact HO.out.more x, NXT.out, G5.out⟩, by simp [intOf]; omega⟩
    · have hltI : ¬ (i : Int) < na := by omega
      go_wp2
      refine (HQ.out _ _).2 ⟨_, n, d, rfl, HOW.out, ?_, HG.out⟩
      have e : A.take i = A := List.take_of_length_le (by rw [HIA.out.len]; omega)
      have := HO.out
      rwa [e] at this
end Go.Proofs.YtlhkfafdioakeaaGreatDoor
/- Proved here: what the document's all makes of a set: leaves. -/
namespace Go.Proofs.YtlhkfafdioakeaaGreatDoor
open Go.RowKit Go.Weft
set_option linter.unusedVariables false
set_option linter.unusedSimpArgs false
/-- What 'all' leaves: a set that can be read. -/
def AllO (L : List (Nat → Int)) (w : World) (e : Ending) (w' : World) : Prop := ∃ v n d, e = .returned v ∧ PkR w' v n d ∧ Is L n d ∧ w.grownBy w' none
theorem PkR.none (w : World) (d : Nat → Nat → Int) : PkR w (.slice none 0 0) 0 d := .inl ⟨Option.none, 0, rfl, rfl, fun _ => rfl⟩
set_option maxRecDepth 100000 in
set_option maxHeartbeats 1000000 in
theorem all_id (b : Nat) (v : Value) (n : Nat) (d : Nat → Nat → Int) (L : List (Nat → Int)) (w : World) (h : nodeAt w b (rLeaf 0)) (hv : PkR w v n d) (hL : Is L n d) : Calls Tryz.prog 57 #[ptrV b, v] w (AllO L w) := by
  have c0 : w.cell? ⟨b, 0, none⟩ = some (.int .u8 105) := h.cell 0
  have hl := h.lt
  obtain ⟨a, c, rfl⟩ := hv.slice
  have HV := hide hv
  have HL := hide hL
  have HQ : Hid (∀ e w', AllO L w e w' ↔ ∃ v n d, e = .returned v ∧ PkR w' v n d ∧ Is L n d ∧ w.grownBy w' none) := fun _ _ => Iff.rfl
  generalize AllO L w = Q at HQ ⊢
  unfold ptrV
  clear h hv hL
  go_enter Tryz.func57, Tryz.ntmps57
  go_wp2
  refine (HQ.out _ _).2 ⟨_, n, d, rfl, HV.out, HL.out, grown_refl _ _⟩
set_option maxRecDepth 100000 in
set_option maxHeartbeats 1000000 in
theorem all_drop (b : Nat) (v : Value) (n : Nat) (d : Nat → Nat → Int) (w : World) (h : nodeAt w b (rLeaf 1)) (hv : PkR w v n d) : Calls Tryz.prog 57 #[ptrV b, v] w (AllO [] w) := by
  have c0 : w.cell? ⟨b, 0, none⟩ = some (.int .u8 100) := h.cell 0
  have hl := h.lt
  obtain ⟨a, c, rfl⟩ := hv.slice
  have HQ : Hid (∀ e w', AllO [] w e w' ↔ ∃ v n d, e = .returned v ∧ PkR w' v n d ∧ Is [] n d ∧ w.grownBy w' none) := fun _ _ => Iff.rfl
  generalize AllO [] w = Q at HQ ⊢
  unfold ptrV
  clear h hv
  go_enter Tryz.func57, Tryz.ntmps57
  go_wp2
  refine (HQ.out _ _).2 ⟨_, 0, fun _ _ => 0, rfl, PkR.none _ _, Is.none _, grown_refl _ _⟩
theorem filter_step {L : List (Nat → Int)} {n : Nat} {d : Nat → Nat → Int} (h : Is L n d) {i : Nat} (hi : i < n) (p : (Nat → Int) → Bool) : (p (d i) = true → (L.take (i + 1)).filter p = (L.take i).filter p ++ [d i]) ∧ (p (d i) = false → (L.take (i + 1)).filter p = (L.take i).filter p) := by
  have e : L.take (i + 1) = L.take i ++ [d i] := by rw [List.take_add_one, h.get i hi]; rfl
  rw [e, List.filter_append]
  exact ⟨fun h => by simp [h], fun h => by simp [h]⟩
set_option maxRecDepth 100000 in
set_option maxHeartbeats 4000000 in
theorem all_test (b F V : Nat) (hF : F < 6) (v : Value) (n : Nat) (d : Nat → Nat → Int) (L : List (Nat → Int)) (w : World) (h : nodeAt w b #[.int .u8 61, .int .i64 (F : Int), .int .i64 (V : Int), .slice none 0 0]) (hv : PkR w v n d) (hL : Is L n d) (hl : n ≤ 1000000000000) : Calls Tryz.prog 57 #[ptrV b, v] w (AllO (L.filter fun x => decide (x F = (V : Int))) w) := by
  have a0 : w.cell? ⟨b, 0, none⟩ = some (.int .u8 61) := h.cell 0
  have a1 : w.cell? ⟨b, 1, none⟩ = some (.int .i64 (F : Int)) := h.cell 1
  have a2 : w.cell? ⟨b, 2, none⟩ = some (.int .i64 (V : Int)) := h.cell 2
  have hlt0 := h.lt
  obtain ⟨la, lc, rfl⟩ := hv.slice
  have HV := hide hv
  have HL := hide hL
  obtain ⟨p, hp⟩ : ∃ p : (Nat → Int) → Bool, p = fun x => decide (x F = (V : Int)) := ⟨_, rfl⟩
  rw [← hp]
  have HP := hide hp
  have HQ : Hid (∀ e w', AllO (L.filter p) w e w' ↔ ∃ v n d, e = .returned v ∧ PkR w' v n d ∧ Is (L.filter p) n d ∧ w.grownBy w' none) := fun _ _ => Iff.rfl
  generalize AllO (L.filter p) w = Q at HQ ⊢
  have HA : Hid (∀ ww, w.grownBy ww none → ww.cell? ⟨b, 1, none⟩ = some (.int .i64 (F : Int)) ∧ ww.cell? ⟨b, 2, none⟩ = some (.int .i64 (V : Int)) ∧ b < ww.heap.size) := fun ww hg => ⟨hg.cell a1 (by simp), hg.cell a2 (by simp), Nat.lt_of_lt_of_le hlt0 hg.size⟩
  have hFI : (F : Int) < 6 := by omega
  unfold ptrV
  clear h hv hL hp
  go_enter Tryz.func57, Tryz.ntmps57
  go_wp2_with fail
  clear a0 a1 a2
  go_loopw [5, 6] (fun s5 s6 wr => ∃ (i m : Nat) (e : Nat → Nat → Int), i ≤ n ∧ s6 = .int .i64 i ∧ m ≤ i ∧ OwnV w.heap.size wr s5 m e ∧ Is ((L.take i).filter p) m e ∧ w.grownBy wr none) (fun _ s6 _ => n - (intOf s6).toNat)
  case atStart => exact ⟨0, 0, fun _ _ => 0, by omega, rfl, by omega, OwnV.nil _ _ _, Is.none _, grown_refl _ _⟩
  case round =>
    obtain ⟨i, m, e, hi, rfl, hm, ho, hO, hg⟩ := hrel
    obtain ⟨oa, oc, rfl⟩ := ho.slice
    have HOW := hide ho
    have HO := hide hO
    have HG := hide hg
    have hsz := hg.size
    clear ho hO hg
    by_cases hlt : i < n
    · have hltI : (i : Int) < n := by omega
      rcases HV.out with ⟨_, _, _, h0, _⟩ | ⟨g, off, capg, hvg, _, hcellg⟩
      · omega
      cases hvg
      obtain ⟨x, hx⟩ : ∃ x, x = d i := ⟨_, rfl⟩
      have CX : Hid (∀ wx, w.grownBy wx none → ∀ t, t < 6 → wx.cell? ⟨g, off + i * 6 + t, none⟩ = some (.int .i64 (x t))) := fun wx hgx t ht => by rw [hx]; exact hgx.cell (hcellg i (by omega) t ht) (by simp)
      have STP := hide (filter_step HL.out hlt p)
      rw [← hx] at STP
      clear hcellg hx
      have cF : wr.cell? ⟨g, off + i * 6 + F, none⟩ = some (.int .i64 (x F)) := CX.out wr HG.out F hF
      obtain ⟨b1, b2, b3⟩ := HA.out wr HG.out
      obtain ⟨xf, hxf⟩ : ∃ xf, xf = x F := ⟨_, rfl⟩
      rw [← hxf] at cF
      have HXF := hide hxf
      clear hxf
      by_cases hc : xf = (V : Int)
      · have HC : Hid (p x = true) := by rw [HP.out]; show decide (x F = _) = true; rw [← HXF.out]; exact decide_eq_true hc
        go_wp2_with fail
        go_quiet (fail)
        have GW := hide (grown_drewN HG.out nq)
        have OW3 := hide (HOW.out.grown (grown_drewN (grown_refl wr none) nq) (fun b e => by cases e))
        obtain ⟨w3, hw3⟩ : ∃ w3, w3 = wr.drewN nq := ⟨_, rfl⟩
        rw [← hw3] at GW OW3
        rw [← hw3]
        clear hw3 cF b1 b2 b3
        have cZ := CX.out w3 GW.out
        have h0 : w3.cell? ⟨g, off + i * 6, none⟩ = some (.int .i64 (x 0)) := cZ 0 (by omega)
        have h1 : w3.cell? ⟨g, off + i * 6 + 1, none⟩ = some (.int .i64 (x 1)) := cZ 1 (by omega)
        have h2 : w3.cell? ⟨g, off + i * 6 + 2, none⟩ = some (.int .i64 (x 2)) := cZ 2 (by omega)
        have h3 : w3.cell? ⟨g, off + i * 6 + 3, none⟩ = some (.int .i64 (x 3)) := cZ 3 (by omega)
        have h4 : w3.cell? ⟨g, off + i * 6 + 4, none⟩ = some (.int .i64 (x 4)) := cZ 4 (by omega)
        have h5 : w3.cell? ⟨g, off + i * 6 + 5, none⟩ = some (.int .i64 (x 5)) := cZ 5 (by omega)
        clear cZ
        have HR := hide (one_row w3 x)
        unfold pkA at HR
        go_wp2_with (at_builtin; refine wpList_append_pk _ rfl _ _ rfl w.heap.size (.slice oa m oc) m e rfl (OW3.out.grown (World.grownBy_alloc _ _ none) (fun b e => by cases e)) _ 1 (fun _ => x) rfl HR.out (by omega) (by have := GW.out.size; simp; omega) ?_)
        intro v5 w5 o5 g5 _
        obtain ⟨a5, q5, rfl⟩ := o5.slice
        have G5 := hide (grew_one (v' := .slice a5 (m + 1) q5) GW.out OW3.out (World.grownBy_alloc _ _ none) g5)
        have O5 := hide o5
        clear o5 g5
        go_wp2_with fail
        exact ⟨⟨i + 1, m + 1, _, by omega, by go_num, by omega, O5.out, by rw [STP.out.1 HC.out]; exact HO.out.more x, G5.out⟩, by simp [intOf]; omega⟩
      · have HC : Hid (p x = false) := by rw [HP.out]; show decide (x F = _) = false; rw [← HXF.out]; exact decide_eq_false hc
        go_wp2_with fail
        go_quiet (fail)
        have GW := hide (grown_drewN HG.out nq)
        have OW3 := hide (HOW.out.grown (grown_drewN (grown_refl wr none) nq) (fun b e => by cases e))
        obtain ⟨w3, hw3⟩ : ∃ w3, w3 = wr.drewN nq := ⟨_, rfl⟩
        rw [← hw3] at GW OW3
        rw [← hw3]
        clear hw3 cF b1 b2 b3
        have hbq : (xf == (V : Int)) = false := by simp [hc]
        go_wp2_with fail
        exact ⟨⟨i + 1, m, e, by omega, by go_num, by omega, OW3.out, by rw [STP.out.2 HC.out]; exact HO.out, GW.out⟩, by simp [intOf]; omega⟩
    · have hltI : ¬ (i : Int) < n := by omega
      go_wp2
      refine (HQ.out _ _).2 ⟨_, m, e, rfl, HOW.out.row.any, ?_, HG.out⟩
      have e2 : L.take i = L := List.take_of_length_le (by rw [HL.out.len]; omega)
      have := HO.out
      rwa [e2] at this
end Go.Proofs.YtlhkfafdioakeaaGreatDoor
/- Proved here: what the document's all makes of a set: a setting. -/
namespace Go.Proofs.YtlhkfafdioakeaaGreatDoor
open Go.RowKit Go.Weft
set_option linter.unusedVariables false
set_option linter.unusedSimpArgs false
theorem insS_few (k : Nat → Int) : ∀ l : List (Nat → Int), (insS k l).length ≤ l.length + 1
  | [] => by simp [insS]
  | x :: l => by
    have := insS_few k l
    unfold insS
    repeat' split
    all_goals simp only [List.length_cons] at *
    all_goals omega
theorem setS_few (l : List (Nat → Int)) : (setS l).length ≤ l.length := by
  have key : ∀ (l s : List (Nat → Int)), (l.foldl (fun s k => insS k s) s).length ≤ s.length + l.length := by
    intro l
    induction l with
    | nil => intro s; simp
    | cons x l ih =>
      intro s
      have h1 := ih (insS x s)
      have h2 := insS_few x s
      simp only [List.foldl_cons, List.length_cons]
      omega
  have := key l []
  simpa [setS] using this
theorem setS_snoc (l : List (Nat → Int)) (k : Nat → Int) : setS (l ++ [k]) = insS k (setS l) := by unfold setS; rw [List.foldl_append]; rfl
theorem map_step {L : List (Nat → Int)} {n : Nat} {d : Nat → Nat → Int} (h : Is L n d) {i : Nat} (hi : i < n) (f : (Nat → Int) → (Nat → Int)) : setS ((L.take (i + 1)).map f) = insS (f (d i)) (setS ((L.take i).map f)) := by
  have e : L.take (i + 1) = L.take i ++ [d i] := by rw [List.take_add_one, h.get i hi]; rfl
  rw [e, List.map_append, List.map_singleton, setS_snoc]
set_option maxRecDepth 100000 in
set_option maxHeartbeats 4000000 in
theorem all_put (b F V : Nat) (hF : F < 6) (v : Value) (n : Nat) (d : Nat → Nat → Int) (L : List (Nat → Int)) (w : World) (h : nodeAt w b #[.int .u8 58, .int .i64 (F : Int), .int .i64 (V : Int), .slice none 0 0]) (hv : PkR w v n d) (hL : Is L n d) (hl : n ≤ 1000000000000) : Calls Tryz.prog 57 #[ptrV b, v] w (AllO (setS (L.map fun x => putF x F (V : Int))) w) := by
  have a0 : w.cell? ⟨b, 0, none⟩ = some (.int .u8 58) := h.cell 0
  have a1 : w.cell? ⟨b, 1, none⟩ = some (.int .i64 (F : Int)) := h.cell 1
  have a2 : w.cell? ⟨b, 2, none⟩ = some (.int .i64 (V : Int)) := h.cell 2
  have hlt0 := h.lt
  obtain ⟨la, lc, rfl⟩ := hv.slice
  have HV := hide hv
  have HL := hide hL
  obtain ⟨p, hp⟩ : ∃ p : (Nat → Int) → (Nat → Int), p = fun x => putF x F (V : Int) := ⟨_, rfl⟩
  rw [← hp]
  have HP := hide hp
  have HQ : Hid (∀ e w', AllO (setS (L.map p)) w e w' ↔ ∃ v n d, e = .returned v ∧ PkR w' v n d ∧ Is (setS (L.map p)) n d ∧ w.grownBy w' none) := fun _ _ => Iff.rfl
  generalize AllO (setS (L.map p)) w = Q at HQ ⊢
  have HA : Hid (∀ ww, w.grownBy ww none → ww.cell? ⟨b, 1, none⟩ = some (.int .i64 (F : Int)) ∧ ww.cell? ⟨b, 2, none⟩ = some (.int .i64 (V : Int)) ∧ b < ww.heap.size) := fun ww hg => ⟨hg.cell a1 (by simp), hg.cell a2 (by simp), Nat.lt_of_lt_of_le hlt0 hg.size⟩
  have hFI : (F : Int) < 6 := by omega
  unfold ptrV
  clear h hv hL hp
  go_enter Tryz.func57, Tryz.ntmps57
  go_wp2_with fail
  clear a0 a1 a2
  go_loopw [5, 7] (fun s5 s6 wr => ∃ (i m : Nat) (e : Nat → Nat → Int), i ≤ n ∧ s6 = .int .i64 i ∧ OwnV w.heap.size wr s5 m e ∧ Is (setS ((L.take i).map p)) m e ∧ w.grownBy wr none) (fun _ s6 _ => n - (intOf s6).toNat)
  case atStart => exact ⟨0, 0, fun _ _ => 0, by omega, rfl, OwnV.nil _ _ _, Is.none _, grown_refl _ _⟩
  case round =>
    obtain ⟨i, m, e, hi, rfl, ho, hO, hg⟩ := hrel
    obtain ⟨oa, oc, rfl⟩ := ho.slice
    have hm : m ≤ 1000000000000 := by
      have h1 := setS_few ((L.take i).map p)
      rw [hO.len, List.length_map, List.length_take] at h1
      omega
    have HOW := hide ho
    have HO := hide hO
    have HG := hide hg
    have hsz := hg.size
    clear ho hO hg
    by_cases hlt : i < n
    · have hltI : (i : Int) < n := by omega
      rcases HV.out with ⟨_, _, _, h0, _⟩ | ⟨g, off, capg, hvg, _, hcellg⟩
      · omega
      cases hvg
      obtain ⟨x, hx⟩ : ∃ x, x = d i := ⟨_, rfl⟩
      have CX : Hid (∀ wx, w.grownBy wx none → ∀ t, t < 6 → wx.cell? ⟨g, off + i * 6 + t, none⟩ = some (.int .i64 (x t))) := fun wx hgx t ht => by rw [hx]; exact hgx.cell (hcellg i (by omega) t ht) (by simp)
      have STP := hide (map_step HL.out hlt p)
      rw [← hx] at STP
      clear hcellg hx
      have cX := CX.out wr HG.out
      have c0 : wr.cell? ⟨g, off + i * 6, none⟩ = some (.int .i64 (x 0)) := cX 0 (by omega)
      have c1 := cX 1 (by omega)
      have c2 := cX 2 (by omega)
      have c3 := cX 3 (by omega)
      have c4 := cX 4 (by omega)
      have c5 := cX 5 (by omega)
      have hgw : g < wr.heap.size := World.block_lt_of_cell? wr _ c0
      clear cX
      go_upto_region 19 with fail
      obtain ⟨wB, hB⟩ : ∃ wB, wB = wr.alloc (.cells #[.int .i64 (x 0), .int .i64 (x 1), .int .i64 (x 2), .int .i64 (x 3), .int .i64 (x 4), .int .i64 (x 5)] 46) := ⟨_, rfl⟩
      have BB : pkBlk wB wr.heap.size x := by rw [hB]; exact pkBlk.alloc wr x
      have gB : Hid (wr.grownBy wB none) := by rw [hB]; exact World.grownBy_alloc _ _ _
      obtain ⟨b1, b2, b3⟩ := HA.out wB (grown_trans HG.out gB.out)
      have cF : wB.cell? ⟨wr.heap.size, F, none⟩ = some (.int .i64 (x F)) := BB.cell F hF
      have fF := BB.frozen F
      have HBB := hide BB
      rw [← hB]
      clear hB c0 c1 c2 c3 c4 c5 BB
      go_region
      obtain ⟨w4, hw4⟩ : ∃ w4, w4 = (wB.setCell ⟨wr.heap.size, F, none⟩ (.int .i64 (V : Int))).drew := ⟨_, rfl⟩
      obtain ⟨z, hz⟩ : ∃ z, z = putF x F (V : Int) := ⟨_, rfl⟩
      have BZ : pkBlk w4 wr.heap.size z := by rw [hw4, hz]; exact HBB.out.set F hF (V : Int)
      have g4 : wr.grownBy w4 none := by rw [hw4]; exact grown_drew (grown_new gB.out (grown_set _ _ _ _) (Nat.le_refl _))
      have G4 := hide (grown_trans HG.out g4)
      have HZ : Hid (p x = z) := by rw [HP.out, hz]; rfl
      have HW : Hid (Calls Tryz.prog 100 #[.slice oa m oc, .agg #[.int .i64 (z 0), .int .i64 (z 1), .int .i64 (z 2), .int .i64 (z 3), .int .i64 (z 4), .int .i64 (z 5)]] w4 fun e2 w' => ∃ a2 c2 n2 d2 bb, e2 = .returned (.tuple #[.slice a2 n2 c2, .bool bb]) ∧ OwnV w.heap.size w' (.slice a2 n2 c2) n2 d2 ∧ Is (insS z (setS ((L.take i).map p))) n2 d2 ∧ w4.grownBy w' none) := by
        refine (with_any w.heap.size (.slice oa m oc) m e _ z w4 (HOW.out.grown g4 (fun b e => by cases e)) HO.out hm (by have := G4.out.size; omega)).mono ?_
        rintro e2 w' ⟨v2, n2, d2, bb, h1, h2, rfl, h4⟩
        obtain ⟨a2, c2, rfl⟩ := h2.slice
        exact ⟨a2, c2, n2, d2, bb, rfl, h2, h1, h4⟩
      obtain ⟨z0, z1, z2, z3, z4, z5⟩ := results2 BZ
      have hzw : wr.heap.size < w4.heap.size := World.block_lt_of_cell? w4 _ z0
      rw [← hw4]
      clear hw4 hz BZ g4 cF fF b1 b2 b3 HBB gB
      go_wp2_with fail
      refine HW.out.mono ?_
      rintro e2 w5 ⟨a2, c2, n2, d2, bb, rfl, o5, i5, g5⟩
      have O5 := hide o5
      have I5 := hide i5
      have G5 := hide (grown_trans G4.out g5)
      clear o5 i5 g5 HW
      go_wp2_with fail
      exact ⟨⟨i + 1, n2, d2, by omega, by go_num, O5.out, by rw [STP.out, HZ.out]; exact I5.out, G5.out⟩, by simp [intOf]; omega⟩
    · have hltI : ¬ (i : Int) < n := by omega
      go_wp2
      refine (HQ.out _ _).2 ⟨_, m, e, rfl, HOW.out.row.any, ?_, HG.out⟩
      have e2 : L.take i = L := List.take_of_length_le (by rw [HL.out.len]; omega)
      have := HO.out
      rwa [e2] at this
end Go.Proofs.YtlhkfafdioakeaaGreatDoor
/- Proved here: what the document's all makes of a set: a negation. -/
namespace Go.Proofs.YtlhkfafdioakeaaGreatDoor
open Go.RowKit Go.Weft
set_option linter.unusedVariables false
set_option linter.unusedSimpArgs false
/-- What 'all' leaves, its value written out. -/
theorem AllO.slice {L : List (Nat → Int)} {w : World} {e : Ending} {w' : World} (h : AllO L w e w') : ∃ a c n d, e = .returned (.slice a n c) ∧ PkR w' (.slice a n c) n d ∧ Is L n d ∧ w.grownBy w' none := by
  obtain ⟨v, n, d, rfl, h1, h2, h3⟩ := h
  obtain ⟨a, c, rfl⟩ := h1.slice
  exact ⟨a, c, n, d, rfl, h1, h2, h3⟩
set_option maxRecDepth 100000 in
set_option maxHeartbeats 4000000 in
theorem all_not (b b2 g cap : Nat) (v : Value) (n : Nat) (d : Nat → Nat → Int) (L A1 : List (Nat → Int)) (w : World) (h : nodeAt w b (rGroup 33 g 1 cap)) (hx : w.cell? ⟨g, 0, none⟩ = some (ptrV b2)) (hv : PkR w v n d) (hL : Is L n d)
    (hC : ∀ ww, w.grownBy ww none → Calls Tryz.prog 57 #[ptrV b2, v] ww (AllO A1 ww)) (hnL : ∀ x ∈ L, Nm x) (hnA : ∀ x ∈ A1, Nm x) (hsL : Srt L) (hsA : Srt A1) (hl : n + A1.length ≤ 1000000000000) :
    Calls Tryz.prog 57 #[ptrV b, v] w (AllO (lessS L A1) w) := by
  have a0 : w.cell? ⟨b, 0, none⟩ = some (.int .u8 33) := h.cell 0
  have a3 : w.cell? ⟨b, 3, none⟩ = some (.slice (some ⟨g, 0, none⟩) 1 cap) := h.cell 3
  have hlt0 := h.lt
  have hgw : g < w.heap.size := World.block_lt_of_cell? w _ hx
  obtain ⟨la, lc, rfl⟩ := hv.slice
  have HV := hide hv
  have HC : Hid (Calls Tryz.prog 57 #[.pointer (some ⟨b2, 0, none⟩), .slice la n lc] w fun e w' => ∃ a c m d, e = .returned (.slice a m c) ∧ PkR w' (.slice a m c) m d ∧ Is A1 m d ∧ w.grownBy w' none) := (hC w (grown_refl _ _)).mono (fun e w' h => h.slice)
  have HWO : Hid (∀ ww a c m d1, w.grownBy ww none → PkR ww (.slice a m c) m d1 → Is A1 m d1 → Calls Tryz.prog 101 #[.slice la n lc, .slice a m c] ww fun e w' => ∃ a c m d, e = .returned (.slice a m c) ∧ PkR w' (.slice a m c) m d ∧ Is (lessS L A1) m d ∧ ww.grownBy w' none) := by
    intro ww a c m d1 hg hp hi
    refine (without_any _ _ n m d d1 L A1 ww (HV.out.grown hg) hp hL hi hnL hnA hsL hsA (by rw [← hi.len]; exact hl)).mono ?_
    rintro e w' ⟨v, m2, d2, rfl, h1, h2, h3⟩
    obtain ⟨a2, c2, rfl⟩ := h1.slice
    exact ⟨a2, c2, m2, d2, rfl, h1.row.any, h2, h3⟩
  have HQ : Hid (∀ e w', AllO (lessS L A1) w e w' ↔ ∃ v n d, e = .returned v ∧ PkR w' v n d ∧ Is (lessS L A1) n d ∧ w.grownBy w' none) := fun _ _ => Iff.rfl
  generalize AllO (lessS L A1) w = Q at HQ ⊢
  unfold ptrV at hx ⊢
  clear h hv hL hC hnL hnA hsL hsA
  go_enter Tryz.func57, Tryz.ntmps57
  go_wp2_with fail
  refine HC.out.mono ?_
  rintro e w1 ⟨a1, c1, m1, d1, rfl, hp1, hi1, hg1⟩
  have HW := hide (HWO.out w1 a1 c1 m1 d1 hg1 hp1 hi1)
  have G1 := hide hg1
  clear hp1 hi1 hg1 HC HWO a0 a3 hx hlt0 hgw
  go_wp2_with fail
  refine HW.out.mono ?_
  rintro e w2 ⟨a2, c2, m2, d2, rfl, hp2, hi2, hg2⟩
  have P2 := hide hp2
  have I2 := hide hi2
  have G2 := hide (grown_trans G1.out hg2)
  clear hp2 hi2 hg2 HW
  go_wp2
  refine (HQ.out _ _).2 ⟨_, m2, d2, rfl, P2.out, I2.out, G2.out⟩
end Go.Proofs.YtlhkfafdioakeaaGreatDoor
/- Proved here: what the document's all makes of a set: a seq. -/
namespace Go.Proofs.YtlhkfafdioakeaaGreatDoor
open Go.RowKit Go.Weft
set_option linter.unusedVariables false
set_option linter.unusedSimpArgs false
set_option maxRecDepth 100000 in
set_option maxHeartbeats 4000000 in
theorem all_seq (b g cap m : Nat) (hm : m ≤ 5000) (bs : Nat → Nat) (S : Nat → List (Nat → Int)) (v : Value) (n : Nat) (d : Nat → Nat → Int) (w : World) (h : nodeAt w b (rGroup 59 g m cap)) (hx : ∀ j, j < m → w.cell? ⟨g, j, none⟩ = some (ptrV (bs j))) (hv : PkR w v n d) (hL : Is (S 0) n d)
    (hC : ∀ j, j < m → ∀ ww v n d, w.grownBy ww none → PkR ww v n d → Is (S j) n d → Calls Tryz.prog 57 #[ptrV (bs j), v] ww (AllO (S (j + 1)) ww)) :
    Calls Tryz.prog 57 #[ptrV b, v] w (AllO (S m) w) := by
  have a0 : w.cell? ⟨b, 0, none⟩ = some (.int .u8 59) := h.cell 0
  have a3 : w.cell? ⟨b, 3, none⟩ = some (.slice (some ⟨g, 0, none⟩) m cap) := h.cell 3
  have hlt0 := h.lt
  obtain ⟨la, lc, rfl⟩ := hv.slice
  have HV := hide hv
  have HL := hide hL
  have HX := hide hx
  have HC : Hid (∀ j, j < m → ∀ ww a c n d, w.grownBy ww none → PkR ww (.slice a n c) n d → Is (S j) n d → Calls Tryz.prog 57 #[.pointer (some ⟨bs j, 0, none⟩), .slice a n c] ww (fun e w' => ∃ a c n d, e = .returned (.slice a n c) ∧ PkR w' (.slice a n c) n d ∧ Is (S (j + 1)) n d ∧ ww.grownBy w' none)) :=
    fun j hj ww a c n d hg hp hi => (hC j hj ww _ n d hg hp hi).mono (fun e w' h => h.slice)
  have HA : Hid (∀ ww, w.grownBy ww none → ww.cell? ⟨b, 3, none⟩ = some (.slice (some ⟨g, 0, none⟩) m cap)) := fun ww hg => hg.cell a3 (by simp)
  have HQ : Hid (∀ e w', AllO (S m) w e w' ↔ ∃ v n d, e = .returned v ∧ PkR w' v n d ∧ Is (S m) n d ∧ w.grownBy w' none) := fun _ _ => Iff.rfl
  generalize AllO (S m) w = Q at HQ ⊢
  unfold ptrV
  clear h hv hL hC hx
  go_enter Tryz.func57, Tryz.ntmps57
  go_wp2_with fail
  clear a0 a3
  go_loopw [5, 12] (fun s5 s12 wr => ∃ (j q : Nat) (e : Nat → Nat → Int), j ≤ m ∧ s12 = .int .i64 j ∧ (∃ a c, s5 = .slice a q c) ∧ PkR wr s5 q e ∧ Is (S j) q e ∧ w.grownBy wr none) (fun _ s12 _ => m - (intOf s12).toNat)
  case atStart => exact ⟨0, n, d, by omega, rfl, ⟨_, _, rfl⟩, HV.out, HL.out, grown_refl _ _⟩
  case round =>
    obtain ⟨j, q, e, hj, rfl, ⟨oa, oc, rfl⟩, hp, hi, hg⟩ := hrel
    have P := hide hp
    have I := hide hi
    have G := hide hg
    clear hp hi hg
    have b3 := HA.out wr G.out
    by_cases hlt : j < m
    · have hltI : (j : Int) < m := by omega
      have c0 := G.out.cell (HX.out j hlt) (by simp)
      unfold ptrV at c0
      have HK := hide (HC.out j hlt wr oa oc q e G.out P.out I.out)
      go_wp2_with fail
      refine HK.out.mono ?_
      rintro e2 w2 ⟨a2, c2, n2, d2, rfl, hp2, hi2, hg2⟩
      have P2 := hide hp2
      have I2 := hide hi2
      have G2 := hide (grown_trans G.out hg2)
      clear hp2 hi2 hg2 HK
      go_wp2_with fail
      exact ⟨⟨j + 1, n2, d2, by omega, by go_num, ⟨_, _, rfl⟩, P2.out, I2.out, G2.out⟩, by simp [intOf]; omega⟩
    · obtain rfl : j = m := by omega
      go_wp2
      refine (HQ.out _ _).2 ⟨_, q, e, rfl, P.out, I.out, G.out⟩
end Go.Proofs.YtlhkfafdioakeaaGreatDoor
/- Proved here: what the document's all makes of a set: a sum. -/
namespace Go.Proofs.YtlhkfafdioakeaaGreatDoor
open Go.RowKit Go.Weft
set_option linter.unusedVariables false
set_option linter.unusedSimpArgs false
/-- The sets of the parts, one after the other in one. -/
noncomputable def sumS (R : Nat → List (Nat → Int)) : Nat → List (Nat → Int)
  | 0 => []
  | j + 1 => mergeS (sumS R j) (R j)
set_option maxRecDepth 100000 in
set_option maxHeartbeats 4000000 in
theorem all_sum (b g cap m : Nat) (hm : m ≤ 5000) (bs : Nat → Nat) (R : Nat → List (Nat → Int)) (v : Value) (n : Nat) (d : Nat → Nat → Int) (w : World) (h : nodeAt w b (rGroup 43 g m cap)) (hx : ∀ j, j < m → w.cell? ⟨g, j, none⟩ = some (ptrV (bs j))) (hv : PkR w v n d)
    (hC : ∀ j, j < m → ∀ ww, w.grownBy ww none → Calls Tryz.prog 57 #[ptrV (bs j), v] ww (AllO (R j) ww)) (hn : ∀ j, j < m → ∀ x ∈ R j, Nm x) (hs : ∀ j, j ≤ m → ∀ x ∈ sumS R j, Nm x) (hl : ∀ j, j < m → (sumS R j).length + (R j).length ≤ 1000000000000) :
    Calls Tryz.prog 57 #[ptrV b, v] w (AllO (sumS R m) w) := by
  have a0 : w.cell? ⟨b, 0, none⟩ = some (.int .u8 43) := h.cell 0
  have a3 : w.cell? ⟨b, 3, none⟩ = some (.slice (some ⟨g, 0, none⟩) m cap) := h.cell 3
  have hlt0 := h.lt
  obtain ⟨la, lc, rfl⟩ := hv.slice
  have HX := hide hx
  have HC : Hid (∀ j, j < m → ∀ ww, w.grownBy ww none → Calls Tryz.prog 57 #[.pointer (some ⟨bs j, 0, none⟩), .slice la n lc] ww (fun e w' => ∃ a c n d, e = .returned (.slice a n c) ∧ PkR w' (.slice a n c) n d ∧ Is (R j) n d ∧ ww.grownBy w' none)) :=
    fun j hj ww hg => (hC j hj ww hg).mono (fun e w' h => h.slice)
  have HM : Hid (∀ j, j < m → ∀ ww a c p e a2 c2 p2 e2, PkR ww (.slice a p c) p e → Is (sumS R j) p e → PkR ww (.slice a2 p2 c2) p2 e2 → Is (R j) p2 e2 → Calls Tryz.prog 102 #[.slice a p c, .slice a2 p2 c2] ww (fun e w' => ∃ a c n d, e = .returned (.slice a n c) ∧ PkR w' (.slice a n c) n d ∧ Is (sumS R (j + 1)) n d ∧ ww.grownBy w' none)) := by
    intro j hj ww a c p e a2 c2 p2 e2 h1 h2 h3 h4
    refine (merged_any _ _ p p2 e e2 (sumS R j) (R j) ww h1 h3 h2 h4 (hs j (by omega)) (hn j hj) (by rw [← h2.len, ← h4.len]; exact hl j hj)).mono ?_
    rintro x w' ⟨v, k, f, rfl, o1, o2, o3⟩
    obtain ⟨a5, c5, rfl⟩ := o1.slice
    exact ⟨a5, c5, k, f, rfl, o1.row.any, o2, o3⟩
  have HA : Hid (∀ ww, w.grownBy ww none → ww.cell? ⟨b, 3, none⟩ = some (.slice (some ⟨g, 0, none⟩) m cap)) := fun ww hg => hg.cell a3 (by simp)
  have HQ : Hid (∀ e w', AllO (sumS R m) w e w' ↔ ∃ v n d, e = .returned v ∧ PkR w' v n d ∧ Is (sumS R m) n d ∧ w.grownBy w' none) := fun _ _ => Iff.rfl
  generalize AllO (sumS R m) w = Q at HQ ⊢
  unfold ptrV
  clear h hv hC hx hn hs hl
  go_enter Tryz.func57, Tryz.ntmps57
  go_wp2_with fail
  clear a0 a3
  go_loopw [5, 10] (fun s5 s12 wr => ∃ (j q : Nat) (e : Nat → Nat → Int), j ≤ m ∧ s12 = .int .i64 j ∧ (∃ a c, s5 = .slice a q c) ∧ PkR wr s5 q e ∧ Is (sumS R j) q e ∧ w.grownBy wr none) (fun _ s12 _ => m - (intOf s12).toNat)
  case atStart => exact ⟨0, 0, fun _ _ => 0, by omega, rfl, ⟨_, _, rfl⟩, PkR.none _ _, Is.none _, grown_refl _ _⟩
  case round =>
    obtain ⟨j, q, e, hj, rfl, ⟨oa, oc, rfl⟩, hp, hi, hg⟩ := hrel
    have P := hide hp
    have I := hide hi
    have G := hide hg
    clear hp hi hg
    have b3 := HA.out wr G.out
    by_cases hlt : j < m
    · have hltI : (j : Int) < m := by omega
      have c0 := G.out.cell (HX.out j hlt) (by simp)
      unfold ptrV at c0
      have HK := hide (HC.out j hlt wr G.out)
      go_wp2_with fail
      refine HK.out.mono ?_
      rintro e2 w2 ⟨a2, c2, n2, d2, rfl, hp2, hi2, hg2⟩
      have HK2 := hide (HM.out j hlt w2 oa oc q e a2 c2 n2 d2 (P.out.grown hg2) I.out hp2 hi2)
      have G2 := hide (grown_trans G.out hg2)
      clear hp2 hi2 hg2 HK
      go_wp2_with fail
      refine HK2.out.mono ?_
      rintro e3 w3 ⟨a3, c3, n3, d3, rfl, hp3, hi3, hg3⟩
      have P3 := hide hp3
      have I3 := hide hi3
      have G3 := hide (grown_trans G2.out hg3)
      clear hp3 hi3 hg3 HK2
      go_wp2_with fail
      exact ⟨⟨j + 1, n3, d3, by omega, by go_num, ⟨_, _, rfl⟩, P3.out, I3.out, G3.out⟩, by simp [intOf]; omega⟩
    · obtain rfl : j = m := by omega
      go_wp2
      refine (HQ.out _ _).2 ⟨_, q, e, rfl, P.out, I.out, G.out⟩
end Go.Proofs.YtlhkfafdioakeaaGreatDoor
/- Proved here: a star's set grows till nothing is new. -/
namespace Go.Proofs.YtlhkfafdioakeaaGreatDoor
open Go.RowKit Go.Weft
set_option linter.unusedVariables false
set_option linter.unusedSimpArgs false
/-- What stands while a star is worked off: out, and of it what is fresh. -/
structure StI (R : (Nat → Int) → (Nat → Int) → Prop) (L O F : List (Nat → Int)) : Prop where
  srt : Srt O
  nm : ∀ x ∈ O, Nm x
  srtF : Srt F
  beg : ∀ x ∈ L, x ∈ O
  rch : ∀ y ∈ O, ∃ x, x ∈ L ∧ Many R x y
  sub : ∀ x ∈ F, x ∈ O
  cls : ∀ x ∈ O, x ∉ F → ∀ y, R x y → y ∈ O
theorem StI.start {R : (Nat → Int) → (Nat → Int) → Prop} {L : List (Nat → Int)} (hs : Srt L) (hn : ∀ x ∈ L, Nm x) : StI R L L L :=
  ⟨hs, hn, hs, fun x hx => hx, fun y hy => ⟨y, hy, .refl y⟩, fun x hx => hx, fun x h1 h2 => absurd h1 h2⟩
theorem StI.step {R : (Nat → Int) → (Nat → Int) → Prop} {L O F X : List (Nat → Int)} (h : StI R L O F) (hX : SetOf X (fun y => ∃ x, x ∈ F ∧ R x y)) : StI R L (mergeS O (lessS X O)) (lessS X O) := by
  have hsl : Srt (lessS X O) := List.Pairwise.filter _ hX.srt
  have hnl : ∀ x ∈ lessS X O, Nm x := fun x hx => hX.nm x ((lessS_in x).1 hx).1
  refine ⟨mergeS_srt _ _ _ (Nat.le_refl _) h.srt hsl h.nm hnl, fun x hx => ?_, hsl, fun x hx => (mergeS_in x).2 (.inl (h.beg x hx)), fun y hy => ?_, fun x hx => (mergeS_in x).2 (.inr hx), fun x hx hn y hr => ?_⟩
  · rcases (mergeS_in x).1 hx with hx | hx
    · exact h.nm x hx
    · exact hnl x hx
  · rcases (mergeS_in y).1 hy with hy | hy
    · exact h.rch y hy
    · obtain ⟨x, hx, hr⟩ := (hX.mem y).1 ((lessS_in y).1 hy).1
      obtain ⟨z, hz, hm⟩ := h.rch x (h.sub x hx)
      exact ⟨z, hz, hm.trans (Many.one hr)⟩
  · rcases (mergeS_in x).1 hx with hx | hx
    · by_cases hf : x ∈ F
      · by_cases hy : y ∈ O
        · exact (mergeS_in y).2 (.inl hy)
        · exact (mergeS_in y).2 (.inr ((lessS_in y).2 ⟨(hX.mem y).2 ⟨x, hf, hr⟩, hy⟩))
      · exact (mergeS_in y).2 (.inl (h.cls x hx hf y hr))
    · exact absurd hx hn
theorem StI.done {R : (Nat → Int) → (Nat → Int) → Prop} {L O : List (Nat → Int)} (h : StI R L O []) : SetOf O (fun y => ∃ x, x ∈ L ∧ Many R x y) := by
  refine ⟨h.srt, h.nm, fun y => ⟨h.rch y, ?_⟩⟩
  rintro ⟨x, hx, hm⟩
  have key : ∀ u v, Many R u v → u ∈ O → v ∈ O := by
    intro u v huv
    induction huv with
    | refl => exact id
    | step hs _ ih => exact fun hu => ih (h.cls _ hu (by simp) _ hs)
  exact key x y hm (h.beg x hx)
end Go.Proofs.YtlhkfafdioakeaaGreatDoor
