/- Proved here: whether a rule hides another one: what is left of the packets of a rule. -/
import Derived.Test.YtlhkfafdioakeaaGreatDoorTbL
namespace Go.Proofs.YtlhkfafdioakeaaGreatDoor
open Go.RowKit Go.Weft
set_option linter.unusedVariables false
set_option linter.unusedSimpArgs false
theorem shl_fact (v : Int) (h0 : 0 ≤ v) (h1 : v ≤ 31) : (2 : Int) ^ v.toNat % 4294967296 = ((2 ^ v.toNat : Nat) : Int) ∧ (2 ^ v.toNat : Nat) < 4294967296 := by
  obtain ⟨n, rfl⟩ : ∃ n : Nat, v = (n : Int) := ⟨v.toNat, by omega⟩
  have hn : n ≤ 31 := by omega
  have hp : (2 ^ n : Nat) < 4294967296 := Nat.lt_of_le_of_lt (Nat.pow_le_pow_right (by omega) hn) (by decide)
  simp only [Int.toNat_natCast]
  refine ⟨?_, hp⟩
  have : ((2 : Int) ^ n) = ((2 ^ n : Nat) : Int) := by simp
  rw [this]
  generalize (2 ^ n : Nat) = P at hp
  exact Int.emod_eq_of_lt (by omega) (by omega)
theorem wrap_u32 (r : Nat) (hr : r < 4294967296) : IntKind.u32.wrap (r : Int) = (r : Int) := by
  have h : IntKind.u32.wrap (r : Int) = (r : Int) % 4294967296 := by rfl
  rw [h]
  omega
theorem andNot_fact (a p : Nat) (ha : a < 4294967296) (hp : p < 4294967296) : ∃ R : Nat, bits .andNot .u32 (a : Int) (p : Int) = (R : Int) ∧ R < 4294967296 ∧ ∀ i, i < 32 → R.testBit i = (a.testBit i && !p.testBit i) := by
  refine ⟨(BitVec.ofInt 32 (a : Int) &&& ~~~ BitVec.ofInt 32 (p : Int)).toNat, ?_, ?_, fun i hi => ?_⟩
  · exact wrap_u32 _ (BitVec.ofInt 32 (a : Int) &&& ~~~ BitVec.ofInt 32 (p : Int)).isLt
  · exact (BitVec.ofInt 32 (a : Int) &&& ~~~ BitVec.ofInt 32 (p : Int)).isLt
  · rw [BitVec.testBit_toNat]
    simp [hi, ← BitVec.getLsbD_eq_getElem, BitVec.getLsbD_ofNat]
theorem bit_lt {a i : Nat} (ha : a < 4294967296) (h : a.testBit i = true) : i < 32 := by
  rcases Nat.lt_or_ge i 32 with e | e
  · exact e
  · have h1 : a < 2 ^ i := Nat.lt_of_lt_of_le ha (Nat.le_trans (show 4294967296 ≤ 2 ^ 32 by decide) (Nat.pow_le_pow_right (by omega) e))
    rw [Nat.testBit_lt_two_pow h1] at h
    cases h
/-- Values of each field, as bits. -/
def btA (b : Nat → Nat) : Array Value := #[.int .u32 (b 0 : Int), .int .u32 (b 1 : Int), .int .u32 (b 2 : Int), .int .u32 (b 3 : Int), .int .u32 (b 4 : Int), .int .u32 (b 5 : Int)]
def btB (w : World) (g : Nat) (b : Nat → Nat) : Prop := w.heap[g]? = some (.cells (btA b) 133 (0, 0))
theorem btA_get (b : Nat → Nat) (i : Nat) (hi : i < 6) : (btA b)[i]? = some (.int .u32 (b i : Int)) := by
  rcases (show i = 0 ∨ i = 1 ∨ i = 2 ∨ i = 3 ∨ i = 4 ∨ i = 5 by omega) with rfl | rfl | rfl | rfl | rfl | rfl <;> rfl
theorem btB.cell {w : World} {g : Nat} {b : Nat → Nat} (h : btB w g b) (i : Nat) (hi : i < 6) : w.cell? ⟨g, i, none⟩ = some (.int .u32 (b i : Int)) := mb_cell h i _ (btA_get b i hi)
theorem btB.frozen {w : World} {g : Nat} {b : Nat → Nat} (h : btB w g b) (i : Nat) : w.frozen? ⟨g, i, none⟩ = false := by
  have h : w.heap[g]? = some (.cells (btA b) 133 (0, 0)) := h
  simp [World.frozen?, h]
def putN (b : Nat → Nat) (f : Nat) (v : Nat) : Nat → Nat := fun i => if i = f then v else b i
theorem btB.put {w : World} {g : Nat} {b : Nat → Nat} (h : btB w g b) (f : Nat) (hf : f < 6) (v : Nat) : btB (w.setCell ⟨g, f, none⟩ (.int .u32 (v : Int))) g (putN b f v) := by
  have h1 := heap_set h f (.int .u32 (v : Int))
  show _ = _
  rw [h1]
  congr 2
  rcases (show f = 0 ∨ f = 1 ∨ f = 2 ∨ f = 3 ∨ f = 4 ∨ f = 5 by omega) with rfl | rfl | rfl | rfl | rfl | rfl <;> rfl
/-- The steps, in memory. -/
def stB (w : World) (g : Nat) (s : Int) : Prop := w.heap[g]? = some (.cells #[.int .i64 s] 136 (0, 0))
theorem stB.cell {w : World} {g : Nat} {s : Int} (h : stB w g s) : w.cell? ⟨g, 0, none⟩ = some (.int .i64 s) := mb_cell h 0 _ rfl
theorem stB.frozen {w : World} {g : Nat} {s : Int} (h : stB w g s) : w.frozen? ⟨g, 0, none⟩ = false := by
  have h : w.heap[g]? = some (.cells #[.int .i64 s] 136 (0, 0)) := h
  simp [World.frozen?, h]
theorem stB.put {w : World} {g : Nat} {s : Int} (h : stB w g s) (v : Int) : stB (w.setCell ⟨g, 0, none⟩ (.int .i64 v)) g v := heap_set h 0 _
/-- A packet that is left: with these values, and no rule from one on matches it. -/
def Surv (mt : Nat → Nat → Int) (N k : Nat) (b : Nat → Nat) (x : Nat → Nat) : Prop :=
  (∀ f, 1 ≤ f → f < 6 → (b f).testBit (x f) = true) ∧ ∀ j, k ≤ j → j < N → ∃ f, 1 ≤ f ∧ f < 6 ∧ mt j f ≠ -1 ∧ mt j f ≠ (x f : Int)
/-- The matches of a list of rules, as they are read. -/
def MtR (mt : Nat → Nat → Int) (N cb : Nat) (la : Option Addr) (w : World) : Prop :=
  N ≤ 1000000 ∧ (∀ j, j < N → ∀ i, i < 6 → ∃ g off, la = some ⟨g, off, none⟩ ∧ g ≠ cb ∧ g < w.heap.size ∧ w.cell? ⟨g, off + j * 8 + 1 + i, none⟩ = some (.int .i64 (mt j i))) ∧ ∀ j, j < N → ∀ i, 1 ≤ i → i < 6 → mt j i = -1 ∨ (0 ≤ mt j i ∧ mt j i ≤ 31)
theorem MtR.grown {mt : Nat → Nat → Int} {N cb : Nat} {la : Option Addr} {w w' : World} (h : MtR mt N cb la w) (hg : w.grownBy w' (some cb)) : MtR mt N cb la w' :=
  ⟨h.1, fun j hj i hi => by
    obtain ⟨g, off, e, hne, hlt, hc⟩ := h.2.1 j hj i hi
    exact ⟨g, off, e, hne, Nat.lt_of_lt_of_le hlt hg.size, hg.cell hc (fun k => hne (Option.some.inj k))⟩, h.2.2⟩
/-- What left comes to. -/
def LfO (mt : Nat → Nat → Int) (N cb k : Nat) (b : Nat → Nat) (w : World) (e : Ending) (w' : World) : Prop :=
  ∃ r s, e = .returned (.bool r) ∧ stB w' cb s ∧ 0 ≤ s ∧ (r = false → s ≤ 3000 ∧ ∀ x, ¬ Surv mt N k b x) ∧ w.grownBy w' (some cb)
set_option maxRecDepth 100000 in
set_option maxHeartbeats 2000000 in
theorem left_step (mt : Nat → Nat → Int) (N cb : Nat) (la : Option Addr) (lc k0 : Nat) (hk0 : k0 ≤ N) (b : Nat → Nat) (s : Int) (w : World) (hb : ∀ i, i < 6 → b i < 4294967296) (hs : stB w cb s) (hs0 : 0 ≤ s) (hs1 : s ≤ 3000) (hM : MtR mt N cb la w)
    (ih : ∀ (k1 : Nat) (b1 : Nat → Nat) (s1 : Int) (w1 : World), k0 < k1 → k1 ≤ N → (∀ i, i < 6 → b1 i < 4294967296) → stB w1 cb s1 → 0 ≤ s1 → s1 ≤ 3000 → MtR mt N cb la w1 → Calls Tryz.prog 64 #[.pointer (some ⟨cb, 0, none⟩), .agg #[.int .u32 (b1 0 : Int), .int .u32 (b1 1 : Int), .int .u32 (b1 2 : Int), .int .u32 (b1 3 : Int), .int .u32 (b1 4 : Int), .int .u32 (b1 5 : Int)], .slice la N lc, .int .i64 (k1 : Int)] w1 (LfO mt N cb k1 b1 w1)) :
    Calls Tryz.prog 64 #[.pointer (some ⟨cb, 0, none⟩), .agg #[.int .u32 (b 0 : Int), .int .u32 (b 1 : Int), .int .u32 (b 2 : Int), .int .u32 (b 3 : Int), .int .u32 (b 4 : Int), .int .u32 (b 5 : Int)], .slice la N lc, .int .i64 (k0 : Int)] w (LfO mt N cb k0 b w) := by
  obtain ⟨w1, hw1⟩ : ∃ w1, w1 = w.setCell ⟨cb, 0, none⟩ (.int .i64 (s + 1)) := ⟨_, rfl⟩
  obtain ⟨w2, hw2⟩ : ∃ w2, w2 = w1.alloc (.cells (btA b) 133) := ⟨_, rfl⟩
  have g1 : w.grownBy w1 (some cb) := by rw [hw1]; exact grown_set _ _ _ _
  have z1 : w1.heap.size = w.heap.size := by rw [hw1]; simp
  have S2 : Hid (stB w2 cb (s + 1)) := by
    show _ = _
    have h1 : stB w1 cb (s + 1) := by rw [hw1]; exact hs.put (s + 1)
    rw [hw2]
    exact mb_grown h1 (World.grownBy_alloc w1 _ none) (by simp)
  have B2 : Hid (btB w2 w.heap.size b) := by
    show _ = _
    rw [hw2, ← z1]; exact heap_alloc_new w1 _
  have G2 : Hid (w.grownBy w2 (some cb)) := by rw [hw2]; exact grown_trans g1 (World.grownBy_alloc w1 _ _)
  have hcb : cb < w.heap.size := (Array.getElem?_eq_some_iff.1 hs).1
  have c0 := hs.cell
  have f0 := hs.frozen
  have HM := hide hM
  have HIH := hide ih
  have HB := hide hb
  have hN := hM.1
  clear ih hM hb hs
  rw [hw1] at hw2
  unfold btA at hw2
  clear hw1 z1 g1
  obtain ⟨q, hq⟩ : ∃ q, q = s + 1 := ⟨_, rfl⟩
  have c2 : w2.cell? ⟨cb, 0, none⟩ = some (.int .i64 q) := by rw [hq]; exact S2.out.cell
  have S2' : Hid (stB w2 cb q) := by rw [hq]; exact S2.out
  have hq0 : 0 ≤ q := by omega
  have hsI : s + 1 ≤ 3001 := by omega
  clear S2
  go_enter Tryz.func64, Tryz.ntmps64
  go_upto_region 2 with fail
  rw [← hw2]
  clear hw2 c0 f0 hs0 hs1 hsI hq
  by_cases hs3 : 3000 < q
  · go_wp2
    go_ret
    exact ⟨true, q, rfl, S2'.out, hq0, fun h => (by cases h), G2.out⟩
  · go_wp2_with fail
    clear c2
    go_loopw [9] (fun s9 wr => ∃ k : Nat, k0 ≤ k ∧ k ≤ N ∧ s9 = .int .i64 k ∧ btB wr w.heap.size b ∧ stB wr cb q ∧ w.grownBy wr (some cb)) (fun s9 _ => N - (intOf s9).toNat)
    case atStart => exact ⟨k0, Nat.le_refl _, hk0, rfl, B2.out, S2'.out, G2.out⟩
    case round =>
      obtain ⟨k, hk1, hk2, rfl, hB, hS, hG⟩ := hrel
      have BR := hide hB
      have SR := hide hS
      have GR := hide hG
      clear hB hS hG B2 S2' G2
      by_cases hlt : k < N
      · have hltI : (k : Int) < N := by omega
        obtain ⟨g, off, rfl, hgc, hgl, _⟩ := HM.out.2.1 k hlt 0 (by omega)
        go_wp2_with fail
        go_loopw [10, 11] (fun s10 s11 wq => ∃ (m : Bool) (f : Nat), 1 ≤ f ∧ f ≤ 6 ∧ s10 = .bool m ∧ s11 = .int .i64 f ∧ btB wq w.heap.size b ∧ stB wq cb q ∧ w.grownBy wq (some cb)) (fun _ s11 _ => 6 - (intOf s11).toNat)
        case atStart => exact ⟨true, 1, by omega, by omega, rfl, rfl, BR.out, SR.out, GR.out⟩
        case round =>
          obtain ⟨m, f, hf1, hf6, rfl, rfl, hB, hS, hG⟩ := hrel
          clear BR SR GR
          have BR := hide hB
          have SR := hide hS
          have GR := hide hG
          clear hB hS hG
          by_cases hfl : f < 6
          · have hfI : (f : Int) < 6 := by omega
            obtain ⟨v, hv⟩ : ∃ v, v = mt k f := ⟨_, rfl⟩
            have cm : wr.cell? ⟨g, off + k * 8 + 1 + f, none⟩ = some (.int .i64 v) := by
              obtain ⟨g', off', e, _, _, hc⟩ := HM.out.2.1 k hlt f hfl
              cases e
              rw [hv]
              exact GR.out.cell hc (fun e => hgc (Option.some.inj e))
            have cb1 : wr.cell? ⟨w.heap.size, f, none⟩ = some (.int .u32 (b f : Int)) := BR.out.cell f hfl
            have hvr : v = -1 ∨ (0 ≤ v ∧ v ≤ 31) := by rw [hv]; exact HM.out.2.2 k hlt f hf1 hfl
            clear hv
            cases m
            · go_wp2_with fail
              go_roundw
              case measure => simp [intOf]; omega
              case rel => exact ⟨false, f + 1, by omega, by omega, rfl, by first | rfl | go_num, BR.out, SR.out, GR.out⟩
            · rcases hvr with rfl | ⟨hv0, hv1⟩
              · go_wp2_with fail
                go_roundw
                case measure => simp [intOf]; omega
                case rel => exact ⟨true, f + 1, by omega, by omega, rfl, by first | rfl | go_num, BR.out, SR.out, GR.out⟩
              · have hvn : (v == -1) = false := by rw [beq_eq_false_iff_ne]; omega
                have hvn' : ¬ v < 0 := by omega
                go_wp2_with fail
                exact ⟨⟨_, f + 1, by omega, by omega, rfl, by go_num, BR.out, SR.out, GR.out⟩, by simp [intOf]; omega⟩
          · obtain rfl : f = 6 := by omega
            cases m
            · go_wp2_with fail
              exact ⟨⟨k + 1, by omega, by omega, by go_num, BR.out, SR.out, GR.out⟩, by simp [intOf]; omega⟩
            · go_wp2_with fail
              go_loopw [13] (fun s13 wq => ∃ (f : Nat) (b' : Nat → Nat) (q' : Int), 1 ≤ f ∧ f ≤ 6 ∧ s13 = .int .i64 f ∧ btB wq w.heap.size b' ∧ (∀ i, i < 6 → b' i < 4294967296) ∧ stB wq cb q' ∧ 0 ≤ q' ∧ q' ≤ 3000 ∧ w.grownBy wq (some cb) ∧ ∀ x, Surv mt N k0 b x → Surv mt N k b' x ∧ ∀ f', 1 ≤ f' → f' < f → mt k f' = -1 ∨ mt k f' = (x f' : Int)) (fun s13 _ => 6 - (intOf s13).toNat)
              case atStart => exact ⟨1, b, q, by omega, by omega, rfl, BR.out, HB.out, SR.out, hq0, by omega, GR.out, fun x hx => ⟨⟨hx.1, fun j hj hjN => hx.2 j (by omega) hjN⟩, fun f' h1 h2 => by omega⟩⟩
              case round =>
                obtain ⟨f, b', q', hf1, hf6, rfl, hB, hb', hS, hq0', hq3, hG, hX⟩ := hrel
                clear BR SR GR
                have BR := hide hB
                have SR := hide hS
                have GR := hide hG
                have HB' := hide hb'
                have HX := hide hX
                clear hB hS hG hb' hX
                by_cases hfl : f < 6
                · have hfI : (f : Int) < 6 := by omega
                  obtain ⟨v, hv⟩ : ∃ v, v = mt k f := ⟨_, rfl⟩
                  have cm : wr.cell? ⟨g, off + k * 8 + 1 + f, none⟩ = some (.int .i64 v) := by
                    obtain ⟨g', off', e, _, _, hc⟩ := HM.out.2.1 k hlt f hfl
                    cases e
                    rw [hv]
                    exact GR.out.cell hc (fun e => hgc (Option.some.inj e))
                  have cb1 : wr.cell? ⟨w.heap.size, f, none⟩ = some (.int .u32 (b' f : Int)) := BR.out.cell f hfl
                  have hvr : v = -1 ∨ (0 ≤ v ∧ v ≤ 31) := by rw [hv]; exact HM.out.2.2 k hlt f hf1 hfl
                  have HV := hide hv
                  clear hv
                  rcases hvr with rfl | ⟨hv0, hv1⟩
                  · go_wp2_with fail
                    go_quiet (fail)
                    go_wp2_with fail
                    go_roundw
                    case measure => simp [intOf]; omega
                    case rel => exact ⟨f + 1, b', q', by omega, by omega, by first | rfl | go_num, BR.out, HB'.out, SR.out, hq0', hq3, grown_drewN GR.out _, fun x hx => ⟨(HX.out x hx).1, fun f' h1 h2 => by
                      by_cases e : f' = f
                      · subst e; exact .inl HV.out.symm
                      · exact (HX.out x hx).2 f' h1 (by omega)⟩⟩
                  · have hvn : (v == -1) = false := by rw [beq_eq_false_iff_ne]; omega
                    have hvn' : ¬ v < 0 := by omega
                    obtain ⟨hp1, hp2⟩ := shl_fact v hv0 hv1
                    have HPT : Hid (∀ i, (2 ^ v.toNat : Nat).testBit i = decide (v.toNat = i)) := fun i => Nat.testBit_two_pow
                    obtain ⟨P, hP⟩ : ∃ P, P = (2 ^ v.toNat : Nat) := ⟨_, rfl⟩
                    rw [← hP] at hp1 hp2 HPT
                    clear hP
                    by_cases hbp : b' f = P
                    · have hbq : ((b' f : Int) == (P : Int)) = true := by rw [beq_iff_eq, hbp]
                      have HBP := hide hbp
                      clear hbp
                      go_wp2_with fail
                      go_quiet (fail)
                      go_wp2_with fail
                      go_roundw
                      case measure => simp [intOf]; omega
                      case rel =>
                        repeat apply Exists.intro
                        refine ⟨⟨f + 1, b', q', by omega, by omega, by first | rfl | go_num, BR.out, HB'.out, SR.out, hq0', hq3, grown_drewN GR.out _, fun x hx => ⟨(HX.out x hx).1, fun f' h1 h2 => ?_⟩⟩, rfl⟩
                        by_cases e : f' = f
                        · subst e
                          right
                          have ht := (HX.out x hx).1.1 f' h1 hfl
                          rw [HBP.out, HPT.out, decide_eq_true_eq] at ht
                          rw [← HV.out]
                          omega
                        · exact (HX.out x hx).2 f' h1 (by omega)
                    · have hbq : ((b' f : Int) == (P : Int)) = false := by rw [beq_eq_false_iff_ne]; omega
                      have n0 := BR.out.cell 0 (by omega)
                      have n1 := BR.out.cell 1 (by omega)
                      have n2 := BR.out.cell 2 (by omega)
                      have n3 := BR.out.cell 3 (by omega)
                      have n4 := BR.out.cell 4 (by omega)
                      have n5 := BR.out.cell 5 (by omega)
                      go_wp2_with fail
                      go_quiet (fail)
                      go_upto_region 19 with fail
                      obtain ⟨w3, hw3⟩ : ∃ w3, w3 = wr.drewN nq := ⟨_, rfl⟩
                      rw [← hw3]
                      have g3 : wr.grownBy w3 (some cb) := by rw [hw3]; exact grown_drewN (grown_refl _ _) _
                      have B3 : Hid (btB w3 w.heap.size b') := by rw [hw3]; exact BR.out
                      have S3 : Hid (stB w3 cb q') := by rw [hw3]; exact SR.out
                      have G3 := hide (grown_trans GR.out g3)
                      clear hw3 n0 n1 n2 n3 n4 n5 cm cb1 g3
                      have n0 := B3.out.cell 0 (by omega)
                      have n1 := B3.out.cell 1 (by omega)
                      have n2 := B3.out.cell 2 (by omega)
                      have n3 := B3.out.cell 3 (by omega)
                      have n4 := B3.out.cell 4 (by omega)
                      have n5 := B3.out.cell 5 (by omega)
                      go_upto_region 20 with fail
                      obtain ⟨w4, hw4⟩ : ∃ w4, w4 = w3.alloc (.cells (btA b') 133) := ⟨_, rfl⟩
                      have B4 : Hid (btB w4 w3.heap.size b') := by
                        show _ = _
                        rw [hw4]; exact heap_alloc_new w3 _
                      have g4 : w3.grownBy w4 none := by rw [hw4]; exact World.grownBy_alloc _ _ _
                      have g4' : w3.grownBy w4 (some cb) := by rw [hw4]; exact World.grownBy_alloc _ _ _
                      have A4 : Hid (btB w4 w.heap.size b') := mb_grown B3.out g4 (by simp)
                      have S4 : Hid (stB w4 cb q') := mb_grown S3.out g4 (by simp)
                      have G4 := hide (grown_trans G3.out g4')
                      have hz4 : w.heap.size < w3.heap.size ∧ w3.heap.size < w4.heap.size := ⟨(Array.getElem?_eq_some_iff.1 B3.out).1, (Array.getElem?_eq_some_iff.1 B4.out).1⟩
                      unfold btA at hw4
                      rw [← hw4]
                      clear hw4 n0 n1 n2 n3 n4 n5 g4 g4' B3 S3 G3
                      obtain ⟨Rv, hR1, hR2, hR3⟩ := andNot_fact (b' f) P (HB'.out f hfl) hp2
                      have HR3 := hide hR3
                      clear hR3
                      have c4 : w4.cell? ⟨w.heap.size, f, none⟩ = some (.int .u32 (b' f : Int)) := A4.out.cell f hfl
                      have d4 : w4.cell? ⟨w3.heap.size, f, none⟩ = some (.int .u32 (b' f : Int)) := B4.out.cell f hfl
                      have e4 : w4.frozen? ⟨w3.heap.size, f, none⟩ = false := B4.out.frozen f
                      go_region
                      go_upto_region 21 with fail
                      obtain ⟨w5, hw5⟩ : ∃ w5, w5 = (w4.setCell ⟨w3.heap.size, f, none⟩ (.int .u32 (Rv : Int))).drew := ⟨_, rfl⟩
                      obtain ⟨b5, hb5⟩ : ∃ b5, b5 = putN b' f Rv := ⟨_, rfl⟩
                      have B5 : Hid (btB w5 w3.heap.size b5) := by rw [hw5, hb5]; exact B4.out.put f hfl Rv
                      have g5 : w4.grownBy w5 (some w3.heap.size) := by rw [hw5]; exact grown_drew (grown_set _ _ _ _)
                      have A5 : Hid (btB w5 w.heap.size b') := mb_grown A4.out g5 (by simp; omega)
                      have S5 : Hid (stB w5 cb q') := mb_grown S4.out g5 (by simp; omega)
                      have G5 := hide (grown_own G4.out g5 (fun b e => by cases e; omega))
                      have hz5 : w3.heap.size < w5.heap.size := (Array.getElem?_eq_some_iff.1 B5.out).1
                      have n0 := B5.out.cell 0 (by omega)
                      have n1 := B5.out.cell 1 (by omega)
                      have n2 := B5.out.cell 2 (by omega)
                      have n3 := B5.out.cell 3 (by omega)
                      have n4 := B5.out.cell 4 (by omega)
                      have n5 := B5.out.cell 5 (by omega)
                      have HC := hide (HIH.out (k + 1) b5 q' w5 (by omega) (by omega) (fun i hi => by
                        rw [hb5]; unfold putN
                        split
                        · exact hR2
                        · exact HB'.out i hi) S5.out hq0' hq3 (HM.out.grown G5.out))
                      rw [show ((k + 1 : Nat) : Int) = (k : Int) + 1 by omega] at HC
                      rw [← hw5]
                      have HB5 := hide hb5
                      clear hb5 hw5 g5 c4 d4 e4 hR1 hR2 A4 B4 S4 G4 hz4
                      go_wp2_with fail
                      refine HC.out.mono ?_
                      rintro e w6 ⟨r, q6, rfl, hS6, hq60, hr6, g6⟩
                      have S6 := hide hS6
                      have R6 := hide hr6
                      have G6 := hide (grown_trans G5.out g6)
                      have A6 : Hid (btB w6 w.heap.size b') := mb_grown A5.out g6 (by simp; omega)
                      clear hS6 hr6 g6 HC A5 B5 S5 G5 n0 n1 n2 n3 n4 n5
                      cases r
                      · have c6 := A6.out.cell f hfl
                        have d6 := A6.out.frozen f
                        obtain ⟨hq63, hno⟩ := R6.out rfl
                        have HNO := hide hno
                        clear R6 hno
                        go_wp2_with fail
                        go_roundw
                        case measure => simp [intOf]; omega
                        case rel =>
                          have gs := grown_set w6 w.heap.size f (.int .u32 (P : Int))
                          repeat apply Exists.intro
                          refine ⟨⟨f + 1, putN b' f P, q6, by omega, by omega, by first | rfl | go_num, A6.out.put f hfl P, fun i hi => ?_, mb_grown S6.out gs (by simp; omega), hq60, hq63, grown_own G6.out gs (fun b e => by cases e; exact Nat.le_refl _), fun x hx => ?_⟩, rfl⟩
                          · unfold putN
                            split
                            · exact hp2
                            · exact HB'.out i hi
                          · obtain ⟨h1, h2⟩ := HX.out x hx
                            have hx32 : x f < 32 := bit_lt (HB'.out f hfl) (h1.1 f hf1 hfl)
                            have hxv : v.toNat = x f := Classical.byContradiction fun hne => HNO.out x ⟨fun f' hf' hf6' => by
                              rw [HB5.out]
                              unfold putN
                              by_cases e : f' = f
                              · subst e
                                rw [if_pos rfl, HR3.out (x f') hx32, h1.1 f' hf' hf6', HPT.out]
                                simp [hne]
                              · rw [if_neg e]; exact h1.1 f' hf' hf6', fun j hj hjN => h1.2 j (by omega) hjN⟩
                            refine ⟨⟨fun f' hf' hf6' => ?_, h1.2⟩, fun f' hf' hlt' => ?_⟩
                            · unfold putN
                              by_cases e : f' = f
                              · subst e
                                rw [if_pos rfl, HPT.out, decide_eq_true_eq]
                                exact hxv
                              · rw [if_neg e]; exact h1.1 f' hf' hf6'
                            · by_cases e : f' = f
                              · subst e
                                right
                                rw [← HV.out]
                                omega
                              · exact h2 f' hf' (by omega)
                      · go_wp2
                        go_ret
                        exact ⟨true, q6, rfl, S6.out, hq60, fun h => (by cases h), G6.out⟩
                · obtain rfl : f = 6 := by omega
                  go_wp2
                  go_ret
                  refine ⟨false, q', rfl, SR.out, hq0', fun _ => ⟨hq3, fun x hx => ?_⟩, GR.out⟩
                  obtain ⟨h1, h2⟩ := HX.out x hx
                  obtain ⟨f, hf1, hf6, hn1, hn2⟩ := h1.2 k (Nat.le_refl _) hlt
                  rcases h2 f hf1 hf6 with e | e
                  · exact hn1 e
                  · exact hn2 e
      · obtain rfl : k = N := by omega
        go_wp2
        go_ret
        exact ⟨true, q, rfl, SR.out, hq0, fun h => (by cases h), GR.out⟩
end Go.Proofs.YtlhkfafdioakeaaGreatDoor
