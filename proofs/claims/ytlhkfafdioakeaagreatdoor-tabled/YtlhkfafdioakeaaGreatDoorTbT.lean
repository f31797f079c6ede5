/- Proved here: a table that is told, written over and told again is the same. -/
import Derived.Test.YtlhkfafdioakeaaGreatDoorTbX
namespace Go.Proofs.YtlhkfafdioakeaaGreatDoor
open Go.RowKit Go.Weft
set_option linter.unusedVariables false
set_option linter.unusedSimpArgs false
theorem lr_cell {w : World} {B gl cl N : Nat} {rs : Nat → Rl} (h : w.ownsRow B 68 8 (.slice (some ⟨gl, 0, none⟩) N cl) N (flR rs N)) (j : Nat) (hj : j < N) : w.cell? ⟨gl, j * 8 + 7, none⟩ = some (rs j).av := by
  rcases h.2 with ⟨e, _⟩ | ⟨g', cap, cur, e, _, h1, _, _, _, h5⟩
  · cases e
  · cases e
    have := flR_get rs N j 7 hj (by omega)
    rw [← h5, List.getElem?_take_of_lt (by omega)] at this
    simp only [World.cell?, h1]
    simpa [rlC] using this
theorem own_mark1 (w : World) (e : Nat) : Own (w.alloc (.cells #[.int .i64 (100 + (e : Int)), .int .i64 0, .int .i64 0, .int .i64 0, .int .i64 0, .int .i64 0] 46)) w.heap.size 1 1 (fun _ => mkQ e) :=
  ⟨_, heap_alloc_new w _, rfl, Nat.le_refl _, by omega, fun j hj i hi => by
    obtain rfl : j = 0 := by omega
    rcases (show i = 0 ∨ i = 1 ∨ i = 2 ∨ i = 3 ∨ i = 4 ∨ i = 5 by omega) with rfl | rfl | rfl | rfl | rfl | rfl <;> rfl⟩
theorem own_mark2 (w : World) (e : Nat) : Own (w.alloc (.cells #[.int .i64 (100 + (e : Int)), .int .i64 0, .int .i64 0, .int .i64 0, .int .i64 0, .int .i64 0, .int .i64 (100 + (e : Int)), .int .i64 0, .int .i64 0, .int .i64 0, .int .i64 0, .int .i64 0] 46)) w.heap.size 2 2 (fun _ => mkQ e) :=
  ⟨_, heap_alloc_new w _, rfl, Nat.le_refl _, by omega, fun j hj i hi => by
    rcases (show j = 0 ∨ j = 1 by omega) with rfl | rfl <;>
    rcases (show i = 0 ∨ i = 1 ∨ i = 2 ∨ i = 3 ∨ i = 4 ∨ i = 5 by omega) with rfl | rfl | rfl | rfl | rfl | rfl <;> rfl⟩
theorem RlQ.cong {B : Nat} {w : World} {v : Value} {N : Nat} {rs ts : Nat → Rl} {AL BL : Nat → List (Nat → Int)} (h : RlQ B w v N rs AL) (he : ∀ j, j < N → rs j = ts j ∧ AL j = BL j) : RlQ B w v N ts BL := by
  refine ⟨?_, fun j hj => ?_, fun j hj => ?_, fun j hj => ?_, fun j hj => ?_, fun i j hij hj => ?_⟩
  · rw [← flR_cong2 rs ts N (fun j hj => by rw [(he j hj).1]; exact ⟨rfl, rfl, rfl⟩)]; exact h.row
  · rw [← (he j hj).1]; exact h.own j hj
  · rw [← (he j hj).1, ← (he j hj).2]; exact h.is j hj
  · rw [← (he j hj).2]; exact h.anm j hj
  · rw [← (he j hj).1]; exact h.nm j hj
  · rw [← (he j hj).1, ← (he i (by omega)).1]; exact h.apart i j hij hj
set_option maxRecDepth 100000 in
set_option maxHeartbeats 4000000 in
theorem told_any (s : ByteArray) (t : Code) (w : World) (b : Nat) (z : Int) (h : PolAt w b t) (hr : readS s = .ok t) (he : Evy w) (h0 : 0 ≤ z) (h1 : z ≤ 31) :
    Calls Tryz.prog 32 #[.pointer (some ⟨b, 0, none⟩), .int .i64 z] w fun e w' => ∃ v, e = .returned (.tuple #[v, .bool true]) ∧ TblO (tstd (atomsC t)) (oT t) (acT t) (swK z) w.heap.size w' v ∧ w.grownBy w' none := by
  have HT : Hid (∀ ww, w.grownBy ww none → Calls Tryz.prog 62 #[.pointer (some ⟨b, 0, none⟩), .int .i64 z] ww fun e w' => ∃ v, e = .returned (.tuple #[v, .int .i64 0]) ∧ TblO (tstd (atomsC t)) (oT t) (acT t) (swK z) ww.heap.size w' v ∧ ww.grownBy w' none) := fun ww hg => table_any (h.grown hg) hr (he.grown hg) z (by omega) (by omega)
  have HT1 := hide (HT.out w (grown_refl _ _))
  have HLEN : Hid (∀ N rs AL, prL rs AL N = rulesS (tstd (atomsC t)) (oT t) (acT t) 5 (swK z) → ∀ j, j < N → (AL j).length ≤ 1073741824) := fun N rs AL hP => table_len hr ⟨h0, h1⟩ hP
  clear h hr he h0 h1
  go_enter Tryz.func32, Tryz.ntmps32
  go_wp2_with fail
  refine HT1.out.mono ?_
  rintro e w1 ⟨v, rfl, ⟨N, rs, AL, hN0, hNf, hQ, hpr, hPL⟩, g1⟩
  obtain ⟨va, c, rfl⟩ := ownsR_slice hQ.row
  obtain ⟨g, rfl, hg0, hgl⟩ := hQ.some hN0
  have Q1 := hide hQ
  have RD1 := hide (hQ.rd (by omega))
  have HPR := hide hpr
  have HPL := hide hPL
  have G1 := hide g1
  clear hQ hpr hPL g1 HT1
  go_wp2_with fail
  go_loopw [8, 9] (fun s8 s9 wr => ∃ (i : Nat) (xs : Nat → Value) (oa : Option Addr) (oc : Nat), i ≤ N ∧ s9 = .int .i64 i ∧ s8 = .slice oa i oc ∧ RlQ w1.heap.size wr (.slice oa i oc) i (cpR rs xs) AL ∧ w1.grownBy wr none) (fun _ s9 _ => N - (intOf s9).toNat)
  case atStart => exact ⟨0, fun _ => .slice none 0 0, none, 0, by omega, rfl, rfl, RlQ.nil _ _ _ _, grown_refl _ _⟩
  case round =>
    obtain ⟨i, xs, oa, oc, hi, rfl, rfl, hO, hg⟩ := hrel
    have HO := hide hO
    have HG := hide hg
    clear hO hg
    by_cases hlt : i < N
    · obtain ⟨k1, k2, k3, k4⟩ := (RD1.out.grown HG.out).cells i hlt
      obtain ⟨av, aq, hav⟩ := k4.slice
      obtain ⟨p, hp⟩ : ∃ p, p = (rs i).prio := ⟨_, rfl⟩
      obtain ⟨y, hy⟩ : ∃ y, y = (rs i).mt := ⟨_, rfl⟩
      obtain ⟨na, hna⟩ : ∃ na, na = (rs i).na := ⟨_, rfl⟩
      obtain ⟨ac, hac⟩ : ∃ ac, ac = (rs i).acts := ⟨_, rfl⟩
      rw [hav, ← hna] at k3 k4
      rw [← hac] at k4
      rw [← hp] at k1
      rw [← hy] at k2
      have HK4 := hide k4
      have HE : Hid (p = (rs i).prio ∧ y = (rs i).mt ∧ na = (rs i).na ∧ ac = (rs i).acts) := ⟨hp, hy, hna, hac⟩
      have m0 : wr.cell? ⟨g, i * 8 + 1, none⟩ = some (.int .i64 (y 0)) := k2 0 (by omega)
      have m1 : wr.cell? ⟨g, i * 8 + 2, none⟩ = some (.int .i64 (y 1)) := k2 1 (by omega)
      have m2 : wr.cell? ⟨g, i * 8 + 3, none⟩ = some (.int .i64 (y 2)) := k2 2 (by omega)
      have m3 : wr.cell? ⟨g, i * 8 + 4, none⟩ = some (.int .i64 (y 3)) := k2 3 (by omega)
      have m4 : wr.cell? ⟨g, i * 8 + 5, none⟩ = some (.int .i64 (y 4)) := k2 4 (by omega)
      have m5 : wr.cell? ⟨g, i * 8 + 6, none⟩ = some (.int .i64 (y 5)) := k2 5 (by omega)
      have hltI : (i : Int) < N := by omega
      have hfew : na ≤ 1073741824 := by
        have h1 := HLEN.out N rs AL HPL.out i hlt
        have h2 := (Q1.out.is i hlt).len
        omega
      clear k2 k4 hav hp hy hna hac
      go_upto_region 7 with fail
      obtain ⟨wA, hwA⟩ : ∃ wA, wA = wr.alloc (.cells #[.int .i64 p, .int .i64 (y 0), .int .i64 (y 1), .int .i64 (y 2), .int .i64 (y 3), .int .i64 (y 4), .int .i64 (y 5), .slice av na aq] 68) := ⟨_, rfl⟩
      have gA : wr.grownBy wA none := by rw [hwA]; exact World.grownBy_alloc _ _ _
      have RA : Hid (wA.heap[wr.heap.size]? = some (.cells #[.int .i64 p, .int .i64 (y 0), .int .i64 (y 1), .int .i64 (y 2), .int .i64 (y 3), .int .i64 (y 4), .int .i64 (y 5), .slice av na aq] 68 (0, 0))) := by
        show _ = _
        rw [hwA]; exact heap_alloc_new wr _
      rw [← hwA]
      have k3A : wA.cell? ⟨g, i * 8 + 7, none⟩ = some (.slice av na aq) := gA.cell k3 (by simp)
      have GA := hide (grown_trans HG.out gA)
      have OA := hide (HO.out.kept gA (fun b e => by cases e))
      have KA := hide (HK4.out.grown gA)
      have hzA : wr.heap.size < wA.heap.size := (Array.getElem?_eq_some_iff.1 RA.out).1
      have hzr : w1.heap.size ≤ wr.heap.size := HG.out.size
      have hgA : g < wA.heap.size := by omega
      have HU := hide HO.out.under
      clear hwA gA k1 k3 m0 m1 m2 m3 m4 m5 HG HO HK4
      go_wp2_with (at_builtin; refine wpList_append_pk _ rfl _ _ rfl w1.heap.size (.slice (some ⟨wA.heap.size, 0, none⟩) 0 0) 0 (fun _ _ => 0) rfl (.inr ⟨wA.heap.size, 0, by omega, rfl, own_empty wA _⟩) _ na ac rfl (KA.out.grown (World.grownBy_alloc _ _ none)) ?_ ?_ ?_)
      · omega
      · simp; omega
      · intro v1 w4 o1 g4 hat1
        have o1' : OwnV w1.heap.size w4 v1 na ac := OwnV.cong (d := cat 0 (fun _ _ => 0) ac) (by simpa using o1) (fun j hj t ht => by unfold cat; rw [if_neg (by omega), Nat.sub_zero])
        obtain ⟨a1, q1, rfl⟩ := o1'.slice
        have g4' : (wA.alloc (.cells #[] 46)).grownBy w4 (some wA.heap.size) := g4
        have hz4 : wA.heap.size < w4.heap.size := by have := g4'.size; simp at this; omega
        have R4 := mb_grown (mb_grown RA.out (World.grownBy_alloc wA (.cells #[] 46) none) (by simp)) g4' (by simp; omega)
        have e0 := mb_cell R4 0 _ rfl
        have e1 := mb_cell R4 1 _ rfl
        have e2 := mb_cell R4 2 _ rfl
        have e3 := mb_cell R4 3 _ rfl
        have e4 := mb_cell R4 4 _ rfl
        have e5 := mb_cell R4 5 _ rfl
        have e6 := mb_cell R4 6 _ rfl
        have e7 := mb_cell R4 7 _ rfl
        have f7 : w4.frozen? ⟨wr.heap.size, 7, none⟩ = false := by simp [World.frozen?, R4]
        have HAT : Hid (∀ b, (Value.slice a1 na q1).ownBlock = some b → wA.heap.size ≤ b) := fun b hb => by
          rcases hat1 with e | e
          · rw [e] at hb; cases hb; exact Nat.le_refl _
          · rw [e] at hb; cases hb; simp
        clear hat1
        have HR4 := hide R4
        have HO4 := hide o1'
        have HG4 := hide g4'
        clear o1 o1' g4 g4' R4 k3A
        go_upto_region 8 with fail
        obtain ⟨w5, hw5⟩ : ∃ w5, w5 = w4.setCell ⟨wr.heap.size, 7, none⟩ (.slice a1 na q1) := ⟨_, rfl⟩
        have g5 : w4.grownBy w5 (some wr.heap.size) := by rw [hw5]; exact grown_set _ _ _ _
        have R5 : w5.heap[wr.heap.size]? = some (.cells #[.int .i64 p, .int .i64 (y 0), .int .i64 (y 1), .int .i64 (y 2), .int .i64 (y 3), .int .i64 (y 4), .int .i64 (y 5), .slice a1 na q1] 68 (0, 0)) := by rw [hw5]; exact heap_set HR4.out 7 _
        have hz5 : w5.heap.size = w4.heap.size := by rw [hw5]; simp
        rw [← hw5]
        have O5 : Hid (OwnV w1.heap.size w5 (.slice a1 na q1) na ac) := ownV_keptT HO4.out g5 (fun b e => by cases e; exact ⟨_, HR4.out⟩) (by decide)
        have OA5 : Hid (RlQ w1.heap.size w5 (.slice oa i oc) i (cpR rs xs) AL) := ((OA.out.kept (World.grownBy_alloc wA (.cells #[] 46) none) (fun b e => by cases e)).high OA.out.under HG4.out (fun b e => by cases e; exact Nat.le_refl _)).kept g5 (fun b e => by
          cases e
          exact ⟨fun k => by have := HU.out.1 _ k; omega, fun j hj k => by have := HU.out.2 j hj _ k; omega⟩)
        clear e0 e1 e2 e3 e4 e5 e6 e7 f7 hw5
        have e0 := mb_cell R5 0 _ rfl
        have e1 := mb_cell R5 1 _ rfl
        have e2 := mb_cell R5 2 _ rfl
        have e3 := mb_cell R5 3 _ rfl
        have e4 := mb_cell R5 4 _ rfl
        have e5 := mb_cell R5 5 _ rfl
        have e6 := mb_cell R5 6 _ rfl
        have e7 := mb_cell R5 7 _ rfl
        have HR5 := hide R5
        have G5 := hide g5
        have HZ5 := hide hz5
        clear R5 g5 hz5
        go_wp2_with (at_builtin; refine wpList_append_rq _ rfl _ _ rfl w1.heap.size w1.heap.size w1.heap.size (.slice oa i oc) i (cpR rs xs) AL rfl (OA5.out.kept (World.grownBy_alloc _ _ none) (fun b e => by cases e)) (some ⟨w5.heap.size, 0, none⟩) 1 1 (fun _ => ⟨p, y, na, ac, .slice a1 na q1⟩) (fun _ => AL i) rfl (RlQ.one O5.out ?_ ?_ ?_ ?_) (by omega) (by omega) ?_ (Nat.le_refl _) (Nat.le_refl _) ?_ ?_)
        · have := HZ5.out; omega
        · have := Q1.out.is i hlt
          rw [← HE.out.2.2.1, ← HE.out.2.2.2] at this
          exact this
        · exact Q1.out.anm i hlt
        · rw [HE.out.2.1]; exact Q1.out.nm i hlt
        · intro i' hi' b hb1 hb2
          have := HU.out.2 i' hi' b hb1
          have := HAT.out b hb2
          omega
        · have := HZ5.out; simp; omega
        · intro v6 w6 o6 g6
          obtain ⟨a6, q6, rfl⟩ := o6.slice
          obtain ⟨xs', hxs⟩ : ∃ xs' : Nat → Value, xs' = fun j => if j < i then xs j else .slice a1 na q1 := ⟨_, rfl⟩
          have O6 : Hid (RlQ w1.heap.size w6 (.slice a6 (i + 1) q6) (i + 1) (cpR rs xs') AL) := o6.cong (fun j hj => by
            by_cases e : j < i
            · rw [catR_l e, catR_l e]
              refine ⟨?_, rfl⟩
              unfold cpR
              rw [hxs]
              simp [e]
            · obtain rfl : j = i := by omega
              rw [catR_r (Nat.le_refl _), catR_r (Nat.le_refl _)]
              refine ⟨?_, rfl⟩
              unfold cpR
              rw [hxs, HE.out.1, HE.out.2.1, HE.out.2.2.1, HE.out.2.2.2]
              simp)
          have G6 : Hid (w1.grownBy w6 none) := by
            refine grown_own (grown_trans (grown_own (grown_own (grown_trans GA.out (World.grownBy_alloc _ _ none)) HG4.out (fun b e => by cases e; omega)) G5.out (fun b e => by cases e; omega)) (World.grownBy_alloc _ _ none)) g6 (fun b e => (OA.out.lt.1 b e).1)
          clear o6 g6
          go_wp2_with fail
          exact ⟨⟨i + 1, xs', a6, q6, by omega, by go_num, rfl, O6.out, G6.out⟩, by simp [intOf]; omega⟩
    · obtain rfl : N = i := by omega
      obtain ⟨W2, rfl⟩ : ∃ W2, W2 = wr := ⟨_, rfl⟩
      have QL := hide (Q1.out.kept HG.out (fun b e => by cases e))
      have hb1 : w.heap.size ≤ w1.heap.size := G1.out.size
      have hb2 : w1.heap.size ≤ W2.heap.size := HG.out.size
      have CC : Hid (MC w.heap.size w1.heap.size W2.heap.size rs xs N g (.slice oa N oc)) := by
        refine ⟨hb1, hb2, hgl, fun j hj b hb => ?_, Q1.out.apart, HO.out.under, ⟨fun b hb => (HO.out.lt.1 b hb).1, fun j hj b hb => (HO.out.lt.2 j hj b hb).1⟩⟩
        obtain ⟨h1, h2⟩ := Q1.out.lt.2 j hj b hb
        refine ⟨h1, h2, fun e => ?_⟩
        subst e
        exact (owns_tagged Q1.out.row).ne (Q1.out.own j hj).tagged (by decide) hb rfl
      have GW2 := hide (grown_trans G1.out HG.out)
      have HLE : Hid (∀ j, j < N → (rs j).na ≤ 1073741824) := fun j hj => by
        have h1 := HLEN.out N rs AL HPL.out j hj
        have h2 := (Q1.out.is j hj).len
        omega
      go_wp2_with fail
      go_loopw [11, 12] (fun s11 s12 wq => ∃ (i : Nat) (vm : Nat → Value) (ma : Option Addr) (mc : Nat), i ≤ N ∧ s12 = .int .i64 i ∧ s11 = .slice ma (2 * i) mc ∧ MS w.heap.size w1.heap.size W2.heap.size rs AL xs N g c (.slice oa N oc) i (2 * i) vm (.slice ma (2 * i) mc) wq ∧ w.grownBy wq none ∧ W2.heap.size ≤ wq.heap.size) (fun _ s12 _ => N - (intOf s12).toNat)
      case atStart => exact ⟨0, fun _ => .slice none 0 0, none, 0, by omega, rfl, rfl, ⟨QL.out.row, fun j _ hj => QL.out.own j hj, HO.out, ⟨rfl, .inl ⟨rfl, rfl⟩⟩, fun e he => by omega⟩, GW2.out, Nat.le_refl _⟩
      case round =>
        obtain ⟨i, vm, ma, mc, hi2, rfl, rfl, hM, hG, hsz⟩ := hrel
        have HM := hide hM
        clear HG HO QL GW2
        have HG := hide hG
        clear hM hG
        by_cases hlt : i < N
        · have cv := lr_cell HM.out.lr i hlt
          have hav := HM.out.av i (Nat.le_refl _) hlt
          obtain ⟨aa, aq, hae⟩ := hav.slice
          obtain ⟨na, hna⟩ : ∃ na, na = (rs i).na := ⟨_, rfl⟩
          obtain ⟨ac, hac⟩ : ∃ ac, ac = (rs i).acts := ⟨_, rfl⟩
          have hnl := HLE.out i hlt
          rw [← hna] at hnl
          rw [hae, ← hna] at cv hav
          rw [← hac] at hav
          have HAV := hide hav
          have HAE : Hid ((rs i).av = .slice aa na aq) := by
            show _ = _
            rw [hae, hna]
          have hltI : (i : Int) < N := by omega
          have hgr : g < wr.heap.size := by omega
          clear hav hae hna hac
          go_wp2_with (at_builtin; refine wpList_append_mark _ rfl _ _ rfl w.heap.size (.slice aa na aq) na ac rfl (HAV.out.grown (World.grownBy_alloc _ _ none) (fun b e => by cases e)) wr.heap.size 1 1 (fun _ => mkQ i) rfl (own_mark1 wr i) (by omega) (by omega) ?_)
          intro g1 cap1 w3 O1 V3 D1
          have MB : Hid (∀ b, (Value.slice ma (2 * i) mc).ownBlock = some b → b < wr.heap.size) := fun b hb => (HM.out.mr.lt b hb).2
          have VB : Hid (∀ e, e < 2 * i → ∀ b, (vm e).ownBlock = some b → b < wr.heap.size) := fun e he b hb => by
            obtain ⟨g', n', c', e1, e2, _⟩ := HM.out.mks e he
            rw [e1] at hb
            cases hb
            exact e2.lt
          have AVB : Hid (∀ b, (Value.slice aa na aq).ownBlock = some b → w.heap.size ≤ b ∧ b < w1.heap.size) := fun b hb => by
            have h1 := CC.out.avb i hlt b (by rw [HAE.out]; exact hb)
            exact ⟨h1.1, h1.2.1⟩
          have KP : Hid (∀ (u u' : World) (row : Option Nat), MS w.heap.size w1.heap.size W2.heap.size rs AL xs N g c (.slice oa N oc) (i + 1) (2 * i) vm (.slice ma (2 * i) mc) u → u.grownBy u' row → (∀ b, row = some b → (Value.slice aa na aq).ownBlock = some b ∨ wr.heap.size ≤ b) → MS w.heap.size w1.heap.size W2.heap.size rs AL xs N g c (.slice oa N oc) (i + 1) (2 * i) vm (.slice ma (2 * i) mc) u') := fun u u' row hu hg hr => hu.kept CC.out hlt (Nat.le_refl _) wr.heap.size hsz MB.out VB.out hg (fun b e => by rw [HAE.out]; exact hr b e)
          obtain ⟨row1, gr1, hr1, hg1⟩ : ∃ row1, (wr.alloc (.cells #[.int .i64 (100 + (i : Int)), .int .i64 0, .int .i64 0, .int .i64 0, .int .i64 0, .int .i64 0] 46)).grownBy w3 row1 ∧ (∀ b, row1 = some b → (Value.slice aa na aq).ownBlock = some b ∨ wr.heap.size ≤ b) ∧ ((Value.slice aa na aq = .slice (some ⟨g1, 0, none⟩) na cap1) ∨ wr.heap.size < g1) := by
            rcases D1 with ⟨e, h⟩ | ⟨e, h⟩
            · obtain ⟨rfl, rfl⟩ := e
              exact ⟨_, h, fun b e => by cases e; exact .inl rfl, .inl rfl⟩
            · exact ⟨_, h, fun b e => (by cases e), .inr (by omega)⟩
          have M3 := hide (KP.out _ w3 row1 (KP.out wr _ none HM.out.drop (World.grownBy_alloc _ _ none) (fun b e => by cases e)) gr1 hr1)
          have G3 : Hid (w.grownBy w3 none) := grown_own (grown_trans HG.out (World.grownBy_alloc _ _ none)) gr1 (fun b e => by
            rcases hr1 b e with k | k
            · exact (AVB.out b k).1
            · omega)
          have hz3 : wr.heap.size < w3.heap.size := by have := gr1.size; simp at this; omega
          have cv3 : w3.cell? ⟨g, i * 8 + 7, none⟩ = some (.slice aa na aq) := by
            have := lr_cell M3.out.lr i hlt
            rw [HAE.out] at this
            exact this
          have HO1 := hide O1
          have HV3 := hide V3
          have HG1 := hide hg1
          have hgr3 : g < w3.heap.size := by omega
          clear O1 V3 D1 gr1 hr1 hg1 cv HAV HM HG
          go_wp2_with (at_builtin; refine wpList_append_mark _ rfl _ _ rfl w.heap.size (.slice aa na aq) na ac rfl (HV3.out.grown (World.grownBy_alloc _ _ none) (fun b e => by cases e)) w3.heap.size 2 2 (fun _ => mkQ i) rfl (own_mark2 w3 i) (by omega) (by omega) ?_)
          intro g2 cap2 w5 O2 V5 D2
          have AVS : Hid (∀ b, (Value.slice aa na aq).ownBlock = some b → b < wr.heap.size) := fun b hb => by have := (AVB.out b hb).2; omega
          have D2' : (Value.slice aa na aq = .slice (some ⟨g2, 0, none⟩) na cap2 ∧ (w3.alloc (.cells #[.int .i64 (100 + (i : Int)), .int .i64 0, .int .i64 0, .int .i64 0, .int .i64 0, .int .i64 0, .int .i64 (100 + (i : Int)), .int .i64 0, .int .i64 0, .int .i64 0, .int .i64 0, .int .i64 0] 46)).grownBy w5 (some g2)) ∨ ((w3.alloc (.cells #[.int .i64 (100 + (i : Int)), .int .i64 0, .int .i64 0, .int .i64 0, .int .i64 0, .int .i64 0, .int .i64 (100 + (i : Int)), .int .i64 0, .int .i64 0, .int .i64 0, .int .i64 0, .int .i64 0] 46)).heap.size ≤ g2 ∧ (w3.alloc (.cells #[.int .i64 (100 + (i : Int)), .int .i64 0, .int .i64 0, .int .i64 0, .int .i64 0, .int .i64 0, .int .i64 (100 + (i : Int)), .int .i64 0, .int .i64 0, .int .i64 0, .int .i64 0, .int .i64 0] 46)).grownBy w5 none) := by
            rcases D2 with ⟨⟨rfl, rfl⟩, h⟩ | ⟨e, h⟩
            · exact .inl ⟨rfl, h⟩
            · exact .inr ⟨by simpa using e, h⟩
          obtain ⟨hrel, d1, OA1⟩ := two_owns (HO1.out.grown (World.grownBy_alloc _ _ none) (by simp)) HG1.out AVS.out O2 D2'
          obtain ⟨row2, gr2, hr2, hg2⟩ := mark_row (S := wr.heap.size) D2' (by simp; omega)
          have M5 := hide (KP.out _ w5 row2 (KP.out w3 _ none M3.out (World.grownBy_alloc _ _ none) (fun b e => by cases e)) gr2 hr2)
          have G5 : Hid (w.grownBy w5 none) := grown_own (grown_trans G3.out (World.grownBy_alloc _ _ none)) gr2 (fun b e => by
            rcases hr2 b e with k | k
            · exact (AVB.out b k).1
            · omega)
          have hz5 : w3.heap.size < w5.heap.size := by have := gr2.size; simp at this; omega
          have PB1 : Hid ((Value.slice aa na aq).ownBlock = some g1 ∨ wr.heap.size ≤ g1) := by
            rcases HG1.out with k | k
            · exact .inl (by rw [k]; rfl)
            · exact .inr (by omega)
          have PB2 : Hid ((Value.slice aa na aq).ownBlock = some g2 ∨ wr.heap.size ≤ g2) := by
            rcases hg2 with k | k
            · exact .inl (by rw [k]; rfl)
            · exact .inr (by omega)
          have LB1 : Hid (w.heap.size ≤ g1) := by
            rcases PB1.out with k | k
            · exact (AVB.out g1 k).1
            · show _ ≤ _; omega
          have LB2 : Hid (w.heap.size ≤ g2) := by
            rcases PB2.out with k | k
            · exact (AVB.out g2 k).1
            · show _ ≤ _; omega
          have HREL := hide hrel
          have HA1 := hide OA1
          have HO2 := hide O2
          clear O2 V5 D2 D2' OA1 gr2 hr2 hg2 hrel M3 G3 HV3 HO1 HG1 cv3
          obtain ⟨WR, rfl⟩ : ∃ WR, WR = wr := ⟨_, rfl⟩
          go_wp2_with fail
          go_loopw [15] (fun s15 wq => ∃ (k : Nat) (e1 e2 : Nat → Nat → Int), k ≤ na + 1 ∧ s15 = .int .i64 k ∧ Own wq g1 (na + 1) cap1 e1 ∧ (∀ j, j < k → e1 j = mkQ i) ∧ Own wq g2 (na + 2) cap2 e2 ∧ MS w.heap.size w1.heap.size W2.heap.size rs AL xs N g c (.slice oa N oc) (i + 1) (2 * i) vm (.slice ma (2 * i) mc) wq ∧ w.grownBy wq none ∧ w5.heap.size ≤ wq.heap.size) (fun s15 _ => na + 1 - (intOf s15).toNat)
          case atStart => exact ⟨0, _, _, by omega, rfl, HA1.out, fun j hj => by omega, HO2.out, M5.out, G5.out, Nat.le_refl _⟩
          case round =>
            obtain ⟨k, e1, e2, hk, rfl, o1, m1, o2, hM, hG, hz⟩ := hrel
            clear HA1 HO2 M5 G5
            have HO1 := hide o1
            have HE1 := hide m1
            have HO2 := hide o2
            have HM := hide hM
            have HG := hide hG
            clear o1 m1 o2 hM hG
            by_cases hlt3 : k < na + 1
            · have f0 : wr.cell? ⟨g1, k * 6, none⟩ = some (.int .i64 (e1 k 0)) := HO1.out.cell k hlt3 0 (by omega)
              have f1 := HO1.out.cell k hlt3 1 (by omega)
              have f2 := HO1.out.cell k hlt3 2 (by omega)
              have f3 := HO1.out.cell k hlt3 3 (by omega)
              have f4 := HO1.out.cell k hlt3 4 (by omega)
              have f5 := HO1.out.cell k hlt3 5 (by omega)
              have fz := HO1.out.frozen
              have hltK : (k : Int) < na + 1 := by omega
              go_wp2_with fail
              obtain ⟨e1', p1, p2⟩ := own_all HO1.out k HE1.out hlt3
              obtain ⟨e2', p3⟩ := put_other HREL.out HO2.out k (by omega) (mkQ i)
              have gl := lay6_grown wr g1 (k * 6) (mkQ i)
              exact ⟨⟨k + 1, e1', e2', by omega, by go_num, p1, p2, p3, KP.out _ _ _ HM.out gl (fun b e => by cases e; exact PB1.out), grown_own HG.out gl (fun b e => by cases e; exact LB1.out), Nat.le_trans hz gl.size⟩, by simp [intOf]; omega⟩
            · obtain rfl : k = na + 1 := by omega
              obtain ⟨W6, rfl⟩ : ∃ W6, W6 = wr := ⟨_, rfl⟩
              have HA := hide (HO1.out.cong (e := fun _ => mkQ i) (fun j hj t ht => by rw [HE1.out j hj]))
              clear HO1 HE1
              go_wp2_with fail
              go_loopw [16] (fun s16 wq => ∃ (k : Nat) (e2 : Nat → Nat → Int), k ≤ na + 2 ∧ s16 = .int .i64 k ∧ (g1 ≠ g2 → Own wq g1 (na + 1) cap1 (fun _ => mkQ i)) ∧ Own wq g2 (na + 2) cap2 e2 ∧ (∀ j, j < k → e2 j = mkQ i) ∧ MS w.heap.size w1.heap.size W2.heap.size rs AL xs N g c (.slice oa N oc) (i + 1) (2 * i) vm (.slice ma (2 * i) mc) wq ∧ w.grownBy wq none ∧ w5.heap.size ≤ wq.heap.size) (fun s16 _ => na + 2 - (intOf s16).toNat)
              case atStart => exact ⟨0, _, by omega, rfl, fun _ => HA.out, HO2.out, fun j hj => by omega, HM.out, HG.out, hz⟩
              case round =>
                clear hz
                obtain ⟨k, e2, hk, rfl, o1, o2, m2, hM, hG, hz⟩ := hrel
                clear HA HO2 HM HG
                have HO1 := hide o1
                have HO2 := hide o2
                have HE2 := hide m2
                have HM := hide hM
                have HG := hide hG
                clear o1 m2 o2 hM hG
                by_cases hlt3 : k < na + 2
                · have f0 : wr.cell? ⟨g2, k * 6, none⟩ = some (.int .i64 (e2 k 0)) := HO2.out.cell k hlt3 0 (by omega)
                  have f1 := HO2.out.cell k hlt3 1 (by omega)
                  have f2 := HO2.out.cell k hlt3 2 (by omega)
                  have f3 := HO2.out.cell k hlt3 3 (by omega)
                  have f4 := HO2.out.cell k hlt3 4 (by omega)
                  have f5 := HO2.out.cell k hlt3 5 (by omega)
                  have fz := HO2.out.frozen
                  have hltK : (k : Int) < na + 2 := by omega
                  go_wp2_with fail
                  obtain ⟨e2', p1, p2⟩ := own_all HO2.out k HE2.out hlt3
                  have gl := lay6_grown wr g2 (k * 6) (mkQ i)
                  exact ⟨⟨k + 1, e2', by omega, by go_num, fun hne => (HO1.out hne).grown gl (fun e => by cases e; exact hne rfl), p1, p2, KP.out _ _ _ HM.out gl (fun b e => by cases e; exact PB2.out), grown_own HG.out gl (fun b e => by cases e; exact LB2.out), Nat.le_trans hz gl.size⟩, by simp [intOf]; omega⟩
                · obtain rfl : k = na + 2 := by omega
                  have HB := hide (HO2.out.cong (e := fun _ => mkQ i) (fun j hj t ht => by rw [HE2.out j hj]))
                  have HA : Hid (Own wr g1 (na + 1) cap1 (fun _ => mkQ i)) := by
                    rcases HREL.out with ⟨h1, h2⟩ | h1
                    · subst h1; subst h2; exact HB.out.less (by omega)
                    · exact HO1.out h1
                  clear HO1 HO2 HE2
                  obtain ⟨i0, hi0, hz0, hz1, hz2⟩ := info_parts Tryz.infoPs
                  obtain ⟨wa, hwa⟩ : ∃ wa, wa = wr.alloc (.cells #[.slice (some ⟨g1, 0, none⟩) (na + 1) cap1, .slice (some ⟨g2, 0, none⟩) (na + 2) cap2] 29) := ⟨_, rfl⟩
                  have ga : wr.grownBy wa none := by rw [hwa]; exact World.grownBy_alloc _ _ _
                  have MA := hide (KP.out _ _ _ HM.out ga (fun b e => by cases e))
                  have OA := hide (HA.out.grown ga (by simp))
                  have OB := hide (HB.out.grown ga (by simp))
                  have GA := hide (grown_trans HG.out ga)
                  have hza : wr.heap.size ≤ wa.heap.size := ga.size
                  have CA : Hid (∀ j u, [Value.slice (some ⟨g1, 0, none⟩) (na + 1) cap1, Value.slice (some ⟨g2, 0, none⟩) (na + 2) cap2][j]? = some u → wa.cell? ((⟨wr.heap.size, 0, none⟩ : Addr).add j) = some u) := by rw [hwa]; exact cell_two_new wr _ _ _
                  clear ga HM HA HB HG
                  go_wp2_with (at_builtin; rw [← hwa]; refine wpList_append_own_at _ rfl _ _ 37 rfl W2.heap.size 29 i0 _ 1 24 Tryz.underlying37 hi0 hz0 hz1 hz2 rfl (by decide) _ _ _ rfl MA.out.mr ⟨wr.heap.size, 0, none⟩ 2 _ [.slice (some ⟨g1, 0, none⟩) (na + 1) cap1, .slice (some ⟨g2, 0, none⟩) (na + 2) cap2] rfl rfl CA.out (fun u hu => by simp at hu; rcases hu with rfl | rfl <;> rfl) (by unfold maxLen; omega) (by omega) (by omega) ?_)
                  intro mv2 w7 ho7 hg7 _ hat7
                  try rw [← hwa] at hg7
                  have M7 := hide (MA.out.push CC.out OA.out OB.out (by rw [HAE.out]; rcases PB1.out with k | k; exact .inl k; exact .inr (by omega)) (by rw [HAE.out]; rcases PB2.out with k | k; exact .inl k; exact .inr (by omega)) ho7 hg7)
                  have G7 : Hid (w.grownBy w7 none) := grown_own GA.out hg7 (fun b e => by have := (MA.out.mr.lt b e).1; omega)
                  have hz7 : wa.heap.size ≤ w7.heap.size := hg7.size
                  obtain ⟨ma2, mc2, hmv⟩ := ownsR_slice ho7
                  subst hmv
                  clear ho7 hg7 hat7 CA hwa hi0 hz0 hz1 hz2 OA OB GA MA
                  go_wp2_with fail
                  exact ⟨⟨i + 1, _, ma2, mc2, by omega, by go_num, rfl, M7.out, G7.out, by omega⟩, by simp [intOf]; omega⟩
        · obtain rfl : N = i := by omega
          obtain ⟨W3, rfl⟩ : ∃ W3, W3 = wr := ⟨_, rfl⟩
          obtain ⟨gma, rfl⟩ : ∃ gma, ma = some ⟨gma, 0, none⟩ := by
            rcases HM.out.mr.2 with ⟨_, k⟩ | ⟨g', cap, cur, k, _⟩
            · omega
            · cases k; exact ⟨_, rfl⟩
          go_wp2_with fail
          go_loopw [17] (fun s17 wq => ∃ e : Nat, e ≤ 2 * N ∧ s17 = .int .i64 e ∧ W3.grownBy wq none) (fun s17 _ => 2 * N - (intOf s17).toNat)
          case atStart => exact ⟨0, by omega, rfl, grown_refl _ _⟩
          case round =>
            obtain ⟨e, he, rfl, hg⟩ := hrel
            have HGe := hide hg
            clear hg
            by_cases hlt5 : e < 2 * N
            · obtain ⟨gk, nk, ck, q1, q2, q3⟩ := HM.out.mks e hlt5
              have mc0 := mr_cell HM.out.mr e hlt5
              rw [q1] at mc0
              have MC0 := hide mc0
              have mcl := HGe.out.cell mc0 (by simp)
              have HQ2 := hide q2
              have hnk := q2.cap.2.2
              have hltI : (e : Int) < 2 * N := by omega
              clear q1 q2 q3 mc0
              obtain ⟨W4, rfl⟩ : ∃ W4, W4 = wr := ⟨_, rfl⟩
              go_wp2_with fail
              go_loopw [18] (fun s18 wq => ∃ k : Nat, k ≤ nk ∧ s18 = .int .i64 k ∧ W3.grownBy wq none) (fun s18 _ => nk - (intOf s18).toNat)
              case atStart => exact ⟨0, by omega, rfl, HGe.out⟩
              case round =>
                obtain ⟨k, hk, rfl, hg⟩ := hrel
                clear mcl
                have mcl := hg.cell MC0.out (by simp)
                have O6 := HQ2.out.grown hg (by simp)
                have HG6 := hide hg
                clear hg
                by_cases hlt6 : k < nk
                · have f0 : wr.cell? ⟨gk, k * 6, none⟩ = some (.int .i64 (mkQ (e / 2) 0)) := O6.cell k hlt6 0 (by omega)
                  have f1 := O6.cell k hlt6 1 (by omega)
                  have f2 := O6.cell k hlt6 2 (by omega)
                  have f3 := O6.cell k hlt6 3 (by omega)
                  have f4 := O6.cell k hlt6 4 (by omega)
                  have f5 := O6.cell k hlt6 5 (by omega)
                  rw [mkQ_0] at f0
                  rw [mkQ_1] at f1
                  rw [mkQ_2] at f2
                  rw [mkQ_3] at f3
                  rw [mkQ_4] at f4
                  rw [mkQ_5] at f5
                  have hquo : Int.tdiv (e : Int) 2 = ((e / 2 : Nat) : Int) := by rw [Int.tdiv_eq_ediv_of_nonneg (by omega)]; omega
                  have hltK : (k : Int) < nk := by omega
                  have he6 := eq6_same
                  clear O6
                  go_wp2_with fail
                  exact ⟨⟨k + 1, by omega, by go_num, HG6.out⟩, by simp [intOf]; omega⟩
                · clear O6
                  go_wp2_with fail
                  exact ⟨⟨e + 1, by omega, by go_num, HG6.out⟩, by simp [intOf]; omega⟩
            · have LR := HM.out.lr.kept HGe.out (.inr (by simp [Value.ownBlock]))
              have OU := HM.out.ou.kept HGe.out (fun b e => by cases e)
              have hze : W3.heap.size ≤ wr.heap.size := HGe.out.size
              obtain ⟨i0, hi0, hz0, hz1, hz2⟩ := info_parts Tryz.infoRl
              obtain ⟨wa, hwa⟩ : ∃ wa, wa = wr.alloc (.cells #[.int .i64 77, .int .i64 0, .int .i64 0, .int .i64 0, .int .i64 0, .int .i64 0, .int .i64 0, .slice none 0 0] 68) := ⟨_, rfl⟩
              have ga : wr.grownBy wa none := by rw [hwa]; exact World.grownBy_alloc _ _ _
              have hza : wr.heap.size ≤ wa.heap.size := ga.size
              have LRA := hide (LR.kept ga (.inr (by simp [Value.ownBlock])))
              have OUA := hide (OU.kept ga (fun b e => by cases e))
              have GA := hide (grown_trans (grown_trans HG.out HGe.out) ga)
              have CA : Hid (∀ j u, [Value.int .i64 77, .int .i64 0, .int .i64 0, .int .i64 0, .int .i64 0, .int .i64 0, .int .i64 0, .slice none 0 0][j]? = some u → wa.cell? ((⟨wr.heap.size, 0, none⟩ : Addr).add j) = some u) := by rw [hwa]; exact cell_list_new wr _ _
              clear LR OU ga HGe HM HG
              go_wp2_with (at_builtin; rw [← hwa]; refine wpList_append_own_at _ rfl _ _ 36 rfl w.heap.size 68 i0 _ 8 80 Tryz.underlying36 hi0 hz0 hz1 hz2 rfl (by decide) _ _ _ rfl LRA.out ⟨wr.heap.size, 0, none⟩ 1 _ [.int .i64 77, .int .i64 0, .int .i64 0, .int .i64 0, .int .i64 0, .int .i64 0, .int .i64 0, .slice none 0 0] rfl rfl CA.out (fun u hu => by simp at hu; rcases hu with rfl | rfl | rfl <;> rfl) (by unfold maxLen; omega) (by omega) (by omega) ?_)
              intro mv w6 ho6 hg6 _ hat6
              try rw [← hwa] at hg6
              obtain ⟨gm, cm, rfl⟩ : ∃ gm cm, mv = .slice (some ⟨gm, 0, none⟩) (N + 1) cm := by
                rcases ho6.2 with ⟨_, k⟩ | ⟨g', cap, cur, k, _⟩
                · omega
                · exact ⟨_, _, k⟩
              have hgB : w.heap.size ≤ g := (LRA.out.lt g rfl).1
              have hg9 : g < w1.heap.size := CC.out.gl1
              have RB6 := hide (RBk.of ho6)
              have OU6 := hide (OUA.out.kept hg6 (fun b e => by
                have e2 : g = b := Option.some.inj e
                exact ⟨fun k => by have := CC.out.ob1.1 _ k; omega, fun j hj k => by have := CC.out.ob1.2 j hj _ k; omega⟩))
              have G6 : Hid (w.grownBy w6 none) := grown_own GA.out hg6 (fun b e => by have e2 : g = b := Option.some.inj e; omega)
              have GMB : Hid (w.heap.size ≤ gm ∧ (gm < w1.heap.size ∨ W2.heap.size ≤ gm)) := by
                rcases hat6 with k | k
                · have k2 : gm = g := Option.some.inj k
                  exact ⟨by omega, .inl (by omega)⟩
                · have k2 : gm = wr.heap.size + 1 := by have := Option.some.inj k; simpa using this
                  exact ⟨by omega, .inr (by omega)⟩
              clear ho6 hg6 hat6 CA hwa hi0 hz0 hz1 hz2 LRA OUA GA
              go_wp2_with fail
              go_loopw [20] (fun s20 wq => ∃ k : Nat, k ≤ N + 1 ∧ s20 = .int .i64 k ∧ RBk wq gm (N + 1) ∧ RlQ w1.heap.size wq (.slice oa N oc) N (cpR rs xs) AL ∧ w.grownBy wq none) (fun s20 _ => N + 1 - (intOf s20).toNat)
              case atStart => exact ⟨0, by omega, rfl, RB6.out, OU6.out, G6.out⟩
              case round =>
                obtain ⟨k, hk, rfl, hRB, hOU, hG⟩ := hrel
                clear RB6 OU6 G6
                have HRB := hide hRB
                have HOU := hide hOU
                have HG := hide hG
                clear hRB hOU hG
                by_cases hlt7 : k < N + 1
                · obtain ⟨u0, f0⟩ := HRB.out.some (k * 8) (by omega)
                  obtain ⟨u1, f1⟩ := HRB.out.some (k * 8 + 1) (by omega)
                  obtain ⟨u2, f2⟩ := HRB.out.some (k * 8 + 2) (by omega)
                  obtain ⟨u3, f3⟩ := HRB.out.some (k * 8 + 3) (by omega)
                  obtain ⟨u4, f4⟩ := HRB.out.some (k * 8 + 4) (by omega)
                  obtain ⟨u5, f5⟩ := HRB.out.some (k * 8 + 5) (by omega)
                  obtain ⟨u6, f6⟩ := HRB.out.some (k * 8 + 6) (by omega)
                  obtain ⟨u7, f7⟩ := HRB.out.some (k * 8 + 7) (by omega)
                  have fz := HRB.out.frozen
                  have hltK : (k : Int) < N + 1 := by omega
                  go_wp2_with fail
                  have gl := lay8_grown wr gm (k * 8) (.int .i64 (-78)) (.int .i64 0) (.int .i64 0) (.int .i64 0) (.int .i64 0) (.int .i64 0) (.int .i64 0) (.slice none 0 0)
                  exact ⟨⟨k + 1, by omega, by go_num, HRB.out.lay (k * 8) _ _ _ _ _ _ _ _, HOU.out.kept gl (fun b e => by
                    cases e
                    have h9 := GMB.out
                    exact ⟨fun q => by have := CC.out.ob1.1 _ q; have := CC.out.ob.1 _ q; omega, fun j hj q => by have := CC.out.ob1.2 j hj _ q; have := CC.out.ob.2 j hj _ q; omega⟩), grown_own HG.out gl (fun b e => by cases e; exact GMB.out.1)⟩, by simp [intOf]; omega⟩
                · obtain rfl : k = N + 1 := by omega
                  have HT2 := hide (HT.out wr HG.out)
                  clear HRB HT
                  go_wp2_with fail
                  refine HT2.out.mono ?_
                  rintro x w8 ⟨v2, rfl, ⟨N2, rs2, AL2, h20, h2f, hQ2, hp2, hP2⟩, g8⟩
                  have e12 : prL rs2 AL2 N2 = prL rs AL N := hP2.trans HPL.out.symm
                  obtain rfl : N2 = N := by have := congrArg List.length e12; rw [prL_len, prL_len] at this; exact this
                  have hEQ := hide (prL_eq.1 e12)
                  obtain ⟨va2, c2, rfl⟩ := ownsR_slice hQ2.row
                  obtain ⟨gn, rfl, hgn0, hgn1⟩ := hQ2.some h20
                  have OU8 := hide (HOU.out.kept g8 (fun b e => by cases e))
                  obtain ⟨go, rfl, hgo0, hgo1⟩ := OU8.out.some h20
                  have RD2 := hide (hQ2.rd (by omega))
                  have RDO := hide (OU8.out.rd (by omega))
                  have G8 := hide (grown_trans HG.out g8)
                  have HP2 := hide hp2
                  clear hQ2 hp2 hP2 e12 g8 HT2 HOU HG
                  go_wp2_with fail
                  go_loopw [23] (fun s23 wq => ∃ k : Nat, k ≤ N2 ∧ s23 = .int .i64 k ∧ w8.grownBy wq none) (fun s23 _ => N2 - (intOf s23).toNat)
                  case atStart => exact ⟨0, by omega, rfl, grown_refl _ _⟩
                  case round =>
                    obtain ⟨k, hk, rfl, hg⟩ := hrel
                    have HGk := hide hg
                    by_cases hlt8 : k < N2
                    · obtain ⟨p, hp⟩ : ∃ p, p = (rs k).prio := ⟨_, rfl⟩
                      obtain ⟨y, hy⟩ : ∃ y, y = (rs k).mt := ⟨_, rfl⟩
                      obtain ⟨hm, hal⟩ := hEQ.out k hlt8
                      have hpe : (rs2 k).prio = p := by rw [HP2.out k hlt8, hp, HPR.out k hlt8]
                      have SV2 : Hid (∀ ww, w8.grownBy ww none → _) := fun ww hw => (RD2.out.grown hw).seven k hlt8 p y hpe (by rw [hm, hy])
                      have SVO : Hid (∀ ww, w8.grownBy ww none → _) := fun ww hw => (RDO.out.grown hw).seven k hlt8 p y hp.symm hy.symm
                      have c2 := ((RD2.out.grown hg).cells k hlt8).2.2.1
                      have c1 := ((RDO.out.grown hg).cells k hlt8).2.2.1
                      have q2 := ((RD2.out.grown hg).cells k hlt8).2.2.2
                      have q1 := ((RDO.out.grown hg).cells k hlt8).2.2.2
                      obtain ⟨av2, aq2, hav2⟩ := q2.slice
                      obtain ⟨av1, aq1, hav1⟩ := q1.slice
                      have EQ : Hid (∀ ww, w8.grownBy ww none → Calls Tryz.prog 26 #[(rs2 k).av, (cpR rs xs k).av] ww fun e w' => e = .returned (.bool true) ∧ ww.grownBy w' none) := fun ww hw =>
                        (equal_any _ _ _ _ _ _ (AL2 k) (AL k) ww ((RD2.out.grown hw).cells k hlt8).2.2.2 ((RDO.out.grown hw).cells k hlt8).2.2.2 (RD2.out.is k hlt8) (RDO.out.is k hlt8) (RD2.out.anm k hlt8) (RDO.out.anm k hlt8)).mono (fun e w' ⟨⟨bq, h1, h2⟩, h3⟩ => ⟨by rw [h1, h2.2 hal], h3⟩)
                      rw [hav2] at c2 EQ
                      rw [hav1] at c1 EQ
                      generalize (rs2 k).na = na2 at c2 EQ
                      generalize (cpR rs xs k).na = na1 at c1 EQ
                      have he6 := eq6_same
                      have hltK : (k : Int) < N2 := by omega
                      have hgnr : gn < wr.heap.size := Nat.lt_of_lt_of_le hgn1 hg.size
                      have hgor : go < wr.heap.size := Nat.lt_of_lt_of_le hgo1 hg.size
                      clear hg hm hal hpe hp hy q1 q2 hav1 hav2
                      go_upto_region 43 with fail
                      go_region_with (go_at_call 26; refine (EQ.out _ (by first | exact grown_drew HGk.out | exact HGk.out)).mono ?_; rintro e w9 ⟨rfl, g9⟩; have G9 := hide (grown_trans HGk.out (show wr.grownBy w9 none by first | exact grown_undrew g9 | exact g9)); obtain ⟨a0, a1, a2, a3, a4, a5, a6⟩ := SV2.out w9 G9.out; obtain ⟨b0, b1, b2, b3, b4, b5, b6⟩ := SVO.out w9 G9.out; clear g9)
                      all_goals
                        go_upto_region 44 with fail
                        go_quiet (fail)
                        go_wp2_with fail
                        exact ⟨⟨k + 1, by omega, by go_num, grown_drewN G9.out _⟩, by simp [intOf]; omega⟩
                    · obtain rfl : k = N2 := by omega
                      have T8 : Hid (TblO (tstd (atomsC t)) (oT t) (acT t) (swK z) w.heap.size wr (.slice (some ⟨go, 0, none⟩) k oc)) := by
                        refine ⟨k, cpR rs xs, AL, h20, h2f, (OU8.out.kept HGk.out (fun b e => by cases e)).mono hb1, fun j hj => HPR.out j hj, ?_⟩
                        rw [← HPL.out]
                        exact prL_eq.2 (fun j hj => ⟨rfl, rfl⟩)
                      have GF := hide (grown_trans G8.out HGk.out)
                      clear hg hEQ RD2 RDO OU8 HP2 HPR HPL
                      go_wp2_with fail
                      refine bodyPost_ret (results_tmp2 rfl _ _ _) rfl ?_
                      exact ⟨_, rfl, T8.out, GF.out⟩
end Go.Proofs.YtlhkfafdioakeaaGreatDoor
