/- GLc: several parts, each with what it proves in plain words at its head. -/
import Derived.Test.YtlhkfafdioakeaaGreatDoorGLh
import Derived.Test.YtlhkfafdioakeaaGreatDoorGRead
import Derived.Test.YtlhkfafdioakeaaGreatDoorGLa
/- Proved here: what markP does. -/
namespace Go
theorem step_append_pint {P : Program} {ops : Array Oper} {o : Oper} {a : Act} {w : World} {K : Act → World → Prop} {Q : Exit → Act → World → Prop} {E : Prop}
    (hg : o.guard = none) (s x : Operand) (t : TypeId) (hop : o.op = Op.call { callee := Callee.builtin Builtin.append, args := #[s, x], argTypes := #[t, t] })
    (base : Nat) (e : TypeId) (i : TypeInfo) (z : Value) (size bytes : Nat) (h1 : P.underlying t = some (.slice e)) (h2 : P.info? e = some i) (h3 : i.zero = some z) (h4 : i.size = size) (h5 : i.bytes = bytes) (h6 : z.cells.size = size) (h7 : 0 < size)
    (v : Value) (n : Nat) (xs : List Value) (hs : a.eval s = v) (hown : w.ownsRow base e size v n xs)
    (ad : Addr) (m c : Nat) (news : List Value) (hx : a.eval x = .slice (some ad) m c) (hn : news.length = m * size) (hc : ∀ j u, news[j]? = some u → w.cell? (ad.add j) = some u) (h1c : ∀ u ∈ news, u.oneCell' = true)
    (b1 : n + m ≤ maxLen) (b2 : (n + m) * bytes ≤ 140737488355328) (hbase : base ≤ w.heap.size)
    (hK : ∀ v' w', w'.ownsRow base e size v' (n + m) (xs ++ news) → w.grownBy w' v.ownBlock → (v'.ownBlock = v.ownBlock ∨ v'.ownBlock = some w.heap.size) → K (a.put o.dst v') w') :
    if Region.wanted o (yielded ops a.tmps) = true then Oper.wp P o a w K Q else E := by
  have hw : Region.wanted o (yielded ops a.tmps) = true := by simp [Region.wanted, hg]
  rw [if_pos hw]
  obtain ⟨v', w', hrun, r1, r2, _, r4⟩ := run_append_own_at (P := P) w base t o.type e i z size bytes h1 h2 h3 h4 h5 h6 h7 v n xs hown ad m c news hn hc h1c b1 b2 hbase
  unfold Oper.wp
  simp [execOp, hop, resolve, invoke, builtin, hs, hx, hrun, Result.andThen]
  exact hK v' w' r1 r2 r4
end Go
namespace Go.Proofs.YtlhkfafdioakeaaGreatDoor
open Go.RowKit
set_option linter.unusedVariables false
set_option linter.unusedSimpArgs false
theorem MSt.bkT {B : Nat} {w0 : World} {bb : Nat} {c : Nat → Value} {S M0 : Nat → Prop} {lb : Option Nat} {q m : Nat} {n z : Int} {w : World} {p r : Nat} {vP vN lv : Value} {ln : Nat} {xs : Nat → Value} {ys : Nat → Int} {ls : Nat → Nat} (h : MSt B w0 bb c S M0 lb q m n z w p r vP vN lv ln xs ys ls)
    {w1 w2 : World} {row : Option Nat} {T : TypeId} (hg1 : w.grownBy w1 none) (hg2 : w1.grownBy w2 row) (ht : ∀ b, row = some b → blkT w1 b T) (hT : T ≠ 42) : bkBlk w2 bb (updB (updB (updB c 0 (.int .i64 n)) 9 vP) 10 vN) :=
  (h.bk.grown hg1 (by simp)).keptT hg2 ht hT
theorem i64w (x : Int) (h1 : -9223372036854775808 ≤ x) (h2 : x ≤ 9223372036854775807) : IntKind.i64.wrap x = x := by
  simp [IntKind.wrap, IntKind.bits, IntKind.signed]
  split <;> omega
/-- What a marking leaves. -/
def MarkOut (B : Nat) (w : World) (bb : Nat) (c : Nat → Value) (n0 q : Nat) (xs : Nat → Value) (vP vN l : Value) (e : Ending) (w' : World) : Prop :=
  e = .returned (.tuple #[]) ∧ ∃ vP' vN' xs' ys' ls', bkBlk w' bb (updB (updB (updB c 0 (.int .i64 (n0 + 1 : Nat))) 9 vP') 10 vN') ∧ w'.ownsRow B 29 1 vP' (q + 4) ((List.range (q + 4)).map xs') ∧ w'.ownsRow B 3 1 vN' (q + 4) ((List.range (q + 4)).map fun i => .int .i64 (ys' i)) ∧ Mrk B w' (q + 4) xs' ys' ls' ∧
    (∀ i, i < q + 4 → ∀ b, (xs' i).ownBlock = some b → (∃ j, j < q ∧ (xs j).ownBlock = some b) ∨ l.ownBlock = some b ∨ w.heap.size < b) ∧ (∀ b, vP'.ownBlock = some b ∨ vN'.ownBlock = some b → (b = bb ∨ vP.ownBlock = some b ∨ vN.ownBlock = some b ∨ l.ownBlock = some b) ∨ w.heap.size < b) ∧ Kp (fun b => b = bb ∨ vP.ownBlock = some b ∨ vN.ownBlock = some b ∨ l.ownBlock = some b) w w'
theorem owns_slice {w : World} {B : Nat} {T : TypeId} {size : Nat} {v : Value} {n : Nat} {xs : List Value} (h : w.ownsRow B T size v n xs) : ∃ a c, v = .slice a n c := by
  rcases h.2 with ⟨rfl, rfl⟩ | ⟨g, cap, cur, rfl, _⟩
  · exact ⟨_, _, rfl⟩
  · exact ⟨_, _, rfl⟩
set_option maxRecDepth 100000 in
set_option maxHeartbeats 4000000 in
theorem markP_any (B : Nat) (w : World) (bb : Nat) (c : Nat → Value) (n0 q : Nat) (xs : Nat → Value) (ys : Nat → Int) (ls : Nat → Nat) (vP vN l : Value) (m : Nat) (d : Nat → Nat → Int)
    (hb : bkBlk w bb c) (hBb : B ≤ bb) (h0 : c 0 = .int .i64 n0) (hn0 : n0 ≤ 100000000000) (h9 : c 9 = vP) (h10 : c 10 = vN) (hP : w.ownsRow B 29 1 vP q ((List.range q).map xs)) (hN : w.ownsRow B 3 1 vN q ((List.range q).map fun i => .int .i64 (ys i))) (hq : q ≤ 400000000000)
    (hM : Mrk B w q xs ys ls) (hl : OwnV B w l m d) (hm : m ≤ 1000000000000) (hold : ∀ i, i < q → ∀ b, (xs i).ownBlock = some b → l.ownBlock ≠ some b) :
    Calls Tryz.prog 58 #[.pointer (some ⟨bb, 0, none⟩), l] w (MarkOut B w bb c n0 q xs vP vN l) := by
  have HQ : Hid (∀ e w', MarkOut B w bb c n0 q xs vP vN l e w' ↔ (e = .returned (.tuple #[]) ∧ ∃ vP' vN' xs' ys' ls', bkBlk w' bb (updB (updB (updB c 0 (.int .i64 (n0 + 1 : Nat))) 9 vP') 10 vN') ∧ w'.ownsRow B 29 1 vP' (q + 4) ((List.range (q + 4)).map xs') ∧ w'.ownsRow B 3 1 vN' (q + 4) ((List.range (q + 4)).map fun i => .int .i64 (ys' i)) ∧ Mrk B w' (q + 4) xs' ys' ls' ∧
    (∀ i, i < q + 4 → ∀ b, (xs' i).ownBlock = some b → (∃ j, j < q ∧ (xs j).ownBlock = some b) ∨ l.ownBlock = some b ∨ w.heap.size < b) ∧ (∀ b, vP'.ownBlock = some b ∨ vN'.ownBlock = some b → (b = bb ∨ vP.ownBlock = some b ∨ vN.ownBlock = some b ∨ l.ownBlock = some b) ∨ w.heap.size < b) ∧ Kp (fun b => b = bb ∨ vP.ownBlock = some b ∨ vN.ownBlock = some b ∨ l.ownBlock = some b) w w')) := fun _ _ => Iff.rfl
  obtain ⟨z, hz⟩ : ∃ z : Int, z = -100 - ((n0 : Int) + 1) := ⟨_, rfl⟩
  obtain ⟨S, hS⟩ : ∃ S : Nat → Prop, S = fun b => b = bb ∨ vP.ownBlock = some b ∨ vN.ownBlock = some b ∨ l.ownBlock = some b := ⟨_, rfl⟩
  -- the world with the number raised, and the mark laid
  obtain ⟨w1, hw1⟩ : ∃ w1, w1 = w.setCell ⟨bb, 0, none⟩ (.int .i64 ((n0 : Int) + 1)) := ⟨_, rfl⟩
  obtain ⟨w2, hw2⟩ : ∃ w2, w2 = w1.alloc (.cells (pkA (mkP z)) 46) := ⟨_, rfl⟩
  have z1 : w1.heap.size = w.heap.size := by rw [hw1]; simp [World.setCell]
  have g1 : w.grownBy w1 (some bb) := by rw [hw1]; exact grown_set _ _ _ _
  have g2 : w1.grownBy w2 none := by rw [hw2]; exact World.grownBy_alloc _ _ _
  have tbb : ∀ b, some bb = some b → blkT w b 42 := fun b e => by cases e; exact hb.tag
  have hcell : updB c 0 (.int .i64 ((n0 : Int) + 1)) = updB (updB (updB c 0 (.int .i64 ((n0 : Int) + 1))) 9 vP) 10 vN := by
    funext j
    unfold updB
    by_cases e1 : j = 10
    · subst e1; simp [h10]
    · by_cases e2 : j = 9
      · subst e2; simp [h9]
      · simp [e1, e2]
  have bk1 : bkBlk w1 bb (updB (updB (updB c 0 (.int .i64 ((n0 : Int) + 1))) 9 vP) 10 vN) := by rw [← hcell, hw1]; exact hb.set 0 (by omega) _
  have no2 : ∀ {v : Value}, v.ownBlock = none ∨ v.ownBlock ≠ none := fun {v} => by cases hv : v.ownBlock with | none => exact .inl rfl | some b => exact .inr (by simp)
  have BK := hide (bk1.grown g2 (by simp))
  have RP := hide ((owns_keptT hP g1 tbb (by decide)).kept g2 no2)
  have RN := hide ((owns_keptT hN g1 tbb (by decide)).kept g2 no2)
  have MR := hide ((hM.grownT g1 tbb (by decide)).grown g2 (fun i hi b e => by cases e))
  have LV := hide ((ownV_keptT hl g1 tbb (by decide)).grown g2 (fun b e => by cases e))
  have MB : Hid (pkBlk w2 w.heap.size (mkP z)) := by rw [hw2, ← z1]; exact pkBlk.alloc _ _
  have KP : Hid (Kp S w w2) := ((Kp.refl S w).step g1 (fun b e => by cases e; rw [hS]; exact .inl (.inl rfl))).step g2 (fun b e => by cases e)
  have hlb : Hid (∀ b, l.ownBlock = some b → S b ∧ b < w.heap.size) := fun b hb => ⟨by rw [hS]; exact .inr (.inr (.inr hb)), (hl.lt b hb).2⟩
  have hbbS : Hid (S bb ∧ bb < w.heap.size ∧ B ≤ bb) := ⟨by rw [hS]; exact .inl rfl, hb.lt, hBb⟩
  have hOLD : Hid (∀ i, i < q → ∀ b, (xs i).ownBlock = some b → l.ownBlock ≠ some b ∧ b < w.heap.size ∧ ∃ j, j < q ∧ (xs j).ownBlock = some b) := fun i hi b hb => ⟨hold i hi b hb, by
    obtain ⟨_, cur, h2⟩ := (hM i hi).2 b hb
    exact (Array.getElem?_eq_some_iff.1 h2).1, i, hi, hb⟩
  have hbP : Hid (∀ b, vP.ownBlock = some b → S b ∨ w.heap.size < b) := fun b hb => .inl (by rw [hS]; exact .inr (.inl hb))
  have hbN : Hid (∀ b, vN.ownBlock = some b → S b ∨ w.heap.size < b) := fun b hb => .inl (by rw [hS]; exact .inr (.inr (.inl hb)))
  have c0 := hb.cell 0 (by omega)
  rw [h0] at c0
  have f0 := hb.frozen
  have HSS := hide hS
  obtain ⟨la, lc, rfl⟩ := hl.slice
  obtain ⟨pa, pc, hvP⟩ := owns_slice hP
  have hsz : B ≤ w.heap.size := by have := hb.lt; omega
  have HZ := hide hz
  clear hz hP hN hM hl hold h9 h10 h0 hcell bk1 g1 g2 tbb no2 hS hvP
  generalize MarkOut B w bb c n0 q xs vP vN (.slice la m lc) = Q at HQ ⊢
  go_enter Tryz.func58, Tryz.ntmps58
  have hw2' : w2 = (w.setCell ⟨bb, 0, none⟩ (.int .i64 ((n0 : Int) + 1))).alloc (.cells #[.int .i64 (-100 - ((n0 : Int) + 1)), .int .i64 0, .int .i64 0, .int .i64 0, .int .i64 0, .int .i64 0] 46) := by
    rw [hw2, hw1, HZ.out]; rfl
  go_upto_region 2 with fail
  rw [← hw2']
  clear hw2' hw2 hw1 c0 f0 hb z1
  obtain ⟨C, hC⟩ : ∃ C, C = updB (updB (updB c 0 (.int .i64 ((n0 : Int) + 1))) 9 vP) 10 vN := ⟨_, rfl⟩
  rw [← hC] at BK
  have HC := hide hC
  clear hC
  go_wp2_with fail
  go_loopw [5] (fun s5 wr => ∃ i : Nat, i ≤ m ∧ s5 = .int .i64 i ∧ bkBlk wr bb C ∧ wr.ownsRow B 29 1 vP q ((List.range q).map xs) ∧ wr.ownsRow B 3 1 vN q ((List.range q).map fun i => .int .i64 (ys i)) ∧ Mrk B wr q xs ys ls ∧ OwnV B wr (.slice la m lc) m (fun t => if t < i then mkP z else d t) ∧ pkBlk wr w.heap.size (mkP z) ∧ Kp S w wr) (fun s5 _ => m - (intOf s5).toNat)
  case atStart => exact ⟨0, by omega, rfl, BK.out, RP.out, RN.out, MR.out, LV.out.cong (fun j hj i hi => by rw [if_neg (by omega)]), MB.out, KP.out⟩
  case round =>
    obtain ⟨i, hi, rfl, bk, rp, rn, mr, lv, mb, kp⟩ := hrel
    clear BK RP RN MR LV MB KP
    have BK := hide bk
    have RP := hide rp
    have RN := hide rn
    have MR := hide mr
    have MB := hide mb
    have KP := hide kp
    obtain ⟨E, hE⟩ : ∃ E : Nat → Nat → Int, E = fun t => if t < i then mkP z else d t := ⟨_, rfl⟩
    rw [← hE] at lv
    have HE := hide hE
    have LV := hide lv
    clear bk rp rn mr lv mb kp hE
    by_cases hlt : i < m
    · rcases LV.out with ⟨_, h0⟩ | ⟨g, cap, hBg, hv, hO⟩
      · omega
      cases hv
      have HO := hide hO
      have hgl := (hlb.out g rfl)
      clear hO
      have f0 : wr.cell? ⟨g, i * 6, none⟩ = some (.int .i64 (E i 0)) := HO.out.cell i hlt 0 (by omega)
      have f1 := HO.out.cell i hlt 1 (by omega)
      have f2 := HO.out.cell i hlt 2 (by omega)
      have f3 := HO.out.cell i hlt 3 (by omega)
      have f4 := HO.out.cell i hlt 4 (by omega)
      have f5 := HO.out.cell i hlt 5 (by omega)
      have fz := HO.out.frozen
      obtain ⟨y, hy⟩ : ∃ y, y = mkP z := ⟨_, rfl⟩
      have MB2 := MB.out
      rw [← hy] at MB2
      have d0 := MB2.cell 0 (by omega)
      have d1 := MB2.cell 1 (by omega)
      have d2 := MB2.cell 2 (by omega)
      have d3 := MB2.cell 3 (by omega)
      have d4 := MB2.cell 4 (by omega)
      have d5 := MB2.cell 5 (by omega)
      have HY := hide hy
      have HGL := hide hgl
      clear hy MB2 hgl
      have hltI : (i : Int) < m := by omega
      go_wp2_with fail
      have hop := HO.out.put i hlt y
      have hgp := lay6_grown wr g (i * 6) y
      have tg : ∀ b, some g = some b → blkT wr b 46 := fun b e => by cases e; exact ⟨_, HO.out.choose_spec.1⟩
      refine ⟨⟨i + 1, by omega, by go_num, BK.out.keptT hgp tg (by decide), owns_keptT RP.out hgp tg (by decide), owns_keptT RN.out hgp tg (by decide), MR.out.grown hgp (fun i hi b e hb => by cases e; exact (hOLD.out i hi g hb).1 rfl), .inr ⟨g, lc, hBg, rfl, hop.cong (fun t ht u hu => ?_)⟩, MB.out.grown hgp (fun e => by cases e; exact absurd HGL.out.2 (Nat.lt_irrefl _)), KP.out.step hgp (fun b e => by cases e; exact .inl HGL.out.1)⟩, by simp [intOf]; omega⟩
      rw [HE.out, HY.out]
      show (if t = i then mkP z else if t < i then mkP z else d t) u = (if t < i + 1 then mkP z else d t) u
      by_cases e1 : t = i
      · rw [if_pos e1, if_pos (by omega)]
      · rw [if_neg e1]
        by_cases e2 : t < i
        · rw [if_pos e2, if_pos (by omega)]
        · rw [if_neg e2, if_neg (by omega)]
    · obtain rfl : i = m := by omega
      have hst : MSt B w bb c S (fun b => ∃ j, j < q ∧ (xs j).ownBlock = some b) (Value.slice la i lc).ownBlock q i ((n0 : Int) + 1) z wr q q vP vN (.slice la i lc) i xs ys ls :=
        ⟨by rw [← HC.out]; exact BK.out, RP.out, RN.out, hbP.out, hbN.out, fun b hb => .inl hb, MR.out, hOLD.out, fun j h1 h2 => by omega, LV.out.cong (fun j hj u hu => by rw [HE.out]; show (if j < i then mkP z else d j) u = _; rw [if_pos hj]), MB.out, KP.out, hlb.out, hbbS.out⟩
      have HST := hide hst
      clear hst
      clear BK RP RN MR LV MB KP HE
      go_wp2_with fail
      go_loopw [1, 6] (fun s1 s6 wr => ∃ (k : Nat) (a : Option Addr) (cc : Nat) (vP' vN' : Value) (xs' : Nat → Value) (ys' : Nat → Int) (ls' : Nat → Nat), k ≤ 4 ∧ s6 = .int .i64 k ∧ s1 = .slice a (i + k) cc ∧ MSt B w bb c S (fun b => ∃ j, j < q ∧ (xs j).ownBlock = some b) (Value.slice la i lc).ownBlock q i ((n0 : Int) + 1) z wr (q + k) (q + k) vP' vN' (.slice a (i + k) cc) (i + k) xs' ys' ls') (fun _ s6 _ => 4 - (intOf s6).toNat)
      case atStart => exact ⟨0, la, lc, vP, vN, xs, ys, ls, by omega, rfl, rfl, HST.out⟩
      case round =>
        obtain ⟨k, a, cc, vP', vN', xs', ys', ls', hk, rfl, rfl, hst⟩ := hrel
        clear HST
        have HST := hide hst
        have hsm := hst.kp.size
        clear hst
        by_cases hlt4 : k < 4
        · have hltI : (k : Int) < 4 := by omega
          obtain ⟨pa, pc, hvp⟩ := owns_slice HST.out.rP
          subst hvp
          have b9 := HST.out.bk.cell 9 (by omega)
          simp only [updB, if_true, Nat.reduceEqDiff, if_false] at b9
          obtain ⟨wa, hwa⟩ : ∃ wa, wa = wr.alloc (.cells #[.slice a (i + k) cc] 29) := ⟨_, rfl⟩
          have ga : wr.grownBy wa none := by rw [hwa]; exact World.grownBy_alloc _ _ _
          have RPA : Hid (wa.ownsRow B 29 1 (.slice pa (q + k) pc) (q + k) ((List.range (q + k)).map xs')) := HST.out.rP.kept ga (by cases pa with | none => exact .inl rfl | some b => exact .inr (by simp [Value.ownBlock]))
          have CA : Hid (∀ j u, [Value.slice a (i + k) cc][j]? = some u → wa.cell? ((⟨wr.heap.size, 0, none⟩ : Addr).add j) = some u) := by rw [hwa]; exact cell_one_new wr _ _
          have GA := hide ga
          obtain ⟨i0, hi0, hz0, hz1, hz2⟩ := info_parts Tryz.infoPs
          clear ga
          go_wp2_with (at_builtin; rw [← hwa]; refine wpList_append_own_at _ rfl _ _ 37 rfl B 29 i0 _ 1 24 Tryz.underlying37 hi0 hz0 hz1 hz2 rfl (by decide) _ _ _ rfl RPA.out ⟨wr.heap.size, 0, none⟩ 1 _ [.slice a (i + k) cc] rfl rfl CA.out (fun u hu => by simp at hu; subst hu; rfl) (by unfold maxLen; omega) (by omega) (by have := GA.out.size; omega) ?_)
          intro vP2 w3 ho3 hg3 _ hat3
          try rw [← hwa] at hg3
          try rw [← hwa] at hat3
          have bk3 := HST.out.bkT GA.out hg3 (T := 29) (fun b hb => owns_tagged RPA.out b hb) (by decide)
          obtain ⟨pa2, pc2, hvp2⟩ := owns_slice ho3
          subst hvp2
          have ST2 := hide (HST.out.addP (by omega) (by omega) GA.out ho3 hg3 (by rcases hat3 with e | e; exact .inl e; exact .inr (by rw [e, hwa]; simp)))
          have c9 := bk3.cell 9 (by omega)
          have fz := bk3.frozen
          clear hg3 hat3 bk3 ho3 HST RPA CA GA b9 hwa hi0 hz0 hz1 hz2
          go_upto_region 10 with fail
          clear c9 fz
          generalize hw4 : w3.setCell ⟨bb, 9, none⟩ (.slice pa2 (q + k + 1) pc2) = w4 at ST2 ⊢
          clear hw4
          obtain ⟨na, nc, hvn⟩ := owns_slice ST2.out.rN
          subst hvn
          have b0 := ST2.out.bk.cell 0 (by omega)
          have b10 := ST2.out.bk.cell 10 (by omega)
          simp only [updB, if_true, Nat.reduceEqDiff, if_false] at b0 b10
          have hb4 := ST2.out.bk.lt
          have fz := ST2.out.bk.frozen
          have RN4 := hide ST2.out.rN
          have hsz4 := ST2.out.kp.size
          obtain ⟨LN, hLN⟩ : ∃ LN : List Value, LN = (List.range (q + k)).map (fun i => .int .i64 (snoc (q + k) ys' z i)) := ⟨_, rfl⟩
          rw [← hLN] at RN4
          have HLN := hide hLN
          clear hLN
          obtain ⟨i1, hi1, hy0, hy1, hy2⟩ := info_parts Tryz.infoInt
          go_region_law (refine step_append_pint rfl (.tmp 48) (.tmp 54) 38 rfl B 3 i1 _ 1 8 Tryz.underlying38 hi1 hy0 hy1 hy2 rfl (by decide) (.slice na (q + k) nc) (q + k) LN (by simp [Act.eval, Act.put]) (RN4.out.alloc _).drew ⟨w4.heap.size, 0, none⟩ 1 1 [.int .i64 (IntKind.i64.wrap (-100 - ((n0 : Int) + 1)))] (by simp [Act.eval, Act.put]) rfl (cell_one_new _ _ _) (by intro u hu; simp at hu; subst hu; rfl) (by unfold maxLen; omega) (by omega) (by simp; omega) ?_; intro v5 w5 ho5 hg5 hat5; obtain ⟨na5, nc5, hv5⟩ := owns_slice ho5; subst hv5; have bk5 := ST2.out.bkT (grown_alloc_drew w4 _ none) hg5 (T := 3) (fun b hb => owns_tagged (RN4.out.alloc _).drew b hb) (by decide); have b15 := bk5.cell 10 (by omega); have fz5 := bk5.frozen; have HO5 := hide ho5; have HG5 := hide hg5; have HAT5 := hide hat5; clear ho5 hg5 hat5 bk5)
          all_goals
            have hw64 : IntKind.i64.wrap (-100 - ((n0 : Int) + 1)) = z := by
              rw [HZ.out]
              exact i64w _ (by omega) (by omega)
            have ho6 := HO5.out
            rw [hw64, HLN.out] at ho6
            have ST3 := hide (ST2.out.addN (by omega) (by simp [snoc]) (grown_alloc_drew w4 _ none) ho6 HG5.out (by
              rcases HAT5.out with e | e
              · exact .inl e
              · exact .inr ⟨_, e, by simp⟩))
            clear hw64 ho6 HO5 HG5 HAT5 ST2 RN4 HLN b0 b10 hb4 fz hi1 hy0 hy1 hy2 hsz4
            clear b15 fz5
            generalize hw6 : w5.setCell ⟨bb, 10, none⟩ (.slice na5 (q + k + 1) nc5) = w6 at ST3 ⊢
            clear hw6
            obtain ⟨y, hy⟩ : ∃ y, y = mkP z := ⟨_, rfl⟩
            have MB6 := ST3.out.mb
            rw [← hy] at MB6
            have d0 := MB6.cell 0 (by omega)
            have d1 := MB6.cell 1 (by omega)
            have d2 := MB6.cell 2 (by omega)
            have d3 := MB6.cell 3 (by omega)
            have d4 := MB6.cell 4 (by omega)
            have d5 := MB6.cell 5 (by omega)
            have HR := hide (one_row w6 y)
            unfold pkA at HR
            have HY := hide hy
            have hsz6 := ST3.out.kp.size
            clear MB6 hy
            go_wp2_with (at_builtin; refine wpList_append_one _ rfl _ _ rfl B (.slice a (i + k) cc) (i + k) (fun _ => mkP z) rfl (ST3.out.lv.grown (World.grownBy_alloc _ _ none) (fun b e => by cases e)) _ y rfl HR.out (by omega) (by simp; omega) ?_)
            intro v7 w7 ho7 hat7
            obtain ⟨a7, c7, rfl⟩ := ho7.slice
            have ho8 : OwnV B w7 (.slice a7 (i + k + 1) c7) (i + k + 1) (fun _ => mkP z) := ho7.cong (fun j hj u hu => by
              unfold cat
              split
              · rfl
              · rw [HY.out])
            have ST4 := hide (ST3.out.longer (World.grownBy_alloc w6 (.cells #[.int .i64 (y 0), .int .i64 (y 1), .int .i64 (y 2), .int .i64 (y 3), .int .i64 (y 4), .int .i64 (y 5)] 46) none) ho8 (by
              rcases hat7 with ⟨g, cap, ⟨e1, e2⟩, e3, e4⟩ | ⟨e1, e2⟩
              · exact .inl ⟨g, cap, by rw [e1, e2], e3, e4⟩
              · exact .inr ⟨by rw [e1]; simp, e2⟩))
            clear d0 d1 d2 d3 d4 d5 HR ho7 hat7 ho8 ST3
            go_wp2_with fail
            exact ⟨⟨k + 1, a7, c7, _, _, _, _, _, by omega, by go_num, rfl, ST4.out⟩, by simp [intOf]; omega⟩
        · obtain rfl : k = 4 := by omega
          go_wp2
          go_end0
          refine (HQ.out _ _).2 ⟨rfl, vP', vN', xs', ys', ls', HST.out.bk, HST.out.rP, HST.out.rN, HST.out.mrk, fun j hj b hb => ?_, fun b hb => ?_, by have := HST.out.kp; rw [HSS.out] at this; exact this⟩
          · by_cases hjq : j < q
            · exact .inl (HST.out.old j hjq b hb).2.2
            · exact .inr ((HST.out.new j (by omega) hj).2.2.2 b hb)
          · have hSb : S b ∨ w.heap.size < b := by
              rcases hb with e | e
              · exact HST.out.bP b e
              · exact HST.out.bN b e
            rw [HSS.out] at hSb
            exact hSb
end Go.Proofs.YtlhkfafdioakeaaGreatDoor
/- Proved here: the books take a list. -/
namespace Go.Proofs.YtlhkfafdioakeaaGreatDoor
open Go.RowKit
set_option linter.unusedVariables false
set_option linter.unusedSimpArgs false
/-- The cells of books that hold lists of packets alone. -/
def bkF (n ca : Nat) (kv wv vP vN : Value) : Nat → Value := fun j =>
  if j = 0 then .int .i64 n else if j = 1 then .int .i64 ca else if j = 2 then .bool false else if j = 3 then kv else if j = 4 then wv else if j = 9 then vP else if j = 10 then vN else .slice none 0 0
/-- The books between two calls: all that is theirs lies in blocks from B on and ahead of C. -/
structure BkS (B C : Nat) (w : World) (bb n ca : Nat) (kv wv vP vN : Value) (km : Nat) (kd : Nat → Nat → Int) (xs : Nat → Value) (ys : Nat → Int) (ls : Nat → Nat) : Prop where
  bk : bkBlk w bb (bkF n ca kv wv vP vN)
  few : n ≤ 2 * ca
  kfew : km ≤ 1000000000000
  rP : w.ownsRow B 29 1 vP (4 * n) ((List.range (4 * n)).map xs)
  rN : w.ownsRow B 3 1 vN (4 * n) ((List.range (4 * n)).map fun i => .int .i64 (ys i))
  mrk : Mrk B w (4 * n) xs ys ls
  kept : OwnV B w kv km kd
  were : OwnV B w wv km kd
  apart : ∀ i, i < 4 * n → ∀ b, (xs i).ownBlock = some b → kv.ownBlock ≠ some b
  inB : B ≤ bb ∧ bb < C
  inP : ∀ b, vP.ownBlock = some b → b < C
  inN : ∀ b, vN.ownBlock = some b → b < C
  inK : ∀ b, kv.ownBlock = some b → b < C
  inW : ∀ b, wv.ownBlock = some b → b < C
  inX : ∀ i, i < 4 * n → ∀ b, (xs i).ownBlock = some b → b < C
  lt : C ≤ w.heap.size
/-- The books, whatever is in them. -/
def Bk (B C : Nat) (w : World) (bb ca : Nat) : Prop := ∃ n kv wv vP vN km kd xs ys ls, BkS B C w bb n ca kv wv vP vN km kd xs ys ls
theorem OwnV.kp {B : Nat} {w w' : World} {v : Value} {n : Nat} {d : Nat → Nat → Int} {S : Nat → Prop} (h : OwnV B w v n d) (hk : Kp S w w') (hs : ∀ b, v.ownBlock = some b → ¬ S b) : OwnV B w' v n d := by
  rcases h with h | ⟨g, cap, h1, rfl, cur, h2, h3⟩
  · exact .inl h
  · exact .inr ⟨g, cap, h1, rfl, cur, by rw [hk.2.2.2.2 g (Array.getElem?_eq_some_iff.1 h2).1 (hs g rfl), h2], h3⟩
theorem BkS.grown {B C : Nat} {w w' : World} {bb n ca : Nat} {kv wv vP vN : Value} {km : Nat} {kd : Nat → Nat → Int} {xs : Nat → Value} {ys : Nat → Int} {ls : Nat → Nat} (h : BkS B C w bb n ca kv wv vP vN km kd xs ys ls) (hg : w.grownBy w' none) : BkS B C w' bb n ca kv wv vP vN km kd xs ys ls := by
  have no2 : ∀ {v : Value}, v.ownBlock = none ∨ v.ownBlock ≠ none := fun {v} => by cases hv : v.ownBlock with | none => exact .inl rfl | some b => exact .inr (by simp)
  exact ⟨h.bk.grown hg (by simp), h.few, h.kfew, h.rP.kept hg no2, h.rN.kept hg no2, h.mrk.grown hg (fun i hi b e => by cases e), h.kept.grown hg (fun b e => by cases e), h.were.grown hg (fun b e => by cases e), h.apart, h.inB, h.inP, h.inN, h.inK, h.inW, h.inX, Nat.le_trans h.lt hg.size⟩
theorem Bk.grown {B C : Nat} {w w' : World} {bb ca : Nat} (h : Bk B C w bb ca) (hg : w.grownBy w' none) : Bk B C w' bb ca := by
  obtain ⟨n, kv, wv, vP, vN, km, kd, xs, ys, ls, h⟩ := h
  exact ⟨n, kv, wv, vP, vN, km, kd, xs, ys, ls, h.grown hg⟩
theorem Kp.trans2 {S T : Nat → Prop} {w w1 w2 : World} (h : Kp S w w1) (k : Kp T w1 w2) (hT : ∀ b, b < w.heap.size → T b → S b) : Kp S w w2 :=
  ⟨k.1.trans h.1, k.2.1.trans h.2.1, k.2.2.1.trans h.2.2.1, Nat.le_trans h.size k.size, fun b hb hn => (k.2.2.2.2 b (Nat.lt_of_lt_of_le hb h.size) (fun c => hn (hT b hb c))).trans (h.2.2.2.2 b hb hn)⟩
theorem bkF_mark (n ca : Nat) (kv wv vP vN vP' vN' : Value) : updB (updB (updB (bkF n ca kv wv vP vN) 0 (.int .i64 ((n + 1 : Nat) : Int))) 9 vP') 10 vN' = bkF (n + 1) ca kv wv vP' vN' := by
  funext j
  unfold updB bkF
  by_cases h0 : j = 0
  · subst h0; simp
  · by_cases h9 : j = 9
    · subst h9; simp
    · by_cases h10 : j = 10
      · subst h10; simp
      · simp [h0, h9, h10]
theorem bkF_keep (n ca : Nat) (kv wv vP vN kv' wv' : Value) : updB (updB (bkF n ca kv wv vP vN) 3 kv') 4 wv' = bkF n ca kv' wv' vP vN := by
  funext j
  unfold updB bkF
  by_cases h3 : j = 3
  · subst h3; simp
  · by_cases h4 : j = 4
    · subst h4; simp
    · simp [h3, h4]
/-- What the books come to when a list is taken. -/
def TakeOut (B C : Nat) (w : World) (bb ca : Nat) (l : Value) (e : Ending) (w' : World) : Prop :=
  e = .returned (.tuple #[]) ∧ Bk B w'.heap.size w' bb (ca + 1) ∧ Kp (fun b => (B ≤ b ∧ b < C) ∨ l.ownBlock = some b) w w'
set_option maxRecDepth 100000 in
set_option maxHeartbeats 4000000 in
theorem packets_any (B C : Nat) (w : World) (bb ca : Nat) (l : Value) (m : Nat) (d : Nat → Nat → Int) (hbk : Bk B C w bb ca) (hca : ca ≤ 10000000000) (hl : OwnV C w l m d) (hm : m ≤ 1000000000000) :
    Calls Tryz.prog 20 #[.pointer (some ⟨bb, 0, none⟩), l] w (TakeOut B C w bb ca l) := by
  obtain ⟨n, kv, wv, vP, vN, km, kd, xs, ys, ls, hS⟩ := hbk
  have HQ : Hid (∀ e w', TakeOut B C w bb ca l e w' ↔ (e = .returned (.tuple #[]) ∧ Bk B w'.heap.size w' bb (ca + 1) ∧ Kp (fun b => (B ≤ b ∧ b < C) ∨ l.ownBlock = some b) w w')) := fun _ _ => Iff.rfl
  generalize TakeOut B C w bb ca l = Q at HQ ⊢
  have hCw := hS.lt
  have hBC : B ≤ C := by have := hS.inB; omega
  have hfew := hS.few
  have HS := hide hS
  obtain ⟨la, lc, rfl⟩ := hl.slice
  have HL := hide hl
  have HSRC := hide hl.row.any
  have hlC : Hid (∀ b, (Value.slice la m lc).ownBlock = some b → C ≤ b ∧ b < w.heap.size) := fun b hb => hl.lt b hb
  clear hS hl
  go_enter Tryz.func20, Tryz.ntmps20
  go_wp2_with (at_builtin; refine wpList_append_pk _ rfl _ _ rfl C (.slice none 0 0) 0 (fun _ _ => 0) rfl (OwnV.nil _ _ _) _ m d rfl HSRC.out (by omega) (by omega) ?_)
  intro vw w1 how hg1 hat1
  have how' : OwnV C w1 vw m d := OwnV.cong (d := cat 0 (fun _ _ => 0) d) (by simpa using how) (fun j hj t ht => by unfold cat; rw [if_neg (by omega), Nat.sub_zero])
  obtain ⟨wa, wc, rfl⟩ := how'.slice
  have G1 : Hid (w.grownBy w1 none) := hg1
  have HW := hide how'
  have S1 := hide (HS.out.grown hg1)
  have L1 := hide (HL.out.grown G1.out (fun b e => by cases e))
  have HAT : Hid (∀ b, (Value.slice wa m wc).ownBlock = some b → w.heap.size ≤ b) := fun b hb => by
    rcases hat1 with e | e
    · rw [e] at hb; cases hb
    · rw [e] at hb; cases hb; exact Nat.le_refl _
  clear how how' hg1 hat1 HS HL HSRC
  obtain ⟨ka, kc, hkv⟩ := S1.out.kept.slice
  subst hkv
  obtain ⟨wwa, wwc, hwv⟩ := S1.out.were.slice
  subst hwv
  have b3 := S1.out.bk.cell 3 (by omega)
  have b4 := S1.out.bk.cell 4 (by omega)
  simp only [bkF, if_true, Nat.reduceEqDiff, if_false] at b3 b4
  have HSP : Hid (∀ ww, w1.grownBy ww none → Calls Tryz.prog 19 #[.slice ka km kc, .slice wwa km wwc] ww fun e w' => e = .returned (.bool true) ∧ w1.grownBy w' none) := by
    intro ww hg
    refine (samePR _ _ km kd kd ww (S1.out.kept.row.any.grown hg) (S1.out.were.row.any.grown hg) (fun _ _ _ _ => rfl)).mono ?_
    rintro e w' ⟨rfl, hg2⟩
    exact ⟨rfl, grown_trans hg hg2⟩
  have HG0 : Hid (w1.grownBy w1.drew none) := grown_drew (grown_refl _ _)
  go_wp2_with fail
  go_region_with (go_at_call 19; refine (HSP.out _ HG0.out).mono ?_; rintro e w2 ⟨rfl, hg2⟩; have HG2 := hide hg2; clear hg2)
  all_goals
    clear b3 b4
    have S2 := hide (S1.out.grown HG2.out)
    have L2 := hide (L1.out.grown HG2.out (fun b e => by cases e))
    have W2 := hide (HW.out.grown HG2.out (fun b e => by cases e))
    have G2 := hide (grown_trans G1.out HG2.out)
    have b3 := S2.out.bk.cell 3 (by omega)
    simp only [bkF, if_true, Nat.reduceEqDiff, if_false] at b3
    have HMP := hide (markP_any B w2 bb _ n (4 * n) xs ys ls vP vN (.slice ka km kc) km kd S2.out.bk S2.out.inB.1 rfl (by omega) rfl rfl S2.out.rP S2.out.rN (by omega) S2.out.mrk S2.out.kept S2.out.kfew S2.out.apart)
    go_wp2_with fail
    clear b3
    refine HMP.out.mono ?_
    rintro e w3 ⟨rfl, vP1, vN1, xs1, ys1, ls1, bk3, rP3, rN3, mk3, at3, nw3, kp3⟩
    have hS1 : ∀ b, (b = bb ∨ vP.ownBlock = some b ∨ vN.ownBlock = some b ∨ (Value.slice ka km kc).ownBlock = some b) → B ≤ b ∧ b < C := by
      rintro b (e | e | e | e)
      · rw [e]; exact S2.out.inB
      · exact ⟨(S2.out.rP.lt b e).1, S2.out.inP b e⟩
      · exact ⟨(S2.out.rN.lt b e).1, S2.out.inN b e⟩
      · exact ⟨(S2.out.kept.lt b e).1, S2.out.inK b e⟩
    have L3 := L2.out.kp kp3 (fun b hb hc => by have := hS1 b hc; have := (L2.out.lt b hb).1; omega)
    have W3 := W2.out.kp kp3 (fun b hb hc => by have := hS1 b hc; have := (W2.out.lt b hb).1; omega)
    have K3 : Kp (fun b => (B ≤ b ∧ b < C) ∨ (Value.slice la m lc).ownBlock = some b) w w3 := ((Kp.refl _ w).step G2.out (fun b e => by cases e)).trans (kp3.mono (fun b _ hb => .inl (hS1 b hb)))
    have hsz2 : w.heap.size ≤ w2.heap.size := G2.out.size
    have HX3 : Hid (∀ i, i < 4 * n + 4 → ∀ b, (xs1 i).ownBlock = some b → b < C ∨ w2.heap.size < b) := fun i hi b hb => by
      rcases at3 i hi b hb with ⟨j, hj, e⟩ | e | e
      · exact .inl (S2.out.inX j hj b e)
      · exact .inl (S2.out.inK b e)
      · exact .inr e
    have HN3 : Hid (∀ b, vP1.ownBlock = some b ∨ vN1.ownBlock = some b → (B ≤ b ∧ b < C) ∨ w2.heap.size < b) := fun b hb => by
      rcases nw3 b hb with e | e
      · exact .inl (hS1 b e)
      · exact .inr e
    have HG38 : Hid (w2.heap.size ≤ w3.heap.size) := kp3.size
    have HSP2 := hide (samePR _ _ m d d w3 L3.row.any W3.row.any (fun _ _ _ _ => rfl))
    have L3' := hide L3
    have W3' := hide W3
    have K3' := hide K3
    have BK3 := hide bk3
    have RP3 := hide rP3
    have RN3 := hide rN3
    have MK3 := hide mk3
    clear L3 W3 K3 bk3 rP3 rN3 mk3 at3 nw3 kp3 hS1 HMP S2 L2 W2
    go_wp2_with fail
    refine HSP2.out.mono ?_
    rintro e w4 ⟨rfl, hg4⟩
    have no2 : ∀ {v : Value}, v.ownBlock = none ∨ v.ownBlock ≠ none := fun {v} => by cases hv : v.ownBlock with | none => exact .inl rfl | some b => exact .inr (by simp)
    obtain ⟨w8, hw8⟩ : ∃ w8, w8 = (((w4.setCell ⟨bb, 2, none⟩ (.bool false)).setCell ⟨bb, 3, none⟩ (.slice none 0 0)).setCell ⟨bb, 4, none⟩ (.slice none 0 0)).setCell ⟨bb, 1, none⟩ (.int .i64 ((ca : Int) + 1)) := ⟨_, rfl⟩
    have bk4 := BK3.out.grown hg4 (by simp)
    have tb4 : ∀ b, some bb = some b → blkT w4 b 42 := fun b e => by cases e; exact bk4.tag
    have hg8 : w4.grownBy w8 (some bb) := by rw [hw8]; exact grown_trans (grown_trans (grown_trans (grown_set _ _ _ _) (grown_set _ _ _ _)) (grown_set _ _ _ _)) (grown_set _ _ _ _)
    have bk8 : bkBlk w8 bb (bkF (n + 1) (ca + 1) (.slice none 0 0) (.slice none 0 0) vP1 vN1) := by
      have h := (((bk4.set 2 (by omega) (.bool false)).set 3 (by omega) (.slice none 0 0)).set 4 (by omega) (.slice none 0 0)).set 1 (by omega) (.int .i64 ((ca : Int) + 1))
      rw [← hw8] at h
      have e : updB (updB (updB (updB (updB (updB (updB (bkF n ca (.slice ka km kc) (.slice wwa km wwc) vP vN) 0 (.int .i64 ((n + 1 : Nat) : Int))) 9 vP1) 10 vN1) 2 (.bool false)) 3 (.slice none 0 0)) 4 (.slice none 0 0)) 1 (.int .i64 ((ca : Int) + 1)) = bkF (n + 1) (ca + 1) (.slice none 0 0) (.slice none 0 0) vP1 vN1 := by
        funext j
        unfold updB bkF
        by_cases h0 : j = 0
        · subst h0; simp
        · by_cases h1 : j = 1
          · subst h1; simp
          · by_cases h2 : j = 2
            · subst h2; simp
            · by_cases h3 : j = 3
              · subst h3; simp
              · by_cases h4 : j = 4
                · subst h4; simp
                · by_cases h9 : j = 9
                  · subst h9; simp
                  · by_cases h10 : j = 10
                    · subst h10; simp
                    · simp [h0, h1, h2, h3, h4, h9, h10]
      rw [e] at h
      exact h
    have RP8 := hide (owns_keptT (RP3.out.kept hg4 no2) hg8 tb4 (by decide))
    have RN8 := hide (owns_keptT (RN3.out.kept hg4 no2) hg8 tb4 (by decide))
    have MK8 := hide ((MK3.out.grown hg4 (fun i hi b e => by cases e)).grownT hg8 tb4 (by decide))
    have L8 := hide (ownV_keptT (L3'.out.grown hg4 (fun b e => by cases e)) hg8 tb4 (by decide))
    have W8 := hide (ownV_keptT (W3'.out.grown hg4 (fun b e => by cases e)) hg8 tb4 (by decide))
    have BK8 := hide bk8
    have hbbC : Hid (B ≤ bb ∧ bb < C) := S1.out.inB
    have K8 := hide ((K3'.out.step hg4 (fun b e => by cases e)).step hg8 (fun b e => by cases e; exact .inl (.inl hbbC.out)))
    have hsz8 : w2.heap.size ≤ w8.heap.size := by
      have h1 := HG38.out
      have h2 := hg4.size
      have h3 := hg8.size
      omega
    have c1 := bk4.cell 1 (by omega)
    have c2 := bk4.cell 2 (by omega)
    have c3 := bk4.cell 3 (by omega)
    have c4 := bk4.cell 4 (by omega)
    simp only [updB, bkF, if_true, Nat.reduceEqDiff, if_false] at c1 c2 c3 c4
    have fz := bk4.frozen
    clear BK3 RP3 RN3 MK3 L3' W3' K3' bk4 tb4 hg4 hg8 bk8 no2 HSP2 HG38
    by_cases hev : ((ca : Int) + 1) % 2 = 0
    · have hevB : ((((ca : Int) + 1) % 2) == 0) = true := beq_iff_eq.2 hev
      have HEV := hide hev
      clear hev
      go_wp2_with fail
      rw [← hw8]
      clear hw8 c1 c2 c3 c4 fz
      have hap : ∀ i, i < 4 * n + 4 → ∀ b, (xs1 i).ownBlock = some b → (Value.slice la m lc).ownBlock ≠ some b := fun i hi b hb hc => by
        have h1 := hlC.out b hc
        rcases HX3.out i hi b hb with e | e <;> omega
      have HMP := hide (markP_any B w8 bb _ (n + 1) (4 * n + 4) xs1 ys1 ls1 vP1 vN1 (.slice la m lc) m d BK8.out hbbC.out.1 rfl (by omega) rfl rfl RP8.out RN8.out (by omega) MK8.out (L8.out.mono hBC) hm hap)
      refine HMP.out.mono ?_
      rintro e w9 ⟨rfl, vP2, vN2, xs2, ys2, ls2, bk9, rP9, rN9, mk9, at9, nw9, kp9⟩
      rw [bkF_mark] at bk9
      have e4 : 4 * n + 4 + 4 = 4 * (n + 1 + 1) := by omega
      rw [e4] at rP9 rN9 mk9 at9
      have K9 := hide (K8.out.trans2 kp9 (fun b hb h => by
        rcases h with e | e | e | e
        · rw [e]; exact .inl hbbC.out
        · rcases HN3.out b (.inl e) with c | c
          · exact .inl c
          · omega
        · rcases HN3.out b (.inr e) with c | c
          · exact .inl c
          · omega
        · exact .inr e))
      have HB9 : Hid (Bk B w9.heap.size w9 bb (ca + 1)) := ⟨n + 1 + 1, .slice none 0 0, .slice none 0 0, vP2, vN2, 0, fun _ _ => 0, xs2, ys2, ls2, bk9, by omega, by omega, rP9, rN9, mk9, .inl ⟨rfl, rfl⟩, .inl ⟨rfl, rfl⟩, (fun i hi b hb e => by cases e), ⟨hbbC.out.1, bk9.lt⟩, fun b hb => (rP9.lt b hb).2, fun b hb => (rN9.lt b hb).2, (fun b hb => by cases hb), (fun b hb => by cases hb), fun i hi b hb => (by
        obtain ⟨_, cur, h2⟩ := (mk9 i hi).2 b hb
        exact (Array.getElem?_eq_some_iff.1 h2).1), Nat.le_refl _⟩
      clear bk9 rP9 rN9 mk9 at9 nw9 kp9 HMP
      go_wp2
      go_end0
      exact (HQ.out _ _).2 ⟨rfl, HB9.out, K9.out⟩
    · have hevB : ((((ca : Int) + 1) % 2) == 0) = false := beq_eq_false_iff_ne.2 hev
      have HEV := hide hev
      clear hev
      go_upto_region 11 with fail
      rw [← hw8]
      clear hw8 c1 c2 c3 c4 fz
      have c3 := BK8.out.cell 3 (by omega)
      have c4 := BK8.out.cell 4 (by omega)
      simp only [bkF, if_true, Nat.reduceEqDiff, if_false] at c3 c4
      have fz := BK8.out.frozen
      obtain ⟨w9, hw9⟩ : ∃ w9, w9 = (w8.setCell ⟨bb, 3, none⟩ (.slice la m lc)).setCell ⟨bb, 4, none⟩ (.slice wa m wc) := ⟨_, rfl⟩
      have bk9 := (BK8.out.set 3 (by omega) (.slice la m lc)).set 4 (by omega) (.slice wa m wc)
      rw [← hw9, bkF_keep] at bk9
      have hg9 : w8.grownBy w9 (some bb) := by rw [hw9]; exact grown_trans (grown_set _ _ _ _) (grown_set _ _ _ _)
      have tb8 : ∀ b, some bb = some b → blkT w8 b 42 := fun b e => by cases e; exact BK8.out.tag
      have rP9 := owns_keptT RP8.out hg9 tb8 (by decide)
      have rN9 := owns_keptT RN8.out hg9 tb8 (by decide)
      have mk9 := MK8.out.grownT hg9 tb8 (by decide)
      have l9 := (ownV_keptT L8.out hg9 tb8 (by decide)).mono hBC
      have v9 := (ownV_keptT W8.out hg9 tb8 (by decide)).mono hBC
      have e4 : 4 * n + 4 = 4 * (n + 1) := by omega
      rw [e4] at rP9 rN9 mk9
      have K9 := hide (K8.out.step hg9 (fun b e => by cases e; exact .inl (.inl hbbC.out)))
      have HB9 : Hid (Bk B w9.heap.size w9 bb (ca + 1)) := ⟨n + 1, .slice la m lc, .slice wa m wc, vP1, vN1, m, d, xs1, ys1, ls1, bk9, by omega, hm, rP9, rN9, mk9, l9, v9, (fun i hi b hb hc => by
        have h1 := hlC.out b hc
        rcases HX3.out i (by omega) b hb with e | e <;> omega), ⟨hbbC.out.1, bk9.lt⟩, fun b hb => (rP9.lt b hb).2, fun b hb => (rN9.lt b hb).2, fun b hb => (l9.lt b hb).2, fun b hb => (v9.lt b hb).2, fun i hi b hb => (by
        obtain ⟨_, cur, h2⟩ := (mk9 i hi).2 b hb
        exact (Array.getElem?_eq_some_iff.1 h2).1), Nat.le_refl _⟩
      clear bk9 rP9 rN9 mk9 l9 v9 hg9 tb8
      go_wp2
      go_end0
      rw [← hw9]
      exact (HQ.out _ _).2 ⟨rfl, HB9.out, K9.out⟩
end Go.Proofs.YtlhkfafdioakeaaGreatDoor
/- Proved here: the books are as they were. -/
namespace Go.Proofs.YtlhkfafdioakeaaGreatDoor
open Go.RowKit
set_option linter.unusedVariables false
set_option linter.unusedSimpArgs false
theorem owns_at {w : World} {B : Nat} {T : TypeId} {v : Value} {n : Nat} {xs : Nat → Value} (h : w.ownsRow B T 1 v n ((List.range n).map xs)) (i : Nat) (hi : i < n) : ∃ g c, v = .slice (some ⟨g, 0, none⟩) n c ∧ w.cell? ⟨g, i, none⟩ = some (xs i) := by
  rcases h.2 with ⟨_, h0⟩ | ⟨g, cap, cur, rfl, _⟩
  · omega
  · refine ⟨g, cap, rfl, ?_⟩
    rw [h.cellAt i (by omega)]
    simp [hi]
theorem mark_eq (y : Int) : eq6 (mkP y 0) (mkP y 1) (mkP y 2) (mkP y 3) (mkP y 4) (mkP y 5) y 0 0 0 0 0 = true := by
  simp [eq6, mkP]
theorem RlRow.nil (w : World) (rs : Nat → Rl) : RlRow w (.slice none 0 0) 0 rs := .inl ⟨none, 0, rfl, rfl⟩
set_option maxRecDepth 100000 in
set_option maxHeartbeats 8000000 in
theorem still_any (B C : Nat) (w : World) (bb ca : Nat) (hbk : Bk B C w bb ca) (hca : ca ≤ 10000000000) :
    Calls Tryz.prog 21 #[.pointer (some ⟨bb, 0, none⟩)] w fun e w' => e = .returned (.bool true) ∧ w.grownBy w' none := by
  obtain ⟨n, kv, wv, vP, vN, km, kd, xs, ys, ls, hS⟩ := hbk
  have hfew := hS.few
  obtain ⟨ka, kc, rfl⟩ := hS.kept.slice
  obtain ⟨wwa, wwc, rfl⟩ := hS.were.slice
  obtain ⟨pa, pc, rfl⟩ := owns_slice hS.rP
  obtain ⟨na, nc, rfl⟩ := owns_slice hS.rN
  have HS := hide hS
  have HCE : Hid (∀ wx, w.grownBy wx none → wx.cell? ⟨bb, 2, none⟩ = some (.bool false) ∧ wx.cell? ⟨bb, 3, none⟩ = some (.slice ka km kc) ∧ wx.cell? ⟨bb, 4, none⟩ = some (.slice wwa km wwc) ∧ wx.cell? ⟨bb, 5, none⟩ = some (.slice none 0 0) ∧ wx.cell? ⟨bb, 6, none⟩ = some (.slice none 0 0) ∧ wx.cell? ⟨bb, 7, none⟩ = some (.slice none 0 0) ∧ wx.cell? ⟨bb, 8, none⟩ = some (.slice none 0 0) ∧ wx.cell? ⟨bb, 9, none⟩ = some (.slice pa (4 * n) pc) ∧ wx.cell? ⟨bb, 10, none⟩ = some (.slice na (4 * n) nc) ∧ wx.cell? ⟨bb, 11, none⟩ = some (.slice none 0 0) ∧ wx.cell? ⟨bb, 13, none⟩ = some (.slice none 0 0)) := by
    intro wx hg
    have h := (hS.grown hg).bk
    exact ⟨h.cell 2 (by omega), h.cell 3 (by omega), h.cell 4 (by omega), h.cell 5 (by omega), h.cell 6 (by omega), h.cell 7 (by omega), h.cell 8 (by omega), h.cell 9 (by omega), h.cell 10 (by omega), h.cell 11 (by omega), h.cell 13 (by omega)⟩
  have HSP : Hid (∀ ww, w.grownBy ww none → Calls Tryz.prog 19 #[.slice ka km kc, .slice wwa km wwc] ww fun e w' => e = .returned (.bool true) ∧ w.grownBy w' none) := by
    intro ww hg
    refine (samePR _ _ km kd kd ww (hS.kept.row.any.grown hg) (hS.were.row.any.grown hg) (fun _ _ _ _ => rfl)).mono ?_
    rintro e w' ⟨rfl, hg2⟩
    exact ⟨rfl, grown_trans hg hg2⟩
  have HST : Hid (∀ ww, w.grownBy ww none → Calls Tryz.prog 59 #[.slice none 0 0, .slice none 0 0] ww fun e w' => e = .returned (.bool true) ∧ w.grownBy w' none) := by
    intro ww hg
    refine (sameT_nil ww).mono ?_
    rintro e w' ⟨rfl, rfl⟩
    exact ⟨rfl, hg⟩
  have HSR : Hid (∀ ww, w.grownBy ww none → Calls Tryz.prog 60 #[.slice none 0 0, .slice none 0 0] ww fun e w' => e = .returned (.bool true) ∧ w.grownBy w' none) := by
    intro ww hg
    refine (sameRR _ _ 0 (fun _ => ⟨0, fun _ => 0, 0, fun _ _ => 0, .slice none 0 0⟩) (fun _ => ⟨0, fun _ => 0, 0, fun _ _ => 0, .slice none 0 0⟩) ww (RlRow.nil _ _) (RlRow.nil _ _) (fun j hj => by omega)).mono ?_
    rintro e w' ⟨rfl, hg2⟩
    exact ⟨rfl, grown_trans hg hg2⟩
  clear hS
  go_enter Tryz.func21, Tryz.ntmps21
  go_upto_region 1 with fail
  go_cut [3] (fun v3 wx => v3 = .bool true ∧ w.grownBy wx none)
  case first =>
    obtain ⟨c2, c3, c4, c5, c6, c7, c8, c9, c10, c11, c13⟩ := HCE.out w (grown_refl _ _)
    have HG0 : Hid (w.grownBy w.drew none) := grown_drew (grown_refl _ _)
    clear c2 c5 c6 c7 c8 c9 c10 c11 c13
    go_region_with (go_at_call 19; refine (HSP.out _ HG0.out).mono ?_; rintro e w2 ⟨rfl, hg2⟩; have HG2 := hide hg2; clear hg2)
    all_goals
      go_wp2_with fail
      go_meet
      exact ⟨rfl, HG2.out⟩
  case rest =>
    obtain ⟨rfl, hg⟩ := hcut
    have HG := hide hg
    clear hg HSP
    go_upto_region 2 with fail
    go_cut [4] (fun v4 wx => v4 = .bool true ∧ w.grownBy wx none)
    case first =>
      obtain ⟨c2, c3, c4, c5, c6, c7, c8, c9, c10, c11, c13⟩ := HCE.out _ HG.out
      have HG0 : Hid (w.grownBy wc.drew none) := grown_drew HG.out
      clear c2 c3 c4 c7 c8 c9 c10 c11 c13
      go_region_with (go_at_call 59; refine (HST.out _ HG0.out).mono ?_; rintro e w2 ⟨rfl, hg2⟩; have HG2 := hide hg2; clear hg2)
      all_goals
        go_wp2_with fail
        go_meet
        exact ⟨rfl, HG2.out⟩
    case rest =>
      obtain ⟨rfl, hg⟩ := hcut
      clear HG
      have HG := hide hg
      clear hg HST
      go_upto_region 3 with fail
      go_cut [5] (fun v5 wx => v5 = .bool true ∧ w.grownBy wx none)
      case first =>
        obtain ⟨c2, c3, c4, c5, c6, c7, c8, c9, c10, c11, c13⟩ := HCE.out _ HG.out
        have HG0 : Hid (w.grownBy wc.drew none) := grown_drew HG.out
        clear c2 c3 c4 c5 c6 c9 c10 c11 c13
        go_region_with (go_at_call 60; refine (HSR.out _ HG0.out).mono ?_; rintro e w2 ⟨rfl, hg2⟩; have HG2 := hide hg2; clear hg2)
        all_goals
          go_wp2_with fail
          go_meet
          exact ⟨rfl, HG2.out⟩
      case rest =>
        obtain ⟨rfl, hg⟩ := hcut
        clear HG
        have HG := hide hg
        clear hg HSR
        obtain ⟨c2, c3, c4, c5, c6, c7, c8, c9, c10, c11, c13⟩ := HCE.out _ HG.out
        clear c3 c4 c5 c6 c7 c8 c9 c10 c11 c13
        go_wp2_with fail
        clear c2
        go_loopw [6] (fun s6 wr => ∃ i : Nat, i ≤ 4 * n ∧ s6 = .int .i64 i ∧ w.grownBy wr none) (fun s6 _ => 4 * n - (intOf s6).toNat)
        case atStart => exact ⟨0, by omega, rfl, HG.out⟩
        case round =>
          obtain ⟨i, hi, rfl, hg⟩ := hrel
          clear HG
          have HG := hide hg
          clear hg
          obtain ⟨c2, c3, c4, c5, c6, c7, c8, c9, c10, c11, c13⟩ := HCE.out _ HG.out
          clear c2 c3 c4 c5 c6 c7 c8
          by_cases hlt : i < 4 * n
          · clear c10 c11 c13
            have hltI : (i : Int) < 4 * n := by omega
            go_wp2_with fail
            clear c9
            obtain ⟨pg, pcc, hpe, hpx⟩ := owns_at HS.out.rP i hlt
            cases hpe
            obtain ⟨ng, ncc, hne, hnx⟩ := owns_at (xs := fun i => .int .i64 (ys i)) HS.out.rN i hlt
            cases hne
            obtain ⟨xa, xc, hxe⟩ := (HS.out.mrk i hlt).1.slice
            have HMR := hide (HS.out.mrk i hlt).1
            have hlb := (HS.out.mrk i hlt).1.few
            rw [hxe] at hpx HMR
            have HPX := hide hpx
            have HNX := hide hnx
            obtain ⟨N, hN⟩ : ∃ N, N = ls i := ⟨_, rfl⟩
            obtain ⟨y, hy⟩ : ∃ y, y = ys i := ⟨_, rfl⟩
            rw [← hN] at HPX HMR hlb
            rw [← hy] at HNX HMR
            clear hpx hnx hxe hN hy
            go_loopw [7] (fun s7 wr => ∃ k : Nat, k ≤ N ∧ s7 = .int .i64 k ∧ w.grownBy wr none) (fun s7 _ => N - (intOf s7).toNat)
            case atStart => exact ⟨0, by omega, rfl, HG.out⟩
            case round =>
              obtain ⟨k, hk, rfl, hg⟩ := hrel
              clear HG
              have HG := hide hg
              clear hg
              obtain ⟨c2, c3, c4, c5, c6, c7, c8, c9, c10, c11, c13⟩ := HCE.out _ HG.out
              clear c2 c3 c4 c5 c6 c7 c8 c11 c13
              have px : wr.cell? ⟨pg, i, none⟩ = some (.slice xa N xc) := HG.out.cell HPX.out (by simp)
              by_cases hlt2 : k < N
              · rcases HMR.out with ⟨_, _, _, h0, _⟩ | ⟨g2, off2, cap2, hv2, _, hcell2⟩
                · omega
                cases hv2
                have nx : wr.cell? ⟨ng, i, none⟩ = some (.int .i64 y) := HG.out.cell HNX.out (by simp)
                obtain ⟨x, hx⟩ : ∃ x, x = mkP y := ⟨_, rfl⟩
                have cc : ∀ t, t < 6 → wr.cell? ⟨g2, off2 + k * 6 + t, none⟩ = some (.int .i64 (x t)) := fun t ht => by rw [hx]; exact HG.out.cell (hcell2 k hlt2 t ht) (by simp)
                have e0 : wr.cell? ⟨g2, off2 + k * 6, none⟩ = some (.int .i64 (x 0)) := cc 0 (by omega)
                have e1 := cc 1 (by omega)
                have e2 := cc 2 (by omega)
                have e3 := cc 3 (by omega)
                have e4 := cc 4 (by omega)
                have e5 := cc 5 (by omega)
                have he := mark_eq y
                rw [← hx] at he
                clear cc hcell2 hx
                have hlt2I : (k : Int) < N := by omega
                go_wp2_with fail
                go_quiet (fail)
                go_wp2
                go_roundw
                case rel => exact ⟨k + 1, by omega, by go_num, grown_drewN HG.out _⟩
                case measure => simp [intOf]; omega
              · obtain rfl : k = N := by omega
                go_wp2
                go_roundw
                case rel => exact ⟨i + 1, by omega, by go_num, HG.out⟩
                case measure => simp [intOf]; omega
          · obtain rfl : i = 4 * n := by omega
            go_wp2_with fail
            go_loopw [8] (fun s8 wr => s8 = .int .i64 0 ∧ w.grownBy wr none) (fun s8 _ => 0)
            case atStart => exact ⟨rfl, HG.out⟩
            case round =>
              obtain ⟨rfl, hg⟩ := hrel
              clear HG c9 c10 c11 c13
              have HG := hide hg
              clear hg
              obtain ⟨c2, c3, c4, c5, c6, c7, c8, c9, c10, c11, c13⟩ := HCE.out _ HG.out
              clear c2 c3 c4 c5 c6 c7 c8 c9 c10
              go_wp2_with fail
              go_loopw [10] (fun s10 wr => s10 = .int .i64 0 ∧ w.grownBy wr none) (fun s10 _ => 0)
              case atStart => exact ⟨rfl, HG.out⟩
              case round =>
                obtain ⟨rfl, hg⟩ := hrel
                clear HG c11 c13
                have HG := hide hg
                clear hg
                obtain ⟨c2, c3, c4, c5, c6, c7, c8, c9, c10, c11, c13⟩ := HCE.out _ HG.out
                clear c2 c3 c4 c5 c6 c7 c8 c9 c10 c11
                go_wp2
                go_ret
                exact ⟨rfl, HG.out⟩
end Go.Proofs.YtlhkfafdioakeaaGreatDoor
/- Proved here: what the walk of the statement on evals stands on: the books that are new, which packets the document takes for right. -/
namespace Go.Proofs.YtlhkfafdioakeaaGreatDoor
open Go.RowKit Go.Weft
set_option linter.unusedVariables false
set_option linter.unusedSimpArgs false
theorem Kp.grown {S : Nat → Prop} {w w1 w2 : World} (h : w.grownBy w1 none) (k : Kp S w1 w2) (hs : ∀ b, b < w1.heap.size → S b → w.heap.size ≤ b) : w.grownBy w2 none :=
  ⟨k.1.trans h.os, k.2.1.trans h.tape, k.2.2.1.trans h.output, Nat.le_trans h.size k.size, fun b hb hn => (k.2.2.2.2 b (Nat.lt_of_lt_of_le hb h.size) (fun c => by have := hs b (Nat.lt_of_lt_of_le hb h.size) c; omega)).trans (h.block b hb hn)⟩
/-- The cells of books in which nothing stands yet. -/
def bk0 : Array Value := bkA (bkF 0 0 (.slice none 0 0) (.slice none 0 0) (.slice none 0 0) (.slice none 0 0))
/-- New books. -/
theorem Bk.new (w : World) : Bk w.heap.size (w.heap.size + 1) (w.alloc (.cells bk0 42)) w.heap.size 0 := by
  refine ⟨0, .slice none 0 0, .slice none 0 0, .slice none 0 0, .slice none 0 0, 0, fun _ _ => 0, fun _ => .slice none 0 0, fun _ => 0, fun _ => 0, ⟨heap_alloc_new w _, by omega, by omega, ⟨rfl, .inl ⟨rfl, rfl⟩⟩, ⟨rfl, .inl ⟨rfl, rfl⟩⟩, (fun i hi => by omega), .inl ⟨rfl, rfl⟩, .inl ⟨rfl, rfl⟩, (fun i hi => by omega), ⟨Nat.le_refl _, Nat.lt_succ_self _⟩, (fun b e => by cases e), (fun b e => by cases e), (fun b e => by cases e), (fun b e => by cases e), (fun i hi => by omega), by simp⟩⟩
/-- Two lists that are the same list: the statements find them the same. -/
theorem same_lists {L : List (Nat → Int)} {m m2 : Nat} {d d2 : Nat → Nat → Int} (h : Is L m d) (h2 : Is L m2 d2) : m2 = m ∧ ∀ j, j < m → ∀ i, i < 6 → d j i = d2 j i := by
  obtain rfl : m2 = m := by rw [← h.len, ← h2.len]
  refine ⟨rfl, fun j hj i _ => ?_⟩
  have g1 := h.get j hj
  have g2 := h2.get j hj
  rw [g1] at g2
  exact congrFun (Option.some.inj g2) i
theorem Bk.wide {B C D : Nat} {w : World} {bb ca : Nat} (h : Bk B C w bb ca) (hC : C ≤ D) (hD : D ≤ w.heap.size) : Bk B D w bb ca := by
  obtain ⟨n, kv, wv, vP, vN, km, kd, xs, ys, ls, h⟩ := h
  exact ⟨n, kv, wv, vP, vN, km, kd, xs, ys, ls, ⟨h.bk, h.few, h.kfew, h.rP, h.rN, h.mrk, h.kept, h.were, h.apart, ⟨h.inB.1, Nat.lt_of_lt_of_le h.inB.2 hC⟩, fun b e => Nat.lt_of_lt_of_le (h.inP b e) hC, fun b e => Nat.lt_of_lt_of_le (h.inN b e) hC, fun b e => Nat.lt_of_lt_of_le (h.inK b e) hC, fun b e => Nat.lt_of_lt_of_le (h.inW b e) hC, fun i hi b e => Nat.lt_of_lt_of_le (h.inX i hi b e) hC, hD⟩⟩
set_option maxRecDepth 100000 in
set_option maxHeartbeats 1000000 in
theorem rRight_any (k : Nat → Int) (w : World) : Calls Tryz.prog 17 #[pkV k] w (Says (rightS k) w) := by
  have HB := hide (pkBlk.alloc w k)
  unfold pkV pkA at *
  obtain ⟨P, hP⟩ : ∃ P, P = rightS k := ⟨_, rfl⟩
  rw [← hP]
  have HP := hide hP
  clear hP
  go_enter Tryz.func17, Tryz.ntmps17
  go_wp2
  go_loopw [3] (fun i wr => ∃ j : Nat, j ≤ 6 ∧ i = .int .i64 j ∧ (∀ i, i < j → okF (k i)) ∧ pkBlk wr w.heap.size k ∧ w.grownBy wr none) (fun i _ => 6 - (intOf i).toNat)
  case atStart => exact ⟨0, by omega, rfl, fun i hi => by omega, HB.out, World.grownBy_alloc _ _ _⟩
  case round =>
    obtain ⟨j, hj, rfl, hok, hb, hg⟩ := hrel
    have HOK := hide hok
    have HG := hide hg
    have HBL := hide hb
    clear hok hg hb
    by_cases hlt : j < 6
    · obtain ⟨x, hx⟩ : ∃ x, x = k j := ⟨_, rfl⟩
      have c1 := HBL.out.cell j hlt
      rw [← hx] at c1
      have HX := hide hx
      clear hx
      by_cases h1 : x < 0
      · go_wp2
        go_ret
        exact no_says (fun h => by rw [HP.out] at h; have := (h j hlt).1; rw [← HX.out] at this; omega) HG.out
      · by_cases h2 : 31 < x
        · go_wp2
          go_ret
          exact no_says (fun h => by rw [HP.out] at h; have := (h j hlt).2; rw [← HX.out] at this; omega) HG.out
        · go_wp2
          go_roundw
          case rel => exact ⟨j + 1, by omega, by go_num, fun i hi => by
            by_cases e : i = j
            · subst e; rw [← HX.out]; exact ⟨by omega, by omega⟩
            · exact HOK.out i (by omega), HBL.out, HG.out⟩
          case measure => simp [intOf]; omega
    · go_wp2
      go_ret
      exact yes_says (by rw [HP.out]; intro i hi; exact HOK.out i (by omega)) HG.out
end Go.Proofs.YtlhkfafdioakeaaGreatDoor
