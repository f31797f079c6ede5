/- Proved here: what markP does. -/
import Derived.Test.YtlhkfafdioakeaaLkM
namespace Go
theorem step_append_pint {P : Program} {ops : Array Oper} {o : Oper} {a : Act} {w : World} {K : Act → World → Prop} {Q : Exit → Act → World → Prop} {E : Prop}
    (hg : o.guard = none) (s x : Operand) (t : TypeId) (hop : o.op = Op.call { callee := Callee.builtin Builtin.append, args := #[s, x], argTypes := #[t, t] })
    (base : Nat) (e : TypeId) (i : TypeInfo) (z : Value) (size bytes : Nat) (h1 : P.underlying t = some (.slice e)) (h2 : P.info? e = some i) (h3 : i.zero = some z) (h4 : i.size = size) (h5 : i.bytes = bytes) (h6 : z.cells.size = size) (h7 : 0 < size)
    (v : Value) (n : Nat) (xs : List Value) (hs : a.eval s = v) (hown : w.ownsRow base e size v n xs)
    (ad : Addr) (m c : Nat) (news : List Value) (hx : a.eval x = .slice (some ad) m c) (hn : news.length = m * size) (hc : ∀ j u, news[j]? = some u → w.cell? (ad.add j) = some u) (h1c : ∀ u ∈ news, u.oneCell' = true)
    (b1 : n + m ≤ maxLen) (b2 : (n + m) * bytes ≤ 140737488355328) (hbase : base ≤ w.heap.size)
    (hK : ∀ v' w', w'.ownsRow base e size v' (n + m) (xs ++ news) → w.grownBy w' v.ownBlock → (v'.ownBlock = v.ownBlock ∨ v'.ownBlock = some w.heap.size) → K (a.put o.dst v') w') :
    if Region.wanted o (yielded ops a.tmps) = true then Oper.wp P o a w K Q else E := by
  have hw : Region.wanted o (yielded ops a.tmps) = true := by simp [Region.wanted, hg]
  rw [if_pos hw]
  obtain ⟨v', w', hrun, r1, r2, _, r4⟩ := run_append_own_at (P := P) w base t o.type e i z size bytes h1 h2 h3 h4 h5 h6 h7 v n xs hown ad m c news hn hc h1c b1 b2 hbase
  unfold Oper.wp
  simp [execOp, hop, resolve, invoke, builtin, hs, hx, hrun, Result.andThen]
  exact hK v' w' r1 r2 r4
end Go
namespace Go.Proofs.Ytlhkfafdioakeaa
open Go.RowKit
set_option linter.unusedVariables false
set_option linter.unusedSimpArgs false
theorem MSt.bkT {B : Nat} {w0 : World} {bb : Nat} {c : Nat → Value} {S M0 : Nat → Prop} {lb : Option Nat} {q m : Nat} {n z : Int} {w : World} {p r : Nat} {vP vN lv : Value} {ln : Nat} {xs : Nat → Value} {ys : Nat → Int} {ls : Nat → Nat} (h : MSt B w0 bb c S M0 lb q m n z w p r vP vN lv ln xs ys ls)
    {w1 w2 : World} {row : Option Nat} {T : TypeId} (hg1 : w.grownBy w1 none) (hg2 : w1.grownBy w2 row) (ht : ∀ b, row = some b → blkT w1 b T) (hT : T ≠ 38) : bkBlk w2 bb (updB (updB (updB c 0 (.int .i64 n)) 9 vP) 10 vN) :=
  (h.bk.grown hg1 (by simp)).keptT hg2 ht hT
theorem i64w (x : Int) (h1 : -9223372036854775808 ≤ x) (h2 : x ≤ 9223372036854775807) : IntKind.i64.wrap x = x := by
  simp [IntKind.wrap, IntKind.bits, IntKind.signed]
  split <;> omega
/-- What a marking leaves. -/
def MarkOut (B : Nat) (w : World) (bb : Nat) (c : Nat → Value) (n0 q : Nat) (xs : Nat → Value) (vP vN l : Value) (e : Ending) (w' : World) : Prop :=
  e = .returned (.tuple #[]) ∧ ∃ vP' vN' xs' ys' ls', bkBlk w' bb (updB (updB (updB c 0 (.int .i64 (n0 + 1 : Nat))) 9 vP') 10 vN') ∧ w'.ownsRow B 23 1 vP' (q + 4) ((List.range (q + 4)).map xs') ∧ w'.ownsRow B 3 1 vN' (q + 4) ((List.range (q + 4)).map fun i => .int .i64 (ys' i)) ∧ Mrk B w' (q + 4) xs' ys' ls' ∧
    (∀ i, i < q + 4 → ∀ b, (xs' i).ownBlock = some b → (∃ j, j < q ∧ (xs j).ownBlock = some b) ∨ l.ownBlock = some b ∨ w.heap.size < b) ∧ (∀ b, vP'.ownBlock = some b ∨ vN'.ownBlock = some b → (b = bb ∨ vP.ownBlock = some b ∨ vN.ownBlock = some b ∨ l.ownBlock = some b) ∨ w.heap.size < b) ∧ Kp (fun b => b = bb ∨ vP.ownBlock = some b ∨ vN.ownBlock = some b ∨ l.ownBlock = some b) w w'
theorem owns_slice {w : World} {B : Nat} {T : TypeId} {size : Nat} {v : Value} {n : Nat} {xs : List Value} (h : w.ownsRow B T size v n xs) : ∃ a c, v = .slice a n c := by
  rcases h.2 with ⟨rfl, rfl⟩ | ⟨g, cap, cur, rfl, _⟩
  · exact ⟨_, _, rfl⟩
  · exact ⟨_, _, rfl⟩
set_option maxRecDepth 100000 in
set_option maxHeartbeats 4000000 in
theorem markP_any (B : Nat) (w : World) (bb : Nat) (c : Nat → Value) (n0 q : Nat) (xs : Nat → Value) (ys : Nat → Int) (ls : Nat → Nat) (vP vN l : Value) (m : Nat) (d : Nat → Nat → Int)
    (hb : bkBlk w bb c) (hBb : B ≤ bb) (h0 : c 0 = .int .i64 n0) (hn0 : n0 ≤ 100000000000) (h9 : c 9 = vP) (h10 : c 10 = vN) (hP : w.ownsRow B 23 1 vP q ((List.range q).map xs)) (hN : w.ownsRow B 3 1 vN q ((List.range q).map fun i => .int .i64 (ys i))) (hq : q ≤ 400000000000)
    (hM : Mrk B w q xs ys ls) (hl : OwnV B w l m d) (hm : m ≤ 1000000000000) (hold : ∀ i, i < q → ∀ b, (xs i).ownBlock = some b → l.ownBlock ≠ some b) :
    Calls Try.prog 26 #[.pointer (some ⟨bb, 0, none⟩), l] w (MarkOut B w bb c n0 q xs vP vN l) := by
  have HQ : Hid (∀ e w', MarkOut B w bb c n0 q xs vP vN l e w' ↔ (e = .returned (.tuple #[]) ∧ ∃ vP' vN' xs' ys' ls', bkBlk w' bb (updB (updB (updB c 0 (.int .i64 (n0 + 1 : Nat))) 9 vP') 10 vN') ∧ w'.ownsRow B 23 1 vP' (q + 4) ((List.range (q + 4)).map xs') ∧ w'.ownsRow B 3 1 vN' (q + 4) ((List.range (q + 4)).map fun i => .int .i64 (ys' i)) ∧ Mrk B w' (q + 4) xs' ys' ls' ∧
    (∀ i, i < q + 4 → ∀ b, (xs' i).ownBlock = some b → (∃ j, j < q ∧ (xs j).ownBlock = some b) ∨ l.ownBlock = some b ∨ w.heap.size < b) ∧ (∀ b, vP'.ownBlock = some b ∨ vN'.ownBlock = some b → (b = bb ∨ vP.ownBlock = some b ∨ vN.ownBlock = some b ∨ l.ownBlock = some b) ∨ w.heap.size < b) ∧ Kp (fun b => b = bb ∨ vP.ownBlock = some b ∨ vN.ownBlock = some b ∨ l.ownBlock = some b) w w')) := fun _ _ => Iff.rfl
  obtain ⟨z, hz⟩ : ∃ z : Int, z = -100 - ((n0 : Int) + 1) := ⟨_, rfl⟩
  obtain ⟨S, hS⟩ : ∃ S : Nat → Prop, S = fun b => b = bb ∨ vP.ownBlock = some b ∨ vN.ownBlock = some b ∨ l.ownBlock = some b := ⟨_, rfl⟩
  -- the world with the number raised, and the mark laid
  obtain ⟨w1, hw1⟩ : ∃ w1, w1 = w.setCell ⟨bb, 0, none⟩ (.int .i64 ((n0 : Int) + 1)) := ⟨_, rfl⟩
  obtain ⟨w2, hw2⟩ : ∃ w2, w2 = w1.alloc (.cells (pkA (mkP z)) 27) := ⟨_, rfl⟩
  have z1 : w1.heap.size = w.heap.size := by rw [hw1]; simp [World.setCell]
  have g1 : w.grownBy w1 (some bb) := by rw [hw1]; exact grown_set _ _ _ _
  have g2 : w1.grownBy w2 none := by rw [hw2]; exact World.grownBy_alloc _ _ _
  have tbb : ∀ b, some bb = some b → blkT w b 38 := fun b e => by cases e; exact hb.tag
  have hcell : updB c 0 (.int .i64 ((n0 : Int) + 1)) = updB (updB (updB c 0 (.int .i64 ((n0 : Int) + 1))) 9 vP) 10 vN := by
    funext j
    unfold updB
    by_cases e1 : j = 10
    · subst e1; simp [h10]
    · by_cases e2 : j = 9
      · subst e2; simp [h9]
      · simp [e1, e2]
  have bk1 : bkBlk w1 bb (updB (updB (updB c 0 (.int .i64 ((n0 : Int) + 1))) 9 vP) 10 vN) := by rw [← hcell, hw1]; exact hb.set 0 (by omega) _
  have no2 : ∀ {v : Value}, v.ownBlock = none ∨ v.ownBlock ≠ none := fun {v} => by cases hv : v.ownBlock with | none => exact .inl rfl | some b => exact .inr (by simp)
  have BK := hide (bk1.grown g2 (by simp))
  have RP := hide ((owns_keptT hP g1 tbb (by decide)).kept g2 no2)
  have RN := hide ((owns_keptT hN g1 tbb (by decide)).kept g2 no2)
  have MR := hide ((hM.grownT g1 tbb (by decide)).grown g2 (fun i hi b e => by cases e))
  have LV := hide ((ownV_keptT hl g1 tbb (by decide)).grown g2 (fun b e => by cases e))
  have MB : Hid (pkBlk w2 w.heap.size (mkP z)) := by rw [hw2, ← z1]; exact pkBlk.alloc _ _
  have KP : Hid (Kp S w w2) := ((Kp.refl S w).step g1 (fun b e => by cases e; rw [hS]; exact .inl (.inl rfl))).step g2 (fun b e => by cases e)
  have hlb : Hid (∀ b, l.ownBlock = some b → S b ∧ b < w.heap.size) := fun b hb => ⟨by rw [hS]; exact .inr (.inr (.inr hb)), (hl.lt b hb).2⟩
  have hbbS : Hid (S bb ∧ bb < w.heap.size ∧ B ≤ bb) := ⟨by rw [hS]; exact .inl rfl, hb.lt, hBb⟩
  have hOLD : Hid (∀ i, i < q → ∀ b, (xs i).ownBlock = some b → l.ownBlock ≠ some b ∧ b < w.heap.size ∧ ∃ j, j < q ∧ (xs j).ownBlock = some b) := fun i hi b hb => ⟨hold i hi b hb, by
    obtain ⟨_, cur, h2⟩ := (hM i hi).2 b hb
    exact (Array.getElem?_eq_some_iff.1 h2).1, i, hi, hb⟩
  have hbP : Hid (∀ b, vP.ownBlock = some b → S b ∨ w.heap.size < b) := fun b hb => .inl (by rw [hS]; exact .inr (.inl hb))
  have hbN : Hid (∀ b, vN.ownBlock = some b → S b ∨ w.heap.size < b) := fun b hb => .inl (by rw [hS]; exact .inr (.inr (.inl hb)))
  have c0 := hb.cell 0 (by omega)
  rw [h0] at c0
  have f0 := hb.frozen
  have HSS := hide hS
  obtain ⟨la, lc, rfl⟩ := hl.slice
  obtain ⟨pa, pc, hvP⟩ := owns_slice hP
  have hsz : B ≤ w.heap.size := by have := hb.lt; omega
  have HZ := hide hz
  clear hz hP hN hM hl hold h9 h10 h0 hcell bk1 g1 g2 tbb no2 hS hvP
  generalize MarkOut B w bb c n0 q xs vP vN (.slice la m lc) = Q at HQ ⊢
  go_enter Try.func26, Try.ntmps26
  have hw2' : w2 = (w.setCell ⟨bb, 0, none⟩ (.int .i64 ((n0 : Int) + 1))).alloc (.cells #[.int .i64 (-100 - ((n0 : Int) + 1)), .int .i64 0, .int .i64 0, .int .i64 0, .int .i64 0, .int .i64 0] 27) := by
    rw [hw2, hw1, HZ.out]; rfl
  go_upto_region 2 with fail
  rw [← hw2']
  clear hw2' hw2 hw1 c0 f0 hb z1
  obtain ⟨C, hC⟩ : ∃ C, C = updB (updB (updB c 0 (.int .i64 ((n0 : Int) + 1))) 9 vP) 10 vN := ⟨_, rfl⟩
  rw [← hC] at BK
  have HC := hide hC
  clear hC
  go_wp2_with fail
  go_loopw [5] (fun s5 wr => ∃ i : Nat, i ≤ m ∧ s5 = .int .i64 i ∧ bkBlk wr bb C ∧ wr.ownsRow B 23 1 vP q ((List.range q).map xs) ∧ wr.ownsRow B 3 1 vN q ((List.range q).map fun i => .int .i64 (ys i)) ∧ Mrk B wr q xs ys ls ∧ OwnV B wr (.slice la m lc) m (fun t => if t < i then mkP z else d t) ∧ pkBlk wr w.heap.size (mkP z) ∧ Kp S w wr) (fun s5 _ => m - (intOf s5).toNat)
  case atStart => exact ⟨0, by omega, rfl, BK.out, RP.out, RN.out, MR.out, LV.out.cong (fun j hj i hi => by rw [if_neg (by omega)]), MB.out, KP.out⟩
  case round =>
    obtain ⟨i, hi, rfl, bk, rp, rn, mr, lv, mb, kp⟩ := hrel
    clear BK RP RN MR LV MB KP
    have BK := hide bk
    have RP := hide rp
    have RN := hide rn
    have MR := hide mr
    have MB := hide mb
    have KP := hide kp
    obtain ⟨E, hE⟩ : ∃ E : Nat → Nat → Int, E = fun t => if t < i then mkP z else d t := ⟨_, rfl⟩
    rw [← hE] at lv
    have HE := hide hE
    have LV := hide lv
    clear bk rp rn mr lv mb kp hE
    by_cases hlt : i < m
    · rcases LV.out with ⟨_, h0⟩ | ⟨g, cap, hBg, hv, hO⟩
      · omega
      cases hv
      have HO := hide hO
      have hgl := (hlb.out g rfl)
      clear hO
      have f0 : wr.cell? ⟨g, i * 6, none⟩ = some (.int .i64 (E i 0)) := HO.out.cell i hlt 0 (by omega)
      have f1 := HO.out.cell i hlt 1 (by omega)
      have f2 := HO.out.cell i hlt 2 (by omega)
      have f3 := HO.out.cell i hlt 3 (by omega)
      have f4 := HO.out.cell i hlt 4 (by omega)
      have f5 := HO.out.cell i hlt 5 (by omega)
      have fz := HO.out.frozen
      obtain ⟨y, hy⟩ : ∃ y, y = mkP z := ⟨_, rfl⟩
      have MB2 := MB.out
      rw [← hy] at MB2
      have d0 := MB2.cell 0 (by omega)
      have d1 := MB2.cell 1 (by omega)
      have d2 := MB2.cell 2 (by omega)
      have d3 := MB2.cell 3 (by omega)
      have d4 := MB2.cell 4 (by omega)
      have d5 := MB2.cell 5 (by omega)
      have HY := hide hy
      have HGL := hide hgl
      clear hy MB2 hgl
      have hltI : (i : Int) < m := by omega
      go_wp2_with fail
      have hop := HO.out.put i hlt y
      have hgp := lay6_grown wr g (i * 6) y
      have tg : ∀ b, some g = some b → blkT wr b 27 := fun b e => by cases e; exact ⟨_, HO.out.choose_spec.1⟩
      refine ⟨⟨i + 1, by omega, by go_num, BK.out.keptT hgp tg (by decide), owns_keptT RP.out hgp tg (by decide), owns_keptT RN.out hgp tg (by decide), MR.out.grown hgp (fun i hi b e hb => by cases e; exact (hOLD.out i hi g hb).1 rfl), .inr ⟨g, lc, hBg, rfl, hop.cong (fun t ht u hu => ?_)⟩, MB.out.grown hgp (fun e => by cases e; exact absurd HGL.out.2 (Nat.lt_irrefl _)), KP.out.step hgp (fun b e => by cases e; exact .inl HGL.out.1)⟩, by simp [intOf]; omega⟩
      rw [HE.out, HY.out]
      show (if t = i then mkP z else if t < i then mkP z else d t) u = (if t < i + 1 then mkP z else d t) u
      by_cases e1 : t = i
      · rw [if_pos e1, if_pos (by omega)]
      · rw [if_neg e1]
        by_cases e2 : t < i
        · rw [if_pos e2, if_pos (by omega)]
        · rw [if_neg e2, if_neg (by omega)]
    · obtain rfl : i = m := by omega
      have hst : MSt B w bb c S (fun b => ∃ j, j < q ∧ (xs j).ownBlock = some b) (Value.slice la i lc).ownBlock q i ((n0 : Int) + 1) z wr q q vP vN (.slice la i lc) i xs ys ls :=
        ⟨by rw [← HC.out]; exact BK.out, RP.out, RN.out, hbP.out, hbN.out, fun b hb => .inl hb, MR.out, hOLD.out, fun j h1 h2 => by omega, LV.out.cong (fun j hj u hu => by rw [HE.out]; show (if j < i then mkP z else d j) u = _; rw [if_pos hj]), MB.out, KP.out, hlb.out, hbbS.out⟩
      have HST := hide hst
      clear hst
      clear BK RP RN MR LV MB KP HE
      go_wp2_with fail
      go_loopw [1, 6] (fun s1 s6 wr => ∃ (k : Nat) (a : Option Addr) (cc : Nat) (vP' vN' : Value) (xs' : Nat → Value) (ys' : Nat → Int) (ls' : Nat → Nat), k ≤ 4 ∧ s6 = .int .i64 k ∧ s1 = .slice a (i + k) cc ∧ MSt B w bb c S (fun b => ∃ j, j < q ∧ (xs j).ownBlock = some b) (Value.slice la i lc).ownBlock q i ((n0 : Int) + 1) z wr (q + k) (q + k) vP' vN' (.slice a (i + k) cc) (i + k) xs' ys' ls') (fun _ s6 _ => 4 - (intOf s6).toNat)
      case atStart => exact ⟨0, la, lc, vP, vN, xs, ys, ls, by omega, rfl, rfl, HST.out⟩
      case round =>
        obtain ⟨k, a, cc, vP', vN', xs', ys', ls', hk, rfl, rfl, hst⟩ := hrel
        clear HST
        have HST := hide hst
        have hsm := hst.kp.size
        clear hst
        by_cases hlt4 : k < 4
        · have hltI : (k : Int) < 4 := by omega
          obtain ⟨pa, pc, hvp⟩ := owns_slice HST.out.rP
          subst hvp
          have b9 := HST.out.bk.cell 9 (by omega)
          simp only [updB, if_true, Nat.reduceEqDiff, if_false] at b9
          obtain ⟨wa, hwa⟩ : ∃ wa, wa = wr.alloc (.cells #[.slice a (i + k) cc] 23) := ⟨_, rfl⟩
          have ga : wr.grownBy wa none := by rw [hwa]; exact World.grownBy_alloc _ _ _
          have RPA : Hid (wa.ownsRow B 23 1 (.slice pa (q + k) pc) (q + k) ((List.range (q + k)).map xs')) := HST.out.rP.kept ga (by cases pa with | none => exact .inl rfl | some b => exact .inr (by simp [Value.ownBlock]))
          have CA : Hid (∀ j u, [Value.slice a (i + k) cc][j]? = some u → wa.cell? ((⟨wr.heap.size, 0, none⟩ : Addr).add j) = some u) := by rw [hwa]; exact cell_one_new wr _ _
          have GA := hide ga
          obtain ⟨i0, hi0, hz0, hz1, hz2⟩ := info_parts Try.infoPs
          clear ga
          go_wp2_with (at_builtin; rw [← hwa]; refine wpList_append_own_at _ rfl _ _ 33 rfl B 23 i0 _ 1 24 Try.underlying33 hi0 hz0 hz1 hz2 rfl (by decide) _ _ _ rfl RPA.out ⟨wr.heap.size, 0, none⟩ 1 _ [.slice a (i + k) cc] rfl rfl CA.out (fun u hu => by simp at hu; subst hu; rfl) (by unfold maxLen; omega) (by omega) (by have := GA.out.size; omega) ?_)
          intro vP2 w3 ho3 hg3 _ hat3
          try rw [← hwa] at hg3
          try rw [← hwa] at hat3
          have bk3 := HST.out.bkT GA.out hg3 (T := 23) (fun b hb => owns_tagged RPA.out b hb) (by decide)
          obtain ⟨pa2, pc2, hvp2⟩ := owns_slice ho3
          subst hvp2
          have ST2 := hide (HST.out.addP (by omega) (by omega) GA.out ho3 hg3 (by rcases hat3 with e | e; exact .inl e; exact .inr (by rw [e, hwa]; simp)))
          have c9 := bk3.cell 9 (by omega)
          have fz := bk3.frozen
          clear hg3 hat3 bk3 ho3 HST RPA CA GA b9 hwa hi0 hz0 hz1 hz2
          go_upto_region 10 with fail
          clear c9 fz
          generalize hw4 : w3.setCell ⟨bb, 9, none⟩ (.slice pa2 (q + k + 1) pc2) = w4 at ST2 ⊢
          clear hw4
          obtain ⟨na, nc, hvn⟩ := owns_slice ST2.out.rN
          subst hvn
          have b0 := ST2.out.bk.cell 0 (by omega)
          have b10 := ST2.out.bk.cell 10 (by omega)
          simp only [updB, if_true, Nat.reduceEqDiff, if_false] at b0 b10
          have hb4 := ST2.out.bk.lt
          have fz := ST2.out.bk.frozen
          have RN4 := hide ST2.out.rN
          have hsz4 := ST2.out.kp.size
          obtain ⟨LN, hLN⟩ : ∃ LN : List Value, LN = (List.range (q + k)).map (fun i => .int .i64 (snoc (q + k) ys' z i)) := ⟨_, rfl⟩
          rw [← hLN] at RN4
          have HLN := hide hLN
          clear hLN
          obtain ⟨i1, hi1, hy0, hy1, hy2⟩ := info_parts Try.infoInt
          go_region_law (refine step_append_pint rfl (.tmp 48) (.tmp 54) 34 rfl B 3 i1 _ 1 8 Try.underlying34 hi1 hy0 hy1 hy2 rfl (by decide) (.slice na (q + k) nc) (q + k) LN (by simp [Act.eval, Act.put]) (RN4.out.alloc _).drew ⟨w4.heap.size, 0, none⟩ 1 1 [.int .i64 (IntKind.i64.wrap (-100 - ((n0 : Int) + 1)))] (by simp [Act.eval, Act.put]) rfl (cell_one_new _ _ _) (by intro u hu; simp at hu; subst hu; rfl) (by unfold maxLen; omega) (by omega) (by simp; omega) ?_; intro v5 w5 ho5 hg5 hat5; obtain ⟨na5, nc5, hv5⟩ := owns_slice ho5; subst hv5; have bk5 := ST2.out.bkT (grown_alloc_drew w4 _ none) hg5 (T := 3) (fun b hb => owns_tagged (RN4.out.alloc _).drew b hb) (by decide); have b15 := bk5.cell 10 (by omega); have fz5 := bk5.frozen; have HO5 := hide ho5; have HG5 := hide hg5; have HAT5 := hide hat5; clear ho5 hg5 hat5 bk5)
          all_goals
            have hw64 : IntKind.i64.wrap (-100 - ((n0 : Int) + 1)) = z := by
              rw [HZ.out]
              exact i64w _ (by omega) (by omega)
            have ho6 := HO5.out
            rw [hw64, HLN.out] at ho6
            have ST3 := hide (ST2.out.addN (by omega) (by simp [snoc]) (grown_alloc_drew w4 _ none) ho6 HG5.out (by
              rcases HAT5.out with e | e
              · exact .inl e
              · exact .inr ⟨_, e, by simp⟩))
            clear hw64 ho6 HO5 HG5 HAT5 ST2 RN4 HLN b0 b10 hb4 fz hi1 hy0 hy1 hy2 hsz4
            clear b15 fz5
            generalize hw6 : w5.setCell ⟨bb, 10, none⟩ (.slice na5 (q + k + 1) nc5) = w6 at ST3 ⊢
            clear hw6
            obtain ⟨y, hy⟩ : ∃ y, y = mkP z := ⟨_, rfl⟩
            have MB6 := ST3.out.mb
            rw [← hy] at MB6
            have d0 := MB6.cell 0 (by omega)
            have d1 := MB6.cell 1 (by omega)
            have d2 := MB6.cell 2 (by omega)
            have d3 := MB6.cell 3 (by omega)
            have d4 := MB6.cell 4 (by omega)
            have d5 := MB6.cell 5 (by omega)
            have HR := hide (one_row w6 y)
            unfold pkA at HR
            have HY := hide hy
            have hsz6 := ST3.out.kp.size
            clear MB6 hy
            go_wp2_with (at_builtin; refine wpList_append_one _ rfl _ _ rfl B (.slice a (i + k) cc) (i + k) (fun _ => mkP z) rfl (ST3.out.lv.grown (World.grownBy_alloc _ _ none) (fun b e => by cases e)) _ y rfl HR.out (by omega) (by simp; omega) ?_)
            intro v7 w7 ho7 hat7
            obtain ⟨a7, c7, rfl⟩ := ho7.slice
            have ho8 : OwnV B w7 (.slice a7 (i + k + 1) c7) (i + k + 1) (fun _ => mkP z) := ho7.cong (fun j hj u hu => by
              unfold cat
              split
              · rfl
              · rw [HY.out])
            have ST4 := hide (ST3.out.longer (World.grownBy_alloc w6 (.cells #[.int .i64 (y 0), .int .i64 (y 1), .int .i64 (y 2), .int .i64 (y 3), .int .i64 (y 4), .int .i64 (y 5)] 27) none) ho8 (by
              rcases hat7 with ⟨g, cap, ⟨e1, e2⟩, e3, e4⟩ | ⟨e1, e2⟩
              · exact .inl ⟨g, cap, by rw [e1, e2], e3, e4⟩
              · exact .inr ⟨by rw [e1]; simp, e2⟩))
            clear d0 d1 d2 d3 d4 d5 HR ho7 hat7 ho8 ST3
            go_wp2_with fail
            exact ⟨⟨k + 1, a7, c7, _, _, _, _, _, by omega, by go_num, rfl, ST4.out⟩, by simp [intOf]; omega⟩
        · obtain rfl : k = 4 := by omega
          go_wp2
          go_end0
          refine (HQ.out _ _).2 ⟨rfl, vP', vN', xs', ys', ls', HST.out.bk, HST.out.rP, HST.out.rN, HST.out.mrk, fun j hj b hb => ?_, fun b hb => ?_, by have := HST.out.kp; rw [HSS.out] at this; exact this⟩
          · by_cases hjq : j < q
            · exact .inl (HST.out.old j hjq b hb).2.2
            · exact .inr ((HST.out.new j (by omega) hj).2.2.2 b hb)
          · have hSb : S b ∨ w.heap.size < b := by
              rcases hb with e | e
              · exact HST.out.bP b e
              · exact HST.out.bN b e
            rw [HSS.out] at hSb
            exact hSb
end Go.Proofs.Ytlhkfafdioakeaa
