/- Proved here: appending one packet, told where it comes to lie; a block of books; lists that are marked. -/
import Derived.Test.YtlhkfafdioakeaaLkI
namespace Go.Proofs.Ytlhkfafdioakeaa
open Go.RowKit
set_option linter.unusedVariables false
set_option linter.unusedSimpArgs false
theorem ownV_new (w : World) (B n cap : Nat) (D : Nat → Nat → Int) (Z : Array Value) (hB : B ≤ w.heap.size) (hn : n ≤ cap) (hc : cap ≤ 9223372036854775807) (hn2 : n ≤ 3000000000000) (hz : Z.size = (cap - n) * 6) :
    OwnV B (w.drew.alloc (.cells ((fl D n).toArray ++ Z) 27)) (.slice (some ⟨w.heap.size, 0, none⟩) n cap) n D := by
  refine .inr ⟨w.heap.size, cap, hB, rfl, _, heap_alloc_new w.drew _, ?_, hn, ⟨hc, hn2⟩, fun j hj i hi => ?_⟩
  · simp only [Array.size_append, List.size_toArray, fl_len, hz]
    omega
  · rw [Array.getElem?_append_left (by simp [fl_len]; omega)]
    simpa using fl_get D n j i hj hi
theorem fl_snoc (d : Nat → Nat → Int) (n : Nat) (k : Nat → Int) : fl d n ++ pkCs k = fl (cat n d fun _ => k) (n + 1) := by
  have := fl_cat d (fun _ => k) n 1
  rw [this]
  rfl
/-- append(s, x) of one packet onto a row of the call's own: in place, or in a new block. -/
theorem wpList_append_one {ops : Array Oper} {rest : List Oper} {o : Oper} {a : Act} {Q : Exit → Act → World → Prop} (w : World) (hgd : o.guard = none) (s x : Operand)
    (ho : o.op = .call { callee := .builtin .append, args := #[s, x], argTypes := #[23, 23] })
    (B : Nat) (v : Value) (n : Nat) (d : Nat → Nat → Int) (hs : a.eval s = v) (hown : OwnV B w v n d) (u : Value) (k : Nat → Int) (hx : a.eval x = u) (hsrc : PkR w u 1 (fun _ => k)) (hb : n + 1 ≤ 2000000000000) (hB : B ≤ w.heap.size)
    (h : ∀ v' w', OwnV B w' v' (n + 1) (cat n d fun _ => k) → ((∃ g cap, v = .slice (some ⟨g, 0, none⟩) n cap ∧ v' = .slice (some ⟨g, 0, none⟩) (n + 1) cap ∧ w.grownBy w' (some g)) ∨ (v'.ownBlock = some w.heap.size ∧ w.grownBy w' none)) → wpList Try.prog ops Q rest (a.put o.dst v') w') :
    wpList Try.prog ops Q (o :: rest) a w := by
  obtain ⟨i0, hi, hz0, hz1, hz2⟩ := info_parts Try.infoPk6
  rcases hsrc with ⟨_, _, _, h0, _⟩ | ⟨g2, off2, c2, rfl, _, hc⟩
  · omega
  have hnews : ∀ j t, (pkCs k)[j]? = some t → w.cell? ((⟨g2, off2, none⟩ : Addr).add j) = some t := by
    intro j t hj
    have hlt : j < 6 := by
      rcases Nat.lt_or_ge j 6 with e | e
      · exact e
      · rw [List.getElem?_eq_none (by simpa [pkCs] using e)] at hj
        cases hj
    rw [pkCs_get? _ _ hlt] at hj
    rw [← hj, show (⟨g2, off2, none⟩ : Addr).add j = ⟨g2, off2 + j, none⟩ by unfold Addr.add; split <;> simp_all]
    have := hc 0 (by omega) j hlt
    rwa [Nat.zero_mul, Nat.add_zero] at this
  have hone : ∀ t ∈ pkCs k, t.oneCell' = true := by
    intro t ht
    simp [pkCs] at ht
    rcases ht with rfl | rfl | rfl | rfl | rfl | rfl <;> rfl
  rcases hown with ⟨rfl, rfl⟩ | ⟨g, cap, hBg, rfl, hO⟩
  · have hrun := run_append_nil (P := Try.prog) w 23 o.type 27 i0 _ Try.underlying23 hi hz0 ⟨g2, off2, none⟩ 1 c2 (pkCs k) (by rw [hz1]; rfl) hnews (by omega) (by omega) (by rw [hz2]; omega)
    have hge := grownCap_ge w 1 0 27
    have hle := grownCap_le_maxLen w 1 0 27 (by unfold maxLen; omega)
    unfold maxLen at hle
    refine wpList_plain hgd fun K hK => ?_
    unfold Oper.wp
    simp only [execOp, ho, resolve, invoke, builtin, Sem.run_bind, Sem.run_pure, Result.andThen_ok, List.map_toArray, List.map_cons, List.map_nil, hs, hx, hrun]
    refine hK _ _ (h _ _ ?_ (.inr ⟨rfl, grown_alloc_drew w _ none⟩))
    have := ownV_new w B 1 (grownCap w 1 0 27) (cat 0 d fun _ => k) (Builtin.zeroCells (pkV fun _ => 0).cells (grownCap w 1 0 27 - 1)) hB hge (by omega) (by omega) (by rw [size_zeroCells]; rfl)
    rw [show 1 = 0 + 1 by rfl, ← fl_snoc] at this
    exact this
  · have hcap := hO.cap
    have hown' : OwnV B w (.slice (some ⟨g, 0, none⟩) n cap) n d := .inr ⟨g, cap, hBg, rfl, hO⟩
    by_cases hroom : n + 1 ≤ cap
    · refine wpList_append_fits w hgd s x 23 ho B 27 i0 6 Try.underlying23 hi hz1 g n cap (fl d n) hs hown'.owns ⟨g2, off2, none⟩ 1 c2 (pkCs k) hx rfl hnews hone hroom ?_
      intro w' h1 h2
      rw [fl_snoc] at h1
      exact h _ w' (OwnV.of h1 (by omega)) (.inl ⟨g, cap, rfl, rfl, h2⟩)
    · have hrun := run_append_grow (P := Try.prog) w 23 o.type 27 i0 _ Try.underlying23 hi hz0 ⟨g, 0, none⟩ n cap (fl d n) (by rw [hz1]; exact fl_len d n) (World.ownsRow.cells hown'.owns rfl) ⟨g2, off2, none⟩ 1 c2 (pkCs k) (by rw [hz1]; rfl) hnews (by omega) (by omega) (growslice_fits (by omega) (by rw [hz2]; omega))
      have hge := grownCap_ge w (n + 1) cap 27
      have hle := grownCap_le_maxLen w (n + 1) cap 27 (by unfold maxLen; omega)
      unfold maxLen at hle
      refine wpList_plain hgd fun K hK => ?_
      unfold Oper.wp
      simp only [execOp, ho, resolve, invoke, builtin, Sem.run_bind, Sem.run_pure, Result.andThen_ok, List.map_toArray, List.map_cons, List.map_nil, hs, hx, hrun]
      refine hK _ _ (h _ _ ?_ (.inr ⟨rfl, grown_alloc_drew w _ none⟩))
      have := ownV_new w B (n + 1) (grownCap w (n + 1) cap 27) (cat n d fun _ => k) (Builtin.zeroCells (pkV fun _ => 0).cells (grownCap w (n + 1) cap 27 - (n + 1))) hB hge (by omega) (by omega) (by rw [size_zeroCells]; rfl)
      rw [← fl_snoc] at this
      rw [show (fl d n).toArray ++ (pkCs k).toArray = (fl d n ++ pkCs k).toArray by simp]
      exact this
/-- The cells of books. -/
def bkA (c : Nat → Value) : Array Value := #[c 0, c 1, c 2, c 3, c 4, c 5, c 6, c 7, c 8, c 9, c 10, c 11, c 12, c 13, c 14]
def bkBlk (w : World) (b : Nat) (c : Nat → Value) : Prop := w.heap[b]? = some (.cells (bkA c) 38 (0, 0))
/-- The cells, but one. -/
def updB (c : Nat → Value) (i : Nat) (x : Value) : Nat → Value := fun j => if j = i then x else c j
theorem bkA_get (c : Nat → Value) (i : Nat) (h : i < 15) : (bkA c)[i]? = some (c i) := by
  rcases (show i = 0 ∨ i = 1 ∨ i = 2 ∨ i = 3 ∨ i = 4 ∨ i = 5 ∨ i = 6 ∨ i = 7 ∨ i = 8 ∨ i = 9 ∨ i = 10 ∨ i = 11 ∨ i = 12 ∨ i = 13 ∨ i = 14 by omega) with rfl | rfl | rfl | rfl | rfl | rfl | rfl | rfl | rfl | rfl | rfl | rfl | rfl | rfl | rfl <;> rfl
theorem bkBlk.cell {w : World} {b : Nat} {c : Nat → Value} (h : bkBlk w b c) (i : Nat) (hi : i < 15) : w.cell? ⟨b, i, none⟩ = some (c i) := by
  unfold bkBlk at h
  have := bkA_get c i hi
  simp only [World.cell?, h]
  simpa using this
theorem bkBlk.frozen {w : World} {b : Nat} {c : Nat → Value} (h : bkBlk w b c) (i : Nat) : w.frozen? ⟨b, i, none⟩ = false := by
  unfold bkBlk at h
  simp [World.frozen?, h]
theorem bkBlk.grown {w w' : World} {b : Nat} {c : Nat → Value} {row : Option Nat} (h : bkBlk w b c) (hg : w.grownBy w' row) (hr : row ≠ some b) : bkBlk w' b c := by
  unfold bkBlk at *
  rw [hg.block b (Array.getElem?_eq_some_iff.1 h).1 hr.symm, h]
theorem bkBlk.set {w : World} {b : Nat} {c : Nat → Value} (h : bkBlk w b c) (i : Nat) (hi : i < 15) (x : Value) : bkBlk (w.setCell ⟨b, i, none⟩ x) b (updB c i x) := by
  unfold bkBlk at *
  rw [heap_set h]
  congr 2
  rcases (show i = 0 ∨ i = 1 ∨ i = 2 ∨ i = 3 ∨ i = 4 ∨ i = 5 ∨ i = 6 ∨ i = 7 ∨ i = 8 ∨ i = 9 ∨ i = 10 ∨ i = 11 ∨ i = 12 ∨ i = 13 ∨ i = 14 by omega) with rfl | rfl | rfl | rfl | rfl | rfl | rfl | rfl | rfl | rfl | rfl | rfl | rfl | rfl | rfl <;> simp [bkA, updB]
theorem bkBlk.lt {w : World} {b : Nat} {c : Nat → Value} (h : bkBlk w b c) : b < w.heap.size := (Array.getElem?_eq_some_iff.1 h).1
/-- A mark. -/
def mkP (z : Int) : Nat → Int := fun i => if i = 0 then z else 0
/-- The blocks of a value's row are of this type. -/
def Tagged (w : World) (v : Value) (T : TypeId) : Prop := ∀ b, v.ownBlock = some b → ∃ cur, w.heap[b]? = some (.cells cur T (0, 0))
theorem Tagged.ne {w : World} {u v : Value} {T U : TypeId} (h : Tagged w u T) (g : Tagged w v U) (hne : T ≠ U) {b : Nat} (hb : v.ownBlock = some b) : u.ownBlock ≠ some b := by
  intro hu
  obtain ⟨c1, h1⟩ := h b hu
  obtain ⟨c2, h2⟩ := g b hb
  rw [h1] at h2
  cases h2
  exact hne rfl
theorem OwnV.tagged {B : Nat} {w : World} {v : Value} {n : Nat} {d : Nat → Nat → Int} (h : OwnV B w v n d) : Tagged w v 27 := by
  intro b hb
  rcases h with ⟨rfl, _⟩ | ⟨g, cap, _, rfl, cur, h1, _⟩
  · cases hb
  · cases hb
    exact ⟨cur, h1⟩
theorem owns_tagged {w : World} {B : Nat} {T : TypeId} {size : Nat} {v : Value} {n : Nat} {xs : List Value} (h : w.ownsRow B T size v n xs) : Tagged w v T := by
  intro b hb
  rcases h.2 with ⟨rfl, _⟩ | ⟨g, cap, cur, rfl, _, h1, _⟩
  · cases hb
  · cases hb
    exact ⟨cur, h1⟩
/-- Lists that are marked: so many, each with its mark; where their rows lie. -/
structure Mks (B : Nat) (w : World) (vP vN : Value) (q : Nat) (xs : Nat → Value) (ys : Nat → Int) (ls : Nat → Nat) : Prop where
  rP : w.ownsRow B 23 1 vP q ((List.range q).map xs)
  rN : w.ownsRow B 3 1 vN q ((List.range q).map fun i => .int .i64 (ys i))
  rows : ∀ i, i < q → PkR w (xs i) (ls i) (fun _ => mkP (ys i))
  lies : ∀ i, i < q → ∀ b, (xs i).ownBlock = some b → B ≤ b ∧ ∃ cur, w.heap[b]? = some (.cells cur 27 (0, 0))
theorem PkR.kept {w w' : World} {v : Value} {n : Nat} {ps : Nat → Nat → Int} {row : Option Nat} (h : PkR w v n ps) (hg : w.grownBy w' row) (hr : ∀ b, row = some b → v.ownBlock ≠ some b) : PkR w' v n ps := by
  rcases h with h | ⟨g, off, cap, h1, h2, h3⟩
  · exact .inl h
  · refine .inr ⟨g, off, cap, h1, h2, fun j hj i hi => hg.cell (h3 j hj i hi) (fun e => ?_)⟩
    exact hr g e.symm (by rw [h1]; rfl)
theorem Mks.grown {B : Nat} {w w' : World} {vP vN : Value} {q : Nat} {xs : Nat → Value} {ys : Nat → Int} {ls : Nat → Nat} {row : Option Nat} (h : Mks B w vP vN q xs ys ls) (hg : w.grownBy w' row)
    (hP : ∀ b, row = some b → vP.ownBlock ≠ some b) (hN : ∀ b, row = some b → vN.ownBlock ≠ some b) (hX : ∀ i, i < q → ∀ b, row = some b → (xs i).ownBlock ≠ some b) : Mks B w' vP vN q xs ys ls := by
  refine ⟨h.rP.kept hg ?_, h.rN.kept hg ?_, fun i hi => (h.rows i hi).kept hg (hX i hi), fun i hi b hb => ?_⟩
  · cases hr : row with
    | none => cases hv : vP.ownBlock with
      | none => exact .inl rfl
      | some b => exact .inr (by simp)
    | some b => exact .inr (hP b hr)
  · cases hr : row with
    | none => cases hv : vN.ownBlock with
      | none => exact .inl rfl
      | some b => exact .inr (by simp)
    | some b => exact .inr (hN b hr)
  · obtain ⟨h1, cur, h2⟩ := h.lies i hi b hb
    refine ⟨h1, cur, ?_⟩
    rw [hg.block b (Array.getElem?_eq_some_iff.1 h2).1 (fun e => hX i hi b e.symm hb), h2]
end Go.Proofs.Ytlhkfafdioakeaa
