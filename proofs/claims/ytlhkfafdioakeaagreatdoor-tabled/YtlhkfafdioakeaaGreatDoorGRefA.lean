/- GRefA: several parts, each with what it proves in plain words at its head. -/
import Derived.Test.YtlhkfafdioakeaaGreatDoorGRead
import Derived.Deep.RegionLawGrows
/- Proved here: the tokens that the document's answer makes of a text of at most 400 bytes. -/
namespace Go.Proofs.YtlhkfafdioakeaaGreatDoor
open Go.RowKit Go.Weft
set_option linter.unusedVariables false
set_option linter.unusedSimpArgs false
/-- The kinds of the document's answer. -/
def rk (k : Int) : Int := if k = 1 then 63 else if k = 2 then 119 else if k = 3 then 110 else if k = 4 then 43 else if k = 5 then 59 else if k = 6 then 42 else if k = 7 then 33 else if k = 8 then 40 else if k = 9 then 41 else if k = 10 then 61 else if k = 11 then 58 else 0
def rVal (b : List UInt8) : Nat := b.foldl (fun n c => min (10 * n + digOf c) 1000) 0
def rTxt (s : ByteArray) (t : Tok) : ByteArray := if t.kind = 2 then s.extract t.at_ t.to else ByteArray.empty
def rNum (s : ByteArray) (t : Tok) : Nat := if t.kind = 3 then rVal (txt s t) else 0
def rCells (s : ByteArray) (ts : List Tok) : List Value := ts.flatMap fun t => [.int .u8 (rk t.kind), .int .i64 (t.at_ : Int), .string (rTxt s t), .int .i64 (rNum s t : Int)]
theorem rCells_snoc (s : ByteArray) (ts : List Tok) (t : Tok) : rCells s (ts ++ [t]) = rCells s ts ++ [.int .u8 (rk t.kind), .int .i64 (t.at_ : Int), .string (rTxt s t), .int .i64 (rNum s t : Int)] := by simp [rCells]
def rNumTo (s : ByteArray) (i k : Nat) : Nat := rVal (s.extract i k).data.toList
theorem rNumTo_succ (s : ByteArray) (i k : Nat) (hik : i ≤ k) (h : k < s.size) : rNumTo s i (k + 1) = min (10 * rNumTo s i k + digOf (s[k]'h)) 1000 := by
  unfold rNumTo rVal
  have e : (s.extract i (k + 1)).data.toList = (s.extract i k).data.toList ++ [s[k]'h] := by
    have hs : k < s.data.size := h
    simp only [ByteArray.data_extract, Array.toList_extract, List.extract_eq_take_drop]
    rw [show k + 1 - i = (k - i) + 1 by omega, List.take_succ_eq_append_getElem (by simp; omega)]
    simp only [List.getElem_drop, show i + (k - i) = k by omega]
    rfl
  rw [e, List.foldl_append]
  rfl
theorem rNumTo_one (s : ByteArray) (i : Nat) (h : i < s.size) : rNumTo s i (i + 1) = digOf (s[i]'h) := by
  rw [rNumTo_succ s i i (Nat.le_refl _) h]
  have e : rNumTo s i i = 0 := by
    unfold rNumTo
    have : (s.extract i i).data.toList = [] := by simp
    rw [this]; rfl
  have h1 : digOf (s[i]'h) ≤ 255 := by unfold digOf; omega
  rw [e]; omega
theorem rnum_step (m : Nat) (c : UInt8) : (if 1000 < 10 * (m : Int) + ((c.toNat : Int) - 48) % 256 then (1000 : Int) else 10 * (m : Int) + ((c.toNat : Int) - 48) % 256) = ((min (10 * m + digOf c) 1000 : Nat) : Int) := by
  unfold digOf
  have h0 : 0 ≤ ((c.toNat : Int) - 48) % 256 := Int.emod_nonneg _ (by decide)
  split <;> omega
theorem digOf_cast (c : UInt8) : ((digOf c : Nat) : Int) = ((c.toNat : Int) - 48) % 256 := by
  unfold digOf
  have h0 : 0 ≤ ((c.toNat : Int) - 48) % 256 := Int.emod_nonneg _ (by decide)
  omega
theorem Tryz.infoRTok : (Tryz.prog.info? 123).map (fun i => (i.zero, i.size, i.bytes)) = some (some (.agg #[.int .u8 0, .int .i64 0, .string ByteArray.empty, .int .i64 0]), 4, 40) := by kernel_rfl
/-- One token joins the row. -/
theorem r_grown {s : ByteArray} {B : Nat} {w0 w1 w2 : World} {v v' : Value} {acc : List Tok} (t : Tok) {o : Obj} {x y : Value} {z : ByteArray} {n : Int}
    (hown : w1.ownsRow B 123 4 v acc.length (rCells s acc)) (hbel : Below B w0 w1) (hB : B ≤ w1.heap.size)
    (hown' : w2.ownsRow B 123 4 v' (acc.length + 1) (rCells s acc ++ [x, y, .string z, .int .i64 n])) (hgrow : (w1.alloc o).grownBy w2 v.ownBlock)
    (hx : x = .int .u8 (rk t.kind)) (hy : y = .int .i64 (t.at_ : Int)) (hz : z = rTxt s t) (hn : n = rNum s t) :
    w2.ownsRow B 123 4 v' (acc ++ [t]).length (rCells s (acc ++ [t])) ∧ Below B w0 w2 ∧ B ≤ w2.heap.size := by
  subst hx hy hz hn
  have hb2 : Below B w0 w2 := (hbel.alloc hB _).grown hgrow (by simp; omega) (own_ge hown)
  refine ⟨?_, hb2, ?_⟩
  · rw [rCells_snoc, List.length_append]
    exact hown'
  · have := hgrow.size
    simp at this
    omega
/-- The next token of a text, and where the rest begins. -/
theorem toks_next {s : ByteArray} {acc : List Tok} {pos : Nat} (h : acc ++ toks s false pos = toks s false 0) {t : Tok} {q : Nat} (ht : toks s false pos = t :: toks s false q) : (acc ++ [t]) ++ toks s false q = toks s false 0 := by
  rw [← h, ht]; simp
section
variable {s : ByteArray} {pos : Nat} {c : Int}
theorem r_blank (hlt : pos < s.size) (hc : byt s pos = c) (hb : c = 32 ∨ c = 10) : toks s false pos = toks s false (pos + 1) := by
  rw [toks_eq, if_neg (by omega), if_pos (by rw [hc]; exact hb)]
theorem r_word (hlt : pos < s.size) (hc : byt s pos = c) (hb : 97 ≤ c ∧ c ≤ 122) : toks s false pos = ⟨2, pos, runEnd s true s.size (pos + 1)⟩ :: toks s false (runEnd s true s.size (pos + 1)) := by
  rw [toks_eq, if_neg (by omega), if_neg (by omega), if_pos (by rw [hc]; simp [letB, hb])]
theorem r_zero (hlt : pos < s.size) (hc : byt s pos = c) (hb : c = 48) : toks s false pos = ⟨3, pos, pos + 1⟩ :: toks s false (pos + 1) := by
  rw [toks_eq, if_neg (by omega), if_neg (by omega), if_neg (by rw [hc]; exact not_let (by omega)), if_pos (by omega)]
theorem r_num (hlt : pos < s.size) (hc : byt s pos = c) (h0 : ¬ c = 48) (hb : 48 ≤ c ∧ c ≤ 57) : toks s false pos = ⟨3, pos, runEnd s false s.size (pos + 1)⟩ :: toks s false (runEnd s false s.size (pos + 1)) := by
  rw [toks_eq, if_neg (by omega), if_neg (by omega), if_neg (by rw [hc]; exact not_let (by omega)), if_neg (by omega), if_pos (by rw [hc]; simp [digB, hb])]
theorem r_set (hlt : pos < s.size) (hc : byt s pos = c) (hb : c = 58) (h2 : pos + 1 < s.size) (h3 : byt s (pos + 1) = 61) : toks s false pos = ⟨11, pos, pos + 2⟩ :: toks s false (pos + 2) := by
  rw [toks_eq, if_neg (by omega), if_neg (by omega), if_neg (by rw [hc]; exact not_let (by omega)), if_neg (by omega), if_neg (by rw [hc]; exact not_dig (by omega)), if_pos (by omega), if_pos ⟨h2, h3⟩]
theorem r_sign (hlt : pos < s.size) (hc : byt s pos = c) (hb : ¬ signK c = 1) : toks s false pos = ⟨signK c, pos, pos + 1⟩ :: toks s false (pos + 1) := by
  obtain ⟨h1, h2, h3, h4, h5⟩ := signK_of hb
  subst hc
  rw [toks_eq, if_neg (by omega), if_neg h1, if_neg h2, if_neg h3, if_neg h4, if_neg h5, if_neg hb]
theorem r_wrong (hlt : pos < s.size) (hc : byt s pos = c) (h1 : ¬ (c = 32 ∨ c = 10)) (h2 : ¬ (97 ≤ c ∧ c ≤ 122)) (h4 : ¬ (48 ≤ c ∧ c ≤ 57)) (h5 : ¬ (c = 58 ∧ pos + 1 < s.size ∧ byt s (pos + 1) = 61)) (h6 : signK c = 1) :
    toks s false pos = ⟨1, pos, pos⟩ :: toks s false (pos + 1) := by
  subst hc
  rw [toks_eq, if_neg (by omega), if_neg h1, if_neg (not_let h2), if_neg (by omega), if_neg (not_dig h4)]
  by_cases h7 : byt s pos = 58
  · rw [if_pos h7, if_neg (fun h => h5 ⟨h7, h⟩)]; rfl
  · rw [if_neg h7, if_pos h6]; rfl
end
end Go.Proofs.YtlhkfafdioakeaaGreatDoor
/- Proved here: what the small calls of the document's reader do: an error that is noted, a token that is passed. -/
namespace Go.Proofs.YtlhkfafdioakeaaGreatDoor
open Go.RowKit Go.Weft
set_option linter.unusedVariables false
set_option linter.unusedSimpArgs false
/-- What stands fast while the document's reader reads: the text, the tokens up to the first that is none, all tokens, where they lie, where the reader lies. -/
structure RCtx where
  s : ByteArray
  ts : List Tok
  all : List Tok
  g : Nat
  cap : Nat
  rb : Nat
  cur : Array Value
structure RCtx.Good (c : RCtx) : Prop where
  lt : c.g < c.rb
  len : c.cur.size = c.cap * 4
  le : c.all.length ≤ c.cap
  cap : c.cap ≤ maxLen
  cells : c.cur.toList.take (c.all.length * 4) = rCells c.s c.all
  size : c.s.size ≤ 400
  toks : c.ts = toks c.s true 0
  pre : ∃ r, c.all = c.ts ++ r
/-- The document's reader, and the tokens' row, in a world: place, error, its place, atoms, depth, the first negation of what is no test. -/
structure Rq (c : RCtx) (w : World) (i e p a d b : Int) : Prop where
  row : w.heap[c.g]? = some (.cells c.cur 123 (0, 0))
  rd : w.heap[c.rb]? = some (.cells #[.slice (some ⟨c.g, 0, none⟩) c.all.length c.cap, .int .i64 i, .int .i64 e, .int .i64 p, .int .i64 a, .int .i64 d, .int .i64 b] 120 (0, 0))
section
variable {c : RCtx} {w w' : World} {i a d b e p : Int}
theorem Rq.cell (h : Rq c w i e p a d b) (j : Nat) : w.cell? ⟨c.rb, j, none⟩ = (#[Value.slice (some ⟨c.g, 0, none⟩) c.all.length c.cap, .int .i64 i, .int .i64 e, .int .i64 p, .int .i64 a, .int .i64 d, .int .i64 b] : Array Value)[j]? := by
  simp [World.cell?, h.rd]
theorem Rq.frozen (h : Rq c w i e p a d b) (j : Nat) : w.frozen? ⟨c.rb, j, none⟩ = false := by simp [World.frozen?, h.rd]
theorem Rq.lt (h : Rq c w i e p a d b) : c.rb < w.heap.size ∧ c.g < w.heap.size := ⟨(Array.getElem?_eq_some_iff.1 h.rd).1, (Array.getElem?_eq_some_iff.1 h.row).1⟩
theorem Rq.kept (h : Rq c w i e p a d b) (hg : w.grownBy w' none) : Rq c w' i e p a d b :=
  ⟨by rw [hg.block _ h.lt.2 (by simp)]; exact h.row, by rw [hg.block _ h.lt.1 (by simp)]; exact h.rd⟩
theorem Rq.drewN (h : Rq c w i e p a d b) (n : Nat) : Rq c (w.drewN n) i e p a d b := ⟨h.row, h.rd⟩
theorem Rq.set1 (h : Rq c w i e p a d b) (hc : c.Good) (x : Int) : Rq c (w.setCell ⟨c.rb, 1, none⟩ (.int .i64 x)) x e p a d b :=
  ⟨by rw [heap_set_ne (by have := hc.lt; omega)]; exact h.row, heap_set h.rd 1 _⟩
theorem Rq.set2 (h : Rq c w i e p a d b) (hc : c.Good) (x : Int) : Rq c (w.setCell ⟨c.rb, 2, none⟩ (.int .i64 x)) i x p a d b :=
  ⟨by rw [heap_set_ne (by have := hc.lt; omega)]; exact h.row, heap_set h.rd 2 _⟩
theorem Rq.set3 (h : Rq c w i e p a d b) (hc : c.Good) (x : Int) : Rq c (w.setCell ⟨c.rb, 3, none⟩ (.int .i64 x)) i e x a d b :=
  ⟨by rw [heap_set_ne (by have := hc.lt; omega)]; exact h.row, heap_set h.rd 3 _⟩
theorem Rq.set4 (h : Rq c w i e p a d b) (hc : c.Good) (x : Int) : Rq c (w.setCell ⟨c.rb, 4, none⟩ (.int .i64 x)) i e p x d b :=
  ⟨by rw [heap_set_ne (by have := hc.lt; omega)]; exact h.row, heap_set h.rd 4 _⟩
theorem Rq.set5 (h : Rq c w i e p a d b) (hc : c.Good) (x : Int) : Rq c (w.setCell ⟨c.rb, 5, none⟩ (.int .i64 x)) i e p a x b :=
  ⟨by rw [heap_set_ne (by have := hc.lt; omega)]; exact h.row, heap_set h.rd 5 _⟩
theorem Rq.set6 (h : Rq c w i e p a d b) (hc : c.Good) (x : Int) : Rq c (w.setCell ⟨c.rb, 6, none⟩ (.int .i64 x)) i e p a d x :=
  ⟨by rw [heap_set_ne (by have := hc.lt; omega)]; exact h.row, heap_set h.rd 6 _⟩
theorem rCells_get (s : ByteArray) : ∀ (ts : List Tok) (k : Nat), k < ts.length → (rCells s ts)[k * 4]? = some (.int .u8 (rk (tk ts k).kind)) ∧ (rCells s ts)[k * 4 + 1]? = some (.int .i64 ((tk ts k).at_ : Int)) ∧
    (rCells s ts)[k * 4 + 2]? = some (.string (rTxt s (tk ts k))) ∧ (rCells s ts)[k * 4 + 3]? = some (.int .i64 (rNum s (tk ts k) : Int))
  | [], k, h => by simp at h
  | t :: ts, 0, h => by simp [rCells, tk]
  | t :: ts, k + 1, h => by
    have ih := rCells_get s ts k (by simpa using h)
    have e : rCells s (t :: ts) = [.int .u8 (rk t.kind), .int .i64 (t.at_ : Int), .string (rTxt s t), .int .i64 (rNum s t : Int)] ++ rCells s ts := by simp [rCells]
    have e2 : tk (t :: ts) (k + 1) = tk ts k := by simp [tk]
    have e3 : (k + 1) * 4 = 4 + k * 4 := by omega
    rw [e, e2, e3]
    refine ⟨?_, ?_, ?_, ?_⟩
    · rw [List.getElem?_append_right (by simp)]; simpa using ih.1
    · rw [List.getElem?_append_right (by simp; omega)]; simpa [Nat.add_assoc] using ih.2.1
    · rw [List.getElem?_append_right (by simp; omega)]; simpa [Nat.add_assoc] using ih.2.2.1
    · rw [List.getElem?_append_right (by simp; omega)]; simpa [Nat.add_assoc] using ih.2.2.2
theorem RCtx.Good.tk_eq (hc : c.Good) {k : Nat} (hk : k < c.ts.length) : tk c.all k = tk c.ts k ∧ k < c.all.length := by
  obtain ⟨r, hr⟩ := hc.pre
  rw [hr]
  refine ⟨?_, by simp; omega⟩
  simp [tk, List.getD, List.getElem?_append_left hk]
theorem RCtx.Good.cell (hc : c.Good) (h : Rq c w i e p a d b) {k : Nat} (hk : k < c.ts.length) :
    w.cell? ⟨c.g, k * 4, none⟩ = some (.int .u8 (rk (tk c.ts k).kind)) ∧ w.cell? ⟨c.g, k * 4 + 1, none⟩ = some (.int .i64 ((tk c.ts k).at_ : Int)) ∧
    w.cell? ⟨c.g, k * 4 + 2, none⟩ = some (.string (rTxt c.s (tk c.ts k))) ∧ w.cell? ⟨c.g, k * 4 + 3, none⟩ = some (.int .i64 (rNum c.s (tk c.ts k) : Int)) := by
  obtain ⟨e1, e2⟩ := hc.tk_eq hk
  have hg := rCells_get c.s c.all k e2
  rw [← hc.cells, e1] at hg
  have look : ∀ j v, j < c.all.length * 4 → (c.cur.toList.take (c.all.length * 4))[j]? = some v → w.cell? ⟨c.g, j, none⟩ = some v := by
    intro j v hj hv
    rw [List.getElem?_take_of_lt hj] at hv
    simp [World.cell?, h.row]
    simpa using hv
  exact ⟨look _ _ (by omega) hg.1, look _ _ (by omega) hg.2.1, look _ _ (by omega) hg.2.2.1, look _ _ (by omega) hg.2.2.2⟩
end
set_option maxRecDepth 100000 in
set_option maxHeartbeats 400000 in
theorem rfail_first (c : RCtx) (hc : c.Good) (w : World) (i p a d b en pl : Int) (h : Rq c w i 0 p a d b) :
    Calls Tryz.prog 54 #[.pointer (some ⟨c.rb, 0, none⟩), .int .i64 en, .int .i64 pl] w fun x w' => x = .returned (.tuple #[]) ∧ Rq c w' i en pl a d b ∧ w.grownBy w' (some c.rb) := by
  have c2 : w.cell? ⟨c.rb, 2, none⟩ = some (.int .i64 0) := h.cell 2
  have c3 : w.cell? ⟨c.rb, 3, none⟩ = some (.int .i64 p) := h.cell 3
  have f2 : w.frozen? ⟨c.rb, 2, none⟩ = false := h.frozen 2
  have f3 : w.frozen? ⟨c.rb, 3, none⟩ = false := h.frozen 3
  have H := hide h
  clear h
  go_enter Tryz.func54, Tryz.ntmps54
  go_wp2
  go_end0
  exact ⟨rfl, (H.out.set2 hc en).set3 hc pl, grown_trans (grown_set _ _ _ _) (grown_set _ _ _ _)⟩
set_option maxRecDepth 100000 in
set_option maxHeartbeats 400000 in
theorem rfail_later (c : RCtx) (hc : c.Good) (w : World) (i e p a d b en pl : Int) (he : (e == 0) = false) (h : Rq c w i e p a d b) :
    Calls Tryz.prog 54 #[.pointer (some ⟨c.rb, 0, none⟩), .int .i64 en, .int .i64 pl] w fun x w' => x = .returned (.tuple #[]) ∧ w' = w := by
  have c2 : w.cell? ⟨c.rb, 2, none⟩ = some (.int .i64 e) := h.cell 2
  clear h
  go_enter Tryz.func54, Tryz.ntmps54
  go_wp2
  go_end0
  exact ⟨rfl, rfl⟩
set_option maxRecDepth 100000 in
set_option maxHeartbeats 400000 in
theorem ris_later (c : RCtx) (hc : c.Good) (w : World) (i e p a d b k : Int) (he : (e == 0) = false) (h : Rq c w i e p a d b) :
    Calls Tryz.prog 95 #[.pointer (some ⟨c.rb, 0, none⟩), .int .u8 k] w fun x w' => x = .returned (.bool false) ∧ w.grownBy w' none := by
  have c2 : w.cell? ⟨c.rb, 2, none⟩ = some (.int .i64 e) := h.cell 2
  have he2 : (e != 0) = true := by simpa [bne] using he
  clear h he
  go_enter Tryz.func95, Tryz.ntmps95
  go_wp2
  go_quiet (fail)
  go_wp2
  go_ret
  exact ⟨rfl, grown_drewN (grown_refl _ _) _⟩
set_option maxRecDepth 100000 in
set_option maxHeartbeats 400000 in
theorem ris_yes (c : RCtx) (hc : c.Good) (w : World) (i : Nat) (p a d b k : Int) (h : Rq c w i 0 p a d b) (hi : i < c.ts.length) (hk : rk (tk c.ts i).kind = k) :
    Calls Tryz.prog 95 #[.pointer (some ⟨c.rb, 0, none⟩), .int .u8 k] w fun x w' => x = .returned (.bool true) ∧ Rq c w' (i + 1 : Nat) 0 p a d b ∧ w.grownBy w' (some c.rb) := by
  have c0 : w.cell? ⟨c.rb, 0, none⟩ = some (.slice (some ⟨c.g, 0, none⟩) c.all.length c.cap) := h.cell 0
  have c1 : w.cell? ⟨c.rb, 1, none⟩ = some (.int .i64 i) := h.cell 1
  have c2 : w.cell? ⟨c.rb, 2, none⟩ = some (.int .i64 0) := h.cell 2
  have f1 : w.frozen? ⟨c.rb, 1, none⟩ = false := h.frozen 1
  obtain ⟨g0, g1, g2, g3⟩ := hc.cell h hi
  rw [hk] at g0
  clear g1 g2 g3 hk
  obtain ⟨l1, l2⟩ := h.lt
  have hle := (hc.tk_eq hi).2
  have hl := hc.le
  have hm := hc.cap
  unfold maxLen at hm
  have H := hide h
  clear h
  go_enter Tryz.func95, Tryz.ntmps95
  go_wp2
  go_quiet (fail)
  go_wp2
  go_ret
  exact ⟨rfl, (H.out.drewN nq).set1 hc _, grown_trans (grown_drewN (grown_refl _ _) nq) (grown_set _ _ _ _)⟩
set_option maxRecDepth 100000 in
set_option maxHeartbeats 400000 in
theorem ris_no (c : RCtx) (hc : c.Good) (w : World) (i : Nat) (p a d b k : Int) (h : Rq c w i 0 p a d b) (hi : i < c.ts.length) (hk : ¬ rk (tk c.ts i).kind = k) :
    Calls Tryz.prog 95 #[.pointer (some ⟨c.rb, 0, none⟩), .int .u8 k] w fun x w' => x = .returned (.bool false) ∧ w.grownBy w' none := by
  have c0 : w.cell? ⟨c.rb, 0, none⟩ = some (.slice (some ⟨c.g, 0, none⟩) c.all.length c.cap) := h.cell 0
  have c1 : w.cell? ⟨c.rb, 1, none⟩ = some (.int .i64 i) := h.cell 1
  have c2 : w.cell? ⟨c.rb, 2, none⟩ = some (.int .i64 0) := h.cell 2
  have hne : (rk (tk c.ts i).kind != k) = true := by rw [bne_iff_ne]; exact hk
  obtain ⟨g0, g1, g2, g3⟩ := hc.cell h hi
  clear g1 g2 g3 hk
  obtain ⟨l1, l2⟩ := h.lt
  have hle := (hc.tk_eq hi).2
  have hl := hc.le
  have hm := hc.cap
  unfold maxLen at hm
  clear h
  generalize rk (tk c.ts i).kind = kk at *
  go_enter Tryz.func95, Tryz.ntmps95
  go_wp2
  go_quiet (fail)
  go_wp2
  go_ret
  exact ⟨rfl, grown_drewN (grown_refl _ _) _⟩
end Go.Proofs.YtlhkfafdioakeaaGreatDoor
/- Proved here: how a tree lies in memory as the document's answer lays it; whether it calls it a test. -/
namespace Go.Proofs.YtlhkfafdioakeaaGreatDoor
open Go.RowKit Go.Weft
set_option linter.unusedVariables false
set_option linter.unusedSimpArgs false
def ptrV (b : Nat) : Value := .pointer (some ⟨b, 0, none⟩)
def rLeaf (n : Nat) : Array Value :=
  if n = 0 then #[.int .u8 105, .int .i64 0, .int .i64 0, .slice none 0 0]
  else if n = 1 then #[.int .u8 100, .int .i64 0, .int .i64 0, .slice none 0 0]
  else if n % 2 = 0 then #[.int .u8 61, .int .i64 (((n - 2) / 2 / 32 : Nat) : Int), .int .i64 (((n - 2) / 2 % 32 : Nat) : Int), .slice none 0 0]
  else #[.int .u8 58, .int .i64 (((n - 2) / 2 / 32 : Nat) : Int), .int .i64 (((n - 2) / 2 % 32 : Nat) : Int), .slice none 0 0]
def rGroup (k : Int) (g n cap : Nat) : Array Value := #[.int .u8 k, .int .i64 0, .int .i64 0, .slice (some ⟨g, 0, none⟩) n cap]
def rKind (k : Nat) : Int := if k = 0 then 43 else 59
def nodeAt (w : World) (b : Nat) (cs : Array Value) : Prop := w.heap[b]? = some (.cells cs 167 (0, 0))
/-- A leaf's cells; from 386 on: a leaf that was read with an error, whatever field and value it has. -/
def leafAt (n : Nat) (cs : Array Value) : Prop := (n < 2 + 2 * 192 ∧ cs = rLeaf n) ∨ (2 + 2 * 192 ≤ n ∧ ∃ x y, cs = #[.int .u8 (if n % 2 = 0 then 61 else 58), x, y, .slice none 0 0])
/-- What pointer, in a world, is a tree of the document's answer; and what cells of a row are a chain. The blocks are 'ok'. -/
def RV (ok : Nat → Prop) (w : World) : Code → (Value → Prop) × (Nat → Nat → Nat → Prop)
  | .exit n => (fun v => ∃ b cs, v = ptrV b ∧ ok b ∧ nodeAt w b cs ∧ leafAt n cs, fun _ _ _ => False)
  | .loop t => (fun v => ∃ b g cap x, v = ptrV b ∧ ok b ∧ nodeAt w b (rGroup 42 g 1 cap) ∧ ok g ∧ w.cell? ⟨g, 0, none⟩ = some x ∧ (RV ok w t).1 x, fun _ _ _ => False)
  | .scope t => (fun v => ∃ b g cap x, v = ptrV b ∧ ok b ∧ nodeAt w b (rGroup 33 g 1 cap) ∧ ok g ∧ w.cell? ⟨g, 0, none⟩ = some x ∧ (RV ok w t).1 x, fun _ _ _ => False)
  | .block k l => (fun v => ∃ b g n cap, v = ptrV b ∧ ok b ∧ nodeAt w b (rGroup (rKind k) g n cap) ∧ k ≤ 1 ∧ ok g ∧ n ≤ 5000 ∧ 2 ≤ n ∧ n ≤ cap ∧ (RV ok w l).2 g 0 n, fun _ _ _ => False)
  | .seq t l => (fun _ => False, fun g i n => ∃ n' x, n = n' + 1 ∧ w.cell? ⟨g, i, none⟩ = some x ∧ (RV ok w t).1 x ∧ (RV ok w l).2 g (i + 1) n')
  | .skip => (fun _ => False, fun _ _ n => n = 0)
  | _ => (fun _ => False, fun _ _ _ => False)
theorem nodeAt.lt {w : World} {b : Nat} {cs : Array Value} (h : nodeAt w b cs) : b < w.heap.size := (Array.getElem?_eq_some_iff.1 h).1
theorem nodeAt.cell {w : World} {b : Nat} {cs : Array Value} (h : nodeAt w b cs) (j : Nat) : w.cell? ⟨b, j, none⟩ = cs[j]? := by unfold nodeAt at h; simp [World.cell?, h]
theorem nodeAt.frozen {w : World} {b : Nat} {cs : Array Value} (h : nodeAt w b cs) (j : Nat) : w.frozen? ⟨b, j, none⟩ = false := by unfold nodeAt at h; simp [World.frozen?, h]
theorem RV_mono {ok ok' : Nat → Prop} {w w' : World} (hok : ∀ b, b < w.heap.size → ok b → ok' b) (hc : ∀ b, b < w.heap.size → ok b → w'.heap[b]? = w.heap[b]?) :
    ∀ t, (∀ v, (RV ok w t).1 v → (RV ok' w' t).1 v) ∧ (∀ g i n, ok g → (RV ok w t).2 g i n → (RV ok' w' t).2 g i n) := by
  have cell : ∀ g i x, ok g → w.cell? ⟨g, i, none⟩ = some x → w'.cell? ⟨g, i, none⟩ = some x := fun g i x hg hx =>
    (World.cell?_of_block (hc g (World.block_lt_of_cell? w _ hx) hg)).trans hx
  have node : ∀ b cs, ok b → nodeAt w b cs → nodeAt w' b cs := fun b cs hb h => (hc b h.lt hb).trans h
  intro t
  induction t with
  | exit n =>
    refine ⟨fun v h => ?_, fun _ _ _ _ h => h⟩
    obtain ⟨b, cs, h1, h2, h3, h4⟩ := h
    exact ⟨b, cs, h1, hok b h3.lt h2, node b _ h2 h3, h4⟩
  | skip => exact ⟨fun v h => h, fun _ _ _ _ h => h⟩
  | loop t ih =>
    refine ⟨fun v h => ?_, fun _ _ _ _ h => h⟩
    obtain ⟨b, g, cap, x, h1, h2, h3, h4, h5, h6⟩ := h
    exact ⟨b, g, cap, x, h1, hok b h3.lt h2, node b _ h2 h3, hok g (World.block_lt_of_cell? w _ h5) h4, cell g 0 x h4 h5, ih.1 x h6⟩
  | scope t ih =>
    refine ⟨fun v h => ?_, fun _ _ _ _ h => h⟩
    obtain ⟨b, g, cap, x, h1, h2, h3, h4, h5, h6⟩ := h
    exact ⟨b, g, cap, x, h1, hok b h3.lt h2, node b _ h2 h3, hok g (World.block_lt_of_cell? w _ h5) h4, cell g 0 x h4 h5, ih.1 x h6⟩
  | block k l ih =>
    refine ⟨fun v h => ?_, fun _ _ _ _ h => h⟩
    obtain ⟨b, g, n, cap, h1, h2, h3, h4, h5, h6, h7, h8, h9⟩ := h
    refine ⟨b, g, n, cap, h1, hok b h3.lt h2, node b _ h2 h3, h4, ?_, h6, h7, h8, ih.2 g 0 n h5 h9⟩
    cases l with
    | seq a b => obtain ⟨n', x, _, hx, _⟩ := h9; exact hok g (World.block_lt_of_cell? w _ hx) h5
    | skip => simp [RV] at h9; omega
    | _ => exact h9.elim
  | seq t l ih1 ih2 =>
    refine ⟨fun v h => h, fun g i n hr h => ?_⟩
    obtain ⟨n', x, h1, h2, h3, h4⟩ := h
    exact ⟨n', x, h1, cell g i x hr h2, ih1.1 x h3, ih2.2 g (i + 1) n' hr h4⟩
  | _ => exact ⟨fun v h => h, fun _ _ _ _ h => h⟩
theorem RV_grown {ok : Nat → Prop} {w w' : World} {row : Option Nat} {t : Code} {v : Value} (h : (RV ok w t).1 v) (hg : w.grownBy w' row) (hr : ∀ b, ok b → some b ≠ row) : (RV ok w' t).1 v :=
  (RV_mono (fun b _ hb => hb) (fun b hb hk => hg.block b hb (hr b hk)) t).1 v h
theorem RV_weak {ok ok' : Nat → Prop} {w : World} {t : Code} {v : Value} (h : (RV ok w t).1 v) (hr : ∀ b, b < w.heap.size → ok b → ok' b) : (RV ok' w t).1 v :=
  (RV_mono hr (fun b _ _ => rfl) t).1 v h
theorem RV_kept {ok : Nat → Prop} {w w' : World} {t : Code} {v : Value} (h : (RV ok w t).1 v) (hg : w.grownBy w' none) : (RV ok w' t).1 v := RV_grown h hg (by simp)
theorem RV_ptr {ok : Nat → Prop} {w : World} {t : Code} {v : Value} (h : (RV ok w t).1 v) : ∃ b, v = ptrV b ∧ ok b ∧ b < w.heap.size := by
  cases t with
  | exit n => obtain ⟨b, cs, h1, h2, h3, _⟩ := h; exact ⟨b, h1, h2, h3.lt⟩
  | loop t => obtain ⟨b, g, cap, x, h1, h2, h3, _⟩ := h; exact ⟨b, h1, h2, h3.lt⟩
  | scope t => obtain ⟨b, g, cap, x, h1, h2, h3, _⟩ := h; exact ⟨b, h1, h2, h3.lt⟩
  | block k l => obtain ⟨b, g, n, cap, h1, h2, h3, _⟩ := h; exact ⟨b, h1, h2, h3.lt⟩
  | _ => exact h.elim
theorem isT_elems' {ok : Nat → Prop} {w : World} {l : Code} {g i n : Nat} (h : (RV ok w l).2 g i n) : isT l = (elems l).all isT := by
  induction l generalizing i n with
  | seq a b _ ih =>
    obtain ⟨n', x, _, _, _, h4⟩ := h
    simp only [isT, elems, List.all_cons, ih h4]
  | skip => rfl
  | _ => exact h.elim
theorem RV_elems {ok : Nat → Prop} {w : World} {l : Code} {g i n : Nat} (h : (RV ok w l).2 g i n) : (elems l).length = n ∧ ∀ j (hj : j < (elems l).length), ∃ x, w.cell? ⟨g, i + j, none⟩ = some x ∧ (RV ok w ((elems l)[j])).1 x := by
  induction l generalizing i n with
  | seq a b _ ih =>
    obtain ⟨n', x, rfl, h2, h3, h4⟩ := h
    obtain ⟨e1, e2⟩ := ih h4
    refine ⟨by simp [elems, e1], fun j hj => ?_⟩
    cases j with
    | zero => exact ⟨x, h2, h3⟩
    | succ j =>
      obtain ⟨y, y1, y2⟩ := e2 j (by simpa [elems] using hj)
      exact ⟨y, by rw [show i + (j + 1) = i + 1 + j by omega]; exact y1, y2⟩
  | skip =>
    simp [RV] at h
    exact ⟨by simp [elems, h], fun j hj => by simp [elems] at hj⟩
  | _ => exact h.elim
set_option maxRecDepth 100000 in
set_option maxHeartbeats 400000 in
theorem risTest_plain (k : Int) (b : Nat) (w : World) (x y z : Value) (hn : nodeAt w b #[.int .u8 k, x, y, z]) (h1 : (k == 43) = false) (h2 : (k == 59) = false) (bt : Bool) (hb : bt = !(k == 58 || k == 42)) :
    Calls Tryz.prog 244 #[ptrV b] w fun x w' => x = .returned (.bool bt) ∧ w' = w := by
  have c0 : w.cell? ⟨b, 0, none⟩ = some (.int .u8 k) := hn.cell 0
  clear hn
  unfold ptrV
  by_cases h3 : k = 58
  · subst h3
    subst hb
    go_enter Tryz.func244, Tryz.ntmps244
    go_wp2
    go_ret
    exact ⟨rfl, rfl⟩
  by_cases h4 : k = 42
  · subst h4
    subst hb
    go_enter Tryz.func244, Tryz.ntmps244
    go_wp2
    go_ret
    exact ⟨rfl, rfl⟩
  have h5 : (k == 58) = false := by simp [h3]
  have h6 : (k == 42) = false := by simp [h4]
  have hb2 : bt = true := by rw [hb, h5, h6]; rfl
  subst hb2
  clear hb h3 h4
  go_enter Tryz.func244, Tryz.ntmps244
  go_wp2
  go_ret
  exact ⟨rfl, rfl⟩
set_option maxRecDepth 100000 in
set_option maxHeartbeats 1000000 in
theorem risTest_group (ok : Nat → Prop) (k : Nat) (l : Code) (b g n cap : Nat) (w : World) (hk : k ≤ 1) (hn : n ≤ 5000) (hnd : nodeAt w b (rGroup (rKind k) g n cap)) (h : (RV ok w l).2 g 0 n)
    (ih : ∀ t, t ∈ elems l → ∀ v, (RV ok w t).1 v → Calls Tryz.prog 244 #[v] w fun x w' => x = .returned (.bool (isT t)) ∧ w' = w) :
    Calls Tryz.prog 244 #[ptrV b] w fun x w' => x = .returned (.bool (isT l)) ∧ w' = w := by
  obtain ⟨hlen, hel⟩ := RV_elems h
  have HI : Hid (isT l = (elems l).all isT) := isT_elems' h
  have HL := hide hlen
  have HE := hide hel
  have IH := hide ih
  have c0 : w.cell? ⟨b, 0, none⟩ = some (.int .u8 (rKind k)) := hnd.cell 0
  have c3 : w.cell? ⟨b, 3, none⟩ = some (.slice (some ⟨g, 0, none⟩) n cap) := hnd.cell 3
  clear h hlen hel ih hnd
  unfold ptrV
  have hk' : k = 0 ∨ k = 1 := by omega
  rcases hk' with rfl | rfl
  all_goals
    simp only [rKind, if_true, if_false, Nat.one_ne_zero] at c0
    go_enter Tryz.func244, Tryz.ntmps244
    go_wp2
    go_loopw [3] (fun i wr => wr = w ∧ ∃ k : Nat, k ≤ n ∧ i = .int .i64 k ∧ ∀ j (hj : j < (elems l).length), j < k → isT ((elems l)[j]) = true) (fun i _ => n - (intOf i).toNat)
    case atStart => exact ⟨rfl, 0, Nat.zero_le _, rfl, fun j _ hj => by omega⟩
    case round =>
      obtain ⟨rfl, k, hk, rfl, hall⟩ := hrel
      have HA := hide hall
      clear hall
      by_cases hlt : k < n
      · obtain ⟨x, hx, hv⟩ := HE.out k (by rw [HL.out]; exact hlt)
        rw [Nat.zero_add] at hx
        have hc := hide (IH.out _ (List.getElem_mem _) x hv)
        clear hv
        obtain ⟨bt, hbt⟩ : ∃ bt, bt = isT ((elems l)[k]'(by rw [HL.out]; exact hlt)) := ⟨_, rfl⟩
        have HBT := hide hbt
        rw [← hbt] at hc
        clear hbt
        cases bt
        · go_wp2_with (go_at_call 244; refine hc.out.mono ?_; rintro y w2 ⟨rfl, hw2⟩; subst hw2)
          go_ret
          exact ⟨by rw [all_false HI.out HL.out hlt HBT.out]; rfl, rfl⟩
        · go_wp2_with (go_at_call 244; refine hc.out.mono ?_; rintro y w2 ⟨rfl, hw2⟩; subst hw2)
          go_roundw
          case rel => exact ⟨by trivial, k + 1, by omega, by go_num, fun j hj hj2 => by
            by_cases e : j = k
            · subst e; exact HBT.out.symm
            · exact HA.out j hj (by omega)⟩
          case measure => simp [intOf]; omega
      · go_wp2
        go_ret
        exact ⟨by rw [all_true HI.out (fun j hj => HA.out j hj (by have := HL.out; omega))]; rfl, rfl⟩
theorem rLeaf_test (n : Nat) : ∃ k x y z, rLeaf n = #[.int .u8 k, x, y, z] ∧ (k == 43) = false ∧ (k == 59) = false ∧ isT (.exit n) = !(k == 58 || k == 42) := by
  unfold rLeaf
  by_cases h0 : n = 0
  · rw [if_pos h0]; exact ⟨105, _, _, _, rfl, rfl, rfl, by subst h0; rfl⟩
  rw [if_neg h0]
  by_cases h1 : n = 1
  · rw [if_pos h1]; exact ⟨100, _, _, _, rfl, rfl, rfl, by subst h1; rfl⟩
  rw [if_neg h1]
  by_cases h2 : n % 2 = 0
  · rw [if_pos h2]; exact ⟨61, _, _, _, rfl, rfl, rfl, by simp [isT, h2]⟩
  · rw [if_neg h2]; exact ⟨58, _, _, _, rfl, rfl, rfl, by simp [isT]; omega⟩
theorem leafAt_test {n : Nat} {cs : Array Value} (h : leafAt n cs) : ∃ k x y z, cs = #[.int .u8 k, x, y, z] ∧ (k == 43) = false ∧ (k == 59) = false ∧ isT (.exit n) = !(k == 58 || k == 42) := by
  rcases h with ⟨_, rfl⟩ | ⟨hn, x, y, rfl⟩
  · exact rLeaf_test n
  · by_cases h2 : n % 2 = 0
    · rw [if_pos h2]; exact ⟨61, _, _, _, rfl, rfl, rfl, by simp [isT, h2]⟩
    · rw [if_neg h2]; exact ⟨58, _, _, _, rfl, rfl, rfl, by simp [isT]; omega⟩
theorem risTest_any (ok : Nat → Prop) : ∀ (n : Nat) (t : Code) (v : Value) (w : World), szC t ≤ n → (RV ok w t).1 v → Calls Tryz.prog 244 #[v] w fun x w' => x = .returned (.bool (isT t)) ∧ w' = w := by
  intro n
  induction n with
  | zero =>
    intro t v w hn h
    cases t with
    | exit m =>
      obtain ⟨b, cs, rfl, _, hnd, hlf⟩ := h
      obtain ⟨k, x, y, z, e, h1, h2, h3⟩ := leafAt_test hlf
      rw [e] at hnd
      exact risTest_plain k b w x y z hnd h1 h2 _ h3
    | loop t => simp [szC] at hn
    | scope t => simp [szC] at hn
    | block k l => simp [szC] at hn
    | _ => exact h.elim
  | succ n ih =>
    intro t v w hn h
    cases t with
    | exit m =>
      obtain ⟨b, cs, rfl, _, hnd, hlf⟩ := h
      obtain ⟨k, x, y, z, e, h1, h2, h3⟩ := leafAt_test hlf
      rw [e] at hnd
      exact risTest_plain k b w x y z hnd h1 h2 _ h3
    | loop t => obtain ⟨b, g, cap, x, rfl, _, hnd, _⟩ := h; exact risTest_plain 42 b w _ _ _ hnd rfl rfl _ rfl
    | scope t => obtain ⟨b, g, cap, x, rfl, _, hnd, _⟩ := h; exact risTest_plain 33 b w _ _ _ hnd rfl rfl _ rfl
    | block k l =>
      obtain ⟨b, g, m, cap, rfl, _, hnd, hk, _, hm, _, _, hl⟩ := h
      exact risTest_group ok k l b g m cap w hk hm hnd hl (fun t ht v hv => ih t v w (by have := szC_elems ht; simp only [szC] at hn; omega) hv)
    | _ => exact h.elim
end Go.Proofs.YtlhkfafdioakeaaGreatDoor
/- Proved here: how the document's answer joins trees: those of the same kind go into it. -/
namespace Go
/-- 'append' onto a row of the call's own, as one step of a region whose order is open. -/
theorem step_append_own_at {P : Program} {ops : Array Oper} {o : Oper} {a : Act} {w : World} {K : Act → World → Prop} {Q : Exit → Act → World → Prop} {E : Prop}
    (hg : o.guard = none) (s x : Operand) (t : TypeId) (hop : o.op = Op.call { callee := Callee.builtin Builtin.append, args := #[s, x], argTypes := #[t, t] })
    (base : Nat) (e : TypeId) (i : TypeInfo) (z : Value) (size bytes : Nat) (h1 : P.underlying t = some (.slice e)) (h2 : P.info? e = some i) (h3 : i.zero = some z) (h4 : i.size = size) (h5 : i.bytes = bytes) (h6 : z.cells.size = size) (h7 : 0 < size)
    (v : Value) (n : Nat) (xs : List Value) (hs : a.eval s = v) (hown : w.ownsRow base e size v n xs)
    (ad : Addr) (m c : Nat) (news : List Value) (hx : a.eval x = .slice (some ad) m c) (hn : news.length = m * size) (hc : ∀ j u, news[j]? = some u → w.cell? (ad.add j) = some u) (h1c : ∀ u ∈ news, u.oneCell' = true)
    (b1 : n + m ≤ maxLen) (b2 : (n + m) * bytes ≤ 140737488355328) (hbase : base ≤ w.heap.size)
    (hK : ∀ v' w', w'.ownsRow base e size v' (n + m) (xs ++ news) → w.grownBy w' v.ownBlock → K (a.put o.dst v') w') :
    if Region.wanted o (yielded ops a.tmps) = true then Oper.wp P o a w K Q else E := by
  have hw : Region.wanted o (yielded ops a.tmps) = true := by simp [Region.wanted, hg]
  rw [if_pos hw]
  obtain ⟨v', w', hrun, r1, r2, _⟩ := run_append_own (P := P) w base t o.type e i z size bytes h1 h2 h3 h4 h5 h6 h7 v n xs hown ad m c news hn hc h1c b1 b2 hbase
  unfold Oper.wp
  simp [execOp, hop, resolve, invoke, builtin, hs, hx, hrun, Result.andThen]
  exact hK v' w' r1 r2
end Go
namespace Go.Proofs.YtlhkfafdioakeaaGreatDoor
open Go.RowKit Go.Weft
set_option linter.unusedVariables false
set_option linter.unusedSimpArgs false
theorem Tryz.infoNodeP : (Tryz.prog.info? 31).map (fun i => (i.zero, i.size, i.bytes)) = some (some (.pointer none), 1, 8) := by kernel_rfl
def flatE (k : Nat) (t : Code) : List Code := match t with
  | .block k' l => if k' = k then elems l else [t]
  | _ => [t]
def rjoin (k : Nat) (l : List Code) : Code := match l with
  | [t] => t
  | l => .block k (chain (l.flatMap (flatE k)))
def RVs (ok : Nat → Prop) (w : World) : List Code → List Value → Prop
  | [], [] => True
  | t :: ts, v :: vs => (RV ok w t).1 v ∧ RVs ok w ts vs
  | _, _ => False
section
variable {ok ok' : Nat → Prop} {w w' : World}
theorem RVs_len : ∀ {ts : List Code} {vs : List Value}, RVs ok w ts vs → ts.length = vs.length
  | [], [], _ => rfl
  | t :: ts, v :: vs, h => by simp [RVs_len h.2]
  | [], _ :: _, h => h.elim
  | _ :: _, [], h => h.elim
theorem RVs_map (hm : ∀ t v, (RV ok w t).1 v → (RV ok' w' t).1 v) : ∀ {ts : List Code} {vs : List Value}, RVs ok w ts vs → RVs ok' w' ts vs
  | [], [], _ => trivial
  | t :: ts, v :: vs, h => ⟨hm t v h.1, RVs_map hm h.2⟩
  | [], _ :: _, h => h.elim
  | _ :: _, [], h => h.elim
theorem RVs_append : ∀ {ts us : List Code} {vs ws : List Value}, RVs ok w ts vs → RVs ok w us ws → RVs ok w (ts ++ us) (vs ++ ws)
  | [], _, [], _, _, h => h
  | _ :: ts, _, _ :: vs, _, h, k => ⟨h.1, RVs_append h.2 k⟩
  | [], _, _ :: _, _, h, _ => h.elim
  | _ :: _, _, [], _, h, _ => h.elim
theorem RVs_get : ∀ {ts : List Code} {vs : List Value} {j : Nat} (h : RVs ok w ts vs) (hj : j < ts.length), ∃ x, vs[j]? = some x ∧ (RV ok w (ts[j])).1 x
  | t :: ts, v :: vs, 0, h, _ => ⟨v, rfl, h.1⟩
  | t :: ts, v :: vs, j + 1, h, hj => by
    obtain ⟨x, h1, h2⟩ := RVs_get h.2 (by simpa using hj)
    exact ⟨x, by simpa using h1, by simpa using h2⟩
  | [], _, _, _, hj => by simp at hj
  | _ :: _, [], _, h, _ => h.elim
theorem RVs_chain {g : Nat} : ∀ {ts : List Code} {vs : List Value} (i : Nat), RVs ok w ts vs → (∀ j x, vs[j]? = some x → w.cell? ⟨g, i + j, none⟩ = some x) → (RV ok w (chain ts)).2 g i ts.length
  | [], [], i, _, _ => rfl
  | t :: ts, v :: vs, i, h, hc => ⟨ts.length, v, rfl, hc 0 v rfl, h.1, RVs_chain (i + 1) h.2 fun j x hj => by rw [show i + 1 + j = i + (j + 1) by omega]; exact hc (j + 1) x (by simpa using hj)⟩
  | [], _ :: _, _, h, _ => h.elim
  | _ :: _, [], _, h, _ => h.elim
/-- A chain's parts and cells, as lists. -/
theorem RVs_of_chain {l : Code} {g i n : Nat} (h : (RV ok w l).2 g i n) : ∃ vs, RVs ok w (elems l) vs ∧ vs.length = n ∧ ∀ j x, vs[j]? = some x → w.cell? ⟨g, i + j, none⟩ = some x := by
  induction l generalizing i n with
  | seq a b _ ih =>
    obtain ⟨n', x, rfl, h2, h3, h4⟩ := h
    obtain ⟨vs, e1, e2, e3⟩ := ih h4
    refine ⟨x :: vs, ⟨h3, e1⟩, by simp [e2], fun j y hj => ?_⟩
    cases j with
    | zero => simp at hj; subst hj; exact h2
    | succ j => rw [show i + (j + 1) = i + 1 + j by omega]; exact e3 j y (by simpa using hj)
  | skip => exact ⟨[], trivial, by simp [RV] at h; simp [h], fun j y hj => by simp at hj⟩
  | _ => exact h.elim
end
theorem RVs_ptr {ok : Nat → Prop} {w : World} : ∀ {ts : List Code} {vs : List Value}, RVs ok w ts vs → ∀ v ∈ vs, v.oneCell' = true
  | [], [], _, v, hv => by simp at hv
  | t :: ts, x :: vs, h, v, hv => by
    rcases List.mem_cons.1 hv with rfl | hv
    · obtain ⟨b, rfl, _⟩ := RV_ptr h.1; rfl
    · exact RVs_ptr h.2 v hv
  | [], _ :: _, h, _, _ => h.elim
  | _ :: _, [], h, _, _ => h.elim
set_option maxRecDepth 100000 in
set_option maxHeartbeats 400000 in
theorem joined_one (w : World) (kd : Int) (g cap : Nat) (x : Value) (hx : w.cell? ⟨g, 0, none⟩ = some x) :
    Calls Tryz.prog 96 #[.int .u8 kd, .slice (some ⟨g, 0, none⟩) 1 cap] w fun y w' => y = .returned x ∧ w' = w := by
  go_enter Tryz.func96, Tryz.ntmps96
  go_wp2
  go_ret
  exact ⟨rfl, rfl⟩
end Go.Proofs.YtlhkfafdioakeaaGreatDoor
/- Proved here: how the document's answer joins several trees. -/
namespace Go.Proofs.YtlhkfafdioakeaaGreatDoor
open Go.RowKit Go.Weft
set_option linter.unusedVariables false
set_option linter.unusedSimpArgs false
def kindR : Code → Int
  | .exit n => if n = 0 then 105 else if n = 1 then 100 else if n % 2 = 0 then 61 else 58
  | .loop _ => 42
  | .scope _ => 33
  | .block k _ => rKind k
  | _ => 0
theorem RV_node {ok : Nat → Prop} {w : World} {t : Code} {v : Value} (h : (RV ok w t).1 v) : ∃ b x y z, v = ptrV b ∧ ok b ∧ nodeAt w b #[.int .u8 (kindR t), x, y, z] := by
  cases t with
  | exit n =>
    obtain ⟨b, cs, h1, h2, h3, h4⟩ := h
    have hkr : kindR (.exit n) = if n = 0 then 105 else if n = 1 then 100 else if n % 2 = 0 then 61 else 58 := rfl
    rw [hkr]
    rcases h4 with ⟨_, rfl⟩ | ⟨hn, x, y, rfl⟩
    · unfold rLeaf at h3
      by_cases h0 : n = 0
      · rw [if_pos h0] at h3 ⊢; exact ⟨b, _, _, _, h1, h2, h3⟩
      rw [if_neg h0] at h3 ⊢
      by_cases h4 : n = 1
      · rw [if_pos h4] at h3 ⊢; exact ⟨b, _, _, _, h1, h2, h3⟩
      rw [if_neg h4] at h3 ⊢
      by_cases h5 : n % 2 = 0
      · rw [if_pos h5] at h3 ⊢; exact ⟨b, _, _, _, h1, h2, h3⟩
      · rw [if_neg h5] at h3 ⊢; exact ⟨b, _, _, _, h1, h2, h3⟩
    · rw [if_neg (by omega), if_neg (by omega)]; exact ⟨b, _, _, _, h1, h2, h3⟩
  | loop t => obtain ⟨b, g, cap, x, h1, h2, h3, _⟩ := h; exact ⟨b, _, _, _, h1, h2, h3⟩
  | scope t => obtain ⟨b, g, cap, x, h1, h2, h3, _⟩ := h; exact ⟨b, _, _, _, h1, h2, h3⟩
  | block k l => obtain ⟨b, g, n, cap, h1, h2, h3, _⟩ := h; exact ⟨b, _, _, _, h1, h2, h3⟩
  | _ => exact h.elim
/-- Either a tree is a group of this kind, or its sign is another one and it stays one part. -/
theorem flatE_cases (k : Nat) (hk : k ≤ 1) {ok : Nat → Prop} {w : World} {t : Code} {v : Value} (h : (RV ok w t).1 v) : (∃ l, t = .block k l) ∨ ((kindR t == rKind k) = false ∧ flatE k t = [t]) := by
  have hk01 : k = 0 ∨ k = 1 := by omega
  cases t with
  | exit n =>
    refine .inr ⟨?_, rfl⟩
    have leafK : ∀ m : Int, m = 43 ∨ m = 59 → ((if n = 0 then (105 : Int) else if n = 1 then 100 else if n % 2 = 0 then 61 else 58) == m) = false := by
      intro m hm
      rw [beq_eq_false_iff_ne]
      rcases hm with rfl | rfl
      all_goals
        by_cases h0 : n = 0
        · rw [if_pos h0]; decide
        rw [if_neg h0]
        by_cases h1 : n = 1
        · rw [if_pos h1]; decide
        rw [if_neg h1]
        by_cases h2 : n % 2 = 0
        · rw [if_pos h2]; decide
        · rw [if_neg h2]; decide
    rcases hk01 with rfl | rfl
    · exact leafK 43 (.inl rfl)
    · exact leafK 59 (.inr rfl)
  | loop t => exact .inr ⟨by rcases hk01 with rfl | rfl <;> rfl, rfl⟩
  | scope t => exact .inr ⟨by rcases hk01 with rfl | rfl <;> rfl, rfl⟩
  | block k' l =>
    obtain ⟨b, g, n, cap, _, _, _, hk', _⟩ := h
    by_cases e : k' = k
    · subst e; exact .inl ⟨l, rfl⟩
    · refine .inr ⟨?_, by show (if k' = k then elems l else [.block k' l]) = _; rw [if_neg e]⟩
      rcases (show k' = 0 ∨ k' = 1 by omega) with rfl | rfl <;> rcases hk01 with rfl | rfl <;> first | rfl | exact absurd rfl e
  | _ => exact h.elim
theorem take_flat (k : Nat) (cs : List Code) (j : Nat) (hj : j < cs.length) : (cs.take (j + 1)).flatMap (flatE k) = (cs.take j).flatMap (flatE k) ++ flatE k (cs[j]) := by
  rw [List.take_succ_eq_append_getElem hj, List.flatMap_append, List.flatMap_cons, List.flatMap_nil, List.append_nil]
theorem take_flat_le (k : Nat) (cs : List Code) (j : Nat) : ((cs.take j).flatMap (flatE k)).length ≤ (cs.flatMap (flatE k)).length := by
  have : cs.flatMap (flatE k) = (cs.take j).flatMap (flatE k) ++ (cs.drop j).flatMap (flatE k) := by rw [← List.flatMap_append, List.take_append_drop]
  rw [this]; simp
/-- A row of the call's own grows: what lies at or below the call's first block stays. -/
theorem grow_same {wr w1 w2 : World} {B e n : Nat} {v : Value} {xs : List Value} (hown : wr.ownsRow (B + 1) e 1 v n xs) (hg1 : wr.grownBy w1 none) (hg2 : w1.grownBy w2 v.ownBlock) : ∀ b, b ≤ B → b < wr.heap.size → w2.heap[b]? = wr.heap[b]? := by
  intro b hb hlt
  rw [hg2.block b (Nat.lt_of_lt_of_le hlt hg1.size) (fun e => by have := (hown.lt b e.symm).1; omega), hg1.block b hlt (by simp)]
/-- What holds behind the store of the grown row into the new node. -/
theorem store_facts {w wr w1 w2 : World} {e n m : Nat} {v v' a b c : Value} {xs ys : List Value} {ts us : List Code} {okc : Nat → Prop} (hok : ∀ b, okc b → b < w.heap.size)
    (hnd : nodeAt wr w.heap.size #[a, b, c, v]) (hown : wr.ownsRow (w.heap.size + 1) e 1 v n xs) (hg : w.grownBy wr none) (hg1 : wr.grownBy w1 none) (hg2 : w1.grownBy w2 v.ownBlock)
    (hown' : w2.ownsRow (w.heap.size + 1) e 1 v' m (xs ++ ys)) (hxs : RVs okc wr ts xs) (hys : RVs okc wr us ys) :
    nodeAt (w2.setCell ⟨w.heap.size, 3, none⟩ v') w.heap.size #[a, b, c, v'] ∧ (w2.setCell ⟨w.heap.size, 3, none⟩ v').ownsRow (w.heap.size + 1) e 1 v' m (xs ++ ys) ∧
      RVs okc (w2.setCell ⟨w.heap.size, 3, none⟩ v') (ts ++ us) (xs ++ ys) ∧ w.grownBy (w2.setCell ⟨w.heap.size, 3, none⟩ v') none ∧ w.heap.size < (w2.setCell ⟨w.heap.size, 3, none⟩ v').heap.size := by
  have same := grow_same hown hg1 hg2
  have hBlt := hnd.lt
  have hnd2 : nodeAt w2 w.heap.size #[a, b, c, v] := (same _ (Nat.le_refl _) hBlt).trans hnd
  have hset : w2.grownBy (w2.setCell ⟨w.heap.size, 3, none⟩ v') (some w.heap.size) := ⟨rfl, rfl, rfl, by simp, fun k _ hk => heap_setCell_other w2 ⟨w.heap.size, 3, none⟩ k v' (fun e => hk (by simp [e]))⟩
  have hgw2 : w.grownBy w2 none := (hg.andThen hg1 (by simp)).andThen hg2 (fun j hj => .inl (by have := (hown.lt j hj).1; omega))
  have hmap : ∀ t v0, (RV okc wr t).1 v0 → (RV okc (w2.setCell ⟨w.heap.size, 3, none⟩ v') t).1 v0 := fun t v0 h => (RV_mono (fun b _ hb => hb) (fun b hb hk => by
    have h1 := hok b hk
    rw [hset.block b (Nat.lt_of_lt_of_le hb (Nat.le_trans hg1.size hg2.size)) (by simp; omega)]
    exact same b (Nat.le_of_lt h1) hb) t).1 v0 h
  refine ⟨?_, hown'.kept hset ?_, RVs_append (RVs_map hmap hxs) (RVs_map hmap hys), hgw2.andThen hset (fun j hj => .inl (by simp at hj; omega)), by have := hnd2.lt; simpa using this⟩
  · have := heap_setCell_same w2 w.heap.size 3 #[a, b, c, v] 167 v' hnd2
    exact this
  · cases hv : v'.ownBlock with
    | none => exact .inl rfl
    | some k => exact .inr (fun e => by have := (hown'.lt k hv).1; simp at e; omega)
theorem cell_add {w : World} {g : Nat} {vs : List Value} (h : ∀ j x, vs[j]? = some x → w.cell? ⟨g, 0 + j, none⟩ = some x) : ∀ j x, vs[j]? = some x → w.cell? ((⟨g, 0, none⟩ : Addr).add j) = some x := by
  intro j x hj
  have hadd : (⟨g, 0, none⟩ : Addr).add j = ⟨g, j, none⟩ := by unfold Addr.add; split <;> simp_all
  rw [hadd]
  simpa using h j x hj
set_option maxRecDepth 100000 in
set_option maxHeartbeats 2000000 in
theorem joined_many (k : Nat) (hk : k ≤ 1) (okc : Nat → Prop) (cs : List Code) (vs : List Value) (g cap : Nat) (w : World) (h2 : 2 ≤ cs.length) (hl : cs.length ≤ 1000) (hRV : RVs okc w cs vs)
    (hcell : ∀ j x, vs[j]? = some x → w.cell? ⟨g, j, none⟩ = some x) (hlen : (cs.flatMap (flatE k)).length ≤ 5000) (hlen2 : 2 ≤ (cs.flatMap (flatE k)).length) :
    Calls Tryz.prog 96 #[.int .u8 (rKind k), .slice (some ⟨g, 0, none⟩) cs.length cap] w fun y w' => ∃ v, y = .returned v ∧ (RV (fun b => okc b ∨ w.heap.size ≤ b) w' (.block k (chain (cs.flatMap (flatE k))))).1 v ∧ w.grownBy w' none := by
  obtain ⟨i0, hi0, hz0, hz1, hz2⟩ := info_parts Tryz.infoNodeP
  obtain ⟨okd, hokd⟩ : ∃ okd : Nat → Prop, okd = fun b => okc b ∧ b < w.heap.size := ⟨_, rfl⟩
  have HOK : Hid (∀ b, okd b → b < w.heap.size) := fun b hb => by rw [hokd] at hb; exact hb.2
  have HOC : Hid (∀ b, okd b → okc b) := fun b hb => by rw [hokd] at hb; exact hb.1
  have HRV : Hid (RVs okd w cs vs) := RVs_map (fun t v h => RV_weak h (fun b hb hk => by rw [hokd]; exact ⟨hk, hb⟩)) hRV
  have HC := hide hcell
  have hne : ((cs.length : Int) == 1) = false := by rw [beq_eq_false_iff_ne]; omega
  clear hRV hcell hokd
  obtain ⟨kd, hkd⟩ : ∃ kd, kd = rKind k := ⟨_, rfl⟩
  rw [← hkd]
  have HKD := hide hkd
  clear hkd
  go_enter Tryz.func96, Tryz.ntmps96
  go_wp2
  go_loopw [6] (fun i wr => ∃ (j : Nat) (xs : List Value) (v : Value), j ≤ cs.length ∧ i = .int .i64 j ∧ nodeAt wr w.heap.size #[.int .u8 kd, .int .i64 0, .int .i64 0, v] ∧
      wr.ownsRow (w.heap.size + 1) 31 1 v ((cs.take j).flatMap (flatE k)).length xs ∧ RVs okd wr ((cs.take j).flatMap (flatE k)) xs ∧ w.grownBy wr none ∧ w.heap.size < wr.heap.size) (fun i _ => cs.length - (intOf i).toNat)
  case atStart => exact ⟨0, [], .slice none 0 0, Nat.zero_le _, rfl, heap_alloc_new _ _, World.ownsRow_nil _ _ _ _, trivial, World.grownBy_alloc _ _ _, by simp⟩
  case round =>
    obtain ⟨j, xs, v, hj, rfl, hnd, hown, hrv, hg, hsz⟩ := hrel
    obtain ⟨ts, hts⟩ : ∃ ts, ts = (cs.take j).flatMap (flatE k) := ⟨_, rfl⟩
    rw [← hts] at hown hrv
    have HND := hide hnd
    have HO := hide hown
    have HR := hide hrv
    have HG := hide hg
    have hle : ts.length ≤ 5000 := by rw [hts]; exact Nat.le_trans (take_flat_le k cs j) hlen
    have HTS := hide hts
    clear hnd hown hrv hg hts
    by_cases hlt : j < cs.length
    · obtain ⟨x, hx, hxt⟩ := RVs_get HRV.out hlt
      have hxc : wr.cell? ⟨g, j, none⟩ = some x := HG.out.cell (HC.out j x hx) (by simp)
      have hxt' := RV_kept hxt HG.out
      have n3 : wr.cell? ⟨w.heap.size, 3, none⟩ = some v := HND.out.cell 3
      have q3 : wr.frozen? ⟨w.heap.size, 3, none⟩ = false := HND.out.frozen 3
      have HTF := take_flat k cs j hlt
      rw [← HTS.out] at HTF
      have hle1 : (ts ++ flatE k cs[j]).length ≤ 5000 := by rw [← HTF]; exact Nat.le_trans (take_flat_le k cs (j + 1)) hlen
      rcases flatE_cases k hk hxt' with ⟨l, hl'⟩ | ⟨hkn, hfe⟩
      · rw [hl'] at hxt' HTF hle1
        obtain ⟨bx, g2, n2, cap2, rfl, hbx, hnx, _, hg2, hn5, hn2, hncap, hch⟩ := hxt'
        have k0 : wr.cell? ⟨bx, 0, none⟩ = some (.int .u8 kd) := by rw [HKD.out]; exact hnx.cell 0
        have k3 : wr.cell? ⟨bx, 3, none⟩ = some (.slice (some ⟨g2, 0, none⟩) n2 cap2) := hnx.cell 3
        obtain ⟨ys, hys, hyl, hyc⟩ := RVs_of_chain hch
        have hfe : flatE k (.block k l) = elems l := by show (if k = k then elems l else _) = _; rw [if_pos rfl]
        rw [hfe] at HTF hle1
        rw [List.length_append, RVs_len hys, hyl] at hle1
        have HTF := hide HTF
        have HY := hide hys
        have HYC := hide (cell_add hyc)
        have HYP := hide (RVs_ptr hys)
        clear hxt hnx hx hys hyc hch hl' hfe
        unfold ptrV at *
        go_wp2
        go_region_law (refine step_append_own_at rfl (.tmp 35) (.tmp 42) 165 rfl (w.heap.size + 1) 31 i0 _ 1 8 Tryz.underlying165 hi0 hz0 hz1 hz2 rfl (by decide) v _ xs (by simp [Act.eval, Act.put]) HO.out.drew ⟨g2, 0, none⟩ n2 cap2 ys (by simp [Act.eval, Act.put]) (by omega) HYC.out HYP.out (by unfold maxLen; omega) (by omega) (by first | omega | (simp; omega)) ?_; intro v' w2 hown' hgrow; have HF := hide (store_facts HOK.out HND.out HO.out HG.out (World.grownBy.refl wr none) (grown_undrew hgrow) hown' HR.out HY.out); obtain ⟨g', cap', rfl, _, _⟩ := own_slice hown' (by omega); have m0 := (grow_same HO.out (World.grownBy.refl wr none) (grown_undrew hgrow) _ (Nat.le_refl _) hsz).trans HND.out; have m3 : w2.cell? ⟨w.heap.size, 3, none⟩ = some v := nodeAt.cell m0 3; have m4 : w2.frozen? ⟨w.heap.size, 3, none⟩ = false := nodeAt.frozen m0 3; clear m0 hown' hgrow)
        all_goals
          go_wp2
          go_roundw
          case rel =>
            obtain ⟨f1, f2, f3, f4, f5⟩ := HF.out
            refine ⟨j + 1, xs ++ ys, .slice (some ⟨g', 0, none⟩) (ts.length + n2) cap', by omega, by go_num, f1, ?_, ?_, f4, f5⟩
            · rw [HTF.out, List.length_append, RVs_len HY.out, hyl]; exact f2
            · rw [HTF.out]; exact f3
          case measure => simp [intOf]; omega
      · obtain ⟨bx, y1, y2, y3, rfl, hbx, hnx⟩ := RV_node hxt'
        have k0 : wr.cell? ⟨bx, 0, none⟩ = some (.int .u8 (kindR (cs[j]))) := hnx.cell 0
        rw [← HKD.out] at hkn
        rw [hfe] at HTF hle1
        rw [List.length_append, List.length_singleton] at hle1
        have HTF := hide HTF
        clear hfe
        have HXT := hide hxt'
        clear hxt hxt'
        generalize kindR (cs[j]) = kr at *
        clear hnx hx
        unfold ptrV at *
        go_wp2
        go_region_law (refine step_append_own_at rfl (.tmp 50) (.tmp 55) 165 rfl (w.heap.size + 1) 31 i0 _ 1 8 Tryz.underlying165 hi0 hz0 hz1 hz2 rfl (by decide) v _ xs (by simp [Act.eval, Act.put]) (HO.out.alloc _).drew ⟨wr.heap.size, 0, none⟩ 1 1 [.pointer (some ⟨bx, 0, none⟩)] (by simp [Act.eval, Act.put]) rfl (cell_one_new _ _ _) (by intro u hu; simp at hu; subst hu; rfl) (by unfold maxLen; omega) (by omega) (by simp; omega) ?_; intro v' w2 hown' hgrow; have HF := hide (store_facts HOK.out HND.out HO.out HG.out (grown_alloc_drew _ _ _) hgrow hown' HR.out (us := [cs[j]]) ⟨HXT.out, trivial⟩); obtain ⟨g', cap', rfl, _, _⟩ := own_slice hown' (by omega); have m0 := (grow_same HO.out (grown_alloc_drew _ _ _) hgrow _ (Nat.le_refl _) hsz).trans HND.out; have m3 : w2.cell? ⟨w.heap.size, 3, none⟩ = some v := nodeAt.cell m0 3; have m4 : w2.frozen? ⟨w.heap.size, 3, none⟩ = false := nodeAt.frozen m0 3; clear m0 hown' hgrow)
        all_goals
          go_wp2
          go_roundw
          case rel =>
            obtain ⟨f1, f2, f3, f4, f5⟩ := HF.out
            refine ⟨j + 1, xs ++ [.pointer (some ⟨bx, 0, none⟩)], .slice (some ⟨g', 0, none⟩) (ts.length + 1) cap', by omega, by go_num, f1, ?_, ?_, f4, f5⟩
            · rw [HTF.out, List.length_append]; exact f2
            · rw [HTF.out]; exact f3
          case measure => simp [intOf]; omega
    · have hj' : j = cs.length := by omega
      subst hj'
      go_wp2
      go_ret
      refine ⟨_, rfl, ?_, HG.out⟩
      have hr := HR.out
      have ho := HO.out
      rw [HTS.out, List.take_length] at hr ho
      obtain ⟨g', cap', rfl, hcs, hgb⟩ := own_slice ho (by omega)
      have hcap : (cs.flatMap (flatE k)).length ≤ cap' := by
        rcases ho.2 with ⟨e, _⟩ | ⟨g3, cap3, cur, e, _, _, h, _⟩
        · cases e
        · cases e; exact h
      refine ⟨w.heap.size, g', _, cap', rfl, .inr (Nat.le_refl _), by rw [← HKD.out]; exact HND.out, hk, .inr (by omega), hlen, hlen2, hcap, ?_⟩
      exact RVs_chain 0 (RVs_map (fun t v h => RV_weak h (fun b hb hk => .inl (HOC.out b hk))) hr) (fun j x hj => by rw [Nat.zero_add]; exact hcs j x hj)
end Go.Proofs.YtlhkfafdioakeaaGreatDoor
/- Proved here: what the document's reader makes of an atom with its stars, also where an error was noted before. -/
namespace Go.Proofs.YtlhkfafdioakeaaGreatDoor
open Go.RowKit Go.Weft
set_option linter.unusedVariables false
set_option linter.unusedSimpArgs false
/-- How many leaves a tree has. -/
def lv : Code → Nat
  | .exit _ => 1
  | .loop t => lv t
  | .scope t => lv t
  | .block _ l => lv l
  | .seq a b => lv a + lv b
  | _ => 0
/-- A tree with sums within sums, seqs within seqs taken into them; and the parts of a chain so. -/
def flatP : Code → Code × List Code
  | .exit n => (.exit n, [])
  | .loop t => (.loop (flatP t).1, [])
  | .scope t => (.scope (flatP t).1, [])
  | .block k l => (rjoin k (flatP l).2, [])
  | .seq a b => (.skip, (flatP a).1 :: (flatP b).2)
  | _ => (.skip, [])
def flat (t : Code) : Code := (flatP t).1
theorem flat_chain : ∀ l : List Code, (flatP (chain l)).2 = l.map flat
  | [] => rfl
  | t :: l => by show (flatP t).1 :: (flatP (chain l)).2 = _; rw [flat_chain l]; rfl
theorem flat_join (k : Nat) : ∀ l : List Code, flat (joinC k l) = rjoin k (l.map flat)
  | [] => rfl
  | [t] => rfl
  | a :: b :: l => by show rjoin k (flatP (chain (a :: b :: l))).2 = _; rw [flat_chain]
def badI (b : Nat) : Int := if b = 401 then -1 else (b : Int)
/-- What a call of the document's reader gives: a tree of its own; where it read well, the tree that a plain function says, else its error and place. -/
def OutQ (c : RCtx) (d : Int) (st : St) (r : Except (Int × Nat) (Code × St)) (w : World) : Ending → World → Prop := fun y w' =>
  ∃ v tr i', y = .returned v ∧ (RV (fun b => w.heap.size ≤ b) w' tr).1 v ∧ w.grownBy w' (some c.rb) ∧ i' < c.ts.length ∧ st.i ≤ i' ∧ lv tr + st.i ≤ i' + 1 ∧
    match r with
    | .ok (t, st') => tr = flat t ∧ i' = st'.i ∧ lv tr + st.i ≤ i' ∧ Rq c w' (i' : Nat) 0 0 st'.atoms d (badI st'.bad)
    | .error (e, p) => (e == 0) = false ∧ ∃ a' d' b', Rq c w' (i' : Nat) e p a' d' b'
def DoesQ (c : RCtx) (fn : Nat) (d : Int) (p : St → Except (Int × Nat) (Code × St)) : Prop :=
  ∀ (w : World) (st : St), Rq c w st.i 0 0 st.atoms d (badI st.bad) → st.i < c.ts.length → st.atoms ≤ 16 → st.bad ≤ 401 → Calls Tryz.prog fn #[.pointer (some ⟨c.rb, 0, none⟩)] w (OutQ c d st (p st) w)
/-- What it gives where an error was noted before: a new leaf. -/
def DoesE (c : RCtx) (fn : Nat) : Prop :=
  ∀ (w : World) (i : Nat) (e p a d b : Int), (e == 0) = false → Rq c w i e p a d b → i < c.ts.length →
    Calls Tryz.prog fn #[.pointer (some ⟨c.rb, 0, none⟩)] w fun y w' => ∃ v, y = .returned v ∧ (RV (fun b => w.heap.size ≤ b) w' (.exit 1)).1 v ∧ w.grownBy w' none
theorem RV_some {B rb : Nat} {w w' : World} {t : Code} {v : Value} (h : (RV (fun b => B ≤ b) w t).1 v) (hg : w.grownBy w' (some rb)) (hr : rb < B) : (RV (fun b => B ≤ b) w' t).1 v :=
  RV_grown h hg (fun b hb e => by cases e; omega)
def posQ (c : RCtx) (w : World) : Nat := (intOf ((w.cell? ⟨c.rb, 1, none⟩).getD undef)).toNat
theorem Rq.pos {c : RCtx} {w : World} {i : Nat} {a d b e p : Int} (h : Rq c w i e p a d b) : posQ c w = i := by
  unfold posQ
  rw [show w.cell? ⟨c.rb, 1, none⟩ = some (.int .i64 (i : Int)) from h.cell 1]
  simp [intOf]
theorem RCtx.Good.closed {c : RCtx} (hc : c.Good) : Closed c.ts := by rw [hc.toks]; exact toks_closed _ _
theorem RCtx.Good.few {c : RCtx} (hc : c.Good) : c.ts.length ≤ 401 := by
  have := toks_len c.s true
  have := hc.size
  rw [hc.toks]
  omega
theorem rk_iff (k : Int) (n : Int) (m : Int) (hn : rk n = m) (hm : ¬ m = 0) (hinj : ∀ j : Int, 1 ≤ j → j ≤ 11 → rk j = m → j = n) : rk k = m → k = n := by
  intro h
  by_cases h1 : 1 ≤ k ∧ k ≤ 11
  · exact hinj k h1.1 h1.2 h
  · exfalso; apply hm; rw [← h]; unfold rk; repeat' rw [if_neg (by omega)]
theorem rk_inj {n : Int} (hn : 1 ≤ n ∧ n ≤ 11) {k : Int} (h : rk k = rk n) : k = n := by
  have h1 : n = 1 ∨ n = 2 ∨ n = 3 ∨ n = 4 ∨ n = 5 ∨ n = 6 ∨ n = 7 ∨ n = 8 ∨ n = 9 ∨ n = 10 ∨ n = 11 := by omega
  by_cases h2 : 1 ≤ k ∧ k ≤ 11
  · have h3 : k = 1 ∨ k = 2 ∨ k = 3 ∨ k = 4 ∨ k = 5 ∨ k = 6 ∨ k = 7 ∨ k = 8 ∨ k = 9 ∨ k = 10 ∨ k = 11 := by omega
    rcases h1 with rfl | rfl | rfl | rfl | rfl | rfl | rfl | rfl | rfl | rfl | rfl <;> rcases h3 with rfl | rfl | rfl | rfl | rfl | rfl | rfl | rfl | rfl | rfl | rfl <;> first | rfl | (exact absurd h (by decide))
  · exfalso
    have hk : rk k = 0 := by unfold rk; repeat' rw [if_neg (by omega)]
    rw [hk] at h
    rcases h1 with rfl | rfl | rfl | rfl | rfl | rfl | rfl | rfl | rfl | rfl | rfl <;> exact absurd h (by decide)
/-- A new node of one part. -/
theorem one_new {B : Nat} {w2 : World} {t : Code} {x : Value} {T : TypeId} {k : Int} (hB : B ≤ w2.heap.size) (h : (RV (fun b => B ≤ b) w2 t).1 x) :
    ∃ b g cap x', ptrV (w2.heap.size + 1) = ptrV b ∧ B ≤ b ∧ nodeAt ((w2.alloc (.cells #[x] T)).alloc (.cells (rGroup k w2.heap.size 1 1) 167)) b (rGroup k g 1 cap) ∧ B ≤ g ∧
      ((w2.alloc (.cells #[x] T)).alloc (.cells (rGroup k w2.heap.size 1 1) 167)).cell? ⟨g, 0, none⟩ = some x' ∧ (RV (fun b => B ≤ b) ((w2.alloc (.cells #[x] T)).alloc (.cells (rGroup k w2.heap.size 1 1) 167)) t).1 x' := by
  have e1 : (w2.alloc (.cells #[x] T)).heap.size = w2.heap.size + 1 := by simp
  refine ⟨w2.heap.size + 1, w2.heap.size, 1, x, rfl, by omega, ?_, hB, ?_, RV_kept h ((World.grownBy_alloc w2 _ none).andThen (World.grownBy_alloc _ _ none) (by simp))⟩
  · have := heap_alloc_new (w2.alloc (.cells #[x] T)) (.cells (rGroup k w2.heap.size 1 1) 167)
    rw [e1] at this
    exact this
  · have h1 := heap_alloc_new w2 (.cells #[x] T)
    have h2 := (World.grownBy_alloc (w2.alloc (.cells #[x] T)) (.cells (rGroup k w2.heap.size 1 1) 167) none).block w2.heap.size (by simp) (by simp)
    have h3 := h2.trans h1
    simp [World.cell?, h3]
set_option maxRecDepth 100000 in
set_option maxHeartbeats 1000000 in
theorem rpart_err (c : RCtx) (hc : c.Good) (d : Int) (w : World) (st : St) (en : Int) (pl : Nat)
    (h : Calls Tryz.prog 203 #[.pointer (some ⟨c.rb, 0, none⟩)] w (OutQ c d st (.error (en, pl)) w)) :
    Calls Tryz.prog 149 #[.pointer (some ⟨c.rb, 0, none⟩)] w (OutQ c d st (.error (en, pl)) w) := by
  have H := hide h
  clear h
  go_enter Tryz.func149, Tryz.ntmps149
  go_wp2_with fail
  refine H.out.mono ?_
  rintro x w1 ⟨v, tr, i', rfl, ht, hg, hi', hle, hlv, hen, a', d', b', hr⟩
  have G1 := hide hg
  have R1 := hide hr
  have T1 := hide ht
  have HEN := hide hen
  clear hg hr ht hen
  go_wp2
  refine wp_loop_rounds 1 ?_
  rw [rounds_succ]
  go_wp2_with fail
  refine (ris_later c hc _ _ _ _ _ _ _ _ HEN.out R1.out).mono ?_
  rintro x w2 ⟨rfl, hg2⟩
  have G2 := hide hg2
  clear hg2
  go_wp2
  go_ret
  exact ⟨_, tr, i', rfl, RV_kept T1.out G2.out, grown_trans G1.out (grown_some G2.out), hi', hle, hlv, HEN.out, a', d', b', R1.out.kept G2.out⟩
set_option maxRecDepth 100000 in
set_option maxHeartbeats 1000000 in
theorem rpart_later (c : RCtx) (hc : c.Good) (ha : DoesE c 203) : DoesE c 149 := by
  intro w i e p a d b he h hi
  have H := hide (ha w i e p a d b he h hi)
  have R0 := hide h
  have HEN := hide he
  clear h he ha
  go_enter Tryz.func149, Tryz.ntmps149
  go_wp2_with fail
  refine H.out.mono ?_
  rintro x w1 ⟨v, rfl, ht, hg⟩
  have G1 := hide hg
  have R1 := hide (R0.out.kept hg)
  have T1 := hide ht
  clear hg ht
  go_wp2
  refine wp_loop_rounds 1 ?_
  rw [rounds_succ]
  go_wp2_with fail
  refine (ris_later c hc _ _ _ _ _ _ _ _ HEN.out R1.out).mono ?_
  rintro x w2 ⟨rfl, hg2⟩
  have G2 := hide hg2
  clear hg2
  go_wp2
  go_ret
  exact ⟨_, rfl, RV_kept T1.out G2.out, grown_trans G1.out G2.out⟩
set_option maxRecDepth 100000 in
set_option maxHeartbeats 1000000 in
theorem rpart_ok (c : RCtx) (hc : c.Good) (d : Int) (w : World) (st : St) (t1 : Code) (st1 : St) (hi1 : st1.i < c.ts.length) (hrb : c.rb < w.heap.size)
    (h : Calls Tryz.prog 203 #[.pointer (some ⟨c.rb, 0, none⟩)] w (OutQ c d st (.ok (t1, st1)) w)) :
    Calls Tryz.prog 149 #[.pointer (some ⟨c.rb, 0, none⟩)] w (OutQ c d st (.ok ((starLoop c.ts c.ts.length t1 st1.i).1, ⟨(starLoop c.ts c.ts.length t1 st1.i).2, st1.atoms, st1.bad⟩)) w) := by
  have H := hide h
  clear h
  have hfew := hc.few
  go_enter Tryz.func149, Tryz.ntmps149
  go_wp2_with fail
  refine H.out.mono ?_
  rintro x w1 ⟨v1, tr, i', rfl, ht1, hg1, hi', hle, hlv, rfl, rfl, hlv2, hr1⟩
  have G1 := hide hg1
  have R1 := hide hr1
  have T1 := hide ht1
  clear hg1 hr1 ht1
  go_wp2
  go_loopw [3] (fun v wr => ∃ (f : Nat) (t : Code) (i : Nat), starLoop c.ts c.ts.length t1 st1.i = starLoop c.ts f t i ∧ c.ts.length ≤ f + i ∧ i < c.ts.length ∧ st.i ≤ i ∧ lv (flat t) + st.i ≤ i ∧ (RV (fun b => w.heap.size ≤ b) wr (flat t)).1 v ∧ Rq c wr (i : Nat) 0 0 st1.atoms d (badI st1.bad) ∧ w.grownBy wr (some c.rb)) (fun _ wr => c.ts.length - posQ c wr)
  case atStart => exact ⟨c.ts.length, t1, st1.i, rfl, by omega, hi1, hle, hlv2, T1.out, R1.out, G1.out⟩
  case round =>
    obtain ⟨f, t, i, he, hf, hi, hsi, hl, ht, hr, hg⟩ := hrel
    have HE := hide he
    have HT := hide ht
    have HR := hide hr
    have HG := hide hg
    have HP : Hid (posQ c wr = i) := hr.pos
    clear he ht hr hg
    obtain ⟨f, rfl⟩ : ∃ f', f = f' + 1 := ⟨f - 1, by omega⟩
    by_cases hk : (tk c.ts i).kind = 6
    · have HS : Hid (starLoop c.ts (f + 1) t i = starLoop c.ts f (.loop t) (i + 1)) := by show _ = _; rw [starLoop, if_pos hk]
      have hi2 : i + 1 < c.ts.length := hc.closed.next hi (by omega) (by omega)
      have HK : Hid (rk (tk c.ts i).kind = 42) := by show _ = _; rw [hk]; rfl
      clear hk
      go_wp2_with fail
      refine (ris_yes c hc _ i _ _ _ _ 42 HR.out hi HK.out).mono ?_
      rintro x w2 ⟨rfl, hR2, hG2⟩
      have R2 := hide hR2
      have G2 := hide hG2
      have T2 := hide (RV_some HT.out hG2 hrb)
      clear hR2 hG2
      have hB := Nat.le_trans HG.out.size G2.out.size
      obtain ⟨bx, hv, _, _⟩ := RV_ptr T2.out
      subst hv
      have T3 := hide (one_new (k := 42) (T := 31) hB T2.out)
      unfold ptrV at *
      go_wp2
      go_roundw
      case rel => exact ⟨f, .loop t, i + 1, HE.out.trans HS.out, by omega, hi2, by omega, by show lv (flat t) + st.i ≤ i + 1; omega, T3.out, (R2.out.kept (World.grownBy_alloc _ _ _)).kept (World.grownBy_alloc _ _ _), grown_trans (grown_trans HG.out G2.out) (grown_some ((World.grownBy_alloc _ _ none).andThen (World.grownBy_alloc _ _ none) (by simp)))⟩
      case measure => rw [((R2.out.kept (World.grownBy_alloc _ _ _)).kept (World.grownBy_alloc _ _ _)).pos, HP.out]; omega
    · have HS : Hid (starLoop c.ts (f + 1) t i = (t, i)) := by show _ = _; rw [starLoop, if_neg hk]
      have HK : Hid (¬ rk (tk c.ts i).kind = 42) := fun e => hk (rk_inj (n := 6) (by decide) (e.trans rfl))
      clear hk
      go_wp2_with fail
      refine (ris_no c hc _ i _ _ _ _ 42 HR.out hi HK.out).mono ?_
      rintro x w2 ⟨rfl, hG2⟩
      have G2 := hide hG2
      clear hG2
      go_wp2
      go_ret
      rw [HE.out, HS.out]
      exact ⟨_, flat t, i, rfl, RV_kept HT.out G2.out, grown_trans HG.out (grown_some G2.out), hi, hsi, by omega, rfl, rfl, hl, HR.out.kept G2.out⟩
theorem rpart_any (c : RCtx) (hc : c.Good) (d : Int) {p : St → Except (Int × Nat) (Code × St)} (hp : DoesQ c 203 d p) (hg : Goes c.ts p) : DoesQ c 149 d (partP c.ts p) := by
  intro w st h hi ha hb
  have H := hp w st h hi ha hb
  unfold partP
  cases hres : p st with
  | error e =>
    rw [hres] at H
    exact rpart_err c hc d w st e.1 e.2 H
  | ok r =>
    rw [hres] at H
    exact rpart_ok c hc d w st r.1 r.2 (hg st r.1 r.2 hi ha hres).2.1 h.lt.1 H
end Go.Proofs.YtlhkfafdioakeaaGreatDoor
/- Facts for the document's reader where it gathers trees in a row of its own. -/
namespace Go.Proofs.YtlhkfafdioakeaaGreatDoor
open Go.RowKit Go.Weft
set_option linter.unusedVariables false
set_option linter.unusedSimpArgs false
def lvs (l : List Code) : Nat := (l.map lv).sum
theorem lvs_append (a b : List Code) : lvs (a ++ b) = lvs a + lvs b := by simp [lvs]
theorem lvs_one (t : Code) : lvs [t] = lv t := by simp [lvs]
theorem lv_chain : ∀ l : List Code, lv (chain l) = lvs l
  | [] => rfl
  | t :: l => by show lv t + lv (chain l) = _; rw [lv_chain l]; simp [lvs]
theorem RV_lv {ok : Nat → Prop} {w : World} : ∀ t, (∀ v, (RV ok w t).1 v → 1 ≤ lv t) ∧ (∀ g i n, (RV ok w t).2 g i n → n ≤ lv t ∧ lvs (elems t) = lv t) := by
  intro t
  induction t with
  | exit n => exact ⟨fun v _ => Nat.le_refl _, fun _ _ _ h => h.elim⟩
  | skip => exact ⟨fun v h => h.elim, fun g i n h => ⟨by simp [RV] at h; omega, rfl⟩⟩
  | loop t ih => exact ⟨fun v h => by obtain ⟨b, g, cap, x, _, _, _, _, _, h6⟩ := h; exact ih.1 x h6, fun _ _ _ h => h.elim⟩
  | scope t ih => exact ⟨fun v h => by obtain ⟨b, g, cap, x, _, _, _, _, _, h6⟩ := h; exact ih.1 x h6, fun _ _ _ h => h.elim⟩
  | block k l ih =>
    refine ⟨fun v h => ?_, fun _ _ _ h => h.elim⟩
    obtain ⟨b, g, n, cap, _, _, _, _, _, _, h7, _, h9⟩ := h
    have := (ih.2 g 0 n h9).1
    show 1 ≤ lv l
    omega
  | seq a b ih1 ih2 =>
    refine ⟨fun v h => h.elim, fun g i n h => ?_⟩
    obtain ⟨n', x, rfl, _, h3, h4⟩ := h
    have h5 := ih1.1 x h3
    have h6 := ih2.2 g (i + 1) n' h4
    refine ⟨by show n' + 1 ≤ lv a + lv b; omega, ?_⟩
    show lvs (a :: elems b) = lv a + lv b
    rw [← h6.2]; simp [lvs]
  | _ => exact ⟨fun v h => h.elim, fun _ _ _ h => h.elim⟩
theorem flatE_lv {ok : Nat → Prop} {w : World} (k : Nat) (hk : k ≤ 1) {t : Code} {v : Value} (h : (RV ok w t).1 v) : (flatE k t).length ≤ lv t ∧ lvs (flatE k t) = lv t ∧ 1 ≤ (flatE k t).length := by
  rcases flatE_cases k hk h with ⟨l, rfl⟩ | ⟨_, e⟩
  · obtain ⟨b, g, n, cap, _, _, _, _, _, _, h7, _, h9⟩ := h
    have h1 := (RV_lv l).2 g 0 n h9
    have h2 := (RV_elems h9).1
    have e : flatE k (.block k l) = elems l := by show (if k = k then elems l else _) = _; rw [if_pos rfl]
    rw [e]
    exact ⟨by show _ ≤ lv l; omega, h1.2, by omega⟩
  · rw [e]
    have := (RV_lv t).1 v h
    exact ⟨by simpa using this, lvs_one t, by simp⟩
theorem flats_lv {ok : Nat → Prop} {w : World} (k : Nat) (hk : k ≤ 1) : ∀ {ts : List Code} {vs : List Value}, RVs ok w ts vs → (ts.flatMap (flatE k)).length ≤ lvs ts ∧ lvs (ts.flatMap (flatE k)) = lvs ts ∧ ts.length ≤ (ts.flatMap (flatE k)).length
  | [], [], _ => ⟨Nat.le_refl _, rfl, Nat.le_refl _⟩
  | t :: ts, v :: vs, h => by
    obtain ⟨a1, a2, a3⟩ := flatE_lv k hk h.1
    obtain ⟨b1, b2, b3⟩ := flats_lv k hk h.2
    have e : lvs (t :: ts) = lv t + lvs ts := by simp [lvs]
    rw [List.flatMap_cons, List.length_append, lvs_append, e]
    refine ⟨by omega, by omega, by simp only [List.length_cons]; omega⟩
  | [], _ :: _, h => h.elim
  | _ :: _, [], h => h.elim
theorem rjoin_lv {ok : Nat → Prop} {w : World} (k : Nat) (hk : k ≤ 1) {ts : List Code} {vs : List Value} (h : RVs ok w ts vs) : lv (rjoin k ts) = lvs ts := by
  match ts, vs, h with
  | [], [], _ => rfl
  | [t], [v], _ => exact (lvs_one t).symm
  | a :: b :: l, vs, h =>
    show lv (chain ((a :: b :: l).flatMap (flatE k))) = _
    rw [lv_chain, (flats_lv k hk h).2.1]
theorem RVs_snoc {ok : Nat → Prop} {w : World} {ts : List Code} {vs : List Value} {t : Code} {v : Value} (hv : (RV ok w t).1 v) (h : RVs ok w ts vs) : RVs ok w (ts ++ [t]) (vs ++ [v]) := RVs_append h ⟨hv, trivial⟩
theorem Rq.other {c : RCtx} {w w' : World} {i a d b e p : Int} {row : Option Nat} {B : Nat} (h : Rq c w i e p a d b) (hg : w.grownBy w' row) (hr : ∀ k, row = some k → B ≤ k) (hB : c.rb < B) (hc : c.Good) : Rq c w' i e p a d b :=
  ⟨by rw [hg.block _ h.lt.2 (fun e => by have := hr _ e.symm; have := hc.lt; omega)]; exact h.row, by rw [hg.block _ h.lt.1 (fun e => by have := hr _ e.symm; omega)]; exact h.rd⟩
theorem RVs_some {rb B : Nat} {v : Value} {w w' : World} {ts : List Code} {vs : List Value} (h : RVs (okv B v) w ts vs) (hg : w.grownBy w' (some rb)) (hr : rb < B) : RVs (okv B v) w' ts vs :=
  RVs_map (fun t v0 h => RV_grown h hg (fun b hb e => by cases e; have := hb.1; omega)) h
/-- One round: a tree comes from a call, and joins the row. -/
theorem rlist_step {rb : Nat} {w wr w1 w2 : World} {v v' x : Value} {acc : List Code} {xs : List Value} {t : Code} {o : Obj} {E : Nat}
    (hrb : rb < w.heap.size) (hgw : w.grownBy wr (some rb)) (hown : wr.ownsRow w.heap.size E 1 v acc.length xs) (htv : RVs (okv w.heap.size v) wr acc xs)
    (hg1 : wr.grownBy w1 (some rb)) (ht1 : (RV (fun b => wr.heap.size ≤ b) w1 t).1 x)
    (hown' : w2.ownsRow w.heap.size E 1 v' (acc.length + 1) (xs ++ [x])) (hgrow : (w1.alloc o).grownBy w2 v.ownBlock) (hat : v'.ownBlock = v.ownBlock ∨ v'.ownBlock = some (w1.alloc o).heap.size) :
    (∀ k, v.ownBlock = some k → w.heap.size ≤ k) ∧ RVs (okv w.heap.size v') w2 (acc ++ [t]) (xs ++ [x]) ∧ w2.ownsRow w.heap.size E 1 v' (acc ++ [t]).length (xs ++ [x]) ∧ w.grownBy w2 (some rb) := by
  have hge : ∀ k, v.ownBlock = some k → w.heap.size ≤ k := own_ge hown
  have hlt : ∀ k, v.ownBlock = some k → k < wr.heap.size := fun k hk => (hown.lt k hk).2
  have hga := World.grownBy_alloc w1 o none
  have hs1 := hg1.size
  have hsa : w1.heap.size < (w1.alloc o).heap.size := by simp
  have hT : RVs (okv w.heap.size v') w2 acc xs := by
    refine RVs_map ?_ htv
    intro t' v'' h
    have a1 : (RV (okv w.heap.size v) w1 t').1 v'' := RV_grown h hg1 (fun b hb e => by cases e; have := hb.1; omega)
    have a2 : (RV (fun b => okv w.heap.size v b ∧ b < w1.heap.size) w1 t').1 v'' := RV_weak a1 (fun b hl hb => ⟨hb, hl⟩)
    have a3 := RV_grown (RV_kept a2 hga) hgrow (fun b hb e => hb.1.2 e)
    refine RV_weak a3 (fun b _ hb => ⟨hb.1.1, fun e => ?_⟩)
    rcases hat with h | h
    · rw [h] at e; exact hb.1.2 e
    · rw [h] at e; cases e; have := hb.2; omega
  have hN : (RV (okv w.heap.size v') w2 t).1 x := by
    have a2 : (RV (fun b => wr.heap.size ≤ b ∧ b < w1.heap.size) w1 t).1 x := RV_weak ht1 (fun b hl hb => ⟨hb, hl⟩)
    have a3 := RV_grown (RV_kept a2 hga) hgrow (fun b hb e => by have := hlt b e.symm; have := hb.1; omega)
    refine RV_weak a3 (fun b _ hb => ⟨by have := hgw.size; have := hb.1; omega, fun e => ?_⟩)
    rcases hat with h | h
    · rw [h] at e; have := hlt b e.symm; have := hb.1; omega
    · rw [h] at e; cases e; have := hb.2; omega
  exact ⟨hge, RVs_snoc hN hT, by simpa using hown', grown_own (grown_trans (grown_trans hgw hg1) (grown_some hga)) hgrow hge⟩
/-- The first tree, alone in its row. -/
theorem rlist_first {rb : Nat} {w w1 : World} {x : Value} {t : Code} {E : Nat} (hg1 : w.grownBy w1 (some rb)) (ht1 : (RV (fun b => w.heap.size ≤ b) w1 t).1 x) :
    (w1.alloc (.cells #[x] E)).ownsRow w.heap.size E 1 (.slice (some ⟨w1.heap.size, 0, none⟩) 1 1) [t].length [x] ∧ RVs (okv w.heap.size (.slice (some ⟨w1.heap.size, 0, none⟩) 1 1)) (w1.alloc (.cells #[x] E)) [t] [x] ∧ w.grownBy (w1.alloc (.cells #[x] E)) (some rb) := by
  refine ⟨⟨rfl, .inr ⟨w1.heap.size, 1, #[x], rfl, hg1.size, heap_alloc_new w1 _, Nat.le_refl _, by unfold maxLen; omega, rfl, rfl⟩⟩, ⟨?_, trivial⟩, grown_trans hg1 (World.grownBy_alloc _ _ _)⟩
  have a2 : (RV (fun b => w.heap.size ≤ b ∧ b < w1.heap.size) w1 t).1 x := RV_weak ht1 (fun b hl hb => ⟨hb, hl⟩)
  refine RV_weak (RV_kept a2 (World.grownBy_alloc w1 _ none)) (fun b _ hb => ⟨hb.1, fun e => ?_⟩)
  simp [Value.ownBlock] at e
  have := hb.2
  omega
/-- What a list goes on with behind a part that was read. -/
def tailL (ts : List Tok) (sep : Int) (p : St → Except (Int × Nat) (Code × St)) (f : Nat) (st : St) : Except (Int × Nat) (List Code × St) :=
  if (tk ts st.i).kind = sep then listP ts sep p f ⟨st.i + 1, st.atoms, st.bad⟩ else .ok ([], st)
theorem listP_tail {ts : List Tok} {sep : Int} {p : St → Except (Int × Nat) (Code × St)} {f : Nat} {st st1 : St} {t : Code} (h : p st = .ok (t, st1)) : listP ts sep p (f + 1) st = preL [t] (tailL ts sep p f st1) := by
  rw [listP, h]
  unfold tailL
  simp only
  split
  · cases listP ts sep p f ⟨st1.i + 1, st1.atoms, st1.bad⟩ <;> rfl
  · rfl
theorem listP_err {ts : List Tok} {sep : Int} {p : St → Except (Int × Nat) (Code × St)} {f : Nat} {st : St} {e : Int × Nat} (h : p st = .error e) : listP ts sep p (f + 1) st = .error e := by
  rw [listP, h]
/-- A row of trees, and what the document's reader makes of it. -/
theorem rjoined_any (k : Nat) (hk : k ≤ 1) (B : Nat) (ts : List Code) (v : Value) (xs : List Value) (w : World) (hB : B ≤ w.heap.size) (h0 : 0 < ts.length) (hl : lvs ts ≤ 1000) (hown : w.ownsRow B 31 1 v ts.length xs) (hrv : RVs (okv B v) w ts xs) :
    ∃ g cap, v = .slice (some ⟨g, 0, none⟩) ts.length cap ∧ Calls Tryz.prog 96 #[.int .u8 (rKind k), .slice (some ⟨g, 0, none⟩) ts.length cap] w fun y w' => ∃ v', y = .returned v' ∧ (RV (fun b => B ≤ b) w' (rjoin k ts)).1 v' ∧ w.grownBy w' none := by
  obtain ⟨g, cap, hv, hcells, hge⟩ := own_slice hown h0
  refine ⟨g, cap, hv, ?_⟩
  have hf := flats_lv k hk hrv
  match ts, xs, hrv with
  | [t], [x], hrv =>
    refine (joined_one w (rKind k) g cap x (hcells 0 x rfl)).mono ?_
    rintro y w' ⟨rfl, rfl⟩
    exact ⟨x, rfl, RV_weak hrv.1 (fun b _ hb => hb.1), grown_refl _ _⟩
  | a :: b :: l, xs, hrv =>
    refine (joined_many k hk (fun b => B ≤ b) (a :: b :: l) xs g cap w (by simp) (by simp only [List.length_cons] at hf ⊢; omega) (RVs_map (fun t v h => RV_weak h (fun b _ hb => hb.1)) hrv) hcells (by omega) (by simp only [List.length_cons] at hf; omega)).mono ?_
    rintro y w' ⟨v', rfl, hv', hg⟩
    exact ⟨v', rfl, RV_weak hv' (fun b _ hb => by rcases hb with h | h <;> omega), hg⟩
  | [], _, _ => simp at h0
  | _ :: _, [], h => exact h.elim
end Go.Proofs.YtlhkfafdioakeaaGreatDoor
/- Proved here: what the document's reader makes of parts with a sign between them. -/
namespace Go.Proofs.YtlhkfafdioakeaaGreatDoor
open Go.RowKit Go.Weft
set_option linter.unusedVariables false
set_option linter.unusedSimpArgs false
/-- Where a list of the document's reader stands behind a part: it read well, or it noted an error. -/
def MidQ (c : RCtx) (d : Int) (st : St) (sep : Int) (p : St → Except (Int × Nat) (Code × St)) (r0 : Except (Int × Nat) (List Code × St)) (w : World) (trs : List Code) (i : Nat) : Prop :=
  (∃ acc f st1, trs = acc.map flat ∧ i = st1.i ∧ lvs trs + st.i ≤ i ∧ r0 = preL acc (tailL c.ts sep p f st1) ∧ c.ts.length ≤ f + st1.i + 1 ∧ st1.atoms ≤ 16 ∧ st1.bad ≤ 401 ∧ Rq c w (i : Nat) 0 0 st1.atoms d (badI st1.bad)) ∨
  (∃ en pl a' d' b', (en == 0) = false ∧ r0 = .error (en, pl) ∧ lvs trs + st.i ≤ i + 1 ∧ Rq c w (i : Nat) en pl a' d' b')
/-- A part that joins: where the list stands then. -/
theorem MidQ.step {c : RCtx} {d : Int} {st : St} {sep : Int} {p : St → Except (Int × Nat) (Code × St)} {r0 : Except (Int × Nat) (List Code × St)} {w1 : World} {trs acc : List Code} {f : Nat} {st1 : St} {tr : Code} {i' : Nat}
    (hgo : Goes c.ts p) (e1 : trs = acc.map flat) (hl : lvs trs + st.i ≤ st1.i) (he : r0 = preL acc (listP c.ts sep p (f + 1) st1)) (hf : c.ts.length ≤ f + st1.i + 1) (hi : st1.i < c.ts.length) (ha : st1.atoms ≤ 16) (hb : st1.bad ≤ 401)
    (hlv : lv tr + st1.i ≤ i' + 1)
    (hm : match p st1 with
    | .ok (t, st') => tr = flat t ∧ i' = st'.i ∧ lv tr + st1.i ≤ i' ∧ Rq c w1 (i' : Nat) 0 0 st'.atoms d (badI st'.bad)
    | .error (e, p) => (e == 0) = false ∧ ∃ a' d' b', Rq c w1 (i' : Nat) e p a' d' b') : MidQ c d st sep p r0 w1 (trs ++ [tr]) i' := by
  cases hres : p st1 with
  | error e =>
    rw [hres] at hm
    obtain ⟨h1, a', d', b', h2⟩ := hm
    refine .inr ⟨e.1, e.2, a', d', b', h1, ?_, ?_, h2⟩
    · rw [he, listP_err hres]; rfl
    · rw [lvs_append, lvs_one]; omega
  | ok r =>
    obtain ⟨t, st'⟩ := r
    rw [hres] at hm
    obtain ⟨h1, h2, h3, h4⟩ := hm
    have hg := hgo st1 t st' hi ha hres
    refine .inl ⟨acc ++ [t], f, st', ?_, h2, ?_, ?_, by omega, hg.2.2.1, by omega, h4⟩
    · rw [e1, h1]; simp
    · rw [lvs_append, lvs_one]; omega
    · rw [he, listP_tail hres, preL_preL]
theorem MidQ.kept {c : RCtx} {d : Int} {st : St} {sep : Int} {p : St → Except (Int × Nat) (Code × St)} {r0 : Except (Int × Nat) (List Code × St)} {w w1 : World} {trs : List Code} {i : Nat} (h : MidQ c d st sep p r0 w trs i)
    (hq : ∀ e p a d b : Int, Rq c w (i : Nat) e p a d b → Rq c w1 (i : Nat) e p a d b) : MidQ c d st sep p r0 w1 trs i := by
  rcases h with ⟨acc, f, st1, h1, h2, h3, h4, h5, h6, h7, h8⟩ | ⟨en, pl, a', d', b', h1, h2, h3, h4⟩
  · exact .inl ⟨acc, f, st1, h1, h2, h3, h4, h5, h6, h7, hq _ _ _ _ _ h8⟩
  · exact .inr ⟨en, pl, a', d', b', h1, h2, h3, hq _ _ _ _ _ h4⟩
set_option maxRecDepth 100000 in
set_option maxHeartbeats 2000000 in
theorem rseq_any (c : RCtx) (hc : c.Good) (d : Int) {p : St → Except (Int × Nat) (Code × St)} (hp : DoesQ c 149 d p) (hgo : Goes c.ts p) :
    DoesQ c 94 d (fun st => joinP 1 (listP c.ts 5 p c.ts.length st)) := by
  intro w st h hi ha hb
  obtain ⟨i0, hi0, hz0, hz1, hz2⟩ := info_parts Tryz.infoNodeP
  have hfew := hc.few
  have hrb := h.lt.1
  have HP := hide hp
  have HGO := hide hgo
  have C0 := hide (hp w st h hi ha hb)
  clear hp hgo h
  show Calls _ _ _ _ (OutQ c d st (joinP 1 (listP c.ts 5 p c.ts.length st)) w)
  obtain ⟨r0, hr0⟩ : ∃ r0, r0 = listP c.ts 5 p c.ts.length st := ⟨_, rfl⟩
  rw [← hr0]
  have HR0 : Hid (r0 = preL [] (listP c.ts 5 p (c.ts.length - 1 + 1) st)) := by show _ = _; rw [hr0, show c.ts.length - 1 + 1 = c.ts.length by omega]; cases listP c.ts 5 p c.ts.length st <;> rfl
  clear hr0
  go_enter Tryz.func94, Tryz.ntmps94
  go_wp2_with fail
  refine C0.out.mono ?_
  rintro x w1 ⟨v1, tr, i', rfl, ht1, hg1, hi', hle, hlv, hm⟩
  have M1 := hide (MidQ.step (st := st) (trs := []) (acc := []) HGO.out rfl (by simp [lvs]) HR0.out (by omega) hi ha hb hlv hm)
  have F1 := hide (rlist_first (E := 31) hg1 ht1)
  obtain ⟨bx, hv, _, _⟩ := RV_ptr ht1
  subst hv
  clear ht1 hg1 hm hlv C0
  unfold ptrV at *
  go_wp2
  go_loopw [4] (fun v wr => ∃ (trs : List Code) (xs : List Value) (i : Nat), 0 < trs.length ∧ i < c.ts.length ∧ st.i ≤ i ∧ wr.ownsRow w.heap.size 31 1 v trs.length xs ∧ RVs (okv w.heap.size v) wr trs xs ∧ w.grownBy wr (some c.rb) ∧ MidQ c d st 5 p r0 wr trs i) (fun _ wr => c.ts.length - posQ c wr)
  case atStart => exact ⟨[tr], [.pointer (some ⟨bx, 0, none⟩)], i', by simp, hi', hle, F1.out.1, F1.out.2.1, F1.out.2.2, M1.out.kept (fun _ _ _ _ _ h => h.kept (World.grownBy_alloc _ _ _))⟩
  case round =>
    clear M1 F1
    obtain ⟨trs, xs, i, h0, hi1, hsi, hown, hrv, hg, hmid⟩ := hrel
    have HO := hide hown
    have HV := hide hrv
    have HG := hide hg
    clear hown hrv hg
    rcases hmid with ⟨acc, f, st1, h1, rfl, h3, h4, h5, h6, h7, h8⟩ | ⟨en, pl, a', d', b', h1, h2, h3, h4⟩
    · have HE := hide h4
      have HA := hide h1
      have HR := hide h8
      have HPS : Hid (posQ c wr = st1.i) := h8.pos
      clear h1 h4 h8
      by_cases hk : (tk c.ts st1.i).kind = 5
      · have hi2 : st1.i + 1 < c.ts.length := hc.closed.next hi1 (by omega) (by omega)
        obtain ⟨f, rfl⟩ : ∃ f', f = f' + 1 := ⟨f - 1, by omega⟩
        have HF : Hid (r0 = preL acc (listP c.ts 5 p (f + 1) ⟨st1.i + 1, st1.atoms, st1.bad⟩)) := by show _ = _; rw [HE.out, tailL, if_pos hk]
        have HK : Hid (rk (tk c.ts st1.i).kind = 59) := by show _ = _; rw [hk]; rfl
        clear hk
        go_wp2_with fail
        refine (ris_yes c hc _ st1.i _ _ _ _ 59 HR.out hi1 HK.out).mono ?_
        rintro x w2 ⟨rfl, hR2, hG2⟩
        have R2 := hide hR2
        have G2 := hide (grown_trans HG.out hG2)
        have O2 := hide (own_kept HO.out hG2 hrb)
        have V2 := hide (RVs_some HV.out hG2 hrb)
        clear hR2 hG2
        go_wp2_with fail
        refine (HP.out _ ⟨st1.i + 1, st1.atoms, st1.bad⟩ R2.out hi2 h6 h7).mono ?_
        rintro x w3 ⟨v3, tr3, i3, rfl, ht3, hg3, hi3, hle3, hlv3, hm3⟩
        have M3 := hide (MidQ.step (st := st) HGO.out HA.out (by simp; omega) HF.out (by simp; omega) hi2 h6 h7 hlv3 hm3)
        obtain ⟨bx3, hv3, _, _⟩ := RV_ptr ht3
        subst hv3
        have HO1 := hide (own_kept O2.out hg3 hrb)
        have G3 := hide hg3
        have T3 := hide ht3
        simp only at hle3
        clear hg3 ht3 hm3 hlv3
        have hlen : trs.length ≤ 1000 := by
          have a1 := (flats_lv 0 (by decide) HV.out).1
          have a2 := (flats_lv 0 (by decide) HV.out).2.2
          omega
        unfold ptrV at *
        go_wp2_with (at_builtin; refine wpList_append_own_at _ rfl _ _ 165 rfl w.heap.size 31 i0 _ 1 8 Tryz.underlying165 hi0 hz0 hz1 hz2 rfl (by decide) _ _ _ rfl (HO1.out.alloc _) ⟨w3.heap.size, 0, none⟩ 1 1 [.pointer (some ⟨bx3, 0, none⟩)] rfl rfl (cell_one_new _ _ _) ?d2 ?d3 ?d4 ?d5 ?_)
        case d2 => intro u hu; simp only [List.mem_cons, List.not_mem_nil, or_false] at hu; subst hu; rfl
        case d3 => unfold maxLen; omega
        case d4 => omega
        case d5 => have := G2.out.size; have := G3.out.size; simp; omega
        intro v' w4 hown' hgrow _ hat
        obtain ⟨s1, s2, s3, s4⟩ := rlist_step hrb G2.out O2.out V2.out G3.out T3.out hown' hgrow (by simpa using hat)
        have M4 := hide (M3.out.kept (fun _ _ _ _ _ h => (h.kept (World.grownBy_alloc _ _ none)).other hgrow s1 hrb hc))
        have S2 := hide s2
        have S3 := hide s3
        have S4 := hide s4
        have HPS4 : Hid (posQ c w4 = i3) := by
          rcases M4.out with ⟨_, _, _, _, _, _, _, _, _, _, h⟩ | ⟨_, _, _, _, _, _, _, _, h⟩ <;> exact h.pos
        clear hown' hgrow hat s1 s2 s3 s4
        go_wp2
        go_roundw
        case rel => exact ⟨trs ++ [tr3], xs ++ [.pointer (some ⟨bx3, 0, none⟩)], i3, by simp, hi3, by omega, S3.out, S2.out, S4.out, M4.out⟩
        case measure => rw [HPS4.out, HPS.out]; omega
      · have HF : Hid (r0 = .ok (acc, st1)) := by show _ = _; rw [HE.out, tailL, if_neg hk]; simp [preL]
        have HK : Hid (¬ rk (tk c.ts st1.i).kind = 59) := fun e => hk (rk_inj (n := 5) (by decide) (e.trans rfl))
        clear hk
        go_wp2_with fail
        refine (ris_no c hc _ st1.i _ _ _ _ 59 HR.out hi1 HK.out).mono ?_
        rintro x w2 ⟨rfl, hG2⟩
        have G2 := hide hG2
        have hs := Nat.le_trans HG.out.size hG2.size
        have O2 := own_kept HO.out (grown_some hG2) hrb
        have V2 := RVs_some HV.out (grown_some hG2) hrb
        clear hG2
        obtain ⟨g, cap, hv, hj⟩ := rjoined_any 1 (by decide) w.heap.size trs _ xs w2 hs h0 (by omega) O2 V2
        have hlj := rjoin_lv 1 (by decide) V2
        subst hv
        have HJ := hide hj
        clear hj O2 V2
        go_wp2_with fail
        refine HJ.out.mono ?_
        rintro x w4 ⟨v4, rfl, ht4, hg4⟩
        have T4 := hide ht4
        have G4 := hide hg4
        clear ht4 hg4
        go_wp2
        go_ret
        rw [HF.out]
        exact ⟨_, rjoin 1 trs, st1.i, rfl, T4.out, grown_trans HG.out (grown_some (grown_trans G2.out G4.out)), hi1, hsi, by omega, by rw [HA.out, flat_join], rfl, by omega, (HR.out.kept G2.out).kept G4.out⟩
    · have HE := hide h2
      have HEN := hide h1
      have HR := hide h4
      clear h1 h2 h4
      go_wp2_with fail
      refine (ris_later c hc _ _ _ _ _ _ _ _ HEN.out HR.out).mono ?_
      rintro x w2 ⟨rfl, hG2⟩
      have G2 := hide hG2
      have hs := Nat.le_trans HG.out.size hG2.size
      have O2 := own_kept HO.out (grown_some hG2) hrb
      have V2 := RVs_some HV.out (grown_some hG2) hrb
      clear hG2
      obtain ⟨g, cap, hv, hj⟩ := rjoined_any 1 (by decide) w.heap.size trs _ xs w2 hs h0 (by omega) O2 V2
      have hlj := rjoin_lv 1 (by decide) V2
      subst hv
      have HJ := hide hj
      clear hj O2 V2
      go_wp2_with fail
      refine HJ.out.mono ?_
      rintro x w4 ⟨v4, rfl, ht4, hg4⟩
      have T4 := hide ht4
      have G4 := hide hg4
      clear ht4 hg4
      go_wp2
      go_ret
      rw [HE.out]
      exact ⟨_, rjoin 1 trs, i, rfl, T4.out, grown_trans HG.out (grown_some (grown_trans G2.out G4.out)), hi1, hsi, by omega, HEN.out, a', d', b', (HR.out.kept G2.out).kept G4.out⟩
set_option maxRecDepth 100000 in
set_option maxHeartbeats 2000000 in
theorem rseq_later (c : RCtx) (hc : c.Good) (hp : DoesE c 149) : DoesE c 94 := by
  intro w i e p a d b he h hi
  have H := hide (hp w i e p a d b he h hi)
  have R0 := hide h
  have HEN := hide he
  clear h he hp
  go_enter Tryz.func94, Tryz.ntmps94
  go_wp2_with fail
  refine H.out.mono ?_
  rintro x w1 ⟨v, rfl, ht, hg⟩
  have G1 := hide hg
  have R1 := hide (R0.out.kept hg)
  have T1 := hide ht
  obtain ⟨bx, hv, _, _⟩ := RV_ptr ht
  subst hv
  clear hg ht
  have KX : Hid ((w1.alloc (.cells #[ptrV bx] 31)).cell? ⟨w1.heap.size, 0, none⟩ = some (ptrV bx)) := by have h1 := heap_alloc_new w1 (.cells #[ptrV bx] 31); show _ = _; unfold World.cell?; rw [h1]; rfl
  unfold ptrV at *
  go_wp2
  refine wp_loop_rounds 1 ?_
  rw [rounds_succ]
  go_wp2_with fail
  refine (ris_later c hc _ _ _ _ _ _ _ _ HEN.out (R1.out.kept (World.grownBy_alloc _ _ _))).mono ?_
  rintro x w2 ⟨rfl, hg2⟩
  have G2 := hide hg2
  have KX2 := hide (hg2.cell KX.out (by simp))
  clear hg2
  go_wp2_with fail
  refine (joined_one _ _ _ _ _ KX2.out).mono ?_
  rintro x w4 ⟨rfl, hw4⟩
  have W4 := hide hw4
  clear hw4
  go_wp2
  go_ret
  have G5 := grown_trans (World.grownBy_alloc w1 _ none) G2.out
  rw [W4.out]
  exact ⟨_, rfl, RV_kept T1.out G5, grown_trans G1.out G5⟩
set_option maxRecDepth 100000 in
set_option maxHeartbeats 2000000 in
theorem rsum_any (c : RCtx) (hc : c.Good) (d : Int) {p : St → Except (Int × Nat) (Code × St)} (hp : DoesQ c 94 d p) (hgo : Goes c.ts p) :
    DoesQ c 53 d (fun st => joinP 0 (listP c.ts 4 p c.ts.length st)) := by
  intro w st h hi ha hb
  obtain ⟨i0, hi0, hz0, hz1, hz2⟩ := info_parts Tryz.infoNodeP
  have hfew := hc.few
  have hrb := h.lt.1
  have HP := hide hp
  have HGO := hide hgo
  have C0 := hide (hp w st h hi ha hb)
  clear hp hgo h
  show Calls _ _ _ _ (OutQ c d st (joinP 0 (listP c.ts 4 p c.ts.length st)) w)
  obtain ⟨r0, hr0⟩ : ∃ r0, r0 = listP c.ts 4 p c.ts.length st := ⟨_, rfl⟩
  rw [← hr0]
  have HR0 : Hid (r0 = preL [] (listP c.ts 4 p (c.ts.length - 1 + 1) st)) := by show _ = _; rw [hr0, show c.ts.length - 1 + 1 = c.ts.length by omega]; cases listP c.ts 4 p c.ts.length st <;> rfl
  clear hr0
  go_enter Tryz.func53, Tryz.ntmps53
  go_wp2_with fail
  refine C0.out.mono ?_
  rintro x w1 ⟨v1, tr, i', rfl, ht1, hg1, hi', hle, hlv, hm⟩
  have M1 := hide (MidQ.step (st := st) (trs := []) (acc := []) HGO.out rfl (by simp [lvs]) HR0.out (by omega) hi ha hb hlv hm)
  have F1 := hide (rlist_first (E := 31) hg1 ht1)
  obtain ⟨bx, hv, _, _⟩ := RV_ptr ht1
  subst hv
  clear ht1 hg1 hm hlv C0
  unfold ptrV at *
  go_wp2
  go_loopw [4] (fun v wr => ∃ (trs : List Code) (xs : List Value) (i : Nat), 0 < trs.length ∧ i < c.ts.length ∧ st.i ≤ i ∧ wr.ownsRow w.heap.size 31 1 v trs.length xs ∧ RVs (okv w.heap.size v) wr trs xs ∧ w.grownBy wr (some c.rb) ∧ MidQ c d st 4 p r0 wr trs i) (fun _ wr => c.ts.length - posQ c wr)
  case atStart => exact ⟨[tr], [.pointer (some ⟨bx, 0, none⟩)], i', by simp, hi', hle, F1.out.1, F1.out.2.1, F1.out.2.2, M1.out.kept (fun _ _ _ _ _ h => h.kept (World.grownBy_alloc _ _ _))⟩
  case round =>
    clear M1 F1
    obtain ⟨trs, xs, i, h0, hi1, hsi, hown, hrv, hg, hmid⟩ := hrel
    have HO := hide hown
    have HV := hide hrv
    have HG := hide hg
    clear hown hrv hg
    rcases hmid with ⟨acc, f, st1, h1, rfl, h3, h4, h5, h6, h7, h8⟩ | ⟨en, pl, a', d', b', h1, h2, h3, h4⟩
    · have HE := hide h4
      have HA := hide h1
      have HR := hide h8
      have HPS : Hid (posQ c wr = st1.i) := h8.pos
      clear h1 h4 h8
      by_cases hk : (tk c.ts st1.i).kind = 4
      · have hi2 : st1.i + 1 < c.ts.length := hc.closed.next hi1 (by omega) (by omega)
        obtain ⟨f, rfl⟩ : ∃ f', f = f' + 1 := ⟨f - 1, by omega⟩
        have HF : Hid (r0 = preL acc (listP c.ts 4 p (f + 1) ⟨st1.i + 1, st1.atoms, st1.bad⟩)) := by show _ = _; rw [HE.out, tailL, if_pos hk]
        have HK : Hid (rk (tk c.ts st1.i).kind = 43) := by show _ = _; rw [hk]; rfl
        clear hk
        go_wp2_with fail
        refine (ris_yes c hc _ st1.i _ _ _ _ 43 HR.out hi1 HK.out).mono ?_
        rintro x w2 ⟨rfl, hR2, hG2⟩
        have R2 := hide hR2
        have G2 := hide (grown_trans HG.out hG2)
        have O2 := hide (own_kept HO.out hG2 hrb)
        have V2 := hide (RVs_some HV.out hG2 hrb)
        clear hR2 hG2
        go_wp2_with fail
        refine (HP.out _ ⟨st1.i + 1, st1.atoms, st1.bad⟩ R2.out hi2 h6 h7).mono ?_
        rintro x w3 ⟨v3, tr3, i3, rfl, ht3, hg3, hi3, hle3, hlv3, hm3⟩
        have M3 := hide (MidQ.step (st := st) HGO.out HA.out (by simp; omega) HF.out (by simp; omega) hi2 h6 h7 hlv3 hm3)
        obtain ⟨bx3, hv3, _, _⟩ := RV_ptr ht3
        subst hv3
        have HO1 := hide (own_kept O2.out hg3 hrb)
        have G3 := hide hg3
        have T3 := hide ht3
        simp only at hle3
        clear hg3 ht3 hm3 hlv3
        have hlen : trs.length ≤ 1000 := by
          have a1 := (flats_lv 0 (by decide) HV.out).1
          have a2 := (flats_lv 0 (by decide) HV.out).2.2
          omega
        unfold ptrV at *
        go_wp2_with (at_builtin; refine wpList_append_own_at _ rfl _ _ 165 rfl w.heap.size 31 i0 _ 1 8 Tryz.underlying165 hi0 hz0 hz1 hz2 rfl (by decide) _ _ _ rfl (HO1.out.alloc _) ⟨w3.heap.size, 0, none⟩ 1 1 [.pointer (some ⟨bx3, 0, none⟩)] rfl rfl (cell_one_new _ _ _) ?d2 ?d3 ?d4 ?d5 ?_)
        case d2 => intro u hu; simp only [List.mem_cons, List.not_mem_nil, or_false] at hu; subst hu; rfl
        case d3 => unfold maxLen; omega
        case d4 => omega
        case d5 => have := G2.out.size; have := G3.out.size; simp; omega
        intro v' w4 hown' hgrow _ hat
        obtain ⟨s1, s2, s3, s4⟩ := rlist_step hrb G2.out O2.out V2.out G3.out T3.out hown' hgrow (by simpa using hat)
        have M4 := hide (M3.out.kept (fun _ _ _ _ _ h => (h.kept (World.grownBy_alloc _ _ none)).other hgrow s1 hrb hc))
        have S2 := hide s2
        have S3 := hide s3
        have S4 := hide s4
        have HPS4 : Hid (posQ c w4 = i3) := by
          rcases M4.out with ⟨_, _, _, _, _, _, _, _, _, _, h⟩ | ⟨_, _, _, _, _, _, _, _, h⟩ <;> exact h.pos
        clear hown' hgrow hat s1 s2 s3 s4
        go_wp2
        go_roundw
        case rel => exact ⟨trs ++ [tr3], xs ++ [.pointer (some ⟨bx3, 0, none⟩)], i3, by simp, hi3, by omega, S3.out, S2.out, S4.out, M4.out⟩
        case measure => rw [HPS4.out, HPS.out]; omega
      · have HF : Hid (r0 = .ok (acc, st1)) := by show _ = _; rw [HE.out, tailL, if_neg hk]; simp [preL]
        have HK : Hid (¬ rk (tk c.ts st1.i).kind = 43) := fun e => hk (rk_inj (n := 4) (by decide) (e.trans rfl))
        clear hk
        go_wp2_with fail
        refine (ris_no c hc _ st1.i _ _ _ _ 43 HR.out hi1 HK.out).mono ?_
        rintro x w2 ⟨rfl, hG2⟩
        have G2 := hide hG2
        have hs := Nat.le_trans HG.out.size hG2.size
        have O2 := own_kept HO.out (grown_some hG2) hrb
        have V2 := RVs_some HV.out (grown_some hG2) hrb
        clear hG2
        obtain ⟨g, cap, hv, hj⟩ := rjoined_any 0 (by decide) w.heap.size trs _ xs w2 hs h0 (by omega) O2 V2
        have hlj := rjoin_lv 0 (by decide) V2
        subst hv
        have HJ := hide hj
        clear hj O2 V2
        go_wp2_with fail
        refine HJ.out.mono ?_
        rintro x w4 ⟨v4, rfl, ht4, hg4⟩
        have T4 := hide ht4
        have G4 := hide hg4
        clear ht4 hg4
        go_wp2
        go_ret
        rw [HF.out]
        exact ⟨_, rjoin 0 trs, st1.i, rfl, T4.out, grown_trans HG.out (grown_some (grown_trans G2.out G4.out)), hi1, hsi, by omega, by rw [HA.out, flat_join], rfl, by omega, (HR.out.kept G2.out).kept G4.out⟩
    · have HE := hide h2
      have HEN := hide h1
      have HR := hide h4
      clear h1 h2 h4
      go_wp2_with fail
      refine (ris_later c hc _ _ _ _ _ _ _ _ HEN.out HR.out).mono ?_
      rintro x w2 ⟨rfl, hG2⟩
      have G2 := hide hG2
      have hs := Nat.le_trans HG.out.size hG2.size
      have O2 := own_kept HO.out (grown_some hG2) hrb
      have V2 := RVs_some HV.out (grown_some hG2) hrb
      clear hG2
      obtain ⟨g, cap, hv, hj⟩ := rjoined_any 0 (by decide) w.heap.size trs _ xs w2 hs h0 (by omega) O2 V2
      have hlj := rjoin_lv 0 (by decide) V2
      subst hv
      have HJ := hide hj
      clear hj O2 V2
      go_wp2_with fail
      refine HJ.out.mono ?_
      rintro x w4 ⟨v4, rfl, ht4, hg4⟩
      have T4 := hide ht4
      have G4 := hide hg4
      clear ht4 hg4
      go_wp2
      go_ret
      rw [HE.out]
      exact ⟨_, rjoin 0 trs, i, rfl, T4.out, grown_trans HG.out (grown_some (grown_trans G2.out G4.out)), hi1, hsi, by omega, HEN.out, a', d', b', (HR.out.kept G2.out).kept G4.out⟩
set_option maxRecDepth 100000 in
set_option maxHeartbeats 2000000 in
theorem rsum_later (c : RCtx) (hc : c.Good) (hp : DoesE c 94) : DoesE c 53 := by
  intro w i e p a d b he h hi
  have H := hide (hp w i e p a d b he h hi)
  have R0 := hide h
  have HEN := hide he
  clear h he hp
  go_enter Tryz.func53, Tryz.ntmps53
  go_wp2_with fail
  refine H.out.mono ?_
  rintro x w1 ⟨v, rfl, ht, hg⟩
  have G1 := hide hg
  have R1 := hide (R0.out.kept hg)
  have T1 := hide ht
  obtain ⟨bx, hv, _, _⟩ := RV_ptr ht
  subst hv
  clear hg ht
  have KX : Hid ((w1.alloc (.cells #[ptrV bx] 31)).cell? ⟨w1.heap.size, 0, none⟩ = some (ptrV bx)) := by have h1 := heap_alloc_new w1 (.cells #[ptrV bx] 31); show _ = _; unfold World.cell?; rw [h1]; rfl
  unfold ptrV at *
  go_wp2
  refine wp_loop_rounds 1 ?_
  rw [rounds_succ]
  go_wp2_with fail
  refine (ris_later c hc _ _ _ _ _ _ _ _ HEN.out (R1.out.kept (World.grownBy_alloc _ _ _))).mono ?_
  rintro x w2 ⟨rfl, hg2⟩
  have G2 := hide hg2
  have KX2 := hide (hg2.cell KX.out (by simp))
  clear hg2
  go_wp2_with fail
  refine (joined_one _ _ _ _ _ KX2.out).mono ?_
  rintro x w4 ⟨rfl, hw4⟩
  have W4 := hide hw4
  clear hw4
  go_wp2
  go_ret
  have G5 := grown_trans (World.grownBy_alloc w1 _ none) G2.out
  rw [W4.out]
  exact ⟨_, rfl, RV_kept T1.out G5, grown_trans G1.out G5⟩
end Go.Proofs.YtlhkfafdioakeaaGreatDoor
/- Proved here: what the document's reader makes of a field's name; how it goes one deeper. -/
namespace Go.Proofs.YtlhkfafdioakeaaGreatDoor
open Go.RowKit Go.Weft
set_option linter.unusedVariables false
set_option linter.unusedSimpArgs false
def fieldI (b : ByteArray) : Int := match fieldNo b.data.toList with | some f => (f : Int) | none => -1
theorem fieldI_yes {b : ByteArray} (k : Nat) (hk : k < 6) (h : (nameB k).data.toList = b.data.toList) : fieldI b = (k : Int) := by
  unfold fieldI
  rw [← h]
  rcases (show k = 0 ∨ k = 1 ∨ k = 2 ∨ k = 3 ∨ k = 4 ∨ k = 5 by omega) with rfl | rfl | rfl | rfl | rfl | rfl <;> rfl
theorem fieldI_no {b : ByteArray} (h : ∀ j, j < 6 → (nameB j).data.toList ≠ b.data.toList) : fieldI b = -1 := by
  have e : fieldNo b.data.toList = none := by
    unfold fieldNo
    rw [if_neg (fun e => h 0 (by decide) e.symm), if_neg (fun e => h 1 (by decide) e.symm), if_neg (fun e => h 2 (by decide) e.symm), if_neg (fun e => h 3 (by decide) e.symm),
      if_neg (fun e => h 4 (by decide) e.symm), if_neg (fun e => h 5 (by decide) e.symm)]
  unfold fieldI
  rw [e]
set_option maxRecDepth 100000 in
set_option maxHeartbeats 400000 in
theorem rfield_any (b : ByteArray) (w : World) :
    Calls Tryz.prog 242 #[.string b] w fun x w' => x = .returned (.int .i64 (fieldI b)) ∧ w.grownBy w' none := by
  go_enter Tryz.func242, Tryz.ntmps242
  go_wp2
  go_loop [4] (fun i => ∃ (k : Nat), k ≤ 6 ∧ i = .int .i64 k ∧ ∀ j, j < k → (nameB j).data.toList ≠ b.data.toList) (fun i => 6 - (intOf i).toNat)
  case atStart => exact ⟨0, Nat.zero_le _, rfl, fun j hj => by omega⟩
  case round =>
    obtain ⟨k, hk, rfl, he⟩ := hrel
    have HE := hide he
    clear he
    rcases (show k = 0 ∨ k = 1 ∨ k = 2 ∨ k = 3 ∨ k = 4 ∨ k = 5 ∨ k = 6 by omega) with rfl | rfl | rfl | rfl | rfl | rfl | rfl
    · by_cases hb : (nameB 0).data.toList = b.data.toList
      · have hq : (([115, 119] : List UInt8) == b.toList) = true := by rw [beq_iff_eq, ByteArray.toList_eq]; exact hb
        have HB := hide hb
        clear hb
        go_wp2
        go_ret
        exact ⟨by rw [fieldI_yes 0 (by decide) HB.out]; rfl, World.grownBy_alloc _ _ _⟩
      · have hq : (([115, 119] : List UInt8) == b.toList) = false := by rw [beq_eq_false_iff_ne, ByteArray.toList_eq]; exact hb
        have HB := hide hb
        clear hb
        go_wp2
        exact ⟨⟨1, by decide, rfl, not_succ HE.out HB.out⟩, by simp [intOf]⟩
    · by_cases hb : (nameB 1).data.toList = b.data.toList
      · have hq : (([112, 116] : List UInt8) == b.toList) = true := by rw [beq_iff_eq, ByteArray.toList_eq]; exact hb
        have HB := hide hb
        clear hb
        go_wp2
        go_ret
        exact ⟨by rw [fieldI_yes 1 (by decide) HB.out]; rfl, World.grownBy_alloc _ _ _⟩
      · have hq : (([112, 116] : List UInt8) == b.toList) = false := by rw [beq_eq_false_iff_ne, ByteArray.toList_eq]; exact hb
        have HB := hide hb
        clear hb
        go_wp2
        exact ⟨⟨2, by decide, rfl, not_succ HE.out HB.out⟩, by simp [intOf]⟩
    · by_cases hb : (nameB 2).data.toList = b.data.toList
      · have hq : (([116, 121, 112] : List UInt8) == b.toList) = true := by rw [beq_iff_eq, ByteArray.toList_eq]; exact hb
        have HB := hide hb
        clear hb
        go_wp2
        go_ret
        exact ⟨by rw [fieldI_yes 2 (by decide) HB.out]; rfl, World.grownBy_alloc _ _ _⟩
      · have hq : (([116, 121, 112] : List UInt8) == b.toList) = false := by rw [beq_eq_false_iff_ne, ByteArray.toList_eq]; exact hb
        have HB := hide hb
        clear hb
        go_wp2
        exact ⟨⟨3, by decide, rfl, not_succ HE.out HB.out⟩, by simp [intOf]⟩
    · by_cases hb : (nameB 3).data.toList = b.data.toList
      · have hq : (([115, 114, 99] : List UInt8) == b.toList) = true := by rw [beq_iff_eq, ByteArray.toList_eq]; exact hb
        have HB := hide hb
        clear hb
        go_wp2
        go_ret
        exact ⟨by rw [fieldI_yes 3 (by decide) HB.out]; rfl, World.grownBy_alloc _ _ _⟩
      · have hq : (([115, 114, 99] : List UInt8) == b.toList) = false := by rw [beq_eq_false_iff_ne, ByteArray.toList_eq]; exact hb
        have HB := hide hb
        clear hb
        go_wp2
        exact ⟨⟨4, by decide, rfl, not_succ HE.out HB.out⟩, by simp [intOf]⟩
    · by_cases hb : (nameB 4).data.toList = b.data.toList
      · have hq : (([100, 115, 116] : List UInt8) == b.toList) = true := by rw [beq_iff_eq, ByteArray.toList_eq]; exact hb
        have HB := hide hb
        clear hb
        go_wp2
        go_ret
        exact ⟨by rw [fieldI_yes 4 (by decide) HB.out]; rfl, World.grownBy_alloc _ _ _⟩
      · have hq : (([100, 115, 116] : List UInt8) == b.toList) = false := by rw [beq_eq_false_iff_ne, ByteArray.toList_eq]; exact hb
        have HB := hide hb
        clear hb
        go_wp2
        exact ⟨⟨5, by decide, rfl, not_succ HE.out HB.out⟩, by simp [intOf]⟩
    · by_cases hb : (nameB 5).data.toList = b.data.toList
      · have hq : (([116, 97, 103] : List UInt8) == b.toList) = true := by rw [beq_iff_eq, ByteArray.toList_eq]; exact hb
        have HB := hide hb
        clear hb
        go_wp2
        go_ret
        exact ⟨by rw [fieldI_yes 5 (by decide) HB.out]; rfl, World.grownBy_alloc _ _ _⟩
      · have hq : (([116, 97, 103] : List UInt8) == b.toList) = false := by rw [beq_eq_false_iff_ne, ByteArray.toList_eq]; exact hb
        have HB := hide hb
        clear hb
        go_wp2
        exact ⟨⟨6, by decide, rfl, not_succ HE.out HB.out⟩, by simp [intOf]⟩
    · go_wp2
      go_ret
      exact ⟨by rw [fieldI_no HE.out]; rfl, World.grownBy_alloc _ _ _⟩
theorem Rq.drew {c : RCtx} {w : World} {i e p a d b : Int} (h : Rq c w i e p a d b) : Rq c w.drew i e p a d b := ⟨h.row, h.rd⟩
/-- A token passed, and one deeper, where that may be. -/
theorem Rq.deeper {c : RCtx} {w : World} {i e p a d b : Int} (h : Rq c w i e p a d b) (hc : c.Good) (x y : Int) : Rq c ((w.setCell ⟨c.rb, 1, none⟩ (.int .i64 x)).setCell ⟨c.rb, 5, none⟩ (.int .i64 y)) x e p a y b := (h.set1 hc x).set5 hc y
set_option maxRecDepth 100000 in
set_option maxHeartbeats 400000 in
theorem rinner_go (c : RCtx) (hc : c.Good) (w : World) (i : Nat) (a d b : Int) (h : Rq c w i 0 0 a d b) (hi : i + 1 < c.ts.length) (h0 : 0 ≤ d) (hd : d < 12) :
    Calls Tryz.prog 243 #[.pointer (some ⟨c.rb, 0, none⟩)] w fun x w' => x = .returned (.tuple #[]) ∧ Rq c w' (i + 1 : Nat) 0 0 a (d + 1) b ∧ w.grownBy w' (some c.rb) := by
  have c1 : w.cell? ⟨c.rb, 1, none⟩ = some (.int .i64 i) := h.cell 1
  have c5 : w.cell? ⟨c.rb, 5, none⟩ = some (.int .i64 d) := h.cell 5
  have f1 : w.frozen? ⟨c.rb, 1, none⟩ = false := h.frozen 1
  have f5 : w.frozen? ⟨c.rb, 5, none⟩ = false := h.frozen 5
  have hfew := hc.few
  have H := hide h
  clear h
  go_enter Tryz.func243, Tryz.ntmps243
  go_wp2
  go_end0
  exact ⟨rfl, H.out.deeper hc _ _, grown_trans (grown_set _ _ _ _) (grown_set _ _ _ _)⟩
set_option maxRecDepth 100000 in
set_option maxHeartbeats 400000 in
theorem rinner_many (c : RCtx) (hc : c.Good) (w : World) (i : Nat) (a b : Int) (h : Rq c w i 0 0 a 12 b) (hi : i + 1 < c.ts.length) :
    Calls Tryz.prog 243 #[.pointer (some ⟨c.rb, 0, none⟩)] w fun x w' => x = .returned (.tuple #[]) ∧ Rq c w' (i + 1 : Nat) 7 (tk c.ts i).at_ a 13 b ∧ w.grownBy w' (some c.rb) := by
  have c0 : w.cell? ⟨c.rb, 0, none⟩ = some (.slice (some ⟨c.g, 0, none⟩) c.all.length c.cap) := h.cell 0
  have c1 : w.cell? ⟨c.rb, 1, none⟩ = some (.int .i64 i) := h.cell 1
  have c5 : w.cell? ⟨c.rb, 5, none⟩ = some (.int .i64 12) := h.cell 5
  obtain ⟨g0, g1, g2, g3⟩ := hc.cell h (show i < c.ts.length by omega)
  clear g0 g2 g3
  have hfew := hc.few
  have hle := (hc.tk_eq (show i < c.ts.length by omega)).2
  have hl := hc.le
  have hm := hc.cap
  unfold maxLen at hm
  have H := hide h
  clear h
  go_enter Tryz.func243, Tryz.ntmps243
  go_wp2
  go_region_with (go_at_call 54; refine (rfail_first c hc _ i _ _ _ _ 7 _ H.out.drew).mono ?_; rintro x w1 ⟨rfl, hr1, hg1⟩; have R1 := hide hr1; have G1 := hide hg1; clear hr1 hg1)
  all_goals
    have d1 : w1.cell? ⟨c.rb, 1, none⟩ = some (.int .i64 i) := R1.out.cell 1
    have d5 : w1.cell? ⟨c.rb, 5, none⟩ = some (.int .i64 12) := R1.out.cell 5
    have f1 : w1.frozen? ⟨c.rb, 1, none⟩ = false := R1.out.frozen 1
    have f5 : w1.frozen? ⟨c.rb, 5, none⟩ = false := R1.out.frozen 5
    go_wp2
    go_end0
    exact ⟨rfl, R1.out.deeper hc _ _, grown_trans (grown_undrew G1.out) (grown_trans (grown_set _ _ _ _) (grown_set _ _ _ _))⟩
end Go.Proofs.YtlhkfafdioakeaaGreatDoor
/- Proved here: what the document's reader makes of a test or a setting. -/
namespace Go.Proofs.YtlhkfafdioakeaaGreatDoor
open Go.RowKit Go.Weft
set_option linter.unusedVariables false
set_option linter.unusedSimpArgs false
theorem nodeAt.kept {w w' : World} {b rb : Nat} {cs : Array Value} (h : nodeAt w b cs) (hg : w.grownBy w' (some rb)) (hb : rb < b) : nodeAt w' b cs :=
  (hg.block b h.lt (by simp; omega)).trans h
theorem nodeAt.set {w : World} {b : Nat} {cs : Array Value} (h : nodeAt w b cs) (j : Nat) (v : Value) : nodeAt (w.setCell ⟨b, j, none⟩ v) b (cs.setIfInBounds j v) := heap_set h j v
theorem Rq.setn {c : RCtx} {w : World} {i e p a d b : Int} {nb : Nat} (h : Rq c w i e p a d b) (hc : c.Good) (hb : c.rb < nb) (j : Nat) (v : Value) : Rq c (w.setCell ⟨nb, j, none⟩ v) i e p a d b :=
  ⟨by rw [heap_set_ne (by have := hc.lt; omega)]; exact h.row, by rw [heap_set_ne (by omega)]; exact h.rd⟩
theorem grown_node {w0 w : World} {rb nb : Nat} (h : w0.grownBy w (some rb)) (hn : w0.heap.size ≤ nb) (j : Nat) (v : Value) : w0.grownBy (w.setCell ⟨nb, j, none⟩ v) (some rb) :=
  grown_own h (grown_set w nb j v) (fun b e => by cases e; exact hn)
/-- What the document's reader leaves behind a field: a leaf in the node. -/
def OutF (c : RCtx) (d : Int) (st : St) (nb : Nat) (w0 : World) (r : Except (Int × Nat) (Code × St)) (w' : World) : Prop :=
  ∃ n cs i', nodeAt w' nb cs ∧ leafAt n cs ∧ w0.grownBy w' (some c.rb) ∧ i' < c.ts.length ∧ st.i < i' ∧
    match r with
    | .ok (t, st') => t = .exit n ∧ i' = st'.i ∧ Rq c w' (i' : Nat) 0 0 st'.atoms d (badI st'.bad)
    | .error (e, p) => (e == 0) = false ∧ ∃ a' d' b', Rq c w' (i' : Nat) e p a' d' b'
theorem tok_cell {w4 w5 : World} {cs : Array Value} {T : TypeId} {rb : Nat} (hg : (w4.alloc (.cells cs T)).drew.grownBy w5 (some rb)) (hr : rb < w4.heap.size) (j : Nat) : w5.cell? ⟨w4.heap.size, j, none⟩ = cs[j]? := by
  have h1 : (w4.alloc (.cells cs T)).drew.heap[w4.heap.size]? = some (.cells cs T (0, 0)) := heap_alloc_new w4 _
  have h2 := (hg.block w4.heap.size (by show w4.heap.size < (w4.alloc (.cells cs T)).heap.size; simp) (by simp; omega)).trans h1
  simp [World.cell?, h2]
theorem leaf_test (f n : Nat) (hn : n < 32) : #[Value.int .u8 61, .int .i64 (f : Int), .int .i64 (n : Int), .slice none 0 0] = rLeaf (2 + 2 * (32 * f + n)) := by
  unfold rLeaf
  rw [if_neg (by omega), if_neg (by omega), if_pos (by omega)]
  have e1 : (2 + 2 * (32 * f + n) - 2) / 2 / 32 = f := by omega
  have e2 : (2 + 2 * (32 * f + n) - 2) / 2 % 32 = n := by omega
  rw [e1, e2]
theorem leaf_set (f n : Nat) (hn : n < 32) : #[Value.int .u8 58, .int .i64 (f : Int), .int .i64 (n : Int), .slice none 0 0] = rLeaf (3 + 2 * (32 * f + n)) := by
  unfold rLeaf
  rw [if_neg (by omega), if_neg (by omega), if_neg (by omega)]
  have e1 : (3 + 2 * (32 * f + n) - 2) / 2 / 32 = f := by omega
  have e2 : (3 + 2 * (32 * f + n) - 2) / 2 % 32 = n := by omega
  rw [e1, e2]
set_option maxRecDepth 100000 in
set_option maxHeartbeats 2000000 in
theorem rpair_test (c : RCtx) (hc : c.Good) (d : Int) (f : Nat) (w0 w : World) (st : St) (nb : Nat) (h : Rq c w st.i 0 0 st.atoms d (badI st.bad)) (hi : st.i + 2 < c.ts.length) (hf : f ≤ 5) (hA : st.atoms ≤ 15) (hb : c.rb < nb) (hg : w0.grownBy w (some c.rb)) (hn : w0.heap.size ≤ nb)
    (hnd : nodeAt w nb #[.int .u8 100, .int .i64 0, .int .i64 0, .slice none 0 0]) (hs : (f = 0) ∨ ¬ f = 0)
    (hk1 : (tk c.ts (st.i + 1)).kind = 10) (hk2 : (tk c.ts (st.i + 2)).kind = 3) (hv : rNum c.s (tk c.ts (st.i + 2)) ≤ 31) :
    Calls Tryz.prog 245 #[.pointer (some ⟨c.rb, 0, none⟩), ptrV nb, .int .i64 f] w fun x w' => x = .returned (.tuple #[]) ∧ OutF c d st nb w0 (.ok (.exit (2 + 2 * (32 * f + rNum c.s (tk c.ts (st.i + 2)))), ⟨st.i + 3, st.atoms + 1, st.bad⟩)) w' := by
  have c0 : w.cell? ⟨c.rb, 0, none⟩ = some (.slice (some ⟨c.g, 0, none⟩) c.all.length c.cap) := h.cell 0
  have c1 : w.cell? ⟨c.rb, 1, none⟩ = some (.int .i64 st.i) := h.cell 1
  have c4 : w.cell? ⟨c.rb, 4, none⟩ = some (.int .i64 st.atoms) := h.cell 4
  have f1 : w.frozen? ⟨c.rb, 1, none⟩ = false := h.frozen 1
  have f4 : w.frozen? ⟨c.rb, 4, none⟩ = false := h.frozen 4
  obtain ⟨_, a1, _, _⟩ := hc.cell h (show st.i < c.ts.length by omega)
  obtain ⟨b0, _, _, _⟩ := hc.cell h (show st.i + 1 < c.ts.length by omega)
  have hfew := hc.few
  have hle := (hc.tk_eq hi).2
  have hl := hc.le
  have hm := hc.cap
  unfold maxLen at hm
  obtain ⟨l1, l2⟩ := h.lt
  have H := hide h
  have ND := hide hnd
  have G0 := hide hg
  have HK1 := hide hk1
  have HK2 := hide hk2
  have KA : Hid (rk (tk c.ts (st.i + 1)).kind = 61) := by show _ = _; rw [hk1]; rfl
  have KB : Hid (¬ rk (tk c.ts (st.i + 2)).kind = 58) := by show ¬ _; rw [hk2]; decide
  have KC : Hid (rk (tk c.ts (st.i + 2)).kind = 110) := by show _ = _; rw [hk2]; rfl
  rw [hk1] at b0
  clear h hnd hg hk1 hk2
  unfold ptrV
  have hgd : ((f : Int) == 0) = false ∨ f = 0 := by rcases hs with h | h; exact .inr h; exact .inl (by simp; omega)
  clear hs
  rcases hgd with hf0 | rfl
  all_goals
    go_enter Tryz.func245, Tryz.ntmps245
    go_wp2
    go_quiet (fail)
    go_wp2
    go_quiet (fail)
    go_wp2_with fail
    refine (ris_yes c hc _ (st.i + 1) _ _ _ _ 61 ((((H.out.drewN _).set1 hc _).drewN _).set4 hc _) (by omega) KA.out).mono ?_
    rintro x w2 ⟨rfl, hR2, hG2⟩
    have R2 := hide hR2
    have G2 := hide (grown_trans (grown_trans (grown_trans (grown_trans (grown_drewN G0.out _) (grown_set _ _ _ _)) (grown_drewN (grown_refl _ _) _)) (grown_set _ _ _ _)) hG2)
    have ND2 := hide (nodeAt.kept ND.out (grown_trans (grown_trans (grown_trans (grown_drewN (grown_refl _ _) _) (grown_set _ _ _ _)) (grown_drewN (grown_refl _ _) _)) (grown_trans (grown_set _ _ _ _) hG2)) hb)
    clear hR2 hG2 c0 c1 c4 f1 f4 a1 b0
    go_wp2_with fail
    refine (ris_no c hc _ (st.i + 2) _ _ _ _ 58 R2.out hi KB.out).mono ?_
    rintro x w3 ⟨rfl, hG3⟩
    have R3 := hide (R2.out.kept hG3)
    have G3 := hide (grown_trans G2.out (grown_some hG3))
    have ND3 := hide (nodeAt.kept ND2.out (grown_some hG3) hb)
    have n0 : w3.cell? ⟨nb, 0, none⟩ = some (.int .u8 100) := ND3.out.cell 0
    have q0 : w3.frozen? ⟨nb, 0, none⟩ = false := ND3.out.frozen 0
    clear hG3
    have R4 := hide (R3.out.setn hc hb 0 (.int .u8 61))
    have ND4 := hide (nodeAt.set ND3.out 0 (.int .u8 61))
    have G4 := hide (grown_node G3.out hn 0 (.int .u8 61))
    go_wp2
    obtain ⟨w4, hw4⟩ : ∃ w4, w4 = w3.setCell ⟨nb, 0, none⟩ (.int .u8 61) := ⟨_, rfl⟩
    rw [← hw4] at R4 ND4 G4 ⊢
    clear hw4 n0 q0
    obtain ⟨i2, hi2⟩ : ∃ i2, i2 = st.i + 2 := ⟨_, rfl⟩
    rw [← hi2] at R4 KC hi
    have c0 : w4.cell? ⟨c.rb, 0, none⟩ = some (.slice (some ⟨c.g, 0, none⟩) c.all.length c.cap) := R4.out.cell 0
    have c1 : w4.cell? ⟨c.rb, 1, none⟩ = some (.int .i64 i2) := R4.out.cell 1
    obtain ⟨e0, e1, e2, e3⟩ := hc.cell R4.out hi
    have hle2 := (hc.tk_eq hi).2
    obtain ⟨l3, l4⟩ := R4.out.lt
    have HI2 := hide hi2
    clear hi2
    go_region
    have HAL := hide (World.grownBy_alloc w4 (.cells #[.int .u8 (rk (tk c.ts i2).kind), .int .i64 ((tk c.ts i2).at_ : Int), .string (rTxt c.s (tk c.ts i2)), .int .i64 (rNum c.s (tk c.ts i2) : Int)] 123) none)
    clear c0 c1 e0 e1 e2 e3
    go_wp2_with fail
    refine (ris_yes c hc _ i2 _ _ _ _ 110 ((R4.out.kept HAL.out).drew) hi KC.out).mono ?_
    rintro x w5 ⟨rfl, hR5, hG5⟩
    rw [show i2 + 1 = st.i + 3 by have := HI2.out; omega] at hR5
    have R5 := hide hR5
    have G5 := hide (grown_trans G4.out (grown_trans (grown_drew (grown_some HAL.out)) hG5))
    have ND5 := hide (nodeAt.kept ND4.out (grown_trans (grown_drew (grown_some HAL.out)) hG5) hb)
    have n1 : w5.cell? ⟨nb, 1, none⟩ = some (.int .i64 0) := ND5.out.cell 1
    have q1 : w5.frozen? ⟨nb, 1, none⟩ = false := ND5.out.frozen 1
    have n2 : w5.cell? ⟨nb, 2, none⟩ = some (.int .i64 0) := ND5.out.cell 2
    have q2 : w5.frozen? ⟨nb, 2, none⟩ = false := ND5.out.frozen 2
    have t1 := tok_cell hG5 l3 1
    have t3 := tok_cell hG5 l3 3
    have hne : nb ≠ w4.heap.size := by have := ND4.out.lt; omega
    clear hR5 hG5
    simp at t1 t3
    have hvv : rNum c.s (tk c.ts i2) ≤ 31 := by rw [HI2.out]; exact hv
    go_wp2
    go_end0
    refine ⟨rfl, _, _, st.i + 3, (ND5.out.set 1 _).set 2 _, ?_, grown_node (grown_node G5.out hn _ _) hn _ _, ?_, by omega, rfl, rfl, ?_⟩
    · rw [← HI2.out]; exact .inl ⟨by omega, leaf_test _ _ (by omega)⟩
    · exact hc.closed.next (by have := HI2.out; omega) (by rw [HK2.out]; decide) (by rw [HK2.out]; decide)
    · exact (R5.out.setn hc hb _ _).setn hc hb _ _
end Go.Proofs.YtlhkfafdioakeaaGreatDoor
/- Plain facts: trees that were read are whole; taking sums into sums leaves tests tests. -/
namespace Go.Proofs.YtlhkfafdioakeaaGreatDoor
open Go.RowKit Go.Weft
set_option linter.unusedVariables false
set_option linter.unusedSimpArgs false
/-- Whole trees, and whole chains. -/
def wfC : Code → Bool × Bool
  | .exit _ => (true, false)
  | .loop t => ((wfC t).1, false)
  | .scope t => ((wfC t).1, false)
  | .block _ l => ((wfC l).2, false)
  | .seq a b => (false, (wfC a).1 && (wfC b).2)
  | .skip => (false, true)
  | _ => (false, false)
theorem wf_chain : ∀ l : List Code, (∀ t, t ∈ l → (wfC t).1 = true) → (wfC (chain l)).2 = true
  | [], _ => rfl
  | t :: l, h => by
    show ((wfC t).1 && (wfC (chain l)).2) = true
    rw [h t (by simp), wf_chain l (fun x hx => h x (by simp [hx]))]
    rfl
theorem wf_join (k : Nat) (l : List Code) (h : ∀ t, t ∈ l → (wfC t).1 = true) : (wfC (joinC k l)).1 = true := by
  match l with
  | [t] => exact h t (by simp)
  | [] => rfl
  | a :: b :: l => exact wf_chain (a :: b :: l) h
def Wf (p : St → Except (Int × Nat) (Code × St)) : Prop := ∀ st t st', p st = .ok (t, st') → (wfC t).1 = true
section
variable {s : ByteArray} {ts : List Tok}
theorem wf_star : ∀ n t i, (wfC t).1 = true → (wfC (starLoop ts n t i).1).1 = true
  | 0, t, i, h => h
  | n + 1, t, i, h => by
    rw [starLoop]
    split
    · exact wf_star n (.loop t) (i + 1) h
    · exact h
theorem wf_part {p : St → Except (Int × Nat) (Code × St)} (h : Wf p) : Wf (partP ts p) := by
  intro st t st' hp
  unfold partP at hp
  split at hp
  · cases hp
  · rename_i t1 st1 e1
    cases hp
    exact wf_star _ _ _ (h st t1 st1 e1)
theorem wf_list {p : St → Except (Int × Nat) (Code × St)} (h : Wf p) (sep : Int) : ∀ n st l st', listP ts sep p n st = .ok (l, st') → ∀ t, t ∈ l → (wfC t).1 = true
  | 0, st, l, st', hp => by
    rw [listP] at hp
    cases hp
    intro t ht
    cases ht
  | n + 1, st, l, st', hp => by
    rw [listP] at hp
    split at hp
    · cases hp
    · rename_i t1 st1 e1
      have h1 := h st t1 st1 e1
      split at hp
      · split at hp
        · cases hp
        · rename_i l2 st2 e2
          cases hp
          intro t ht
          rcases List.mem_cons.1 ht with rfl | ht
          · exact h1
          · exact wf_list h sep n _ l2 _ e2 t ht
      · cases hp
        intro t ht
        rcases List.mem_cons.1 ht with rfl | ht
        · exact h1
        · cases ht
theorem wf_joinP {k : Nat} {r : Except (Int × Nat) (List Code × St)} {t : Code} {st' : St} (h : joinP k r = .ok (t, st')) (hr : ∀ l st, r = .ok (l, st) → ∀ t, t ∈ l → (wfC t).1 = true) : (wfC t).1 = true := by
  unfold joinP at h
  split at h
  · cases h
  · rename_i l st
    cases h
    exact wf_join k l (hr l _ rfl)
theorem wf_seq {p : St → Except (Int × Nat) (Code × St)} (h : Wf p) : Wf (seqP ts p) := fun st t st' hp => wf_joinP hp (fun l st2 e => wf_list (wf_part h) 5 _ _ l st2 e)
theorem wf_sum {p : St → Except (Int × Nat) (Code × St)} (h : Wf p) : Wf (sumP ts p) := fun st t st' hp => wf_joinP hp (fun l st2 e => wf_list (wf_seq h) 4 _ _ l st2 e)
theorem wf_word : Wf (wordP s ts) := by
  intro st t st' hp
  unfold wordP at hp
  split at hp
  · cases hp; rfl
  · split at hp
    · cases hp; rfl
    · split at hp
      · cases hp
      · unfold pairP at hp
        repeat' split at hp
        all_goals first | (cases hp; done) | (cases hp; unfold leafC; split <;> rfl)
theorem wf_atom : ∀ d, Wf (atomP s ts d)
  | 0 => by
    intro st t st' hp
    unfold atomP at hp
    split at hp
    · exact wf_word st t st' hp
    · repeat' split at hp
      all_goals cases hp
  | d + 1 => by
    intro st t st' hp
    unfold atomP at hp
    split at hp
    · exact wf_word st t st' hp
    · split at hp
      · unfold notP at hp
        split at hp
        · cases hp
        · rename_i t1 st1 e1
          cases hp
          exact wf_atom d _ t1 st1 e1
      · split at hp
        · unfold brackP at hp
          split at hp
          · cases hp
          · rename_i t1 st1 e1
            split at hp
            · cases hp
              exact wf_sum (wf_atom d) _ _ st1 e1
            · cases hp
        · cases hp
end
theorem isT_chain : ∀ l : List Code, isT (chain l) = l.all isT
  | [] => rfl
  | t :: l => by show (isT t && isT (chain l)) = _; rw [isT_chain l]; rfl
theorem isT_elems_wf : ∀ l : Code, (wfC l).2 = true → (elems l).all isT = isT l
  | .skip, _ => rfl
  | .seq a b, h => by
    have h' : ((wfC a).1 && (wfC b).2) = true := h
    rw [Bool.and_eq_true] at h'
    show (a :: elems b).all isT = (isT a && isT b)
    rw [List.all_cons, isT_elems_wf b h'.2]
theorem wf_elems : ∀ l : Code, (wfC l).2 = true → ∀ t, t ∈ elems l → (wfC t).1 = true
  | .skip, _, t, ht => by cases ht
  | .seq a b, h, t, ht => by
    have h' : ((wfC a).1 && (wfC b).2) = true := h
    rw [Bool.and_eq_true] at h'
    rcases List.mem_cons.1 (show t ∈ a :: elems b from ht) with rfl | ht
    · exact h'.1
    · exact wf_elems b h'.2 t ht
theorem isT_flatE (k : Nat) (t : Code) (h : (wfC t).1 = true) : (flatE k t).all isT = isT t := by
  unfold flatE
  split
  · rename_i k' l
    split
    · exact isT_elems_wf l h
    · simp
  · simp
theorem wf_flatE (k : Nat) (t : Code) (h : (wfC t).1 = true) : ∀ x, x ∈ flatE k t → (wfC x).1 = true := by
  unfold flatE
  split
  · rename_i k' l
    split
    · exact wf_elems l h
    · intro x hx
      rw [List.mem_singleton] at hx
      rw [hx]; exact h
  · intro x hx
    rw [List.mem_singleton] at hx
    rw [hx]; exact h
theorem all_flatE (k : Nat) : ∀ l : List Code, (∀ t, t ∈ l → (wfC t).1 = true) → (l.flatMap (flatE k)).all isT = l.all isT
  | [], _ => rfl
  | t :: l, h => by
    rw [List.flatMap_cons, List.all_append, List.all_cons, isT_flatE k t (h t (by simp)), all_flatE k l (fun x hx => h x (by simp [hx]))]
theorem isT_rjoin (k : Nat) (l : List Code) (h : ∀ t, t ∈ l → (wfC t).1 = true) : isT (rjoin k l) = l.all isT := by
  unfold rjoin
  split
  · simp
  · show isT (chain _) = _
    rw [isT_chain, all_flatE k l h]
theorem wf_rjoin (k : Nat) (l : List Code) (h : ∀ t, t ∈ l → (wfC t).1 = true) : (wfC (rjoin k l)).1 = true := by
  unfold rjoin
  split
  · exact h _ (by simp)
  · refine wf_chain _ (fun t ht => ?_)
    obtain ⟨x, hx, hy⟩ := List.mem_flatMap.1 ht
    exact wf_flatE k x (h x hx) t hy
theorem flat_facts : ∀ t : Code, ((wfC t).1 = true → isT (flatP t).1 = isT t ∧ (wfC (flatP t).1).1 = true) ∧ ((wfC t).2 = true → (flatP t).2.all isT = isT t ∧ ∀ x, x ∈ (flatP t).2 → (wfC x).1 = true) := by
  intro t
  induction t with
  | exit n => exact ⟨fun _ => ⟨rfl, rfl⟩, fun h => by cases h⟩
  | skip => exact ⟨fun h => (by cases h), fun _ => ⟨rfl, fun x hx => by cases hx⟩⟩
  | loop t ih => exact ⟨fun h => ⟨rfl, (ih.1 h).2⟩, fun h => by cases h⟩
  | scope t ih => exact ⟨fun h => ⟨rfl, (ih.1 h).2⟩, fun h => by cases h⟩
  | block k l ih =>
    refine ⟨fun h => ?_, fun h => by cases h⟩
    have hl := ih.2 h
    exact ⟨(isT_rjoin k _ hl.2).trans hl.1, wf_rjoin k _ hl.2⟩
  | seq a b iha ihb =>
    refine ⟨fun h => (by cases h), fun h => ?_⟩
    have h' : ((wfC a).1 && (wfC b).2) = true := h
    rw [Bool.and_eq_true] at h'
    have ha := iha.1 h'.1
    have hb := ihb.2 h'.2
    refine ⟨?_, fun x hx => ?_⟩
    · show ((flatP a).1 :: (flatP b).2).all isT = (isT a && isT b)
      rw [List.all_cons, ha.1, hb.1]
    · rcases List.mem_cons.1 (show x ∈ (flatP a).1 :: (flatP b).2 from hx) with rfl | hx
      · exact ha.2
      · exact hb.2 x hx
  | _ => exact ⟨fun h => (by cases h), fun h => by cases h⟩
theorem isT_flat {t : Code} (h : (wfC t).1 = true) : isT (flat t) = isT t := ((flat_facts t).1 h).1
end Go.Proofs.YtlhkfafdioakeaaGreatDoor
