/- Proved here: a law of our own: bytes of a string are put behind bytes that lie in a row of the call's own, of which nothing within its capacity is frozen. -/
import Derived.Test.YtlhkfafdioakeaaRwC
import Derived.Test.YtlhkfafdioakeaaCodC
import Derived.Lib.ConvBytes
import Derived.Lib.AppendStr
import Derived.Laws.IdiomCopy
namespace Go.Proofs.Ytlhkfafdioakeaa
open Go.RowKit
set_option linter.unusedVariables false
set_option linter.unusedSimpArgs false
/-- Bytes in a row of the call's own, told cell by cell. -/
structure BCell (base : Nat) (w : World) (g cp : Nat) (bs : List Int) : Prop where
  lo : base ≤ g
  lt : g < w.heap.size
  room : bs.length ≤ cp
  cell : ∀ i, i < bs.length → w.cell? ⟨g, i, none⟩ = some (.int .u8 (bs.getD i 0))
  there : ∀ i, i < cp → (w.cell? ⟨g, i, none⟩).isSome = true
  free : ∀ i, i < cp → w.frozen? ⟨g, i, none⟩ = false
theorem BCell.grown {base g cp : Nat} {w w' : World} {bs : List Int} (h : BCell base w g cp bs) (hg : w.grownBy w' none) : BCell base w' g cp bs := by
  have e : w'.heap[g]? = w.heap[g]? := hg.block g h.lt (by simp)
  have ec : ∀ j, w'.cell? ⟨g, j, none⟩ = w.cell? ⟨g, j, none⟩ := fun j => World.cell?_of_block (w := w) e
  have ef : ∀ j, w'.frozen? ⟨g, j, none⟩ = w.frozen? ⟨g, j, none⟩ := fun j => World.frozen?_of_block (w := w) e
  exact ⟨h.lo, Nat.lt_of_lt_of_le h.lt hg.size, h.room, fun j hj => by rw [ec]; exact h.cell j hj, fun j hj => by rw [ec]; exact h.there j hj, fun j hj => by rw [ef]; exact h.free j hj⟩
/-- The bytes of a string, as numbers. -/
def numB (s : ByteArray) : List Int := s.data.toList.map fun b => (b.toNat : Int)
theorem numB_len (s : ByteArray) : (numB s).length = s.size := by unfold numB; rw [List.length_map, ← Lib.size_eq]
theorem strCells_numB (s : ByteArray) : Lib.strCells s = (numB s).map (Value.int .u8) := by
  unfold Lib.strCells numB
  rw [List.map_map]
  rfl
theorem numB_strB (l : List Int) (h : isB l) : numB (strB l) = l := by
  unfold numB strB
  simp only [List.map_map]
  conv => rhs; rw [← List.map_id l]
  apply List.map_congr_left
  intro x hx
  exact u8_nat x (h x hx)
theorem setCells_grown (g : Nat) : ∀ (vs : List Value) (o : Nat) (w : World), w.grownBy (w.setCells g o vs) (some g)
  | [], o, w => grown_refl _ _
  | v :: vs, o, w => by
    unfold World.setCells
    exact grown_trans (grown_set _ _ _ _) (setCells_grown g vs (o + 1) _)
theorem getD_map (l : List Int) (i : Nat) (h : i < (l.map (Value.int .u8)).length) : (l.map (Value.int .u8))[i] = .int .u8 (l.getD i 0) := by
  have hi : i < l.length := by simpa using h
  simp [List.getD, hi]
set_option maxRecDepth 100000 in
set_option maxHeartbeats 1000000 in
theorem appendStr {base g cp : Nat} {w : World} {bs : List Int} (ty : TypeId) (s : ByteArray) (h : BCell base w g cp bs) (hb : base ≤ w.heap.size) (hl : bs.length + s.size ≤ 1000000) :
    ∃ g' cp' w', (Builtin.append_ #[64, 9] ty #[.slice (some ⟨g, 0, none⟩) bs.length cp, .string s]).run Try.prog w = .ok (.slice (some ⟨g', 0, none⟩) (bs.length + s.size) cp') w' ∧ BCell base w' g' cp' (bs ++ numB s) ∧ w.grownBy w' (some g) := by
  obtain ⟨i0, hi0, hz0, hz1, hz2⟩ := info_parts Try.infoU8
  have hu : Try.prog.underlying 9 = some .string := by kernel_rfl
  have ht := Try.underlying64
  have hnl := numB_len s
  by_cases hroom : bs.length + s.size ≤ cp
  · have hf := Lib.run_firstCells_string (P := Try.prog) w 1 s
    have hst := run_storeCells_cells (P := Try.prog) g bs.length (Lib.strCells s) 0 w (fun j hj => by rw [Nat.add_zero]; exact h.there _ (by rw [Lib.strCells_length] at hj; omega)) (fun j hj => by rw [Nat.add_zero]; exact h.free _ (by rw [Lib.strCells_length] at hj; omega)) (Lib.strCells_oneCell s)
    rw [Nat.add_zero] at hst
    have hlen : (Lib.strCells s).length = s.size := Lib.strCells_length s
    refine ⟨g, cp, w.setCells g bs.length (Lib.strCells s), ?_, ⟨h.lo, Nat.lt_of_lt_of_le h.lt (setCells_grown _ _ _ _).size, ?_, fun i hi => ?_, fun i hi => ?_, fun i hi => ?_⟩, setCells_grown _ _ _ _⟩
    · simp [Builtin.append_, run_underlying ht, run_underlying hu, sizeOf, typeInfo, hi0, hz1, Builtin.lenOf, hroom, hf, Addr.add_lit, hst]
    · rw [List.length_append]; omega
    · rw [List.length_append] at hi
      by_cases e : i < bs.length
      · rw [World.cell?_setCells_out g _ _ w _ (fun _ _ => .inl e), h.cell i e, getD_left e]
      · have hin := World.cell?_setCells_in g (Lib.strCells s) bs.length w (fun j hj => h.there _ (by omega)) (i - bs.length) (by omega)
        rw [show bs.length + (i - bs.length) = i by omega] at hin
        rw [hin, getD_right (by omega)]
        congr 1
        have e2 : (Lib.strCells s)[i - bs.length]'(by omega) = ((numB s).map (Value.int .u8))[i - bs.length]'(by simp; omega) := by congr 1; exact strCells_numB s
        rw [e2, getD_map]
    · by_cases e : i < bs.length ∨ bs.length + s.size ≤ i
      · rw [World.cell?_setCells_out g _ _ w _ (fun _ _ => by rw [hlen]; exact e)]
        exact h.there i hi
      · have hin := World.cell?_setCells_in g (Lib.strCells s) bs.length w (fun j hj => h.there _ (by omega)) (i - bs.length) (by omega)
        rw [show bs.length + (i - bs.length) = i by omega] at hin
        rw [hin]
        rfl
    · rw [World.frozen?_setCells]; exact h.free i hi
  · have holds : ∀ j v, (bs.map (Value.int .u8))[j]? = some v → w.cell? ((⟨g, 0, none⟩ : Addr).add j) = some v := fun j v hj => by
      have hj2 : j < bs.length := by have := (List.getElem?_eq_some_iff.1 hj).1; simpa using this
      rw [addr_add, h.cell j hj2]
      rw [List.getElem?_eq_getElem (by simpa using hj2), getD_map] at hj
      exact hj
    have hr := Lib.run_append_grow_string (P := Try.prog) w 64 9 ty 5 i0 (.int .u8 0) ht hu hi0 hz0 ⟨g, 0, none⟩ bs.length cp (bs.map (Value.int .u8)) (by rw [hz1]; simp) holds s (by omega) (by omega) (by rw [hz2]; exact growslice_fits (by omega) (by omega))
    have hge := grownCap_ge w (bs.length + s.size) cp 5
    refine ⟨w.heap.size, _, _, hr, ?_, ⟨rfl, rfl, rfl, by simp, fun k hk _ => heap_alloc_old w.drew _ hk⟩⟩
    obtain ⟨wn, hwn⟩ : ∃ wn, wn = w.drew.alloc (.cells ((bs.map (Value.int .u8)).toArray ++ (Lib.strCells s).toArray ++ Builtin.zeroCells (Value.int .u8 0).cells (grownCap w (bs.length + s.size) cp 5 - (bs.length + s.size))) 5) := ⟨_, rfl⟩
    rw [← hwn]
    have hblk : wn.heap[w.heap.size]? = some (.cells ((bs.map (Value.int .u8)).toArray ++ (Lib.strCells s).toArray ++ Builtin.zeroCells (Value.int .u8 0).cells (grownCap w (bs.length + s.size) cp 5 - (bs.length + s.size))) 5 (0, 0)) := by rw [hwn]; exact heap_alloc_new w.drew _
    have hsz : ((bs.map (Value.int .u8)).toArray ++ (Lib.strCells s).toArray ++ Builtin.zeroCells (Value.int .u8 0).cells (grownCap w (bs.length + s.size) cp 5 - (bs.length + s.size))).size = grownCap w (bs.length + s.size) cp 5 := by
      have hz1 : (Value.int IntKind.u8 0).cells.size = 1 := rfl
      simp only [Array.size_append, List.size_toArray, size_zeroCells, hz1, List.length_map, Lib.strCells_length]
      omega
    have hpre : (bs.map (Value.int .u8)).toArray ++ (Lib.strCells s).toArray = ((bs ++ numB s).map (Value.int .u8)).toArray := by rw [strCells_numB, List.map_append]; simp
    rw [hpre] at hblk hsz
    generalize Builtin.zeroCells (Value.int .u8 0).cells (grownCap w (bs.length + s.size) cp 5 - (bs.length + s.size)) = zs at *
    generalize grownCap w (bs.length + s.size) cp 5 = C at *
    clear hwn hr hpre holds
    refine ⟨hb, (Array.getElem?_eq_some_iff.1 hblk).1, by rw [List.length_append]; omega, fun i hi => ?_, fun i hi => ?_, fun i hi => ?_⟩
    · have hi2 : i < ((bs ++ numB s).map (Value.int .u8)).toArray.size := by rw [List.size_toArray, List.length_map]; exact hi
      have : (((bs ++ numB s).map (Value.int .u8)).toArray ++ zs)[i]? = some (.int .u8 ((bs ++ numB s).getD i 0)) := by
        rw [Array.getElem?_append_left hi2, Array.getElem?_eq_getElem hi2, List.getElem_toArray, getD_map]
      unfold World.cell?
      simp only [hblk]
      simpa using this
    · unfold World.cell?
      simp only [hblk]
      have : i < (((bs ++ numB s).map (Value.int .u8)).toArray ++ zs).size := by omega
      simp only [Array.getElem?_eq_getElem this]
      rfl
    · unfold World.frozen?
      simp [hblk]

/-- At the operation, for the walk. -/
theorem wpList_appendStr {w : World} {ops : Array Oper} {rest : List Oper} {o : Oper} {a : Act} {Q : Exit → Act → World → Prop} (hgd : o.guard = none) (sl x : Operand)
    (ho : o.op = .call { callee := .builtin .append, args := #[sl, x], argTypes := #[64, 9] })
    {base g cp : Nat} {bs : List Int} (n : Nat) (hn : n = bs.length) (hs : a.eval sl = .slice (some ⟨g, 0, none⟩) n cp) (h : BCell base w g cp bs) (s : ByteArray) (hx : a.eval x = .string s) (hb : base ≤ w.heap.size) (hl : bs.length + s.size ≤ 1000000)
    (hK : ∀ g' cp' w', BCell base w' g' cp' (bs ++ numB s) → w.grownBy w' (some g) → wpList Try.prog ops Q rest (a.put o.dst (.slice (some ⟨g', 0, none⟩) (bs.length + s.size) cp')) w') :
    wpList Try.prog ops Q (o :: rest) a w := by
  subst hn
  refine wpList_plain hgd fun K hK' => ?_
  obtain ⟨g', cp', w', hrun, r1, r2⟩ := appendStr (o.type) s h hb hl
  unfold Oper.wp
  simp [execOp, ho, resolve, invoke, builtin, hs, hx, hrun, Result.andThen]
  exact hK' _ _ (hK g' cp' w' r1 r2)
theorem BCell.str {base g cp : Nat} {w : World} {bs : List Int} (h : BCell base w g cp bs) (n : Nat) (hn : n = bs.length) : (convert 64 9 (.slice (some ⟨g, 0, none⟩) n cp)).run Try.prog w = .ok (strI bs) w := by
  subst hn
  rw [run_convert_bytes_string w 64 9 5 _ _ _ (by kernel_rfl) (by kernel_rfl) (by kernel_rfl)]
  have hl := run_loadCells_list (P := Try.prog) w ⟨g, 0, none⟩ (bs.map (Value.int .u8)) (fun j v hj => by
    have hj2 : j < bs.length := by have := (List.getElem?_eq_some_iff.1 hj).1; simpa using this
    rw [addr_add, h.cell j hj2]
    rw [List.getElem?_eq_getElem (by simpa using hj2), getD_map] at hj
    exact hj)
  rw [List.length_map] at hl
  rw [run_bytesToString w _ _ _ bs hl, fold_bytes]
  unfold strI
  simp
set_option maxRecDepth 100000 in
theorem BCell.conv (w : World) (s : ByteArray) : ∃ cp, (convert 9 64 (.string s)).run Try.prog w = .ok (.slice (some ⟨w.heap.size, 0, none⟩) s.size cp) (Lib.bytesWorld w 5 s) ∧ BCell w.heap.size (Lib.bytesWorld w 5 s) w.heap.size cp (numB s) ∧ w.grownBy (Lib.bytesWorld w 5 s) none := by
  have hr := Lib.run_convert_string_bytes (P := Try.prog) w 9 64 5 s (u := .string) (by kernel_rfl) (by kernel_rfl) (by kernel_rfl)
  have hge := grownCap_ge w s.size 0 5
  have hsz : (Lib.bytesCells w 5 s).size = grownCap w s.size 0 5 := by
    unfold Lib.bytesCells
    rw [Array.size_append, Array.size_map, Array.size_replicate]
    have : s.data.size = s.size := rfl
    omega
  have hnew := Lib.bytesWorld_at_new w 5 s
  refine ⟨_, hr, ⟨Nat.le_refl _, by rw [Lib.bytesWorld_size]; omega, by rw [numB_len]; exact hge, fun i hi => ?_, fun i hi => ?_, fun i hi => ?_⟩, ⟨rfl, rfl, rfl, by rw [Lib.bytesWorld_size]; omega, fun k hk _ => Lib.bytesWorld_at_old w _ s k hk⟩⟩
  · rw [numB_len] at hi
    rw [Lib.bytesWorld_cell w _ s i hi]
    congr 2
    unfold numB
    have hi2 : i < s.data.toList.length := by rw [← Lib.size_eq]; exact hi
    have hi3 : i < s.data.size := by simpa using hi2
    simp [List.getD]
    rw [Array.getElem?_eq_getElem hi3]
    rfl
  · unfold World.cell?
    simp only [hnew]
    have : i < (Lib.bytesCells w 5 s).size := by omega
    simp only [Array.getElem?_eq_getElem this]
    rfl
  · unfold World.frozen?
    simp only [hnew]
    simp
    omega
end Go.Proofs.Ytlhkfafdioakeaa
