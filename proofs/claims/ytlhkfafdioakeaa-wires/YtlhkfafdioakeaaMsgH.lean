/- Proved here: how several packets are read. -/
import Derived.Test.YtlhkfafdioakeaaMsgG
namespace Go.Proofs.Ytlhkfafdioakeaa
open Go.RowKit
set_option linter.unusedVariables false
set_option linter.unusedSimpArgs false
theorem Try.infoPk : (Try.prog.info? 27).map (fun i => (i.zero, i.size, i.bytes)) = some (some (.agg #[.int .i64 0, .int .i64 0, .int .i64 0, .int .i64 0, .int .i64 0, .int .i64 0]), 6, 48) := by kernel_rfl
def pkL (k : Nat → Int) : List Value := [.int .i64 (k 0), .int .i64 (k 1), .int .i64 (k 2), .int .i64 (k 3), .int .i64 (k 4), .int .i64 (k 5)]
def pcells (n : Nat) (ps : Nat → Nat → Int) : List Value := (List.range n).flatMap fun j => pkL (ps j)
theorem pcells_succ (n : Nat) (ps : Nat → Nat → Int) : pcells (n + 1) ps = pcells n ps ++ pkL (ps n) := by simp [pcells, List.range_succ]
theorem pcells_len (n : Nat) (ps : Nat → Nat → Int) : (pcells n ps).length = n * 6 := by
  induction n with
  | zero => rfl
  | succ n ih => rw [pcells_succ, List.length_append, ih]; simp [pkL]; omega
theorem pcells_get (n : Nat) (ps : Nat → Nat → Int) (j : Nat) (hj : j < n) (i : Nat) (hi : i < 6) : (pcells n ps)[j * 6 + i]? = some (.int .i64 (ps j i)) := by
  induction n with
  | zero => omega
  | succ n ih =>
    rw [pcells_succ]
    by_cases e : j < n
    · rw [List.getElem?_append_left (by rw [pcells_len]; omega)]; exact ih e
    · obtain rfl : j = n := by omega
      rw [List.getElem?_append_right (by rw [pcells_len]; omega), pcells_len, Nat.add_sub_cancel_left]
      rcases (show i = 0 ∨ i = 1 ∨ i = 2 ∨ i = 3 ∨ i = 4 ∨ i = 5 by omega) with rfl | rfl | rfl | rfl | rfl | rfl <;> rfl
/-- Packets in a row of the call's own. -/
def PRow (base : Nat) (w : World) (v : Value) (n : Nat) (ps : Nat → Nat → Int) : Prop := w.ownsRow base 27 6 v n (pcells n ps)
theorem PRow.row {base : Nat} {w : World} {v : Value} {n : Nat} {ps : Nat → Nat → Int} (h : PRow base w v n ps) (hn : n ≤ 3000000000000) : PkRow w v n ps := by
  rcases h.2 with ⟨h2, h3⟩ | ⟨g, cap, cur, hv, _⟩
  · exact .inl ⟨h2, h3⟩
  · refine .inr ⟨g, 0, cap, hv, hn, fun j hj i hi => ?_⟩
    have := World.ownsRow.cells h (g := g) (by rw [hv]; rfl) (j * 6 + i) _ (pcells_get n ps j hj i hi)
    rw [addr_add] at this
    simpa using this
theorem PRow.rowIn {base : Nat} {w : World} {v : Value} {n : Nat} {ps : Nat → Nat → Int} (h : PRow base w v n ps) : RowIn w.heap.size v := by
  intro g off m cap e
  exact (World.ownsRow.lt h g (by rw [e]; rfl)).2
theorem byt_extract (s : ByteArray) (a b i : Nat) (hi : a + i < b) (hb : b ≤ s.size) : byt (s.extract a b) i = byt s (a + i) := by
  have h1 : i < (s.extract a b).size := by rw [ByteArray.size_extract]; omega
  rw [byt_lt _ _ h1, byt_lt s (a + i) (by omega)]
  rw [ByteArray.getElem_extract]
theorem extract_next (s : ByteArray) (a b : Nat) : (s.extract a s.size).extract b (s.extract a s.size).size = s.extract (a + b) s.size := by
  apply ByteArray.ext
  rw [ByteArray.data_extract, ByteArray.data_extract, ByteArray.data_extract, Array.extract_extract]
  congr 1
  rw [ByteArray.size_extract]
  omega
theorem cell_six_new (w : World) (k : Nat → Int) (t : TypeId) : ∀ j u, (pkL k)[j]? = some u → (w.alloc (.cells #[.int .i64 (k 0), .int .i64 (k 1), .int .i64 (k 2), .int .i64 (k 3), .int .i64 (k 4), .int .i64 (k 5)] t)).cell? ((⟨w.heap.size, 0, none⟩ : Addr).add j) = some u := by
  intro j u h
  have hj : j < 6 := by have := (List.getElem?_eq_some_iff.1 h).1; simpa [pkL] using this
  rw [addr_add]
  rcases (show j = 0 ∨ j = 1 ∨ j = 2 ∨ j = 3 ∨ j = 4 ∨ j = 5 by omega) with rfl | rfl | rfl | rfl | rfl | rfl <;> (simp [pkL] at h; subst h; simp)
def strSize (v : Value) : Nat := match v with | .string s => s.size | _ => 0
/-- The packets of some bytes, with signs. -/
def pkS (s : ByteArray) (j i : Nat) : Int := sg (byt s (6 * j + i))
set_option maxRecDepth 100000 in
set_option maxHeartbeats 2000000 in
theorem several_any (s : ByteArray) (w : World) (hs : s.size ≤ 1000000) :
    Calls Try.prog 54 #[.string s] w fun e w' => ∃ v, e = .returned v ∧ PRow w.heap.size w' v (s.size / 6) (pkS s) ∧ w.grownBy w' none := by
  obtain ⟨i0, hi0, hz0, hz1, hz2⟩ := info_parts Try.infoPk
  go_enter Try.func54, Try.ntmps54
  go_wp2
  go_loopw [0, 3] (fun sv v wr => ∃ j : Nat, 6 * j ≤ s.size ∧ sv = .string (s.extract (6 * j) s.size) ∧ PRow w.heap.size wr v j (pkS s) ∧ w.grownBy wr none) (fun sv _ _ => strSize sv)
  case atStart => exact ⟨0, by omega, by simp, World.ownsRow_nil _ _ _ _, grown_refl _ _⟩
  case round =>
    obtain ⟨j, hj, rfl, hP, hg⟩ := hrel
    have HP := hide hP
    have HG := hide hg
    clear hP hg
    obtain ⟨t, ht⟩ : ∃ t, t = s.extract (6 * j) s.size := ⟨_, rfl⟩
    have hts : t.size = s.size - 6 * j := by rw [ht, ByteArray.size_extract]; omega
    rw [← ht]
    have HT := hide ht
    clear ht
    by_cases hlt : 6 ≤ t.size
    · have h1 : (6 : Int) ≤ t.size := by omega
      have h2 : t.size ≤ 1000000 := by omega
      have hj2 : j ≤ 1000000 := by omega
      have HO := hide (one_any (t.extract 0 6) wr (by rw [ByteArray.size_extract]; omega))
      have HPK : Hid (∀ i, i < 6 → sg (byt (t.extract 0 6) i) = pkS s j i) := by
        intro i hi
        unfold pkS
        rw [byt_extract t 0 6 i (by omega) hlt, HT.out, byt_extract s (6 * j) s.size (0 + i) (by omega) (Nat.le_refl _)]
        simp
      obtain ⟨k, hk⟩ : ∃ k : Nat → Int, k = fun i => sg (byt (t.extract 0 6) i) := ⟨_, rfl⟩
      rw [show (fun i => sg (byt (t.extract 0 6) i)) = k from hk.symm] at HO
      have HK := hide hk
      have HTS := hide hts
      clear hk hts
      unfold pkV pkA at HO
      go_wp2_with fail
      refine HO.out.mono ?_
      rintro e w1 ⟨rfl, hg1⟩
      have G1 := hide hg1
      clear hg1
      go_wp2_with (at_builtin; refine wpList_append_own_at _ rfl _ _ 23 rfl w.heap.size 27 i0 _ 6 48 Try.underlying23 hi0 hz0 hz1 hz2 rfl (by decide) _ _ _ rfl (World.ownsRow.alloc (World.ownsRow.kept HP.out G1.out ?d0) _) ⟨w1.heap.size, 0, none⟩ 1 1 (pkL k) rfl rfl (cell_six_new _ _ _) ?d2 ?d3 ?d4 ?d5 ?_)
      case d0 => cases hv : Value.ownBlock _ <;> simp
      case d2 => intro u hu; simp only [pkL, List.mem_cons, List.not_mem_nil, or_false] at hu; rcases hu with rfl | rfl | rfl | rfl | rfl | rfl <;> rfl
      case d3 => unfold maxLen; omega
      case d4 => omega
      case d5 => have := HG.out.size; have := G1.out.size; simp; omega
      intro v' w2 hown' hgrow _ hat
      have S : Hid (PRow w.heap.size w2 v' (j + 1) (pkS s) ∧ w.grownBy w2 none) := by
        constructor
        · unfold PRow
          rw [pcells_succ]
          have e : pkL k = pkL (pkS s j) := by
            unfold pkL
            have hh : ∀ i, i < 6 → k i = pkS s j i := fun i hi => by rw [HK.out]; exact HPK.out i hi
            rw [hh 0 (by omega), hh 1 (by omega), hh 2 (by omega), hh 3 (by omega), hh 4 (by omega), hh 5 (by omega)]
          rw [← e]
          exact hown'
        · exact grown_own (grown_trans (grown_trans HG.out G1.out) (World.grownBy_alloc _ _ _)) hgrow (fun b e => (World.ownsRow.lt HP.out b e).1)
      clear hown' hgrow hat
      go_wp2
      go_roundw
      case rel =>
        refine ⟨j + 1, by have := HTS.out; omega, ?_, S.out.1, S.out.2⟩
        rw [HT.out]
        exact congrArg Value.string (extract_next s (6 * j) 6)
      case measure => simp [strSize]; omega
    · go_wp2
      go_ret
      refine ⟨_, rfl, ?_, HG.out⟩
      rw [show s.size / 6 = j by omega]
      exact HP.out
end Go.Proofs.Ytlhkfafdioakeaa
