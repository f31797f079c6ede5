/- Proved here: how numbers and packets are written behind some bytes. -/
import Derived.Test.YtlhkfafdioakeaaMsgC
namespace Go.Proofs.Ytlhkfafdioakeaa
open Go.RowKit
set_option linter.unusedVariables false
set_option linter.unusedSimpArgs false
theorem Try.infoU8 : (Try.prog.info? 5).map (fun i => (i.zero, i.size, i.bytes)) = some (some (.int .u8 0), 1, 1) := by kernel_rfl
/-- Bytes in a row of the call's own, in blocks from base on. -/
def BRow (base : Nat) (w : World) (v : Value) (bs : List Int) : Prop := w.ownsRow base 5 1 v bs.length (bs.map (Value.int .u8))
/-- What a call that answers bytes comes to. -/
def Gives (base : Nat) (bs : List Int) (w : World) (e : Ending) (w' : World) : Prop := ∃ v, e = .returned v ∧ BRow base w' v bs ∧ Below base w w'
def twoB (n : Int) : List Int := [n / 256 % 256, n % 256]
def pkB (k : Nat → Int) : List Int := [k 0 % 256, k 1 % 256, k 2 % 256, k 3 % 256, k 4 % 256, k 5 % 256]
def pksB (n : Nat) (ps : Nat → Nat → Int) : List Int := (List.range n).flatMap fun j => pkB (ps j)
theorem pksB_succ (n : Nat) (ps : Nat → Nat → Int) : pksB (n + 1) ps = pksB n ps ++ pkB (ps n) := by simp [pksB, List.range_succ]
theorem pksB_len (n : Nat) (ps : Nat → Nat → Int) : (pksB n ps).length = 6 * n := by
  induction n with
  | zero => rfl
  | succ n ih => rw [pksB_succ, List.length_append, ih]; simp [pkB]; omega
theorem cell_two_new (w : World) (x y : Value) (t : TypeId) : ∀ j u, [x, y][j]? = some u → (w.alloc (.cells #[x, y] t)).cell? ((⟨w.heap.size, 0, none⟩ : Addr).add j) = some u := by
  intro j u h
  have hj : j < 2 := by have := (List.getElem?_eq_some_iff.1 h).1; simpa using this
  have e : (⟨w.heap.size, 0, none⟩ : Addr).add j = ⟨w.heap.size, j, none⟩ := by unfold Addr.add; split <;> simp_all
  rw [e]
  rcases (show j = 0 ∨ j = 1 by omega) with rfl | rfl <;> (simp at h; subst h; simp)
theorem BRow.step {base : Nat} {w w1 w2 : World} {v v' : Value} {bs cs : List Int} {n : Nat} (h : BRow base w v bs) (hg : w.grownBy w1 none) (hg2 : w1.grownBy w2 v.ownBlock) (hb : base ≤ w.heap.size)
    (ho : w2.ownsRow base 5 1 v' n (bs.map (Value.int .u8) ++ cs.map (Value.int .u8))) (hn : n = bs.length + cs.length) : BRow base w2 v' (bs ++ cs) ∧ Below base w w2 := by
  constructor
  · unfold BRow; rw [List.map_append, List.length_append, ← hn]; exact ho
  · exact ((Below.refl base w).grown hg hb (fun k e => by cases e)).grown hg2 (Nat.le_trans hb hg.size) (fun k e => (h.lt k e).1)

/-- A row of its own that lies where another one lay, or in a block that is new. -/
def OwnIn (w : World) (v vb : Value) : Prop := vb.ownBlock = v.ownBlock ∨ ∃ k, vb.ownBlock = some k ∧ w.heap.size ≤ k
theorem own_step {base : Nat} {w wr w1 w2 : World} {v vb v' : Value} {bs cs : List Int} {n : Nat} (h : BRow base wr vb bs) (hw : w.grownBy wr v.ownBlock) (ho : OwnIn w v vb) (hg : wr.grownBy w1 none) (hg2 : w1.grownBy w2 vb.ownBlock)
    (hat : v'.ownBlock = vb.ownBlock ∨ v'.ownBlock = some w1.heap.size) (ho' : w2.ownsRow base 5 1 v' n (bs.map (Value.int .u8) ++ cs.map (Value.int .u8))) (hn : n = bs.length + cs.length) :
    BRow base w2 v' (bs ++ cs) ∧ w.grownBy w2 v.ownBlock ∧ OwnIn w v v' := by
  refine ⟨?_, ?_, ?_⟩
  · unfold BRow; rw [List.map_append, List.length_append, ← hn]; exact ho'
  · refine ⟨hg2.os.trans (hg.os.trans hw.os), hg2.tape.trans (hg.tape.trans hw.tape), hg2.output.trans (hg.output.trans hw.output), Nat.le_trans hw.size (Nat.le_trans hg.size hg2.size), fun k hk hne => ?_⟩
    rw [hg2.block k (Nat.lt_of_lt_of_le hk (Nat.le_trans hw.size hg.size)) (fun e => ?_), hg.block k (Nat.lt_of_lt_of_le hk hw.size) (by simp), hw.block k hk hne]
    rcases ho with ho | ⟨q, ho, hq⟩
    · exact hne (e.trans ho)
    · rw [ho] at e; cases e; omega
  · rcases hat with hat | hat
    · rcases ho with ho | ⟨q, ho, hq⟩
      · exact .inl (hat.trans ho)
      · exact .inr ⟨q, hat.trans ho, hq⟩
    · exact .inr ⟨_, hat, Nat.le_trans hw.size hg.size⟩
theorem grown_below_own {base : Nat} {w w' : World} {v : Value} {bs : List Int} (h : BRow base w v bs) (hg : w.grownBy w' v.ownBlock) (hb : base ≤ w.heap.size) : Below base w w' :=
  (Below.refl base w).grown hg hb (fun k e => (h.lt k e).1)
theorem BRow.kept {base : Nat} {w w' : World} {v : Value} {bs : List Int} (h : BRow base w v bs) (hg : w.grownBy w' none) : BRow base w' v bs :=
  World.ownsRow.kept h hg (by cases hv : Value.ownBlock _ <;> simp)
/-- What a call that writes behind some bytes comes to. -/
def Writes (base : Nat) (v : Value) (bs : List Int) (w : World) (e : Ending) (w' : World) : Prop := ∃ v', e = .returned v' ∧ BRow base w' v' bs ∧ w.grownBy w' v.ownBlock ∧ OwnIn w v v'
set_option maxRecDepth 100000 in
set_option maxHeartbeats 1000000 in
theorem addTwo_any (base : Nat) (v : Value) (bs : List Int) (n : Int) (w : World) (h : BRow base w v bs) (hb : base ≤ w.heap.size) (hl : bs.length ≤ 100000000000000) :
    Calls Try.prog 41 #[v, .int .i64 n] w (Writes base v (bs ++ twoB n) w) := by
  obtain ⟨i0, hi0, hz0, hz1, hz2⟩ := info_parts Try.infoU8
  have H := hide h
  clear h
  go_enter Try.func41, Try.ntmps41
  go_wp2_with (at_builtin; refine wpList_append_own_at _ rfl _ _ 64 rfl base 5 i0 _ 1 1 Try.underlying64 hi0 hz0 hz1 hz2 rfl (by decide) _ _ _ rfl (World.ownsRow.alloc H.out _) ⟨w.heap.size, 0, none⟩ 2 2 [.int .u8 (n / 256 % 256), .int .u8 (n % 256)] rfl rfl (cell_two_new _ _ _ _) ?d2 ?d3 ?d4 ?d5 ?_)
  case d2 => intro u hu; simp only [List.mem_cons, List.not_mem_nil, or_false] at hu; rcases hu with rfl | rfl <;> rfl
  case d3 => unfold maxLen; omega
  case d4 => omega
  case d5 => simp; omega
  intro v' w2 hown' hgrow _ hat
  have S := hide (own_step (v := v) (cs := twoB n) H.out (grown_refl _ _) (.inl rfl) (World.grownBy_alloc _ _ _) hgrow (by simpa using hat) hown' (by simp [twoB]))
  clear hown' hgrow hat
  go_wp2
  go_ret
  exact ⟨_, rfl, S.out.1, S.out.2.1, S.out.2.2⟩
theorem pkB_take (k : Nat → Int) (i : Nat) (h : i < 6) : (pkB k).take (i + 1) = (pkB k).take i ++ [k i % 256] := by
  rcases (show i = 0 ∨ i = 1 ∨ i = 2 ∨ i = 3 ∨ i = 4 ∨ i = 5 by omega) with rfl | rfl | rfl | rfl | rfl | rfl <;> rfl
set_option maxRecDepth 100000 in
set_option maxHeartbeats 4000000 in
theorem addPackets_any (base : Nat) (v v2 : Value) (bs : List Int) (n : Nat) (ps : Nat → Nat → Int) (w : World) (h : BRow base w v bs) (hb : base ≤ w.heap.size) (hl : bs.length ≤ 1000) (hr : PkRow w v2 n ps)
    (hne : ∀ g off cap, v2 = .slice (some ⟨g, off, none⟩) n cap → v.ownBlock ≠ some g) :
    Calls Try.prog 52 #[v, v2] w (Writes base v (bs ++ pksB n ps) w) := by
  obtain ⟨i0, hi0, hz0, hz1, hz2⟩ := info_parts Try.infoU8
  have H := hide h
  clear h
  rcases hr with ⟨rfl, rfl⟩ | ⟨g, off, cap, rfl, hn, hcell⟩
  · go_enter Try.func52, Try.ntmps52
    go_wp2
    go_loopw [0, 11] (fun vb i wr => vb = v ∧ i = .int .i64 0 ∧ wr = w) (fun _ i _ => 0)
    case atStart => exact ⟨rfl, rfl, rfl⟩
    case round =>
      obtain ⟨rfl, rfl, rfl⟩ := hrel
      go_wp2
      go_ret
      exact ⟨_, rfl, by simpa [pksB] using H.out, grown_refl _ _, .inl rfl⟩
  · have HC := hide hcell
    have hng := hne g off cap rfl
    have HNG := hide hng
    clear hcell hne hng
    go_enter Try.func52, Try.ntmps52
    go_wp2
    go_loopw [0, 11] (fun vb i wr => ∃ j : Nat, j ≤ n ∧ i = .int .i64 j ∧ BRow base wr vb (bs ++ pksB j ps) ∧ w.grownBy wr v.ownBlock ∧ OwnIn w v vb) (fun _ i _ => n - (intOf i).toNat)
    case atStart => exact ⟨0, by omega, rfl, by simpa [pksB] using H.out, grown_refl _ _, .inl rfl⟩
    case round =>
      obtain ⟨j, hj, rfl, hB, hg, ho⟩ := hrel
      have HB := hide hB
      have HG := hide hg
      have HO := hide ho
      clear hB hg ho
      by_cases hlt : j < n
      · obtain ⟨k, hk⟩ : ∃ k, k = ps j := ⟨_, rfl⟩
        have cc : ∀ i, i < 6 → wr.cell? ⟨g, off + j * 6 + i, none⟩ = some (.int .i64 (k i)) := fun i hi => by rw [hk]; exact HG.out.cell (HC.out j hlt i hi) HNG.out.symm
        have c0 := cc 0 (by omega)
        have c1 := cc 1 (by omega)
        have c2 := cc 2 (by omega)
        have c3 := cc 3 (by omega)
        have c4 := cc 4 (by omega)
        have c5 := cc 5 (by omega)
        rw [Nat.add_zero] at c0
        have HK := hide hk
        clear hk cc
        go_wp2
        clear c0 c1 c2 c3 c4 c5
        obtain ⟨wa, hwa⟩ : ∃ wa, wa = wr.alloc (Obj.cells #[.int .i64 (k 0), .int .i64 (k 1), .int .i64 (k 2), .int .i64 (k 3), .int .i64 (k 4), .int .i64 (k 5)] 27) := ⟨_, rfl⟩
        have HGA : Hid (wr.grownBy wa none) := by rw [hwa]; exact World.grownBy_alloc _ _ _
        rw [← hwa]
        clear hwa
        go_loopw [0, 16] (fun vb i wr => ∃ l : Nat, l ≤ 6 ∧ i = .int .i64 l ∧ BRow base wr vb ((bs ++ pksB j ps) ++ (pkB k).take l) ∧ w.grownBy wr v.ownBlock ∧ OwnIn w v vb) (fun _ i _ => 6 - (intOf i).toNat)
        case atStart =>
          refine ⟨0, by omega, rfl, ?_, grown_own HG.out HGA.out (fun b e => by cases e), HO.out⟩
          have := HB.out.kept HGA.out
          rw [List.take_zero, List.append_nil]
          exact this
        case round =>
          obtain ⟨l, hl6, rfl, hB2, hg2, ho2⟩ := hrel
          have HB2 := hide hB2
          have HG2 := hide hg2
          have HO2 := hide ho2
          have hlen : (bs ++ pksB j ps ++ (pkB k).take l).length = bs.length + 6 * j + l := by simp [pksB_len, pkB]; omega
          clear hB2 hg2 ho2 HB HG HO HGA
          by_cases hlt2 : l < 6
          · obtain ⟨x, hx⟩ : ∃ x, x = k l := ⟨_, rfl⟩
            have hix := Try.indexPk k l hlt2 wr
            rw [← hx] at hix
            have HX := hide hx
            clear hx
            obtain ⟨bb, hbb⟩ : ∃ bb, bb = bs ++ pksB j ps ++ (pkB k).take l := ⟨_, rfl⟩
            have HBB := hide hbb
            rw [← hbb] at HB2 hlen
            clear hbb
            go_wp2_with (at_builtin; refine wpList_append_own_at _ rfl _ _ 64 rfl base 5 i0 _ 1 1 Try.underlying64 hi0 hz0 hz1 hz2 rfl (by decide) _ _ _ rfl (World.ownsRow.alloc HB2.out _) ⟨wr.heap.size, 0, none⟩ 1 1 [.int .u8 (x % 256)] rfl rfl (cell_one_new _ _ _) ?d2 ?d3 ?d4 ?d5 ?_)
            case d2 => intro u hu; simp only [List.mem_cons, List.not_mem_nil, or_false] at hu; subst hu; rfl
            case d3 => unfold maxLen; omega
            case d4 => omega
            case d5 => have := HG2.out.size; simp; omega
            intro v' w2 hown' hgrow _ hat
            have S := hide (own_step (cs := [x % 256]) HB2.out HG2.out HO2.out (World.grownBy_alloc _ _ _) hgrow (by simpa using hat) hown' (by simp; omega))
            clear hown' hgrow hat
            go_wp2
            go_roundw
            case rel =>
              refine ⟨l + 1, by omega, by go_num, ?_, S.out.2.1, S.out.2.2⟩
              rw [pkB_take k l hlt2, ← HX.out, ← List.append_assoc, ← HBB.out]
              exact S.out.1
            case measure => simp [intOf]; omega
          · obtain rfl : l = 6 := by omega
            go_wp2
            go_roundw
            case rel =>
              refine ⟨j + 1, by omega, by go_num, ?_, HG2.out, HO2.out⟩
              rw [pksB_succ, ← HK.out, ← List.append_assoc]
              exact HB2.out
            case measure => simp [intOf]; omega
      · obtain rfl : j = n := by omega
        go_wp2
        go_ret
        exact ⟨_, rfl, HB.out, HG.out, HO.out⟩
end Go.Proofs.Ytlhkfafdioakeaa
