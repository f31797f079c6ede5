/- Proved here: rules copied into lists of their own. -/
import Derived.Test.YtlhkfafdioakeaaLkS
import Derived.Test.YtlhkfafdioakeaaLkN
namespace Go.Proofs.Ytlhkfafdioakeaa
open Go.RowKit
set_option linter.unusedVariables false
set_option linter.unusedSimpArgs false
/-- The rules of a copy. -/
def copyRs (rs : Nat → Rl) (xs : Nat → Value) : Nat → Rl := fun j => ⟨(rs j).prio, (rs j).mt, (rs j).na, (rs j).acts, xs j⟩
theorem flR_cong (rs ts : Nat → Rl) : ∀ n, (∀ j, j < n → rs j = ts j) → flR rs n = flR ts n
  | 0, _ => rfl
  | n + 1, h => by rw [flR, flR, flR_cong rs ts n (fun j hj => h j (by omega)), h n (by omega)]
/-- A list of rules that is owned is a list of rules. -/
theorem owns_rl {w : World} {B : Nat} {v : Value} {n : Nat} {rs : Nat → Rl} (h : w.ownsRow B 29 8 v n (flR rs n)) (hn : n ≤ 3000000000000) (hx : ∀ j, j < n → PkR w (rs j).av (rs j).na (rs j).acts) : RlRow w v n rs := by
  obtain ⟨_, h⟩ := h
  rcases h with ⟨rfl, rfl⟩ | ⟨g, cap, cur, rfl, _, h1, h2, h3, h4, h5⟩
  · exact .inl ⟨_, _, rfl, rfl⟩
  · have cc : ∀ j, j < n → ∀ i, i < 8 → w.cell? ⟨g, j * 8 + i, none⟩ = some (rlC (rs j).prio (rs j).mt (rs j).av i) := fun j hj i hi => by
      have := flR_get rs n j i hj hi
      rw [← h5, List.getElem?_take_of_lt (by omega)] at this
      simp only [World.cell?, h1]
      simpa using this
    refine .inr ⟨g, 0, cap, rfl, hn, fun j hj => ⟨?_, fun i hi => ?_, ?_, hx j hj⟩⟩
    · rw [Nat.zero_add]; exact cc j hj 0 (by omega)
    · have := cc j hj (1 + i) (by omega)
      rw [Nat.zero_add, this]
      unfold rlC
      rw [if_neg (by omega), if_pos (by omega), show 1 + i - 1 = i by omega]
    · rw [Nat.zero_add]; exact cc j hj 7 (by omega)
theorem cell_rl_new (w : World) (p m0 m1 m2 m3 m4 m5 : Int) (v : Value) (T : TypeId) : ∀ j u, [Value.int .i64 p, .int .i64 m0, .int .i64 m1, .int .i64 m2, .int .i64 m3, .int .i64 m4, .int .i64 m5, v][j]? = some u → ((w.alloc (.cells #[.int .i64 p, .int .i64 m0, .int .i64 m1, .int .i64 m2, .int .i64 m3, .int .i64 m4, .int .i64 m5, v] T)).drew).cell? ((⟨w.heap.size, 0, none⟩ : Addr).add j) = some u := by
  intro j u hj
  rw [show (⟨w.heap.size, 0, none⟩ : Addr).add j = ⟨w.heap.size, j, none⟩ by unfold Addr.add; split <;> simp_all]
  show (w.alloc _).cell? _ = _
  simp only [World.cell?, heap_alloc_new]
  simpa using hj
set_option maxRecDepth 100000 in
set_option maxHeartbeats 4000000 in
theorem copied_any (v : Value) (n : Nat) (rs : Nat → Rl) (w : World) (h : RlRow w v n rs) (hn : n ≤ 1000000000) (hna : ∀ j, j < n → (rs j).na ≤ 1000000000) :
    Calls Try.prog 12 #[v] w fun e w' => ∃ v' xs, e = .returned v' ∧ RlRow w' v' n (copyRs rs xs) ∧ w.grownBy w' none := by
  obtain ⟨a, ca, rfl⟩ := h.slice
  have HP := hide h
  have HNA := hide hna
  clear h hna
  go_enter Try.func12, Try.ntmps12
  go_wp2_with fail
  go_loopw [3, 4] (fun s3 s4 wr => ∃ (i : Nat) (xs : Nat → Value) (oa : Option Addr) (oc : Nat), i ≤ n ∧ s4 = .int .i64 i ∧ s3 = .slice oa i oc ∧ wr.ownsRow w.heap.size 29 8 (.slice oa i oc) i (flR (copyRs rs xs) i) ∧ (∀ j, j < i → OwnV w.heap.size wr (xs j) (rs j).na (rs j).acts) ∧ w.grownBy wr none) (fun _ s4 _ => n - (intOf s4).toNat)
  case atStart => exact ⟨0, fun _ => .slice none 0 0, none, 0, by omega, rfl, rfl, ⟨rfl, .inl ⟨rfl, rfl⟩⟩, fun j hj => by omega, grown_refl _ _⟩
  case round =>
    obtain ⟨i, xs, oa, oc, hi, rfl, rfl, ho, hx, hg⟩ := hrel
    obtain ⟨LR, hLR⟩ : ∃ LR, LR = flR (copyRs rs xs) i := ⟨_, rfl⟩
    have HLR := hide hLR
    have HO := hide ho
    have HX := hide hx
    have HG := hide hg
    clear ho hx hg hLR
    by_cases hlt : i < n
    · rcases HP.out with ⟨_, _, _, h0⟩ | ⟨g0, off, cap', hv, _, hcell⟩
      · omega
      cases hv
      obtain ⟨cp, cm, cv, cr⟩ := hcell i hlt
      obtain ⟨p, hp⟩ : ∃ p, p = (rs i).prio := ⟨_, rfl⟩
      obtain ⟨mt, hmt⟩ : ∃ mt, mt = (rs i).mt := ⟨_, rfl⟩
      obtain ⟨N, hN⟩ : ∃ N, N = (rs i).na := ⟨_, rfl⟩
      obtain ⟨ac, hac⟩ : ∃ ac, ac = (rs i).acts := ⟨_, rfl⟩
      obtain ⟨aa, aq, haa⟩ := cr.slice
      rw [haa] at cv cr
      rw [← hN] at cv cr
      rw [← hac] at cr
      rw [← hp] at cp
      rw [← hmt] at cm
      have hNb : N ≤ 1000000000 := by rw [hN]; exact HNA.out i hlt
      have HE : Hid (p = (rs i).prio ∧ mt = (rs i).mt ∧ N = (rs i).na ∧ ac = (rs i).acts) := ⟨hp, hmt, hN, hac⟩
      have HC : Hid (∀ wx, w.grownBy wx none → wx.cell? ⟨g0, off + i * 8, none⟩ = some (.int .i64 p) ∧ (∀ t, t < 6 → wx.cell? ⟨g0, off + i * 8 + (1 + t), none⟩ = some (.int .i64 (mt t))) ∧ wx.cell? ⟨g0, off + i * 8 + 7, none⟩ = some (.slice aa N aq)) := fun wx hg => ⟨hg.cell cp (by simp), fun t ht => hg.cell (cm t ht) (by simp), hg.cell cv (by simp)⟩
      have HCR := hide cr
      have c7 := (HC.out _ HG.out).2.2
      clear hcell cp cm cv cr hp hmt hN hac haa
      have hltI : (i : Int) < n := by omega
      go_wp2_with (at_builtin; refine wpList_append_pk _ rfl _ _ rfl w.heap.size (.slice none 0 0) 0 (fun _ _ => 0) rfl (OwnV.nil _ _ _) _ N ac rfl (HCR.out.grown HG.out) (by omega) HG.out.size ?_)
      intro v1 w4 o1 g1 _
      have o1' : OwnV w.heap.size w4 v1 N ac := OwnV.cong (d := cat 0 (fun _ _ => 0) ac) (by simpa using o1) (fun j hj t ht => by unfold cat; rw [if_neg (by omega), Nat.sub_zero])
      obtain ⟨a1, q1, rfl⟩ := o1'.slice
      have g1' : wr.grownBy w4 none := g1
      have G4 := hide (grown_trans HG.out g1')
      have O4 := hide o1'
      have X4 : Hid (∀ j, j < i → OwnV w.heap.size w4 (xs j) (rs j).na (rs j).acts) := fun j hj => (HX.out j hj).grown g1' (fun b e => by cases e)
      have R4 : Hid (w4.ownsRow w.heap.size 29 8 (.slice oa i oc) i LR) := by rw [HLR.out]; exact HO.out.kept g1' (by cases oa with | none => exact .inl rfl | some b => exact .inr (by simp [Value.ownBlock]))
      clear o1 o1' g1 g1' HO HX HG c7
      have c0 := (HC.out _ G4.out).1
      have cm := (HC.out _ G4.out).2.1
      have m0 : w4.cell? ⟨g0, off + i * 8 + 1, none⟩ = some (.int .i64 (mt 0)) := cm 0 (by omega)
      have m1 : w4.cell? ⟨g0, off + i * 8 + 1 + 1, none⟩ = some (.int .i64 (mt 1)) := cm 1 (by omega)
      have m2 : w4.cell? ⟨g0, off + i * 8 + 1 + 2, none⟩ = some (.int .i64 (mt 2)) := cm 2 (by omega)
      have m3 : w4.cell? ⟨g0, off + i * 8 + 1 + 3, none⟩ = some (.int .i64 (mt 3)) := cm 3 (by omega)
      have m4 : w4.cell? ⟨g0, off + i * 8 + 1 + 4, none⟩ = some (.int .i64 (mt 4)) := cm 4 (by omega)
      have m5 : w4.cell? ⟨g0, off + i * 8 + 1 + 5, none⟩ = some (.int .i64 (mt 5)) := cm 5 (by omega)
      have hsz := G4.out.size
      clear cm
      obtain ⟨i1, hi1, hy0, hy1, hy2⟩ := info_parts Try.infoRl
      go_upto_region 7 with fail
      go_region_law (refine step_append_pint rfl (.tmp 19) (.tmp 32) 22 rfl w.heap.size 29 i1 _ 8 80 Try.underlying22 hi1 hy0 hy1 hy2 rfl (by decide) (.slice oa i oc) i LR (by simp [Act.eval, Act.put]) (R4.out.alloc _).drew ⟨w4.heap.size, 0, none⟩ 1 1 [.int .i64 p, .int .i64 (mt 0), .int .i64 (mt 1), .int .i64 (mt 2), .int .i64 (mt 3), .int .i64 (mt 4), .int .i64 (mt 5), .slice a1 N q1] (by simp [Act.eval, Act.put]) rfl (cell_rl_new _ _ _ _ _ _ _ _ _ _) (by intro u hu; simp at hu; rcases hu with rfl | rfl | rfl | rfl | rfl | rfl | rfl | rfl <;> rfl) (by unfold maxLen; omega) (by omega) (by simp; omega) ?_; intro v5 w5 ho5 hg5 hat5; obtain ⟨na5, nc5, hv5⟩ := owns_slice ho5; subst hv5; have HO5 := hide ho5; have HG5 := hide hg5; clear ho5 hg5 hat5)
      all_goals
        clear c0 m0 m1 m2 m3 m4 m5
        go_wp2_with fail
        obtain ⟨xs', hxs⟩ : ∃ xs' : Nat → Value, xs' = fun j => if j < i then xs j else .slice a1 N q1 := ⟨_, rfl⟩
        have hfl : flR (copyRs rs xs') (i + 1) = LR ++ [.int .i64 p, .int .i64 (mt 0), .int .i64 (mt 1), .int .i64 (mt 2), .int .i64 (mt 3), .int .i64 (mt 4), .int .i64 (mt 5), .slice a1 N q1] := by
          rw [flR, flR_cong (copyRs rs xs') (copyRs rs xs) i (fun j hj => by unfold copyRs; rw [hxs]; simp [hj]), HLR.out, HE.out.1, HE.out.2.1]
          unfold copyRs
          rw [hxs]
          simp [rlL]
        have hGA : w4.grownBy (w4.alloc (.cells #[.int .i64 p, .int .i64 (mt 0), .int .i64 (mt 1), .int .i64 (mt 2), .int .i64 (mt 3), .int .i64 (mt 4), .int .i64 (mt 5), .slice a1 N q1] 29)).drew none := grown_alloc_drew _ _ _
        have htag : ∀ b, (Value.slice oa i oc).ownBlock = some b → blkT (w4.alloc (.cells #[.int .i64 p, .int .i64 (mt 0), .int .i64 (mt 1), .int .i64 (mt 2), .int .i64 (mt 3), .int .i64 (mt 4), .int .i64 (mt 5), .slice a1 N q1] 29)).drew b 29 := fun b hb => owns_tagged (R4.out.alloc _).drew b hb
        have hown : ∀ b, (Value.slice oa i oc).ownBlock = some b → w.heap.size ≤ b := fun b hb => by
          rcases R4.out.2 with ⟨e, _⟩ | ⟨g, cap, cur, e, h1, _⟩
          · rw [e] at hb; cases hb
          · rw [e] at hb; cases hb; exact h1
        refine ⟨⟨i + 1, xs', na5, nc5, by omega, by go_num, rfl, by rw [hfl]; exact HO5.out, fun j hj => ?_, grown_own (grown_trans G4.out hGA) HG5.out hown⟩, by simp [intOf]; omega⟩
        rw [hxs]
        show OwnV _ _ (if j < i then xs j else .slice a1 N q1) _ _
        by_cases e : j < i
        · rw [if_pos e]
          exact ownV_keptT ((X4.out j e).grown hGA (fun b e => by cases e)) HG5.out htag (by decide)
        · obtain rfl : j = i := by omega
          rw [if_neg e, ← HE.out.2.2.1, ← HE.out.2.2.2]
          exact ownV_keptT (O4.out.grown hGA (fun b e => by cases e)) HG5.out htag (by decide)
    · obtain rfl : i = n := by omega
      go_wp2
      go_ret
      refine ⟨_, xs, rfl, owns_rl HO.out (by omega) (fun j hj => (HX.out j hj).row.any), HG.out⟩
end Go.Proofs.Ytlhkfafdioakeaa
