/- Proved here: whether two lists of rules do the same. -/
import Derived.Test.YtlhkfafdioakeaaGreatDoorLkQ
import Derived.Test.YtlhkfafdioakeaaGreatDoorTbD
namespace Go.Proofs.YtlhkfafdioakeaaGreatDoor
open Go.RowKit Go.Weft
set_option linter.unusedVariables false
set_option linter.unusedSimpArgs false
/-- A list of rules that is read: their matches, and their actions as lists. -/
structure RdR (w : World) (v : Value) (n : Nat) (rs : Nat → Rl) (AL : Nat → List (Nat → Int)) : Prop where
  row : RlRow w v n rs
  nm : ∀ j, j < n → Nm (rs j).mt
  is : ∀ j, j < n → Is (AL j) (rs j).na (rs j).acts
  anm : ∀ j, j < n → ∀ x ∈ AL j, Nm x
/-- The list that it is. -/
def prL (rs : Nat → Rl) (AL : Nat → List (Nat → Int)) (n : Nat) : List ((Nat → Int) × List (Nat → Int)) := (List.range n).map fun j => ((rs j).mt, AL j)
theorem prL_len (rs : Nat → Rl) (AL : Nat → List (Nat → Int)) (n : Nat) : (prL rs AL n).length = n := by unfold prL; simp
theorem prL_eq {rs ts : Nat → Rl} {AL BL : Nat → List (Nat → Int)} {n : Nat} : prL rs AL n = prL ts BL n ↔ ∀ j, j < n → (rs j).mt = (ts j).mt ∧ AL j = BL j := by
  unfold prL
  constructor
  · intro h j hj
    have := congrArg (fun l => l[j]?) h
    simp [hj] at this
    exact this
  · intro h
    exact List.map_congr_left (fun j hj => by have := h j (List.mem_range.1 hj); rw [this.1, this.2])
theorem RdR.grown {w w' : World} {v : Value} {n : Nat} {rs : Nat → Rl} {AL : Nat → List (Nat → Int)} (h : RdR w v n rs AL) (hg : w.grownBy w' none) : RdR w' v n rs AL := ⟨h.row.grown hg, h.nm, h.is, h.anm⟩
set_option maxRecDepth 100000 in
set_option maxHeartbeats 8000000 in
theorem equalF_any (v1 v2 : Value) (n1 n2 : Nat) (rs ts : Nat → Rl) (AL BL : Nat → List (Nat → Int)) (w : World) (h1 : RdR w v1 n1 rs AL) (h2 : RdR w v2 n2 ts BL) :
    Calls Tryz.prog 216 #[v1, v2, .func (.func 217) #[] #[]] w (Says (prL rs AL n1 = prL ts BL n2) w) := by
  obtain ⟨a, ca, rfl⟩ := h1.row.slice
  obtain ⟨b, cb, rfl⟩ := h2.row.slice
  have H1 := hide h1
  have H2 := hide h2
  have hf1 : n1 ≤ 3000000000000 := by
    rcases h1.row with ⟨_, _, _, h0⟩ | ⟨_, _, _, _, h, _⟩ <;> omega
  have hf2 : n2 ≤ 3000000000000 := by
    rcases h2.row with ⟨_, _, _, h0⟩ | ⟨_, _, _, _, h, _⟩ <;> omega
  by_cases hn : n1 = n2
  case neg =>
    have HNE : Hid (¬ prL rs AL n1 = prL ts BL n2) := fun e => hn (by rw [← prL_len rs AL n1, e, prL_len])
    have hnI : ((n1 : Int) != n2) = true := by rw [bne_iff_ne]; omega
    clear h1 h2
    go_enter Tryz.func216, Tryz.ntmps216
    go_wp2
    go_ret
    exact no_says HNE.out (grown_refl _ _)
  subst hn
  have HEQ := hide (prL_eq (rs := rs) (ts := ts) (AL := AL) (BL := BL) (n := n1))
  obtain ⟨P, hP⟩ : ∃ P, P = (prL rs AL n1 = prL ts BL n1) := ⟨_, rfl⟩
  rw [← hP] at HEQ ⊢
  clear h1 h2 hP
  go_enter Tryz.func216, Tryz.ntmps216
  go_wp2_with fail
  go_loopw [17] (fun s17 wr => ∃ i : Nat, i ≤ n1 ∧ s17 = .int .i64 i ∧ (∀ j, j < i → (rs j).mt = (ts j).mt ∧ AL j = BL j) ∧ w.grownBy wr none) (fun s17 _ => n1 - (intOf s17).toNat)
  case atStart => exact ⟨0, by omega, rfl, fun j hj => by omega, grown_refl _ _⟩
  case round =>
    obtain ⟨i, hi, rfl, hall, hg⟩ := hrel
    have HALL := hide hall
    have HG := hide hg
    clear hall hg
    by_cases hlt : i < n1
    · rcases H1.out.row with ⟨_, _, _, h0⟩ | ⟨g, off, cap, hv, _, hc⟩
      · omega
      cases hv
      rcases H2.out.row with ⟨_, _, _, h0⟩ | ⟨g2, off2, cap2, hv2, _, hc2⟩
      · omega
      cases hv2
      obtain ⟨c1, c2, c3, c4⟩ := hc i hlt
      obtain ⟨d1, d2, d3, d4⟩ := hc2 i hlt
      obtain ⟨p, hp⟩ : ∃ p, p = (rs i).prio := ⟨_, rfl⟩
      obtain ⟨q, hq⟩ : ∃ q, q = (ts i).prio := ⟨_, rfl⟩
      obtain ⟨x, hx⟩ : ∃ x, x = (rs i).mt := ⟨_, rfl⟩
      obtain ⟨y, hy⟩ : ∃ y, y = (ts i).mt := ⟨_, rfl⟩
      obtain ⟨a1, q1, e1⟩ := c4.slice
      obtain ⟨a2, q2, e2⟩ := d4.slice
      obtain ⟨l1, hl1⟩ : ∃ l1, l1 = (rs i).na := ⟨_, rfl⟩
      obtain ⟨l2, hl2⟩ : ∃ l2, l2 = (ts i).na := ⟨_, rfl⟩
      rw [e1, ← hl1] at c3 c4
      rw [e2, ← hl2] at d3 d4
      have nx : Nm x := by rw [hx]; exact H1.out.nm i hlt
      have ny : Nm y := by rw [hy]; exact H2.out.nm i hlt
      obtain ⟨W, hW⟩ : ∃ W, W = (wr.alloc (.cells #[.int .i64 p, .int .i64 (x 0), .int .i64 (x 1), .int .i64 (x 2), .int .i64 (x 3), .int .i64 (x 4), .int .i64 (x 5), .slice a1 l1 q1] 68)).alloc (.cells #[.int .i64 q, .int .i64 (y 0), .int .i64 (y 1), .int .i64 (y 2), .int .i64 (y 3), .int .i64 (y 4), .int .i64 (y 5), .slice a2 l2 q2] 68) := ⟨_, rfl⟩
      have hgW : wr.grownBy W none := by rw [hW]; exact grown_trans (World.grownBy_alloc _ _ _) (World.grownBy_alloc _ _ _)
      have hG := grown_trans HG.out hgW
      have i1 := H1.out.is i hlt
      have i2 := H2.out.is i hlt
      rw [← hl1] at i1
      rw [← hl2] at i2
      have HD := hide (doSame_any p q x y a1 l1 q1 a2 l2 q2 _ _ (AL i) (BL i) W nx ny (c4.grown hG) (d4.grown hG) i1 i2 (H1.out.anm i hlt) (H2.out.anm i hlt))
      unfold rlV rlA at HD
      have GW := hide hG
      have b0 : wr.cell? ⟨g, off + i * 8, none⟩ = some (.int .i64 p) := by rw [hp]; exact HG.out.cell c1 (by simp)
      have bm : ∀ t, t < 6 → wr.cell? ⟨g, off + i * 8 + (1 + t), none⟩ = some (.int .i64 (x t)) := fun t ht => by rw [hx]; exact HG.out.cell (c2 t ht) (by simp)
      have b1 : wr.cell? ⟨g, off + i * 8 + 1, none⟩ = some (.int .i64 (x 0)) := bm 0 (by omega)
      have b2 : wr.cell? ⟨g, off + i * 8 + 2, none⟩ = some (.int .i64 (x 1)) := bm 1 (by omega)
      have b3 : wr.cell? ⟨g, off + i * 8 + 3, none⟩ = some (.int .i64 (x 2)) := bm 2 (by omega)
      have b4 : wr.cell? ⟨g, off + i * 8 + 4, none⟩ = some (.int .i64 (x 3)) := bm 3 (by omega)
      have b5 : wr.cell? ⟨g, off + i * 8 + 5, none⟩ = some (.int .i64 (x 4)) := bm 4 (by omega)
      have b6 : wr.cell? ⟨g, off + i * 8 + 6, none⟩ = some (.int .i64 (x 5)) := bm 5 (by omega)
      have b7 : wr.cell? ⟨g, off + i * 8 + 7, none⟩ = some (.slice a1 l1 q1) := HG.out.cell c3 (by simp)
      have f0 : wr.cell? ⟨g2, off2 + i * 8, none⟩ = some (.int .i64 q) := by rw [hq]; exact HG.out.cell d1 (by simp)
      have fm : ∀ t, t < 6 → wr.cell? ⟨g2, off2 + i * 8 + (1 + t), none⟩ = some (.int .i64 (y t)) := fun t ht => by rw [hy]; exact HG.out.cell (d2 t ht) (by simp)
      have f1 : wr.cell? ⟨g2, off2 + i * 8 + 1, none⟩ = some (.int .i64 (y 0)) := fm 0 (by omega)
      have f2 : wr.cell? ⟨g2, off2 + i * 8 + 2, none⟩ = some (.int .i64 (y 1)) := fm 1 (by omega)
      have f3 : wr.cell? ⟨g2, off2 + i * 8 + 3, none⟩ = some (.int .i64 (y 2)) := fm 2 (by omega)
      have f4 : wr.cell? ⟨g2, off2 + i * 8 + 4, none⟩ = some (.int .i64 (y 3)) := fm 3 (by omega)
      have f5 : wr.cell? ⟨g2, off2 + i * 8 + 5, none⟩ = some (.int .i64 (y 4)) := fm 4 (by omega)
      have f6 : wr.cell? ⟨g2, off2 + i * 8 + 6, none⟩ = some (.int .i64 (y 5)) := fm 5 (by omega)
      have f7 : wr.cell? ⟨g2, off2 + i * 8 + 7, none⟩ = some (.slice a2 l2 q2) := HG.out.cell d3 (by simp)
      have hg2l : g2 < wr.heap.size := World.block_lt_of_cell? wr _ f0
      have hltI : (i : Int) < n1 := by omega
      have HXY : Hid (x = (rs i).mt ∧ y = (ts i).mt) := ⟨hx, hy⟩
      clear hc hc2 c1 c2 c3 c4 d1 d2 d3 d4 hp hq hx hy e1 e2 hl1 hl2 nx ny hgW hG i1 i2 bm fm
      go_wp2_with fail
      rw [← hW]
      refine HD.out.mono ?_
      rintro e w3 ⟨⟨bq, rfl, hbq⟩, g3⟩
      have G3 := hide (grown_trans GW.out g3)
      have HBQ := hide hbq
      clear g3 hbq HD GW hW b0 b1 b2 b3 b4 b5 b6 b7 f0 f1 f2 f3 f4 f5 f6 f7 hg2l
      cases bq
      · have HNP : Hid (¬ P) := fun hp => by
          have h := HEQ.out.1 hp i hlt
          have := HBQ.out.2 ⟨by rw [HXY.out.1, HXY.out.2]; exact h.1, h.2⟩
          cases this
        go_wp2
        go_ret
        exact no_says HNP.out G3.out
      · have HYS := hide (HBQ.out.1 rfl)
        go_wp2_with fail
        exact ⟨⟨i + 1, by omega, by go_num, fun j hj => (by
          by_cases e : j = i
          · subst e; exact ⟨by rw [← HXY.out.1, ← HXY.out.2]; exact HYS.out.1, HYS.out.2⟩
          · exact HALL.out j (by omega)), G3.out⟩, by simp [intOf]; omega⟩
    · obtain rfl : i = n1 := by omega
      go_wp2
      go_ret
      exact yes_says (HEQ.out.2 HALL.out) HG.out
end Go.Proofs.YtlhkfafdioakeaaGreatDoor
