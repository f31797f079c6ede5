/- Proved here: what is written as a message is read as it was. -/
import Derived.Test.YtlhkfafdioakeaaCodA
namespace Go.Proofs.Ytlhkfafdioakeaa
open Go.RowKit
set_option linter.unusedVariables false
set_option linter.unusedSimpArgs false
def strB (l : List Int) : ByteArray := ⟨(l.map u8).toArray⟩
theorem strI_eq (l : List Int) : strI l = .string (strB l) := rfl
def isB (l : List Int) : Prop := ∀ x ∈ l, 0 ≤ x ∧ x < 256
theorem strB_size (l : List Int) : (strB l).size = l.length := by simp [strB, ByteArray.size]
theorem u8_nat (x : Int) (h : 0 ≤ x ∧ x < 256) : ((u8 x).toNat : Int) = x := by
  unfold u8
  rw [UInt8.toNat_ofNat']
  omega
theorem byt_strB (l : List Int) (h : isB l) (i : Nat) (hi : i < l.length) : byt (strB l) i = l.getD i 0 := by
  have hs : i < (strB l).size := by rw [strB_size]; exact hi
  rw [byt_lt _ _ hs]
  have e : (strB l)[i] = u8 (l[i]) := by
    show (strB l).data[i] = _
    simp [strB]
  rw [e, u8_nat _ (h _ (List.getElem_mem hi))]
  simp [List.getD, hi]
theorem twoB_isB (n : Int) : isB (twoB n) := by
  intro x hx
  simp [twoB] at hx
  rcases hx with rfl | rfl <;> omega
theorem pkB_isB (k : Nat → Int) : isB (pkB k) := by
  intro x hx
  simp [pkB] at hx
  rcases hx with rfl | rfl | rfl | rfl | rfl | rfl <;> omega
theorem isB_append {a b : List Int} (ha : isB a) (hb : isB b) : isB (a ++ b) := by
  intro x hx
  rcases List.mem_append.1 hx with h | h
  · exact ha x h
  · exact hb x h
theorem pksB_isB (n : Nat) (ps : Nat → Nat → Int) : isB (pksB n ps) := by
  induction n with
  | zero => intro x hx; simp [pksB] at hx
  | succ n ih => rw [pksB_succ]; exact isB_append ih (pkB_isB _)
theorem bodyB_isB (m : Msg) : isB (bodyB m) := by
  unfold bodyB
  split
  · exact isB_append (isB_append (isB_append (twoB_isB _) (pkB_isB _)) (twoB_isB _)) (pksB_isB _ _)
  · split
    · exact isB_append (twoB_isB _) (pksB_isB _ _)
    · exact pksB_isB _ _
theorem encB_isB (m : Msg) : isB (encB m) := by
  intro x hx
  rcases List.mem_cons.1 hx with rfl | h
  · omega
  · exact isB_append (twoB_isB _) (bodyB_isB m) x h
theorem pkB_get (k : Nat → Int) (i : Nat) (hi : i < 6) : (pkB k).getD i 0 = k i % 256 := by
  rcases (show i = 0 ∨ i = 1 ∨ i = 2 ∨ i = 3 ∨ i = 4 ∨ i = 5 by omega) with rfl | rfl | rfl | rfl | rfl | rfl <;> rfl
theorem getD_left {a b : List Int} {i : Nat} (h : i < a.length) : (a ++ b).getD i 0 = a.getD i 0 := by
  simp [List.getD, List.getElem?_append_left h]
theorem getD_right {a b : List Int} {i : Nat} (h : a.length ≤ i) : (a ++ b).getD i 0 = b.getD (i - a.length) 0 := by
  simp [List.getD, List.getElem?_append_right h]
theorem pksB_get (n : Nat) (ps : Nat → Nat → Int) (j : Nat) (hj : j < n) (i : Nat) (hi : i < 6) : (pksB n ps).getD (6 * j + i) 0 = ps j i % 256 := by
  induction n with
  | zero => omega
  | succ n ih =>
    rw [pksB_succ]
    by_cases e : j < n
    · rw [getD_left (by rw [pksB_len]; omega)]; exact ih e
    · obtain rfl : j = n := by omega
      rw [getD_right (by rw [pksB_len]; omega), pksB_len, Nat.add_sub_cancel_left]
      exact pkB_get _ _ hi
theorem sg_P (x : Int) (h : okP x) : sg (x % 256) = x := by
  unfold okP at h
  unfold sg
  split <;> omega
theorem sg_F (x : Int) (h : okF x) : sg (x % 256) = x := by
  unfold okF at h
  exact sg_P x ⟨by omega, h.2⟩
theorem enc_len (m : Msg) : (encB m).length = 3 + (bodyB m).length := by simp [encB, twoB]; omega
theorem enc_get (m : Msg) (i : Nat) : (encB m).getD (3 + i) 0 = (bodyB m).getD i 0 := by
  unfold encB twoB
  simp only [List.cons_append, List.nil_append]
  rw [show 3 + i = i + 1 + 1 + 1 by omega]
  simp [List.getD]
theorem enc_lenS (m : Msg) (h : (bodyB m).length ≤ 65535) : lenS (strB (encB m)) = (bodyB m).length := by
  unfold lenS
  rw [byt_strB _ (encB_isB m) 1 (by rw [enc_len]; omega), byt_strB _ (encB_isB m) 2 (by rw [enc_len]; omega)]
  show ((bodyB m).length : Int) / 256 % 256 * 256 + ((bodyB m).length : Int) % 256 = _
  omega
/-- The same message. -/
structure Same (a b : Msg) : Prop where
  kind : a.kind = b.kind
  prio : a.prio = b.prio
  mt : ∀ i, i < 6 → a.mt i = b.mt i
  na : a.na = b.na
  acts : ∀ j, j < b.na → ∀ i, i < 6 → a.acts j i = b.acts j i
  np : a.np = b.np
  pks : ∀ j, j < b.np → ∀ i, i < 6 → a.pks j i = b.pks j i
theorem pkB_cong {k l : Nat → Int} (h : ∀ i, i < 6 → k i = l i) : pkB k = pkB l := by
  unfold pkB
  rw [h 0 (by omega), h 1 (by omega), h 2 (by omega), h 3 (by omega), h 4 (by omega), h 5 (by omega)]
theorem pksB_cong {n : Nat} {ps qs : Nat → Nat → Int} (h : ∀ j, j < n → ∀ i, i < 6 → ps j i = qs j i) : pksB n ps = pksB n qs := by
  induction n with
  | zero => rfl
  | succ n ih => rw [pksB_succ, pksB_succ, ih (fun j hj => h j (by omega)), pkB_cong (h n (by omega))]
theorem right_cong {k l : Nat → Int} (h : ∀ i, i < 6 → k i = l i) (hr : rightS l) : rightS k := fun i hi => by rw [h i hi]; exact hr i hi
theorem open_cong {k l : Nat → Int} (h : ∀ i, i < 6 → k i = l i) (hr : openS l) : openS k := ⟨by rw [h 0 (by omega)]; exact hr.1, fun i hi => by rw [h i hi]; exact hr.2 i hi⟩
theorem Same.body {a b : Msg} (h : Same a b) : bodyB a = bodyB b := by
  unfold bodyB
  rw [h.kind, h.prio, pkB_cong h.mt, h.na, h.np, pksB_cong h.acts, pksB_cong h.pks]
theorem Same.noRule {a b : Msg} (h : Same a b) (hb : noRuleS b) : noRuleS a := ⟨h.prio.trans hb.1, fun i hi => (h.mt i hi).trans (hb.2.1 i hi), h.na.trans hb.2.2⟩
theorem Same.can {a b : Msg} (h : Same a b) (hb : canS b) : canS a ∧ encB a = encB b := by
  refine ⟨⟨?_, by rw [h.body]; exact hb.2⟩, by unfold encB; rw [h.body, h.kind]⟩
  have pk : (∀ j, j < b.np → rightS (b.pks j)) → ∀ j, j < a.np → rightS (a.pks j) := fun hr j hj => by
    rw [h.np] at hj
    exact right_cong (h.pks j hj) (hr j hj)
  rcases hb.1 with ⟨h1, h2, h3⟩ | ⟨h1, h2, h3, h4⟩ | ⟨h1, h2, h4⟩ | ⟨h1, h2, h3⟩
  · exact .inl ⟨h.kind.trans h1, ⟨by rw [h.prio]; exact h2.1, by rw [h.prio]; exact h2.2.1, open_cong h.mt h2.2.2.1, fun j hj => by rw [h.na] at hj; exact open_cong (h.acts j hj) (h2.2.2.2 j hj)⟩, h.np.trans h3⟩
  · exact .inr (.inl ⟨h.kind.trans h1, h.noRule h2, h.np.trans h3, pk h4⟩)
  · exact .inr (.inr (.inl ⟨h.kind.trans h1, h.noRule h2, pk h4⟩))
  · exact .inr (.inr (.inr ⟨by rw [h.kind]; exact h1, h.noRule h2, h.np.trans h3⟩))
theorem read_same (m : Msg) (hc : canS m) : Same (looseM (byt (strB (encB m)) 0) ((strB (encB m)).extract 3 (strB (encB m)).size)) m := by
  obtain ⟨s, hs⟩ : ∃ s, s = strB (encB m) := ⟨_, rfl⟩
  obtain ⟨t, ht⟩ : ∃ t, t = s.extract 3 s.size := ⟨_, rfl⟩
  have hsz : s.size = 3 + (bodyB m).length := by rw [hs, strB_size, enc_len]
  have htz : t.size = (bodyB m).length := by rw [ht, ByteArray.size_extract]; omega
  have hb : ∀ i, i < (bodyB m).length → byt t i = (bodyB m).getD i 0 := fun i hi => by
    rw [ht, byt_extract s 3 s.size i (by omega) (Nat.le_refl _), hs, byt_strB _ (encB_isB m) _ (by rw [enc_len]; omega), enc_get]
  have h0 : byt s 0 = m.kind % 256 := by
    rw [hs, byt_strB _ (encB_isB m) 0 (by rw [enc_len]; omega)]; rfl
  rw [← hs, ← ht, h0]
  clear ht hs h0
  rcases hc.1 with ⟨h1, h2, h3⟩ | ⟨h1, h2, h3, h4⟩ | ⟨h1, h2, h4⟩ | ⟨h1, h2, h3⟩
  · have hbd : bodyB m = twoB m.prio ++ pkB m.mt ++ twoB m.na ++ pksB m.na m.acts := by unfold bodyB; rw [if_pos h1]
    have hlen : (bodyB m).length = 10 + 6 * m.na := by rw [hbd]; simp [twoB, pkB, pksB_len]; omega
    have hk : m.kind % 256 = 1 := by omega
    rw [hk]
    unfold looseM
    rw [if_pos ⟨rfl, by omega⟩]
    have b0 : byt t 0 = m.prio / 256 % 256 := by rw [hb 0 (by omega), hbd]; rfl
    have b1 : byt t 1 = m.prio % 256 := by rw [hb 1 (by omega), hbd]; rfl
    refine ⟨h1.symm, ?_, fun i hi => ?_, ?_, fun j hj i hi => ?_, h3.symm, fun j hj => by rw [h3] at hj; omega⟩
    · show byt t 0 * 256 + byt t 1 = m.prio
      rw [b0, b1]
      have := h2.1
      have := h2.2.1
      omega
    · show sg (byt t (2 + i)) = m.mt i
      rw [hb (2 + i) (by omega), hbd, getD_left (by simp [twoB, pkB]; omega), getD_left (by simp [twoB, pkB]; omega), getD_right (by simp [twoB]), show 2 + i - (twoB m.prio).length = i by simp [twoB], pkB_get _ _ hi]
      exact sg_P _ (h2.2.2.1.2 i hi)
    · show (t.size - 10) / 6 = m.na
      omega
    · show sg (byt t (10 + 6 * j + i)) = m.acts j i
      rw [hb _ (by omega), hbd, getD_right (by simp [twoB, pkB]; omega), show 10 + 6 * j + i - (twoB m.prio ++ pkB m.mt ++ twoB m.na).length = 6 * j + i by simp [twoB, pkB]; omega, pksB_get _ _ j hj i hi]
      exact sg_P _ ((h2.2.2.2 j hj).2 i hi)
  · have hbd : bodyB m = pksB m.np m.pks := by unfold bodyB; rw [if_neg (by omega), if_neg (by omega)]
    have hlen : (bodyB m).length = 6 * m.np := by rw [hbd, pksB_len]
    have hk : m.kind % 256 = 4 := by omega
    rw [hk]
    unfold looseM
    rw [if_neg (by omega), if_neg (by omega), if_pos rfl]
    refine ⟨h1.symm, h2.1.symm, fun i hi => (h2.2.1 i hi).symm, h2.2.2.symm, fun j hj => by rw [h2.2.2] at hj; omega, ?_, fun j hj i hi => ?_⟩
    · show t.size / 6 = m.np
      omega
    · show sg (byt t (6 * j + i)) = m.pks j i
      rw [hb _ (by omega), hbd, pksB_get _ _ j hj i hi]
      exact sg_F _ (h4 j hj i hi)
  · have hbd : bodyB m = twoB m.np ++ pksB m.np m.pks := by unfold bodyB; rw [if_neg (by omega), if_pos h1]
    have hlen : (bodyB m).length = 2 + 6 * m.np := by rw [hbd]; simp [twoB, pksB_len]; omega
    have hk : m.kind % 256 = 5 := by omega
    rw [hk]
    unfold looseM
    rw [if_neg (by omega), if_pos ⟨rfl, by omega⟩]
    refine ⟨h1.symm, h2.1.symm, fun i hi => (h2.2.1 i hi).symm, h2.2.2.symm, fun j hj => by rw [h2.2.2] at hj; omega, ?_, fun j hj i hi => ?_⟩
    · show (t.size - 2) / 6 = m.np
      omega
    · show sg (byt t (2 + 6 * j + i)) = m.pks j i
      rw [hb _ (by omega), hbd, getD_right (by simp [twoB]; omega), show 2 + 6 * j + i - (twoB m.np).length = 6 * j + i by simp [twoB]; omega, pksB_get _ _ j hj i hi]
      exact sg_F _ (h4 j hj i hi)
  · have hk : m.kind % 256 = m.kind := by omega
    rw [hk]
    unfold looseM
    rw [if_neg (by omega), if_neg (by omega), if_neg (by omega)]
    exact ⟨rfl, h2.1.symm, fun i hi => (h2.2.1 i hi).symm, h2.2.2.symm, fun j hj => by rw [h2.2.2] at hj; omega, h3.symm, fun j hj => by rw [h3] at hj; omega⟩
end Go.Proofs.Ytlhkfafdioakeaa
