/- Proved here: the message that the document reads out of bytes, and that it is the program's where either may be written so. -/
import Derived.Test.YtlhkfafdioakeaaRwL
import Derived.Test.YtlhkfafdioakeaaCodC
namespace Go.Proofs.Ytlhkfafdioakeaa
open Go.RowKit
set_option linter.unusedVariables false
set_option linter.unusedSimpArgs false
/-- The message that the document reads out of such bytes behind kind and length. -/
def looseR (k : Int) (s : ByteArray) : Msg :=
  if k = 1 ∧ 10 ≤ s.size then ⟨1, byt s 0 * 256 + byt s 1, fun i => rg (byt s (2 + i)), (s.size - 10) / 6, fun j i => rg (byt s (10 + 6 * j + i)), 0, fun _ _ => 0⟩
  else if k = 5 ∧ 2 ≤ s.size then ⟨5, 0, fun _ => 0, 0, fun _ _ => 0, (s.size - 2) / 6, fun j i => rg (byt s (2 + 6 * j + i))⟩
  else if k = 4 then ⟨4, 0, fun _ => 0, 0, fun _ _ => 0, s.size / 6, pkR s⟩
  else ⟨k, 0, fun _ => 0, 0, fun _ _ => 0, 0, fun _ _ => 0⟩
theorem rg_P (x : Int) (h : okP x) : rg (x % 256) = x := by
  unfold okP at h
  unfold rg
  split <;> omega
theorem rg_F (x : Int) (h : okF x) : rg (x % 256) = x := by
  unfold okF at h
  exact rg_P x ⟨by omega, h.2⟩
theorem read_sameR (m : Msg) (hc : canS m) : Same (looseR (byt (strB (encB m)) 0) ((strB (encB m)).extract 3 (strB (encB m)).size)) m := by
  obtain ⟨s, hs⟩ : ∃ s, s = strB (encB m) := ⟨_, rfl⟩
  obtain ⟨t, ht⟩ : ∃ t, t = s.extract 3 s.size := ⟨_, rfl⟩
  have hsz : s.size = 3 + (bodyB m).length := by rw [hs, strB_size, enc_len]
  have htz : t.size = (bodyB m).length := by rw [ht, ByteArray.size_extract]; omega
  have hb : ∀ i, i < (bodyB m).length → byt t i = (bodyB m).getD i 0 := fun i hi => by
    rw [ht, byt_extract s 3 s.size i (by omega) (Nat.le_refl _), hs, byt_strB _ (encB_isB m) _ (by rw [enc_len]; omega), enc_get]
  have h0 : byt s 0 = m.kind % 256 := by
    rw [hs, byt_strB _ (encB_isB m) 0 (by rw [enc_len]; omega)]; rfl
  rw [← hs, ← ht, h0]
  clear ht hs h0
  rcases hc.1 with ⟨h1, h2, h3⟩ | ⟨h1, h2, h3, h4⟩ | ⟨h1, h2, h4⟩ | ⟨h1, h2, h3⟩
  · have hbd : bodyB m = twoB m.prio ++ pkB m.mt ++ twoB m.na ++ pksB m.na m.acts := by unfold bodyB; rw [if_pos h1]
    have hlen : (bodyB m).length = 10 + 6 * m.na := by rw [hbd]; simp [twoB, pkB, pksB_len]; omega
    have hk : m.kind % 256 = 1 := by omega
    rw [hk]
    unfold looseR
    rw [if_pos ⟨rfl, by omega⟩]
    have b0 : byt t 0 = m.prio / 256 % 256 := by rw [hb 0 (by omega), hbd]; rfl
    have b1 : byt t 1 = m.prio % 256 := by rw [hb 1 (by omega), hbd]; rfl
    refine ⟨h1.symm, ?_, fun i hi => ?_, ?_, fun j hj i hi => ?_, h3.symm, fun j hj => by rw [h3] at hj; omega⟩
    · show byt t 0 * 256 + byt t 1 = m.prio
      rw [b0, b1]
      have := h2.1
      have := h2.2.1
      omega
    · show rg (byt t (2 + i)) = m.mt i
      rw [hb (2 + i) (by omega), hbd, getD_left (by simp [twoB, pkB]; omega), getD_left (by simp [twoB, pkB]; omega), getD_right (by simp [twoB]), show 2 + i - (twoB m.prio).length = i by simp [twoB], pkB_get _ _ hi]
      exact rg_P _ (h2.2.2.1.2 i hi)
    · show (t.size - 10) / 6 = m.na
      omega
    · show rg (byt t (10 + 6 * j + i)) = m.acts j i
      rw [hb _ (by omega), hbd, getD_right (by simp [twoB, pkB]; omega), show 10 + 6 * j + i - (twoB m.prio ++ pkB m.mt ++ twoB m.na).length = 6 * j + i by simp [twoB, pkB]; omega, pksB_get _ _ j hj i hi]
      exact rg_P _ ((h2.2.2.2 j hj).2 i hi)
  · have hbd : bodyB m = pksB m.np m.pks := by unfold bodyB; rw [if_neg (by omega), if_neg (by omega)]
    have hlen : (bodyB m).length = 6 * m.np := by rw [hbd, pksB_len]
    have hk : m.kind % 256 = 4 := by omega
    rw [hk]
    unfold looseR
    rw [if_neg (by omega), if_neg (by omega), if_pos rfl]
    refine ⟨h1.symm, h2.1.symm, fun i hi => (h2.2.1 i hi).symm, h2.2.2.symm, fun j hj => by rw [h2.2.2] at hj; omega, ?_, fun j hj i hi => ?_⟩
    · show t.size / 6 = m.np
      omega
    · show rg (byt t (6 * j + i)) = m.pks j i
      rw [hb _ (by omega), hbd, pksB_get _ _ j hj i hi]
      exact rg_F _ (h4 j hj i hi)
  · have hbd : bodyB m = twoB m.np ++ pksB m.np m.pks := by unfold bodyB; rw [if_neg (by omega), if_pos h1]
    have hlen : (bodyB m).length = 2 + 6 * m.np := by rw [hbd]; simp [twoB, pksB_len]; omega
    have hk : m.kind % 256 = 5 := by omega
    rw [hk]
    unfold looseR
    rw [if_neg (by omega), if_pos ⟨rfl, by omega⟩]
    refine ⟨h1.symm, h2.1.symm, fun i hi => (h2.2.1 i hi).symm, h2.2.2.symm, fun j hj => by rw [h2.2.2] at hj; omega, ?_, fun j hj i hi => ?_⟩
    · show (t.size - 2) / 6 = m.np
      omega
    · show rg (byt t (2 + 6 * j + i)) = m.pks j i
      rw [hb _ (by omega), hbd, getD_right (by simp [twoB]; omega), show 2 + 6 * j + i - (twoB m.np).length = 6 * j + i by simp [twoB]; omega, pksB_get _ _ j hj i hi]
      exact rg_F _ (h4 j hj i hi)
  · have hk : m.kind % 256 = m.kind := by omega
    rw [hk]
    unfold looseR
    rw [if_neg (by omega), if_neg (by omega), if_neg (by omega)]
    exact ⟨rfl, h2.1.symm, fun i hi => (h2.2.1 i hi).symm, h2.2.2.symm, fun j hj => by rw [h2.2.2] at hj; omega, h3.symm, fun j hj => by rw [h3] at hj; omega⟩
theorem Same.symm {a b : Msg} (h : Same a b) : Same b a := ⟨h.kind.symm, h.prio.symm, fun i hi => (h.mt i hi).symm, h.na.symm, fun j hj i hi => (h.acts j (by rw [← h.na]; exact hj) i hi).symm, h.np.symm, fun j hj i hi => (h.pks j (by rw [← h.np]; exact hj) i hi).symm⟩
/-- May a message be written as these bytes? -/
def isOf (M : Msg) (s : ByteArray) : Prop := canS M ∧ strB (encB M) = s
theorem loose_same (s : ByteArray) (h : isOf (looseR (byt s 0) (s.extract 3 s.size)) s ∨ isOf (looseM (byt s 0) (s.extract 3 s.size)) s) : Same (looseM (byt s 0) (s.extract 3 s.size)) (looseR (byt s 0) (s.extract 3 s.size)) := by
  rcases h with ⟨h1, h2⟩ | ⟨h1, h2⟩
  · have := read_same _ h1
    rw [h2] at this
    exact this
  · have := read_sameR _ h1
    rw [h2] at this
    exact this.symm
theorem loose_iff (s : ByteArray) : isOf (looseR (byt s 0) (s.extract 3 s.size)) s ↔ isOf (looseM (byt s 0) (s.extract 3 s.size)) s := by
  constructor
  · intro h
    have hs := loose_same s (.inl h)
    obtain ⟨h1, h2⟩ := hs.can h.1
    exact ⟨h1, by rw [h2]; exact h.2⟩
  · intro h
    have hs := (loose_same s (.inr h)).symm
    obtain ⟨h1, h2⟩ := hs.can h.1
    exact ⟨h1, by rw [h2]; exact h.2⟩
end Go.Proofs.Ytlhkfafdioakeaa
