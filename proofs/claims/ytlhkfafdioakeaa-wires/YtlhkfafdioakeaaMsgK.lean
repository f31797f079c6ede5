/- Proved here: which message may be written with some bytes, whatever its kind. -/
import Derived.Test.YtlhkfafdioakeaaMsgJ
namespace Go.Proofs.Ytlhkfafdioakeaa
open Go.RowKit
set_option linter.unusedVariables false
set_option linter.unusedSimpArgs false
/-- The message of this kind that may be written with such bytes behind kind and length. -/
def looseM (k : Int) (s : ByteArray) : Msg :=
  if k = 1 ∧ 10 ≤ s.size then ⟨1, byt s 0 * 256 + byt s 1, fun i => sg (byt s (2 + i)), (s.size - 10) / 6, fun j i => sg (byt s (10 + 6 * j + i)), 0, fun _ _ => 0⟩
  else if k = 5 ∧ 2 ≤ s.size then ⟨5, 0, fun _ => 0, 0, fun _ _ => 0, (s.size - 2) / 6, fun j i => sg (byt s (2 + 6 * j + i))⟩
  else if k = 4 then ⟨4, 0, fun _ => 0, 0, fun _ _ => 0, s.size / 6, pkS s⟩
  else ⟨k, 0, fun _ => 0, 0, fun _ _ => 0, 0, fun _ _ => 0⟩
/-- A message in a world, as a value. -/
def MsgAt (w : World) (m : Msg) (v : Value) : Prop := ∃ av pv, v = msgV m av pv ∧ PkRow w av m.na m.acts ∧ PkRow w pv m.np m.pks ∧ RowIn w.heap.size av ∧ RowIn w.heap.size pv
theorem PkRow.nil (w : World) (ps : Nat → Nat → Int) : PkRow w (.slice none 0 0) 0 ps := .inl ⟨rfl, rfl⟩
theorem RowIn.nil (B : Nat) : RowIn B (.slice none 0 0) := fun g off n cap e => by cases e
theorem RowFrom.nil (B : Nat) : RowFrom B (.slice none 0 0) := fun g off n cap e => by cases e
theorem loose_any (k : Int) (s : ByteArray) (w : World) (hs : s.size ≤ 1000000) :
    Calls Try.prog 43 #[.int .i64 k, .string s] w fun e w' => ∃ av pv, e = .returned (msgV (looseM k s) av pv) ∧ PkRow w' av (looseM k s).na (looseM k s).acts ∧ PkRow w' pv (looseM k s).np (looseM k s).pks ∧ RowIn w'.heap.size av ∧ RowIn w'.heap.size pv ∧ RowFrom w.heap.size av ∧ RowFrom w.heap.size pv ∧ w.grownBy w' none := by
  unfold looseM
  by_cases h1 : k = 1 ∧ 10 ≤ s.size
  · rw [if_pos h1]
    obtain ⟨rfl, h10⟩ := h1
    refine (loose1_any s w hs h10).mono ?_
    rintro e w' ⟨v, rfl, h1, h2, h4, h3⟩
    exact ⟨v, .slice none 0 0, rfl, h1, PkRow.nil _ _, h2, RowIn.nil _, h4, RowFrom.nil _, h3⟩
  by_cases h5 : k = 5 ∧ 2 ≤ s.size
  · rw [if_neg h1, if_pos h5]
    obtain ⟨rfl, h2⟩ := h5
    refine (loose5_any s w hs h2).mono ?_
    rintro e w' ⟨v, rfl, h1, h2, h4, h3⟩
    exact ⟨.slice none 0 0, v, rfl, PkRow.nil _ _, h1, RowIn.nil _, h2, RowFrom.nil _, h4, h3⟩
  by_cases h4 : k = 4
  · rw [if_neg h1, if_neg h5, if_pos h4]
    subst h4
    refine (loose4_any s w hs).mono ?_
    rintro e w' ⟨v, rfl, h1, h2, h4, h3⟩
    exact ⟨.slice none 0 0, v, rfl, PkRow.nil _ _, h1, RowIn.nil _, h2, RowFrom.nil _, h4, h3⟩
  · rw [if_neg h1, if_neg h5, if_neg h4]
    refine (loose0_any k s w hs h1 h5 h4).mono ?_
    rintro e w' ⟨rfl, h3⟩
    exact ⟨.slice none 0 0, .slice none 0 0, rfl, PkRow.nil _ _, PkRow.nil _ _, RowIn.nil _, RowIn.nil _, RowFrom.nil _, RowFrom.nil _, h3⟩

def zeroA : Value := .agg #[.int .i64 0, .int .i64 0, .int .i64 0, .int .i64 0, .int .i64 0, .int .i64 0, .int .i64 0, .int .i64 0, .slice none 0 0, .slice none 0 0]
set_option maxRecDepth 100000 in
set_option maxHeartbeats 4000000 in
theorem decode_short (s : ByteArray) (w : World) (hs : s.size < 3) :
    Calls Try.prog 29 #[.string s] w fun e w' => e = .returned (.tuple #[zeroA, .int .i64 10]) ∧ w.grownBy w' none := by
  have h1 : (s.size : Int) < 3 := by omega
  unfold zeroA
  go_enter Try.func29, Try.ntmps29
  go_wp2
  refine bodyPost_ret (by simp [results, Try.results29, go_sem]; try rfl) rfl ?_
  exact ⟨rfl, World.grownBy_alloc _ _ _⟩
/-- The length that some bytes ask for. -/
def lenS (s : ByteArray) : Int := byt s 1 * 256 + byt s 2
theorem lenS_range (s : ByteArray) : 0 ≤ lenS s ∧ lenS s ≤ 65535 := by
  have := byt_range s 1
  have := byt_range s 2
  unfold lenS
  omega
theorem lens_any (s : ByteArray) (w : World) (hs : 3 ≤ s.size) : Calls Try.prog 42 #[.string (s.extract 1 s.size)] w fun e w' => e = .returned (.int .i64 (lenS s)) ∧ ∃ n, w' = w.drewN n := by
  have h := two_any (s.extract 1 s.size) w (by rw [ByteArray.size_extract]; omega)
  rw [byt_extract s 1 s.size 0 (by omega) (Nat.le_refl _), byt_extract s 1 s.size 1 (by omega) (Nat.le_refl _)] at h
  exact h

end Go.Proofs.Ytlhkfafdioakeaa
