/- Proved here: the law that sums, seqs, stars and negations do what their parts do, over any two texts and raw numbers. -/
import Derived.Test.YtlhkfafdioakeaaGreatDoorBuB
import Derived.Test.YtlhkfafdioakeaaGreatDoorBuC
import Derived.Test.YtlhkfafdioakeaaGreatDoorBuD
namespace Go.Proofs.YtlhkfafdioakeaaGreatDoor
open Go.RowKit Go.Weft
set_option linter.unusedVariables false
set_option linter.unusedSimpArgs false
theorem built_oo (a b : ByteArray) (rv : Value) (m : Nat) (w : World) (hn : Names w) (ha4 : a.size ≤ 9223372036854775807) (hb4 : b.size ≤ 9223372036854775807) (t u : Code) (ha : readS a = .ok t) (hb : readS b = .ok u) (hrow : IRow w rv m) :
    Calls Tryz.prog 5 #[.string a, .string b, rv] w fun e w' => e = .returned (.bool true) ∧ w.grownBy w' none := by
  obtain ⟨⟨ra, rc, rfl⟩, hm⟩ := hrow.slice
  have ha5 : a.size ≤ 400 := by obtain ⟨_, _, _, _, _, _, h⟩ := read_to a ha; exact h
  have hb5 : b.size ≤ 400 := by obtain ⟨_, _, _, _, _, _, h⟩ := read_to b hb; exact h
  have P1 := hide (known_any w hn)
  have KA := hide (kok_of hn ha4 ha)
  have KB := hide (kok_of hn hb4 hb)
  obtain ⟨s1, hs1⟩ : ∃ s1 : ByteArray, s1 = (⟨#[40]⟩ : ByteArray) ++ a ++ (⟨#[41, 43, 40]⟩ : ByteArray) ++ b ++ (⟨#[41]⟩ : ByteArray) := ⟨_, rfl⟩
  have l1 : s1.data.toList = 40 :: (a.data.toList ++ 41 :: 43 :: 40 :: (b.data.toList ++ [41])) := by rw [hs1]; simp
  have z1 : s1.size ≤ 9223372036854775807 := by
    have e : s1.size = s1.data.toList.length := by simp
    have ea : a.data.toList.length = a.size := by simp
    have eb : b.data.toList.length = b.size := by simp
    rw [e, l1]
    simp only [List.length_cons, List.length_append, List.length_nil]
    omega
  obtain ⟨s2, hs2⟩ : ∃ s2 : ByteArray, s2 = (⟨#[40]⟩ : ByteArray) ++ a ++ (⟨#[41, 59, 40]⟩ : ByteArray) ++ b ++ (⟨#[41]⟩ : ByteArray) := ⟨_, rfl⟩
  have l2 : s2.data.toList = 40 :: (a.data.toList ++ 41 :: 59 :: 40 :: (b.data.toList ++ [41])) := by rw [hs2]; simp
  have z2 : s2.size ≤ 9223372036854775807 := by
    have e : s2.size = s2.data.toList.length := by simp
    have ea : a.data.toList.length = a.size := by simp
    have eb : b.data.toList.length = b.size := by simp
    rw [e, l2]
    simp only [List.length_cons, List.length_append, List.length_nil]
    omega
  obtain ⟨s3, hs3⟩ : ∃ s3 : ByteArray, s3 = (⟨#[40]⟩ : ByteArray) ++ a ++ (⟨#[41, 42]⟩ : ByteArray) := ⟨_, rfl⟩
  have l3 : s3.data.toList = 40 :: (a.data.toList ++ [41, 42]) := by rw [hs3]; simp
  have z3 : s3.size ≤ 9223372036854775807 := by
    have e : s3.size = s3.data.toList.length := by simp
    have ea : a.data.toList.length = a.size := by simp
    have eb : b.data.toList.length = b.size := by simp
    rw [e, l3]
    simp only [List.length_cons, List.length_append, List.length_nil]
    omega
  obtain ⟨s4, hs4⟩ : ∃ s4 : ByteArray, s4 = (⟨#[33, 40]⟩ : ByteArray) ++ a ++ (⟨#[41]⟩ : ByteArray) := ⟨_, rfl⟩
  have l4 : s4.data.toList = 33 :: 40 :: (a.data.toList ++ [41]) := by rw [hs4]; simp
  have z4 : s4.size ≤ 9223372036854775807 := by
    have e : s4.size = s4.data.toList.length := by simp
    have ea : a.data.toList.length = a.size := by simp
    have eb : b.data.toList.length = b.size := by simp
    rw [e, l4]
    simp only [List.length_cons, List.length_append, List.length_nil]
    omega
  rcases read_sum ha hb s1 l1 with h1 | ⟨e1, p1, r1, h1⟩
  · rcases read_seq ha hb s2 l2 with h2 | ⟨e2, p2, r2, h2⟩
    · rcases read_star ha s3 l3 with h3 | ⟨e3, p3, r3, h3⟩
      · rcases read_neg ha s4 l4 with ⟨h4, _⟩ | ⟨e4, p4, (h | h | h), h4⟩
        · exact bu_oooo a b s1 s2 s3 s4 ra rc m w t u hm ha5 hb5 hs1 hs2 hs3 hs4 P1 KA KB (hide (kok_of hn z1 h1)) (hide (kok_of hn z2 h2)) (hide (kok_of hn z3 h3)) (hide (kok_of hn z4 h4)) (hide hrow)
        · exact bu_oool a b s1 s2 s3 s4 ra rc m w t u hm ha5 hb5 hs1 hs2 hs3 hs4 P1 KA KB (hide (kok_of hn z1 h1)) (hide (kok_of hn z2 h2)) (hide (kok_of hn z3 h3)) (hide (ker_of (L := lim2) hn z4 (.inl h) h4)) (hide hrow)
        · exact bu_oool a b s1 s2 s3 s4 ra rc m w t u hm ha5 hb5 hs1 hs2 hs3 hs4 P1 KA KB (hide (kok_of hn z1 h1)) (hide (kok_of hn z2 h2)) (hide (kok_of hn z3 h3)) (hide (ker_of (L := lim2) hn z4 (.inr h) h4)) (hide hrow)
        · exact bu_ooot a b s1 s2 s3 s4 ra rc m w t u hm ha5 hb5 hs1 hs2 hs3 hs4 P1 KA KB (hide (kok_of hn z1 h1)) (hide (kok_of hn z2 h2)) (hide (kok_of hn z3 h3)) (hide (ker_of (L := lim6) hn z4 h h4)) (hide hrow)
      · rcases read_neg ha s4 l4 with ⟨h4, _⟩ | ⟨e4, p4, (h | h | h), h4⟩
        · exact bu_ooeo a b s1 s2 s3 s4 ra rc m w t u hm ha5 hb5 hs1 hs2 hs3 hs4 P1 KA KB (hide (kok_of hn z1 h1)) (hide (kok_of hn z2 h2)) (hide (ker_of (L := lim2) hn z3 r3 h3)) (hide (kok_of hn z4 h4)) (hide hrow)
        · exact bu_ooel a b s1 s2 s3 s4 ra rc m w t u hm ha5 hb5 hs1 hs2 hs3 hs4 P1 KA KB (hide (kok_of hn z1 h1)) (hide (kok_of hn z2 h2)) (hide (ker_of (L := lim2) hn z3 r3 h3)) (hide (ker_of (L := lim2) hn z4 (.inl h) h4)) (hide hrow)
        · exact bu_ooel a b s1 s2 s3 s4 ra rc m w t u hm ha5 hb5 hs1 hs2 hs3 hs4 P1 KA KB (hide (kok_of hn z1 h1)) (hide (kok_of hn z2 h2)) (hide (ker_of (L := lim2) hn z3 r3 h3)) (hide (ker_of (L := lim2) hn z4 (.inr h) h4)) (hide hrow)
        · exact bu_ooet a b s1 s2 s3 s4 ra rc m w t u hm ha5 hb5 hs1 hs2 hs3 hs4 P1 KA KB (hide (kok_of hn z1 h1)) (hide (kok_of hn z2 h2)) (hide (ker_of (L := lim2) hn z3 r3 h3)) (hide (ker_of (L := lim6) hn z4 h h4)) (hide hrow)
    · rcases read_star ha s3 l3 with h3 | ⟨e3, p3, r3, h3⟩
      · rcases read_neg ha s4 l4 with ⟨h4, _⟩ | ⟨e4, p4, (h | h | h), h4⟩
        · exact bu_oeoo a b s1 s2 s3 s4 ra rc m w t u hm ha5 hb5 hs1 hs2 hs3 hs4 P1 KA KB (hide (kok_of hn z1 h1)) (hide (ker_of (L := lim2) hn z2 r2 h2)) (hide (kok_of hn z3 h3)) (hide (kok_of hn z4 h4)) (hide hrow)
        · exact bu_oeol a b s1 s2 s3 s4 ra rc m w t u hm ha5 hb5 hs1 hs2 hs3 hs4 P1 KA KB (hide (kok_of hn z1 h1)) (hide (ker_of (L := lim2) hn z2 r2 h2)) (hide (kok_of hn z3 h3)) (hide (ker_of (L := lim2) hn z4 (.inl h) h4)) (hide hrow)
        · exact bu_oeol a b s1 s2 s3 s4 ra rc m w t u hm ha5 hb5 hs1 hs2 hs3 hs4 P1 KA KB (hide (kok_of hn z1 h1)) (hide (ker_of (L := lim2) hn z2 r2 h2)) (hide (kok_of hn z3 h3)) (hide (ker_of (L := lim2) hn z4 (.inr h) h4)) (hide hrow)
        · exact bu_oeot a b s1 s2 s3 s4 ra rc m w t u hm ha5 hb5 hs1 hs2 hs3 hs4 P1 KA KB (hide (kok_of hn z1 h1)) (hide (ker_of (L := lim2) hn z2 r2 h2)) (hide (kok_of hn z3 h3)) (hide (ker_of (L := lim6) hn z4 h h4)) (hide hrow)
      · rcases read_neg ha s4 l4 with ⟨h4, _⟩ | ⟨e4, p4, (h | h | h), h4⟩
        · exact bu_oeeo a b s1 s2 s3 s4 ra rc m w t u hm ha5 hb5 hs1 hs2 hs3 hs4 P1 KA KB (hide (kok_of hn z1 h1)) (hide (ker_of (L := lim2) hn z2 r2 h2)) (hide (ker_of (L := lim2) hn z3 r3 h3)) (hide (kok_of hn z4 h4)) (hide hrow)
        · exact bu_oeel a b s1 s2 s3 s4 ra rc m w t u hm ha5 hb5 hs1 hs2 hs3 hs4 P1 KA KB (hide (kok_of hn z1 h1)) (hide (ker_of (L := lim2) hn z2 r2 h2)) (hide (ker_of (L := lim2) hn z3 r3 h3)) (hide (ker_of (L := lim2) hn z4 (.inl h) h4)) (hide hrow)
        · exact bu_oeel a b s1 s2 s3 s4 ra rc m w t u hm ha5 hb5 hs1 hs2 hs3 hs4 P1 KA KB (hide (kok_of hn z1 h1)) (hide (ker_of (L := lim2) hn z2 r2 h2)) (hide (ker_of (L := lim2) hn z3 r3 h3)) (hide (ker_of (L := lim2) hn z4 (.inr h) h4)) (hide hrow)
        · exact bu_oeet a b s1 s2 s3 s4 ra rc m w t u hm ha5 hb5 hs1 hs2 hs3 hs4 P1 KA KB (hide (kok_of hn z1 h1)) (hide (ker_of (L := lim2) hn z2 r2 h2)) (hide (ker_of (L := lim2) hn z3 r3 h3)) (hide (ker_of (L := lim6) hn z4 h h4)) (hide hrow)
  · rcases read_seq ha hb s2 l2 with h2 | ⟨e2, p2, r2, h2⟩
    · rcases read_star ha s3 l3 with h3 | ⟨e3, p3, r3, h3⟩
      · rcases read_neg ha s4 l4 with ⟨h4, _⟩ | ⟨e4, p4, (h | h | h), h4⟩
        · exact bu_eooo a b s1 s2 s3 s4 ra rc m w t u hm ha5 hb5 hs1 hs2 hs3 hs4 P1 KA KB (hide (ker_of (L := lim2) hn z1 r1 h1)) (hide (kok_of hn z2 h2)) (hide (kok_of hn z3 h3)) (hide (kok_of hn z4 h4)) (hide hrow)
        · exact bu_eool a b s1 s2 s3 s4 ra rc m w t u hm ha5 hb5 hs1 hs2 hs3 hs4 P1 KA KB (hide (ker_of (L := lim2) hn z1 r1 h1)) (hide (kok_of hn z2 h2)) (hide (kok_of hn z3 h3)) (hide (ker_of (L := lim2) hn z4 (.inl h) h4)) (hide hrow)
        · exact bu_eool a b s1 s2 s3 s4 ra rc m w t u hm ha5 hb5 hs1 hs2 hs3 hs4 P1 KA KB (hide (ker_of (L := lim2) hn z1 r1 h1)) (hide (kok_of hn z2 h2)) (hide (kok_of hn z3 h3)) (hide (ker_of (L := lim2) hn z4 (.inr h) h4)) (hide hrow)
        · exact bu_eoot a b s1 s2 s3 s4 ra rc m w t u hm ha5 hb5 hs1 hs2 hs3 hs4 P1 KA KB (hide (ker_of (L := lim2) hn z1 r1 h1)) (hide (kok_of hn z2 h2)) (hide (kok_of hn z3 h3)) (hide (ker_of (L := lim6) hn z4 h h4)) (hide hrow)
      · rcases read_neg ha s4 l4 with ⟨h4, _⟩ | ⟨e4, p4, (h | h | h), h4⟩
        · exact bu_eoeo a b s1 s2 s3 s4 ra rc m w t u hm ha5 hb5 hs1 hs2 hs3 hs4 P1 KA KB (hide (ker_of (L := lim2) hn z1 r1 h1)) (hide (kok_of hn z2 h2)) (hide (ker_of (L := lim2) hn z3 r3 h3)) (hide (kok_of hn z4 h4)) (hide hrow)
        · exact bu_eoel a b s1 s2 s3 s4 ra rc m w t u hm ha5 hb5 hs1 hs2 hs3 hs4 P1 KA KB (hide (ker_of (L := lim2) hn z1 r1 h1)) (hide (kok_of hn z2 h2)) (hide (ker_of (L := lim2) hn z3 r3 h3)) (hide (ker_of (L := lim2) hn z4 (.inl h) h4)) (hide hrow)
        · exact bu_eoel a b s1 s2 s3 s4 ra rc m w t u hm ha5 hb5 hs1 hs2 hs3 hs4 P1 KA KB (hide (ker_of (L := lim2) hn z1 r1 h1)) (hide (kok_of hn z2 h2)) (hide (ker_of (L := lim2) hn z3 r3 h3)) (hide (ker_of (L := lim2) hn z4 (.inr h) h4)) (hide hrow)
        · exact bu_eoet a b s1 s2 s3 s4 ra rc m w t u hm ha5 hb5 hs1 hs2 hs3 hs4 P1 KA KB (hide (ker_of (L := lim2) hn z1 r1 h1)) (hide (kok_of hn z2 h2)) (hide (ker_of (L := lim2) hn z3 r3 h3)) (hide (ker_of (L := lim6) hn z4 h h4)) (hide hrow)
    · rcases read_star ha s3 l3 with h3 | ⟨e3, p3, r3, h3⟩
      · rcases read_neg ha s4 l4 with ⟨h4, _⟩ | ⟨e4, p4, (h | h | h), h4⟩
        · exact bu_eeoo a b s1 s2 s3 s4 ra rc m w t u hm ha5 hb5 hs1 hs2 hs3 hs4 P1 KA KB (hide (ker_of (L := lim2) hn z1 r1 h1)) (hide (ker_of (L := lim2) hn z2 r2 h2)) (hide (kok_of hn z3 h3)) (hide (kok_of hn z4 h4)) (hide hrow)
        · exact bu_eeol a b s1 s2 s3 s4 ra rc m w t u hm ha5 hb5 hs1 hs2 hs3 hs4 P1 KA KB (hide (ker_of (L := lim2) hn z1 r1 h1)) (hide (ker_of (L := lim2) hn z2 r2 h2)) (hide (kok_of hn z3 h3)) (hide (ker_of (L := lim2) hn z4 (.inl h) h4)) (hide hrow)
        · exact bu_eeol a b s1 s2 s3 s4 ra rc m w t u hm ha5 hb5 hs1 hs2 hs3 hs4 P1 KA KB (hide (ker_of (L := lim2) hn z1 r1 h1)) (hide (ker_of (L := lim2) hn z2 r2 h2)) (hide (kok_of hn z3 h3)) (hide (ker_of (L := lim2) hn z4 (.inr h) h4)) (hide hrow)
        · exact bu_eeot a b s1 s2 s3 s4 ra rc m w t u hm ha5 hb5 hs1 hs2 hs3 hs4 P1 KA KB (hide (ker_of (L := lim2) hn z1 r1 h1)) (hide (ker_of (L := lim2) hn z2 r2 h2)) (hide (kok_of hn z3 h3)) (hide (ker_of (L := lim6) hn z4 h h4)) (hide hrow)
      · rcases read_neg ha s4 l4 with ⟨h4, _⟩ | ⟨e4, p4, (h | h | h), h4⟩
        · exact bu_eeeo a b s1 s2 s3 s4 ra rc m w t u hm ha5 hb5 hs1 hs2 hs3 hs4 P1 KA KB (hide (ker_of (L := lim2) hn z1 r1 h1)) (hide (ker_of (L := lim2) hn z2 r2 h2)) (hide (ker_of (L := lim2) hn z3 r3 h3)) (hide (kok_of hn z4 h4)) (hide hrow)
        · exact bu_eeel a b s1 s2 s3 s4 ra rc m w t u hm ha5 hb5 hs1 hs2 hs3 hs4 P1 KA KB (hide (ker_of (L := lim2) hn z1 r1 h1)) (hide (ker_of (L := lim2) hn z2 r2 h2)) (hide (ker_of (L := lim2) hn z3 r3 h3)) (hide (ker_of (L := lim2) hn z4 (.inl h) h4)) (hide hrow)
        · exact bu_eeel a b s1 s2 s3 s4 ra rc m w t u hm ha5 hb5 hs1 hs2 hs3 hs4 P1 KA KB (hide (ker_of (L := lim2) hn z1 r1 h1)) (hide (ker_of (L := lim2) hn z2 r2 h2)) (hide (ker_of (L := lim2) hn z3 r3 h3)) (hide (ker_of (L := lim2) hn z4 (.inr h) h4)) (hide hrow)
        · exact bu_eeet a b s1 s2 s3 s4 ra rc m w t u hm ha5 hb5 hs1 hs2 hs3 hs4 P1 KA KB (hide (ker_of (L := lim2) hn z1 r1 h1)) (hide (ker_of (L := lim2) hn z2 r2 h2)) (hide (ker_of (L := lim2) hn z3 r3 h3)) (hide (ker_of (L := lim6) hn z4 h h4)) (hide hrow)
theorem built_any (a b : ByteArray) (rv : Value) (m : Nat) (w : World) (hn : Names w) (ha4 : a.size ≤ 9223372036854775807) (hb4 : b.size ≤ 9223372036854775807) (hrow : IRow w rv m) :
    Calls Tryz.prog 5 #[.string a, .string b, rv] w fun e w' => e = .returned (.bool true) ∧ w.grownBy w' none := by
  cases ha : readS a with
  | ok t =>
    cases hb : readS b with
    | ok u => exact built_oo a b rv m w hn ha4 hb4 t u ha hb hrow
    | error e => obtain ⟨en, pl⟩ := e; exact built_oe a b rv w hn ha4 hb4 t ha en pl hb
  | error e =>
    obtain ⟨en, pl⟩ := e
    cases hb : readS b with
    | ok u => exact built_eo a b rv w hn ha4 hb4 en pl ha u hb
    | error e2 => obtain ⟨en2, pl2⟩ := e2; exact built_ee a b rv w hn ha4 hb4 en pl ha en2 pl2 hb
end Go.Proofs.YtlhkfafdioakeaaGreatDoor
