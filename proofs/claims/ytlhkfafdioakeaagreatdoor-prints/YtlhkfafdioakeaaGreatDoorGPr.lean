/- GPr: several parts, each with what it proves in plain words at its head. -/
import Derived.Test.YtlhkfafdioakeaaGreatDoorGRefY
import Derived.Test.YtlhkfafdioakeaaGreatDoorGComp
import Derived.Test.YtlhkfafdioakeaaGreatDoorRows
import Derived.Test.YtlhkfafdioakeaaGreatDoorGRead
import Derived.ProofKit
import Derived.LaidMore
import Derived.OpenShut
import Derived.ShutString
import Derived.Stop.Joined
import Derived.Test.YtlhkfafdioakeaaGreatDoorCards
import Derived.Test.YtlhkfafdioakeaaGreatDoorTie
import Derived.SevenTiedAt
/- Proved here: the walk of weftlaw.Prints: for every text it answers true. -/
namespace Go.Proofs.YtlhkfafdioakeaaGreatDoor
open Go.RowKit Go.Weft
set_option linter.unusedVariables false
set_option linter.unusedSimpArgs false
theorem below_grown {w w' : World} (h : w.grownBy w' none) : Below w.heap.size w w' := ⟨h.os, h.tape, h.output, h.size, fun k hk => h.block k hk (by simp)⟩
set_option maxRecDepth 100000 in
set_option maxHeartbeats 4000000 in
theorem prints_ok (s : ByteArray) (w : World) (hs : s.size ≤ maxLen) (hn : Names w) (t : Code) (hr : readS s = .ok t) : Calls Tryz.prog 3 #[.string s] w fun e w' => e = .returned (.bool true) ∧ Below w.heap.size w w' := by
  unfold maxLen at hs
  have HN := hide hn
  have P1 := hide (print_ok exA w hn (by decide) tA read_exA)
  rw [pt_exA] at P1
  have P2 := hide (fun (ww : World) (hg : w.grownBy ww none) => print_err exB ww (hn.kept hg) (by decide) 4 4 read_exB)
  have P3 := hide (fun (ww : World) (hg : w.grownBy ww none) => print_ok s ww (hn.kept hg) hs t hr)
  have P4 := hide (fun (ww : World) => rprint_ok s ww hs t hr)
  have P5 := hide (fun (ww : World) (hg : w.grownBy ww none) => compile_ok s ww (hn.kept hg) hs t hr)
  clear hn hr
  unfold exA at P1
  unfold exB at P2
  obtain ⟨S, hS⟩ : ∃ S, S = pt t := ⟨_, rfl⟩
  rw [← hS] at P3 P4
  clear hS
  unfold strV at P2 P3 P4
  go_enter Tryz.func3, Tryz.ntmps3
  go_wp2_with fail
  refine P1.out.mono ?_
  rintro x w1 ⟨rfl, g1⟩
  go_wp2_with fail
  refine (P2.out w1 g1).mono ?_
  rintro x w2 ⟨rfl, g2⟩
  have G2 := hide (grown_trans g1 g2)
  clear g1 g2
  go_wp2_with fail
  refine (P3.out w2 G2.out).mono ?_
  rintro x w3 ⟨rfl, g3⟩
  have G3 := hide (grown_trans G2.out g3)
  clear g3 G2 P1 P2 P3
  go_wp2_with fail
  refine (P4.out w3).mono ?_
  rintro x w4 ⟨rfl, g4⟩
  have G4 := hide (grown_trans G3.out g4)
  clear g4 G3 P4
  go_wp2_with fail
  refine (P5.out w4 G4.out).mono ?_
  rintro x w5 ⟨b, rfl, _, _, g5⟩
  have G5 := hide (grown_trans G4.out g5)
  clear g5 G4 P5
  go_wp2
  go_ret
  exact ⟨rfl, below_grown G5.out⟩
set_option maxRecDepth 100000 in
set_option maxHeartbeats 4000000 in
theorem prints_err (s : ByteArray) (w : World) (hs : s.size ≤ maxLen) (hn : Names w) (en : Int) (pl : Nat) (hr : readS s = .error (en, pl)) : Calls Tryz.prog 3 #[.string s] w fun e w' => e = .returned (.bool true) ∧ Below w.heap.size w w' := by
  unfold maxLen at hs
  have HN := hide hn
  have P1 := hide (print_ok exA w hn (by decide) tA read_exA)
  rw [pt_exA] at P1
  have P2 := hide (fun (ww : World) (hg : w.grownBy ww none) => print_err exB ww (hn.kept hg) (by decide) 4 4 read_exB)
  have P3 := hide (fun (ww : World) (hg : w.grownBy ww none) => print_err s ww (hn.kept hg) hs en pl hr)
  have P4 := hide (fun (ww : World) => rprint_err s ww hs en pl hr)
  have P5 := hide (fun (ww : World) (hg : w.grownBy ww none) => compile_err s ww (hn.kept hg) hs en pl hr)
  have hne := read_errno hr
  have hne2 : (en == 0) = false := by
    rw [bne_iff_ne] at hne
    rw [beq_eq_false_iff_ne]; exact hne
  clear hn hr
  unfold exA at P1
  unfold exB at P2
  unfold strV at P2 P3 P4
  go_enter Tryz.func3, Tryz.ntmps3
  go_wp2_with fail
  refine P1.out.mono ?_
  rintro x w1 ⟨rfl, g1⟩
  go_wp2_with fail
  refine (P2.out w1 g1).mono ?_
  rintro x w2 ⟨rfl, g2⟩
  have G2 := hide (grown_trans g1 g2)
  clear g1 g2
  go_wp2_with fail
  refine (P3.out w2 G2.out).mono ?_
  rintro x w3 ⟨rfl, g3⟩
  have G3 := hide (grown_trans G2.out g3)
  clear g3 G2 P1 P2 P3
  go_wp2_with fail
  refine (P4.out w3).mono ?_
  rintro x w4 ⟨rfl, g4⟩
  have G4 := hide (grown_trans G3.out g4)
  clear g4 G3 P4
  go_wp2_with fail
  refine (P5.out w4 G4.out).mono ?_
  rintro x w5 ⟨rfl, g5⟩
  have G5 := hide (grown_trans G4.out g5)
  clear g5 G4 P5
  go_wp2
  go_ret
  exact ⟨rfl, below_grown G5.out⟩
theorem prints_walk (s : ByteArray) (w : World) (hs : s.size ≤ maxLen) (hn : Names w) : Calls Tryz.prog 3 #[.string s] w fun e w' => e = .returned (.bool true) ∧ Below w.heap.size w w' := by
  cases h : readS s with
  | ok t => exact prints_ok s w hs hn t h
  | error e => obtain ⟨en, pl⟩ := e; exact prints_err s w hs hn en pl h
end Go.Proofs.YtlhkfafdioakeaaGreatDoor
/- The frame of the cards: what the listed variable gives the walks; a world in which it lies as the program's own text lays it. -/
namespace Go.Proofs.YtlhkfafdioakeaaGreatDoor
open Go.ChangeShapes Go.WideShapes Go.ChangeAt Go.WideMaps Go.WideElems Go.RowKit Go.Weft
open Go.ChangeMaps (open_string shut_string)
set_option linter.unusedVariables false
set_option linter.unusedSimpArgs false
theorem own : ownKnob Tryz.prog.godebug = none := by kernel_rfl
theorem door_met (os : Os) (args : Array Value) : laidMetH Tryz.prog Rows.printsRow.laid ((World.doorLaid Tryz.prog 400 os).forCall (fun _ _ => 0) ⟨#[], args, []⟩).memory :=
  laidMetH_of_parts3 (fuel := 8) (laidMet_of_run' 8 (by kernel_rfl) (by kernel_rfl)) (by kernel_rfl) (by kernel_rfl)
set_option maxRecDepth 100000 in
theorem names_of_laid {W : World} (h : laidMetH Tryz.prog Rows.printsRow.laid W) : Names W := by
  rw [MakeChecks.laidMetH_plain _ _ _ (by kernel_rfl)] at h
  obtain ⟨ps, ⟨g0, t0, cs0, f0, p0, q0, hg0, ht0, hv0, hd0, _, _⟩, _, _⟩ := h
  obtain rfl : g0 = 1 := Option.some.inj (hg0.symm.trans (by kernel_rfl))
  obtain rfl : t0 = 340 := Option.some.inj (ht0.symm.trans (by kernel_rfl))
  obtain ⟨xs, m1, rfl, hx1, hlen, hn3, hel⟩ := DataW.trod_array Tryz.underlying340 hd0
  have c9 : Tryz.prog.cellsOf 9 = 1 := by kernel_rfl
  have c195 : Tryz.prog.cellsOf 340 = 6 := by kernel_rfl
  rw [c195] at hlen
  rw [c9] at hel
  obtain ⟨l1⟩ := cs0
  simp only [Prod.mk.injEq] at hx1
  match l1, hlen, xs, hn3, hx1 with
  | [a0, a1, a2, a3, a4, a5], _, [x0, x1, x2, x3, x4, x5], _, hx1 =>
    obtain ⟨hx1, _⟩ := hx1
    simp only [Rows.laid_weft_tree_names, DataW.agg.injEq, List.map_cons, List.map_nil, List.cons.injEq, and_true] at hx1
    have look : ∀ (i : Nat) (hi : i < 6) (a : Value) (x : DataW Unit × List MemPlace) (bs : List UInt8), ([a0, a1, a2, a3, a4, a5] : List Value)[i]? = some a → ([x0, x1, x2, x3, x4, x5])[i]? = some x → DataW.lit (.string bs) = x.1 → ∃ s, a = .string s ∧ s.data.toList = bs := by
      intro i hi a x bs ha hx he
      have h1 := hel i hi
      rw [hx] at h1
      have e2 : List.take 1 (List.drop (i * 1) [a0, a1, a2, a3, a4, a5]) = [a] := by
        rcases (show i = 0 ∨ i = 1 ∨ i = 2 ∨ i = 3 ∨ i = 4 ∨ i = 5 by omega) with rfl | rfl | rfl | rfl | rfl | rfl <;> (simp at ha; subst ha; rfl)
      rw [e2] at h1
      obtain ⟨s, e3, e4, _⟩ := DataW.trod_string Tryz.underlying9 h1
      refine ⟨s, by simpa using e3, ?_⟩
      rw [e4] at he
      simpa using he.symm
    have cell : ∀ j a, ([a0, a1, a2, a3, a4, a5] : List Value)[j]? = some a → W.cell? ⟨1, j, none⟩ = some a := by
      intro j a hj
      have := World.var?_cell hg0 hv0 j
      simpa using this.trans (by simpa using hj)
    obtain ⟨s0, rfl, e0⟩ := look 0 (by decide) a0 x0 _ rfl rfl hx1.1
    obtain ⟨s1, rfl, e1⟩ := look 1 (by decide) a1 x1 _ rfl rfl hx1.2.1
    obtain ⟨s2, rfl, e2⟩ := look 2 (by decide) a2 x2 _ rfl rfl hx1.2.2.1
    obtain ⟨s3, rfl, e3⟩ := look 3 (by decide) a3 x3 _ rfl rfl hx1.2.2.2.1
    obtain ⟨s4, rfl, e4⟩ := look 4 (by decide) a4 x4 _ rfl rfl hx1.2.2.2.2.1
    obtain ⟨s5, rfl, e5⟩ := look 5 (by decide) a5 x5 _ rfl rfl hx1.2.2.2.2.2
    intro k hk
    rcases (show k = 0 ∨ k = 1 ∨ k = 2 ∨ k = 3 ∨ k = 4 ∨ k = 5 by omega) with rfl | rfl | rfl | rfl | rfl | rfl
    · rw [cell 0 _ rfl]; exact congrArg (fun s => some (Value.string s)) (bytes_eq e0)
    · rw [cell 1 _ rfl]; exact congrArg (fun s => some (Value.string s)) (bytes_eq e1)
    · rw [cell 2 _ rfl]; exact congrArg (fun s => some (Value.string s)) (bytes_eq e2)
    · rw [cell 3 _ rfl]; exact congrArg (fun s => some (Value.string s)) (bytes_eq e3)
    · rw [cell 4 _ rfl]; exact congrArg (fun s => some (Value.string s)) (bytes_eq e4)
    · rw [cell 5 _ rfl]; exact congrArg (fun s => some (Value.string s)) (bytes_eq e5)
end Go.Proofs.YtlhkfafdioakeaaGreatDoor
/- Proved here: the card of weftlaw.Prints out of a walk of the law: for every text the law answers true. -/
namespace Go.Proofs.YtlhkfafdioakeaaGreatDoor
open Go.ChangeShapes Go.WideShapes Go.ChangeAt Go.WideMaps Go.WideElems Go.RowKit Go.Weft
open Go.ChangeMaps (open_string shut_string)
set_option linter.unusedVariables false
set_option maxRecDepth 100000 in
theorem prints_lifted (walk : ∀ (a0 : ByteArray) (w : World), a0.size ≤ maxLen → Names w → Calls Tryz.prog 3 #[.string a0] w fun e w' => e = .returned (.bool true) ∧ Below w.heap.size w w')
    (os : Os) (started : os.Started) (H : Type) (enc : TypeId × Value → H) :
    ReturnsInHanded {} Tryz.checked os 3 .any (fun w args => (Rows.printsSpec.pre enc Tryz.prog Tryz.f3 [] false w args ∧ laidMetH Tryz.prog Rows.printsRow.laid w) ∧ sizedMet enc Tryz.prog Tryz.f3 (OpenSpec.ofChange Rows.printsSpec) false w args)
      (Rows.printsSpec.post enc Tryz.prog Tryz.f3 false true false false) := by
  refine returnsInHanded_of_change_and (C := Tryz.checked) (X := fun w _ => laidMetH Tryz.prog Rows.printsRow.laid w) (fun _ _ _ hh h => h.of_heap hh) own started (by kernel_rfl) Tryz.func3
    (ChangeSpec.witness_shaped (enc := enc) (C := Tryz.checked) (os := os) (X := fun w _ => laidMetH Tryz.prog Rows.printsRow.laid w) false (World.doorLaid Tryz.prog 400 os) #[.string ByteArray.empty] 8 rfl (World.shaped_of_RefB (by kernel_rfl) (by kernel_rfl)) (by kernel_rfl) (by kernel_rfl) (by kernel_rfl) (door_met os _)) ?_
  intro W base args ds gs before hval0 hW _ _ hL _
  have hval : ∀ (j : Nat) t v, Tryz.f3.params[j]? = some t → args[j]? = some v → Value.okWide Tryz.prog W .any base t v := hval0
  have hW' := hW
  obtain ⟨p, q, hA0, hV, rfl, hfz, hnd⟩ := hW
  have hA : DataW.TrodAll enc Tryz.prog W 0 (fun _ => true) true Tryz.f3.params.toList args.toList ds p := hA0
  rw [Tryz.params3] at hA hval
  obtain ⟨v0, d0, rfl, rfl, h0⟩ := trodAll_one hA
  obtain ⟨rfl, rfl⟩ := trodVars_none hV
  obtain ⟨a0, rfl, rfl, rfl, w0⟩ := open_string Tryz.underlying9 (hval 0 9 v0 rfl rfl) h0
  clear hA0 hval0
  simp only [List.append_nil] at hW'
  refine (walk a0 W w0 (names_of_laid hL)).mono fun e W' ⟨he, hg⟩ => ?_
  subst he
  exact ⟨_, rfl, _, _, _, [], _, [], hW', trodAll_mk1 (shut_bool Tryz.underlying4 _), trodAll_mk1 (shut_string Tryz.underlying9 w0), rfl, hg.frame _, fun h => by cases h⟩
theorem prints_row (walk : ∀ (a0 : ByteArray) (w : World), a0.size ≤ maxLen → Names w → Calls Tryz.prog 3 #[.string a0] w fun e w' => e = .returned (.bool true) ∧ Below w.heap.size w w') : Rows.PrintsSaid :=
  OpenClaim.holds_of_wide 3 Tryz.f3 rfl rfl rfl rfl rfl rfl rfl ⟨rfl, rfl, rfl, rfl, rfl⟩ rfl rfl rfl rfl rfl (by kernel_rfl) Tryz.func3 (by kernel_rfl)
    (of_decide_eq_true (by kernel_rfl)) (by unfold Func.isWrapper; first | (rw [if_pos (by decide +kernel)]; kernel_rfl) | (rw [if_neg (by decide +kernel)]; exact ⟨rfl, rfl⟩))
    (fun os started H enc _ => prints_lifted walk os started H enc)
theorem prints_card (walk : ∀ (a0 : ByteArray) (w : World), a0.size ≤ maxLen → Names w → Calls Tryz.prog 3 #[.string a0] w fun e w' => e = .returned (.bool true) ∧ Below w.heap.size w w') : Rows.PrintsCardSaid :=
  Claim7.holds_tied_plain_at .later [] [.data] true Rows.printsCard.stood.harness true
    (prints_row walk) (fun _ h => by cases h) (by kernel_rfl) (fun _ h => by cases h) prints_row_tie rfl ⟨rfl, rfl⟩ (by kernel_rfl) rfl
    (fun f fn hf hfn => by
      obtain rfl : f = 3 := Option.some.inj (hf.symm.trans (by kernel_rfl))
      obtain rfl : fn = Tryz.f3 := (Option.some.inj (Tryz.func3.symm.trans hfn)).symm
      exact ⟨by kernel_rfl, fun j t ht => by
        rw [Tryz.params3] at ht
        have hm : t ∈ [9] := by simpa using Array.mem_of_getElem? ht
        have hall : ([9].all fun u => !Tryz.prog.wantsStandIn u) = true := by kernel_rfl
        exact (show Tryz.prog.wantsStandIn t = false by simpa using List.all_eq_true.1 hall t hm)⟩)
    (by kernel_rfl)
end Go.Proofs.YtlhkfafdioakeaaGreatDoor
