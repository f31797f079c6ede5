/- GRefT: several parts, each with what it proves in plain words at its head. -/
import Derived.Test.YtlhkfafdioakeaaGreatDoorGRefM
/- Proved here: how the document's printer writes a number. -/
namespace Go.Proofs.YtlhkfafdioakeaaGreatDoor
open Go.RowKit Go.Weft
set_option linter.unusedVariables false
set_option linter.unusedSimpArgs false
/-- A number below a hundred, in digits. -/
def digs (n : Nat) : List UInt8 := if 9 < n then [UInt8.ofNat (48 + n / 10), UInt8.ofNat (48 + n % 10)] else [UInt8.ofNat (48 + n)]
theorem str_made (w : World) (ns : List Int) : (convert 227 9 (.slice (some ⟨w.heap.size, 0, none⟩) ns.length ns.length)).run Tryz.prog (w.alloc (.cells (ns.map (Value.int .u8)).toArray 5)) = .ok (strV (ns.map fun n => UInt8.ofNat n.toNat)) (w.alloc (.cells (ns.map (Value.int .u8)).toArray 5)) := by
  rw [run_convert_bytes_string _ 227 9 5 _ _ _ (by kernel_rfl) (by kernel_rfl) (by kernel_rfl)]
  have hl := run_loadCells_list (P := Tryz.prog) (w.alloc (.cells (ns.map (Value.int .u8)).toArray 5)) ⟨w.heap.size, 0, none⟩ (ns.map (Value.int .u8)) (fun j v hj => by
    rw [show (⟨w.heap.size, 0, none⟩ : Addr).add j = ⟨w.heap.size, j, none⟩ by unfold Addr.add; split <;> simp_all]
    simp only [World.cell?, heap_alloc_new]
    simpa using hj)
  rw [List.length_map] at hl
  rw [run_bytesToString _ _ _ _ ns hl]
  congr 2
  have key : ∀ (l : List Int) (b : ByteArray), (l.foldl (fun r n => r.push (UInt8.ofNat n.toNat)) b).data.toList = b.data.toList ++ l.map fun n => UInt8.ofNat n.toNat := by
    intro l
    induction l with
    | nil => intro b; simp
    | cons x l ih => intro b; rw [List.foldl_cons, ih]; simp [ByteArray.push]
  apply bytes_eq
  rw [key]
  simp
set_option maxRecDepth 100000 in
set_option maxHeartbeats 1000000 in
theorem rdigits_small (n : Nat) (w : World) (hn : n ≤ 9) : Calls Tryz.prog 88 #[.int .i64 n] w fun x w' => x = .returned (strV (digs n)) ∧ w.grownBy w' none := by
  have h1 : ¬ (9 : Int) < n := by omega
  have hcv : (convert 227 9 (.slice (some ⟨w.heap.size, 0, none⟩) 1 1)).run Tryz.prog (w.alloc (.cells #[.int .u8 (48 + (n : Int))] 5)) = .ok (strV (digs n)) (w.alloc (.cells #[.int .u8 (48 + (n : Int))] 5)) := by
    have h2 := str_made w [48 + (n : Int)]
    have e : ([48 + (n : Int)].map fun n => UInt8.ofNat n.toNat) = digs n := by
      unfold digs
      rw [if_neg (by omega)]
      simp only [List.map_cons, List.map_nil]
      rw [show (48 + (n : Int)).toNat = 48 + n by omega]
    rw [e] at h2
    exact h2
  unfold strV at hcv ⊢
  go_enter Tryz.func88, Tryz.ntmps88
  go_wp2
  go_ret
  exact ⟨rfl, World.grownBy_alloc _ _ _⟩
set_option maxRecDepth 100000 in
set_option maxHeartbeats 1000000 in
theorem rdigits_big (n : Nat) (w : World) (hn : 9 < n) (hn2 : n ≤ 99) : Calls Tryz.prog 88 #[.int .i64 n] w fun x w' => x = .returned (strV (digs n)) ∧ w.grownBy w' none := by
  have h1 : (9 : Int) < n := by omega
  have hcv : (convert 227 9 (.slice (some ⟨w.heap.size, 0, none⟩) 2 2)).run Tryz.prog (w.alloc (.cells #[.int .u8 (48 + (n : Int) / 10), .int .u8 (48 + (n : Int) % 10)] 5)) = .ok (strV (digs n)) (w.alloc (.cells #[.int .u8 (48 + (n : Int) / 10), .int .u8 (48 + (n : Int) % 10)] 5)) := by
    have h2 := str_made w [48 + (n : Int) / 10, 48 + (n : Int) % 10]
    have e : ([48 + (n : Int) / 10, 48 + (n : Int) % 10].map fun n => UInt8.ofNat n.toNat) = digs n := by
      unfold digs
      rw [if_pos (by omega)]
      simp only [List.map_cons, List.map_nil]
      rw [show (48 + (n : Int) / 10).toNat = 48 + n / 10 by omega, show (48 + (n : Int) % 10).toNat = 48 + n % 10 by omega]
    rw [e] at h2
    exact h2
  unfold strV at hcv ⊢
  go_enter Tryz.func88, Tryz.ntmps88
  go_wp2
  go_ret
  exact ⟨rfl, World.grownBy_alloc _ _ _⟩
theorem rdigits_any (n : Nat) (w : World) (hn : n ≤ 99) : Calls Tryz.prog 88 #[.int .i64 n] w fun x w' => x = .returned (strV (digs n)) ∧ w.grownBy w' none := by
  by_cases h : 9 < n
  · exact rdigits_big n w h hn
  · exact rdigits_small n w (by omega)
end Go.Proofs.YtlhkfafdioakeaaGreatDoor
/- Proved here: how the document's printer writes a leaf. -/
namespace Go.Proofs.YtlhkfafdioakeaaGreatDoor
open Go.RowKit Go.Weft
set_option linter.unusedVariables false
set_option linter.unusedSimpArgs false
/-- The text of a leaf. -/
def rleafT (n : Nat) : List UInt8 :=
  if n = 0 then [105, 100] else if n = 1 then [100, 114, 111, 112]
  else (nameB ((n - 2) / 2 / 32)).data.toList ++ (if n % 2 = 0 then [61] else [58, 61]) ++ digs ((n - 2) / 2 % 32)
set_option maxRecDepth 100000 in
set_option maxHeartbeats 1000000 in
theorem rtext_id (b : Nat) (wi : Int) (w : World) (h : nodeAt w b (rLeaf 0)) : Calls Tryz.prog 49 #[ptrV b, .int .u8 wi] w fun x w' => x = .returned (strV (rleafT 0)) ∧ w.grownBy w' none := by
  have c0 : w.cell? ⟨b, 0, none⟩ = some (.int .u8 105) := h.cell 0
  have hl := h.lt
  unfold ptrV
  clear h
  go_enter Tryz.func49, Tryz.ntmps49
  go_wp2
  go_ret
  exact ⟨rfl, World.grownBy_alloc _ _ _⟩
set_option maxRecDepth 100000 in
set_option maxHeartbeats 1000000 in
theorem rtext_drop (b : Nat) (wi : Int) (w : World) (h : nodeAt w b (rLeaf 1)) : Calls Tryz.prog 49 #[ptrV b, .int .u8 wi] w fun x w' => x = .returned (strV (rleafT 1)) ∧ w.grownBy w' none := by
  have c0 : w.cell? ⟨b, 0, none⟩ = some (.int .u8 100) := h.cell 0
  have hl := h.lt
  unfold ptrV
  clear h
  go_enter Tryz.func49, Tryz.ntmps49
  go_wp2
  go_ret
  exact ⟨rfl, World.grownBy_alloc _ _ _⟩
/-- The row of names. -/
def namesA : Array Value := #[.string ⟨#[115, 119]⟩, .string ⟨#[112, 116]⟩, .string ⟨#[116, 121, 112]⟩, .string ⟨#[115, 114, 99]⟩, .string ⟨#[100, 115, 116]⟩, .string ⟨#[116, 97, 103]⟩]
theorem namesA_get (f : Nat) (hf : f ≤ 5) : namesA[f]? = some (.string (nameB f)) := by
  rcases (show f = 0 ∨ f = 1 ∨ f = 2 ∨ f = 3 ∨ f = 4 ∨ f = 5 by omega) with rfl | rfl | rfl | rfl | rfl | rfl <;> rfl
theorem nameB_len (f : Nat) (hf : f ≤ 5) : (nameB f).size ≤ 3 := by
  rcases (show f = 0 ∨ f = 1 ∨ f = 2 ∨ f = 3 ∨ f = 4 ∨ f = 5 by omega) with rfl | rfl | rfl | rfl | rfl | rfl <;> decide
theorem digs_len (n : Nat) : (digs n).length ≤ 2 := by
  unfold digs
  split <;> simp
set_option maxRecDepth 100000 in
set_option maxHeartbeats 1000000 in
theorem rtext_test (b : Nat) (wi : Int) (f v : Nat) (w : World) (hf : f ≤ 5) (hv : v ≤ 31) (h : nodeAt w b #[.int .u8 61, .int .i64 (f : Int), .int .i64 (v : Int), .slice none 0 0]) :
    Calls Tryz.prog 49 #[ptrV b, .int .u8 wi] w fun x w' => x = .returned (strV ((nameB f).data.toList ++ [61] ++ digs v)) ∧ w.grownBy w' none := by
  obtain ⟨w1, hw1⟩ : ∃ w1, w1 = w.alloc (.cells namesA 9) := ⟨_, rfl⟩
  have G1 : Hid (w.grownBy w1 none) := by rw [hw1]; exact World.grownBy_alloc _ _ _
  have N1 : Hid (w1.heap[w.heap.size]? = some (.cells namesA 9 (0, 0))) := by rw [hw1]; exact heap_alloc_new w _
  have ND := hide h
  have HD := hide (fun ww => rdigits_any v ww (by omega))
  obtain ⟨nm, hnm⟩ : ∃ nm, nm = nameB f := ⟨_, rfl⟩
  have HNM := hide hnm
  have hnl : nm.size ≤ 3 := by rw [hnm]; exact nameB_len f hf
  obtain ⟨dg, hdg⟩ : ∃ dg : ByteArray, dg = ⟨(digs v).toArray⟩ := ⟨_, rfl⟩
  have HDG := hide hdg
  have hdl : dg.size ≤ 2 := by rw [hdg]; exact digs_len v
  have HD2 : Hid (∀ ww, Calls Tryz.prog 88 #[.int .i64 v] ww fun x w' => x = .returned (.string dg) ∧ ww.grownBy w' none) := by rw [hdg]; exact HD.out
  have HC : Hid (∀ wx, w1.grownBy wx none → wx.cell? ⟨b, 0, none⟩ = some (.int .u8 61) ∧ wx.cell? ⟨b, 1, none⟩ = some (.int .i64 (f : Int)) ∧ wx.cell? ⟨b, 2, none⟩ = some (.int .i64 (v : Int)) ∧ wx.cell? ⟨w.heap.size, f, none⟩ = some (.string nm)) := fun wx hg => by
    have h1 := (ND.out.other (grown_trans G1.out hg) (by simp))
    refine ⟨h1.cell 0, h1.cell 1, h1.cell 2, hg.cell ?_ (by simp)⟩
    have h2 := N1.out
    simp only [World.cell?, h2]
    rw [hnm]
    have h3 := namesA_get f hf
    simpa using h3
  have HS : Hid (Value.string (nm ++ (⟨#[61]⟩ : ByteArray) ++ dg) = strV ((nameB f).data.toList ++ [61] ++ digs v)) := by
    show Value.string _ = Value.string _
    congr 1
    apply bytes_eq
    rw [hnm, hdg]
    simp [ByteArray.data_append]
  have c0 : w.cell? ⟨b, 0, none⟩ = some (.int .u8 61) := h.cell 0
  have hl := h.lt
  unfold namesA at hw1
  clear h hnm hdg HD
  unfold ptrV
  go_enter Tryz.func49, Tryz.ntmps49
  go_wp2_with fail
  rw [← hw1]
  clear hw1 c0
  obtain ⟨d0, d1, d2, d3⟩ := HC.out w1 (grown_refl _ _)
  go_region_with (go_at_call 88; refine (HD2.out _).mono ?_; rintro x w2 ⟨rfl, hg2⟩; have g2 : w1.grownBy w2 none := (by first | exact hg2 | exact grown_undrew hg2); have G2 := hide g2; obtain ⟨x0, x1, x2, x3⟩ := HC.out w2 g2; clear hg2 g2)
  all_goals
    clear d0 d1 d2 d3 x0 x1 x2 x3
    go_wp2
    go_ret
    exact ⟨congrArg Ending.returned HS.out, grown_trans G1.out G2.out⟩
set_option maxRecDepth 100000 in
set_option maxHeartbeats 1000000 in
theorem rtext_set (b : Nat) (wi : Int) (f v : Nat) (w : World) (hf : f ≤ 5) (hv : v ≤ 31) (h : nodeAt w b #[.int .u8 58, .int .i64 (f : Int), .int .i64 (v : Int), .slice none 0 0]) :
    Calls Tryz.prog 49 #[ptrV b, .int .u8 wi] w fun x w' => x = .returned (strV ((nameB f).data.toList ++ [58, 61] ++ digs v)) ∧ w.grownBy w' none := by
  obtain ⟨w1, hw1⟩ : ∃ w1, w1 = w.alloc (.cells namesA 9) := ⟨_, rfl⟩
  have G1 : Hid (w.grownBy w1 none) := by rw [hw1]; exact World.grownBy_alloc _ _ _
  have N1 : Hid (w1.heap[w.heap.size]? = some (.cells namesA 9 (0, 0))) := by rw [hw1]; exact heap_alloc_new w _
  have ND := hide h
  have HD := hide (fun ww => rdigits_any v ww (by omega))
  obtain ⟨nm, hnm⟩ : ∃ nm, nm = nameB f := ⟨_, rfl⟩
  have HNM := hide hnm
  have hnl : nm.size ≤ 3 := by rw [hnm]; exact nameB_len f hf
  obtain ⟨dg, hdg⟩ : ∃ dg : ByteArray, dg = ⟨(digs v).toArray⟩ := ⟨_, rfl⟩
  have HDG := hide hdg
  have hdl : dg.size ≤ 2 := by rw [hdg]; exact digs_len v
  have HD2 : Hid (∀ ww, Calls Tryz.prog 88 #[.int .i64 v] ww fun x w' => x = .returned (.string dg) ∧ ww.grownBy w' none) := by rw [hdg]; exact HD.out
  have HC : Hid (∀ wx, w1.grownBy wx none → wx.cell? ⟨b, 0, none⟩ = some (.int .u8 58) ∧ wx.cell? ⟨b, 1, none⟩ = some (.int .i64 (f : Int)) ∧ wx.cell? ⟨b, 2, none⟩ = some (.int .i64 (v : Int)) ∧ wx.cell? ⟨w.heap.size, f, none⟩ = some (.string nm)) := fun wx hg => by
    have h1 := (ND.out.other (grown_trans G1.out hg) (by simp))
    refine ⟨h1.cell 0, h1.cell 1, h1.cell 2, hg.cell ?_ (by simp)⟩
    have h2 := N1.out
    simp only [World.cell?, h2]
    rw [hnm]
    have h3 := namesA_get f hf
    simpa using h3
  have HS : Hid (Value.string (nm ++ (⟨#[58, 61]⟩ : ByteArray) ++ dg) = strV ((nameB f).data.toList ++ [58, 61] ++ digs v)) := by
    show Value.string _ = Value.string _
    congr 1
    apply bytes_eq
    rw [hnm, hdg]
    simp [ByteArray.data_append]
  have c0 : w.cell? ⟨b, 0, none⟩ = some (.int .u8 58) := h.cell 0
  have hl := h.lt
  unfold namesA at hw1
  clear h hnm hdg HD
  unfold ptrV
  go_enter Tryz.func49, Tryz.ntmps49
  go_wp2_with fail
  rw [← hw1]
  clear hw1 c0
  obtain ⟨d0, d1, d2, d3⟩ := HC.out w1 (grown_refl _ _)
  go_region_with (go_at_call 88; refine (HD2.out _).mono ?_; rintro x w2 ⟨rfl, hg2⟩; have g2 : w1.grownBy w2 none := (by first | exact hg2 | exact grown_undrew hg2); have G2 := hide g2; obtain ⟨x0, x1, x2, x3⟩ := HC.out w2 g2; clear hg2 g2)
  all_goals
    clear d0 d1 d2 d3 x0 x1 x2 x3
    go_wp2
    go_ret
    exact ⟨congrArg Ending.returned HS.out, grown_trans G1.out G2.out⟩
/-- A leaf, written. -/
theorem rtext_leaf (b : Nat) (wi : Int) (n : Nat) (w : World) (hn : n < 2 + 2 * 192) (h : nodeAt w b (rLeaf n)) : Calls Tryz.prog 49 #[ptrV b, .int .u8 wi] w fun x w' => x = .returned (strV (rleafT n)) ∧ w.grownBy w' none := by
  by_cases h0 : n = 0
  · subst h0; exact rtext_id b wi w h
  by_cases h1 : n = 1
  · subst h1; exact rtext_drop b wi w h
  unfold rLeaf at h
  unfold rleafT
  rw [if_neg h0, if_neg h1] at h ⊢
  by_cases h2 : n % 2 = 0
  · rw [if_pos h2] at h ⊢
    exact rtext_test b wi _ _ w (by omega) (by omega) h
  · rw [if_neg h2] at h ⊢
    exact rtext_set b wi _ _ w (by omega) (by omega) h
end Go.Proofs.YtlhkfafdioakeaaGreatDoor
/- Proved here: how the document's printer writes a star and a negation, given how it writes their part. -/
namespace Go.Proofs.YtlhkfafdioakeaaGreatDoor
open Go.RowKit Go.Weft
set_option linter.unusedVariables false
set_option linter.unusedSimpArgs false
set_option maxRecDepth 100000 in
set_option maxHeartbeats 1000000 in
theorem rtext_star (b g cap bx : Nat) (wi : Int) (l : List UInt8) (w : World) (h : nodeAt w b (rGroup 42 g 1 cap)) (hx : w.cell? ⟨g, 0, none⟩ = some (ptrV bx)) (hg : g < w.heap.size) (hl : l.length ≤ 100000)
    (ih : ∀ ww, w.grownBy ww none → Calls Tryz.prog 49 #[ptrV bx, .int .u8 42] ww fun x w' => x = .returned (strV l) ∧ ww.grownBy w' none) :
    Calls Tryz.prog 49 #[ptrV b, .int .u8 wi] w fun x w' => x = .returned (strV (l ++ [42])) ∧ w.grownBy w' none := by
  have c0 : w.cell? ⟨b, 0, none⟩ = some (.int .u8 42) := h.cell 0
  have c3 : w.cell? ⟨b, 3, none⟩ = some (.slice (some ⟨g, 0, none⟩) 1 cap) := h.cell 3
  have hlt := h.lt
  have IH := hide ih
  have HS : Hid (Value.string ((⟨l.toArray⟩ : ByteArray) ++ (⟨#[42]⟩ : ByteArray)) = strV (l ++ [42])) := by
    show Value.string _ = Value.string _
    first | (congr 1; done) | (congr 1; apply bytes_eq; simp [ByteArray.data_append])
  unfold ptrV at hx IH ⊢
  unfold strV at IH
  clear h ih
  go_enter Tryz.func49, Tryz.ntmps49
  go_wp2_with fail
  refine (IH.out _ (World.grownBy_alloc _ _ _)).mono ?_
  rintro x w2 ⟨rfl, hg2⟩
  have G2 := hide (grown_trans (World.grownBy_alloc w _ none) hg2)
  clear hg2
  go_wp2
  go_ret
  exact ⟨congrArg Ending.returned HS.out, G2.out⟩
set_option maxRecDepth 100000 in
set_option maxHeartbeats 1000000 in
theorem rtext_not (b g cap bx : Nat) (wi : Int) (l : List UInt8) (w : World) (h : nodeAt w b (rGroup 33 g 1 cap)) (hx : w.cell? ⟨g, 0, none⟩ = some (ptrV bx)) (hg : g < w.heap.size) (hl : l.length ≤ 100000)
    (ih : ∀ ww, w.grownBy ww none → Calls Tryz.prog 49 #[ptrV bx, .int .u8 33] ww fun x w' => x = .returned (strV l) ∧ ww.grownBy w' none) :
    Calls Tryz.prog 49 #[ptrV b, .int .u8 wi] w fun x w' => x = .returned (strV (33 :: l)) ∧ w.grownBy w' none := by
  have c0 : w.cell? ⟨b, 0, none⟩ = some (.int .u8 33) := h.cell 0
  have c3 : w.cell? ⟨b, 3, none⟩ = some (.slice (some ⟨g, 0, none⟩) 1 cap) := h.cell 3
  have hlt := h.lt
  have IH := hide ih
  have HS : Hid (Value.string ((⟨#[33]⟩ : ByteArray) ++ (⟨l.toArray⟩ : ByteArray)) = strV (33 :: l)) := by
    show Value.string _ = Value.string _
    first | (congr 1; done) | (congr 1; apply bytes_eq; simp [ByteArray.data_append])
  unfold ptrV at hx IH ⊢
  unfold strV at IH
  clear h ih
  go_enter Tryz.func49, Tryz.ntmps49
  go_wp2_with fail
  refine (IH.out _ (World.grownBy_alloc _ _ _)).mono ?_
  rintro x w2 ⟨rfl, hg2⟩
  have G2 := hide (grown_trans (World.grownBy_alloc w _ none) hg2)
  clear hg2
  go_wp2
  go_ret
  exact ⟨congrArg Ending.returned HS.out, G2.out⟩
end Go.Proofs.YtlhkfafdioakeaaGreatDoor
/- Proved here: how the document's printer writes a sum or a seq, given how it writes the parts. -/
namespace Go.Proofs.YtlhkfafdioakeaaGreatDoor
open Go.RowKit Go.Weft
set_option linter.unusedVariables false
set_option linter.unusedSimpArgs false
/-- The parts, with the sign between them, as far as they are written. -/
def joinTo (sep : List UInt8) (tx : Nat → List UInt8) : Nat → List UInt8
  | 0 => []
  | n + 1 => joinTo sep tx n ++ ((if 0 < n then sep else []) ++ tx n)
theorem joinTo_len (sep : List UInt8) (tx : Nat → List UInt8) (M : Nat) (hs : sep.length ≤ 3) : ∀ n, (∀ j, j < n → (tx j).length ≤ M) → (joinTo sep tx n).length ≤ n * (M + 3)
  | 0, _ => by simp [joinTo]
  | n + 1, h => by
    rw [joinTo, List.length_append, List.length_append]
    have h1 := joinTo_len sep tx M hs n (fun j hj => h j (by omega))
    have h2 := h n (by omega)
    have h3 : (if 0 < n then sep else []).length ≤ 3 := by split; exact hs; simp
    have h4 : (n + 1) * (M + 3) = n * (M + 3) + (M + 3) := by rw [Nat.succ_mul]
    omega
/-- Brackets within a star or a negation. -/
def brR (wi : Int) (l : List UInt8) : List UInt8 := if wi = 42 ∨ wi = 33 then 40 :: (l ++ [41]) else l
theorem brR_yes {wi : Int} (h : wi = 42 ∨ wi = 33) (l : List UInt8) : brR wi l = 40 :: (l ++ [41]) := by unfold brR; rw [if_pos h]
theorem brR_no {wi : Int} (h : ¬ (wi = 42 ∨ wi = 33)) (l : List UInt8) : brR wi l = l := by unfold brR; rw [if_neg h]
set_option maxRecDepth 100000 in
set_option maxHeartbeats 1000000 in
theorem rtext_seq (b g n cap : Nat) (wi : Int) (tx : Nat → List UInt8) (bx : Nat → Nat) (w : World) (h : nodeAt w b (rGroup 59 g n cap)) (hx : ∀ j, j < n → w.cell? ⟨g, j, none⟩ = some (ptrV (bx j))) (hn : n ≤ 1000) (hl : ∀ j, j < n → (tx j).length ≤ 1000000)
    (ih : ∀ j, j < n → ∀ ww, w.grownBy ww none → Calls Tryz.prog 49 #[ptrV (bx j), .int .u8 59] ww fun x w' => x = .returned (strV (tx j)) ∧ ww.grownBy w' none) :
    Calls Tryz.prog 49 #[ptrV b, .int .u8 wi] w fun x w' => x = .returned (strV (brR wi (joinTo [59] tx n))) ∧ w.grownBy w' none := by
  have c0 : w.cell? ⟨b, 0, none⟩ = some (.int .u8 59) := h.cell 0
  have hlt := h.lt
  have ND := hide h
  have IH := hide ih
  have HX := hide hx
  have HL := hide hl
  unfold ptrV
  clear h ih hx hl
  go_enter Tryz.func49, Tryz.ntmps49
  go_wp2_with fail
  go_loopw [6, 7] (fun s6 s7 wr => ∃ k : Nat, k ≤ n ∧ s7 = .int .i64 k ∧ s6 = .string ⟨(joinTo [59] tx k).toArray⟩ ∧ w.grownBy wr none) (fun _ s7 _ => n - (intOf s7).toNat)
  case atStart => exact ⟨0, by omega, rfl, rfl, World.grownBy_alloc _ _ _⟩
  case round =>
    obtain ⟨k, hk, rfl, rfl, hg⟩ := hrel
    have HG := hide hg
    have nd := ND.out.other hg (by simp)
    have d0 : wr.cell? ⟨b, 0, none⟩ = some (.int .u8 59) := nd.cell 0
    have d3 : wr.cell? ⟨b, 3, none⟩ = some (.slice (some ⟨g, 0, none⟩) n cap) := nd.cell 3
    have hb := nd.lt
    have hjl := joinTo_len [59] tx 1000000 (by decide) k (fun j hj => HL.out j (by omega))
    obtain ⟨S, hS⟩ : ∃ S : ByteArray, S = ⟨(joinTo [59] tx k).toArray⟩ := ⟨_, rfl⟩
    have hSl : S.size ≤ 1100000000 := by
      rw [hS]
      show (joinTo [59] tx k).toArray.size ≤ _
      simp
      have : k * 1000003 ≤ 1000 * 1000003 := Nat.mul_le_mul_right _ (by omega)
      omega
    rw [← hS]
    have HSS := hide hS
    clear hg nd c0 hjl hS
    by_cases hlk : k < n
    · have dx : wr.cell? ⟨g, k, none⟩ = some (ptrV (bx k)) := HG.out.cell (HX.out k hlk) (by simp)
      have hgl : g < wr.heap.size := World.block_lt_of_cell? wr _ dx
      obtain ⟨T, hT⟩ : ∃ T : ByteArray, T = ⟨(tx k).toArray⟩ := ⟨_, rfl⟩
      have hTl : T.size ≤ 1000000 := by rw [hT]; show (tx k).toArray.size ≤ _; simp; exact HL.out k hlk
      have IK : Hid (∀ ww, wr.grownBy ww none → Calls Tryz.prog 49 #[ptrV (bx k), .int .u8 59] ww fun x w' => x = .returned (.string T) ∧ w.grownBy w' none) := fun ww hgw => by
        refine (IH.out k hlk ww (grown_trans HG.out hgw)).mono ?_
        rintro x w' ⟨rfl, h2⟩
        exact ⟨by rw [hT]; rfl, grown_trans (grown_trans HG.out hgw) h2⟩
      have HJ : Hid ((k = 0 → S ++ T = ⟨(joinTo [59] tx (k + 1)).toArray⟩) ∧ (0 < k → S ++ ⟨#[59]⟩ ++ T = ⟨(joinTo [59] tx (k + 1)).toArray⟩)) := by
        refine ⟨fun e => ?_, fun e => ?_⟩
        · apply bytes_eq; rw [HSS.out, hT]; simp [ByteArray.data_append, joinTo, e]
        · apply bytes_eq; rw [HSS.out, hT]; simp [ByteArray.data_append, joinTo, e]
      clear hT
      unfold ptrV at dx IK
      have hlkI : (k : Int) < n := by omega
      have HK : Hid (k = 0 ∨ 0 < k) := by show k = 0 ∨ 0 < k; omega
      by_cases hk0 : (0 : Int) < k
      · go_wp2_with fail
        refine (IK.out _ (grown_refl _ _)).mono ?_
        rintro x w2 ⟨rfl, hg2⟩
        have G2 := hide hg2
        clear hg2
        go_wp2_with fail
        exact ⟨⟨k + 1, by omega, by go_num, by rw [← HJ.out.2 (by omega)], G2.out⟩, by simp [intOf]; omega⟩
      · go_wp2_with fail
        refine (IK.out _ (grown_refl _ _)).mono ?_
        rintro x w2 ⟨rfl, hg2⟩
        have G2 := hide hg2
        clear hg2
        go_wp2_with fail
        exact ⟨⟨k + 1, by omega, by go_num, by rw [← HJ.out.1 (by omega)], G2.out⟩, by simp [intOf]; omega⟩
    · obtain rfl : k = n := by omega
      have HB : Hid (Value.string ((⟨#[40]⟩ : ByteArray) ++ S ++ (⟨#[41]⟩ : ByteArray)) = strV (40 :: (joinTo [59] tx k ++ [41]))) := by
        show Value.string _ = Value.string _
        congr 1
        apply bytes_eq
        rw [HSS.out]
        simp [ByteArray.data_append]
      have HP : Hid (Value.string S = strV (joinTo [59] tx k)) := by rw [HSS.out]; rfl
      by_cases h1 : wi = 42
      · subst h1
        go_wp2
        go_ret
        exact ⟨by rw [brR_yes (.inl rfl)]; exact congrArg Ending.returned HB.out, HG.out⟩
      by_cases h2 : wi = 33
      · subst h2
        go_wp2
        go_ret
        exact ⟨by rw [brR_yes (.inr rfl)]; exact congrArg Ending.returned HB.out, HG.out⟩
      have b1 : (wi == 42) = false := by rw [beq_eq_false_iff_ne]; exact h1
      have b2 : (wi == 33) = false := by rw [beq_eq_false_iff_ne]; exact h2
      have HN : Hid (¬ (wi = 42 ∨ wi = 33)) := fun h => h.elim h1 h2
      clear h1 h2
      by_cases h3 : wi = 59
      · subst h3
        go_wp2
        go_ret
        exact ⟨by rw [brR_no HN.out]; exact congrArg Ending.returned HP.out, HG.out⟩
      · have b3 : (wi == 59) = false := by rw [beq_eq_false_iff_ne]; exact h3
        clear h3
        go_wp2
        go_ret
        exact ⟨by rw [brR_no HN.out]; exact congrArg Ending.returned HP.out, HG.out⟩
end Go.Proofs.YtlhkfafdioakeaaGreatDoor
/- Proved here: how the document's printer writes a sum, given how it writes the parts. -/
namespace Go.Proofs.YtlhkfafdioakeaaGreatDoor
open Go.RowKit Go.Weft
set_option linter.unusedVariables false
set_option linter.unusedSimpArgs false
/-- Brackets within a star, a negation or a seq. -/
def brS (wi : Int) (l : List UInt8) : List UInt8 := if wi = 42 ∨ wi = 33 ∨ wi = 59 then 40 :: (l ++ [41]) else l
theorem brS_yes {wi : Int} (h : wi = 42 ∨ wi = 33 ∨ wi = 59) (l : List UInt8) : brS wi l = 40 :: (l ++ [41]) := by unfold brS; rw [if_pos h]
theorem brS_no {wi : Int} (h : ¬ (wi = 42 ∨ wi = 33 ∨ wi = 59)) (l : List UInt8) : brS wi l = l := by unfold brS; rw [if_neg h]
set_option maxRecDepth 100000 in
set_option maxHeartbeats 1000000 in
theorem rtext_sum (b g n cap : Nat) (wi : Int) (tx : Nat → List UInt8) (bx : Nat → Nat) (w : World) (h : nodeAt w b (rGroup 43 g n cap)) (hx : ∀ j, j < n → w.cell? ⟨g, j, none⟩ = some (ptrV (bx j))) (hn : n ≤ 1000) (hl : ∀ j, j < n → (tx j).length ≤ 1000000)
    (ih : ∀ j, j < n → ∀ ww, w.grownBy ww none → Calls Tryz.prog 49 #[ptrV (bx j), .int .u8 0] ww fun x w' => x = .returned (strV (tx j)) ∧ ww.grownBy w' none) :
    Calls Tryz.prog 49 #[ptrV b, .int .u8 wi] w fun x w' => x = .returned (strV (brS wi (joinTo [32, 43, 32] tx n))) ∧ w.grownBy w' none := by
  have c0 : w.cell? ⟨b, 0, none⟩ = some (.int .u8 43) := h.cell 0
  have hlt := h.lt
  have ND := hide h
  have IH := hide ih
  have HX := hide hx
  have HL := hide hl
  unfold ptrV
  clear h ih hx hl
  go_enter Tryz.func49, Tryz.ntmps49
  go_wp2_with fail
  go_loopw [6, 7] (fun s6 s7 wr => ∃ k : Nat, k ≤ n ∧ s7 = .int .i64 k ∧ s6 = .string ⟨(joinTo [32, 43, 32] tx k).toArray⟩ ∧ w.grownBy wr none) (fun _ s7 _ => n - (intOf s7).toNat)
  case atStart => exact ⟨0, by omega, rfl, rfl, World.grownBy_alloc _ _ _⟩
  case round =>
    obtain ⟨k, hk, rfl, rfl, hg⟩ := hrel
    have HG := hide hg
    have nd := ND.out.other hg (by simp)
    have d0 : wr.cell? ⟨b, 0, none⟩ = some (.int .u8 43) := nd.cell 0
    have d3 : wr.cell? ⟨b, 3, none⟩ = some (.slice (some ⟨g, 0, none⟩) n cap) := nd.cell 3
    have hb := nd.lt
    have hjl := joinTo_len [32, 43, 32] tx 1000000 (by decide) k (fun j hj => HL.out j (by omega))
    obtain ⟨S, hS⟩ : ∃ S : ByteArray, S = ⟨(joinTo [32, 43, 32] tx k).toArray⟩ := ⟨_, rfl⟩
    have hSl : S.size ≤ 1100000000 := by
      rw [hS]
      show (joinTo [32, 43, 32] tx k).toArray.size ≤ _
      simp
      have : k * 1000003 ≤ 1000 * 1000003 := Nat.mul_le_mul_right _ (by omega)
      omega
    rw [← hS]
    have HSS := hide hS
    clear hg nd c0 hjl hS
    by_cases hlk : k < n
    · have dx : wr.cell? ⟨g, k, none⟩ = some (ptrV (bx k)) := HG.out.cell (HX.out k hlk) (by simp)
      have hgl : g < wr.heap.size := World.block_lt_of_cell? wr _ dx
      obtain ⟨T, hT⟩ : ∃ T : ByteArray, T = ⟨(tx k).toArray⟩ := ⟨_, rfl⟩
      have hTl : T.size ≤ 1000000 := by rw [hT]; show (tx k).toArray.size ≤ _; simp; exact HL.out k hlk
      have IK : Hid (∀ ww, wr.grownBy ww none → Calls Tryz.prog 49 #[ptrV (bx k), .int .u8 0] ww fun x w' => x = .returned (.string T) ∧ w.grownBy w' none) := fun ww hgw => by
        refine (IH.out k hlk ww (grown_trans HG.out hgw)).mono ?_
        rintro x w' ⟨rfl, h2⟩
        exact ⟨by rw [hT]; rfl, grown_trans (grown_trans HG.out hgw) h2⟩
      have HJ : Hid ((k = 0 → S ++ T = ⟨(joinTo [32, 43, 32] tx (k + 1)).toArray⟩) ∧ (0 < k → S ++ ⟨#[32, 43, 32]⟩ ++ T = ⟨(joinTo [32, 43, 32] tx (k + 1)).toArray⟩)) := by
        refine ⟨fun e => ?_, fun e => ?_⟩
        · apply bytes_eq; rw [HSS.out, hT]; simp [ByteArray.data_append, joinTo, e]
        · apply bytes_eq; rw [HSS.out, hT]; simp [ByteArray.data_append, joinTo, e]
      clear hT
      unfold ptrV at dx IK
      have hlkI : (k : Int) < n := by omega
      have HK : Hid (k = 0 ∨ 0 < k) := by show k = 0 ∨ 0 < k; omega
      by_cases hk0 : (0 : Int) < k
      · go_wp2_with fail
        refine (IK.out _ (grown_refl _ _)).mono ?_
        rintro x w2 ⟨rfl, hg2⟩
        have G2 := hide hg2
        clear hg2
        go_wp2_with fail
        exact ⟨⟨k + 1, by omega, by go_num, by rw [← HJ.out.2 (by omega)], G2.out⟩, by simp [intOf]; omega⟩
      · go_wp2_with fail
        refine (IK.out _ (grown_refl _ _)).mono ?_
        rintro x w2 ⟨rfl, hg2⟩
        have G2 := hide hg2
        clear hg2
        go_wp2_with fail
        exact ⟨⟨k + 1, by omega, by go_num, by rw [← HJ.out.1 (by omega)], G2.out⟩, by simp [intOf]; omega⟩
    · obtain rfl : k = n := by omega
      have HB : Hid (Value.string ((⟨#[40]⟩ : ByteArray) ++ S ++ (⟨#[41]⟩ : ByteArray)) = strV (40 :: (joinTo [32, 43, 32] tx k ++ [41]))) := by
        show Value.string _ = Value.string _
        congr 1
        apply bytes_eq
        rw [HSS.out]
        simp [ByteArray.data_append]
      have HP : Hid (Value.string S = strV (joinTo [32, 43, 32] tx k)) := by rw [HSS.out]; rfl
      by_cases h1 : wi = 42
      · subst h1
        go_wp2
        go_ret
        exact ⟨by rw [brS_yes (.inl rfl)]; exact congrArg Ending.returned HB.out, HG.out⟩
      by_cases h2 : wi = 33
      · subst h2
        go_wp2
        go_ret
        exact ⟨by rw [brS_yes (.inr (.inl rfl))]; exact congrArg Ending.returned HB.out, HG.out⟩
      have b1 : (wi == 42) = false := by rw [beq_eq_false_iff_ne]; exact h1
      have b2 : (wi == 33) = false := by rw [beq_eq_false_iff_ne]; exact h2
      by_cases h3 : wi = 59
      · subst h3
        go_wp2
        go_ret
        exact ⟨by rw [brS_yes (.inr (.inr rfl))]; exact congrArg Ending.returned HB.out, HG.out⟩
      · have b3 : (wi == 59) = false := by rw [beq_eq_false_iff_ne]; exact h3
        have HN : Hid (¬ (wi = 42 ∨ wi = 33 ∨ wi = 59)) := fun h => h.elim h1 (fun h => h.elim h2 h3)
        clear h1 h2 h3
        go_wp2
        go_ret
        exact ⟨by rw [brS_no HN.out]; exact congrArg Ending.returned HP.out, HG.out⟩
end Go.Proofs.YtlhkfafdioakeaaGreatDoor
