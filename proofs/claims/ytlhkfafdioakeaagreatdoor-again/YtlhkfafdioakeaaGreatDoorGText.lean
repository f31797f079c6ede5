/- GText: several parts, each with what it proves in plain words at its head. -/
import Derived.Test.YtlhkfafdioakeaaGreatDoorGRead
import Derived.Test.YtlhkfafdioakeaaGreatDoorSyW
import Derived.Test.YtlhkfafdioakeaaGreatDoorShelf
/- Proved here: how a part is printed within a group: with brackets where its kind is the lesser one. -/
namespace Go.Proofs.YtlhkfafdioakeaaGreatDoor
open Go.RowKit Go.Weft
set_option linter.unusedVariables false
set_option linter.unusedSimpArgs false
def brackB (b : Bool) (l : List UInt8) : List UInt8 := if b then 40 :: (l ++ [41]) else l
theorem br_str (l : List UInt8) : Value.string ((⟨#[40]⟩ : ByteArray) ++ (⟨l.toArray⟩ : ByteArray) ++ (⟨#[41]⟩ : ByteArray)) = strV (brackB true l) := by
  unfold strV brackB
  have e1 := ba_append [40] l
  have e2 := ba_append ([40] ++ l) [41]
  simp only [List.cons_append, List.nil_append] at e1 e2
  rw [if_pos rfl]
  rw [show (⟨#[40]⟩ : ByteArray) ++ (⟨l.toArray⟩ : ByteArray) = ⟨(40 :: l).toArray⟩ from e1, show (⟨(40 :: l).toArray⟩ : ByteArray) ++ (⟨#[41]⟩ : ByteArray) = ⟨(40 :: (l ++ [41])).toArray⟩ from e2]

set_option maxRecDepth 100000 in
set_option maxHeartbeats 1000000 in
theorem textOfLeaf_yes (a : Array Value) (kd k : Int) (l : List UInt8) (g n cap : Nat) (w : World) (hkk : kd < k) (hl : l.length ≤ 100000)
    (hK : ∀ w, Calls Tryz.prog 329 #[.agg a] w fun x w' => x = .returned (.int .i64 kd) ∧ w.grownBy w' none)
    (hT : ∀ w', w.grownBy w' none → Calls Tryz.prog 330 #[.agg a] w' fun x w'' => x = .returned (strV l) ∧ w'.grownBy w'' none) :
    Calls Tryz.prog 320 #[.agg #[.int .i64 k, .slice (some ⟨g, 0, none⟩) n cap], .iface 317 (.agg a)] w fun x w' => x = .returned (strV (brackB true l)) ∧ w.grownBy w' none := by
  have HK := hide hK
  have HT := hide hT
  clear hK hT
  go_enter Tryz.func320, Tryz.ntmps320
  go_wp2
  go_region_with (go_at_call 329; refine (HK.out _).mono ?_; rintro x w1 ⟨rfl, hg⟩; have G1 := hide hg; have cK : w1.cell? ⟨w.heap.size, 0, none⟩ = some (.int .i64 k) := hg.cell (by simp) (by simp); clear hg)
  all_goals go_wp2_with fail
  all_goals refine (HT.out _ (grown_trans (grown_drew (World.grownBy_alloc _ _ _)) (Hid.out (by assumption)))).mono ?_
  all_goals rintro x w2 ⟨rfl, hg2⟩
  all_goals unfold strV
  all_goals go_wp2
  all_goals go_ret
  all_goals exact ⟨congrArg Ending.returned (br_str l), grown_trans (grown_trans (grown_drew (World.grownBy_alloc _ _ _)) (Hid.out (by assumption))) hg2⟩

set_option maxRecDepth 100000 in
set_option maxHeartbeats 1000000 in
theorem textOfLeaf_no (a : Array Value) (kd k : Int) (l : List UInt8) (g n cap : Nat) (w : World) (hkk : k ≤ kd) (hl : l.length ≤ 100000)
    (hK : ∀ w, Calls Tryz.prog 329 #[.agg a] w fun x w' => x = .returned (.int .i64 kd) ∧ w.grownBy w' none)
    (hT : ∀ w', w.grownBy w' none → Calls Tryz.prog 330 #[.agg a] w' fun x w'' => x = .returned (strV l) ∧ w'.grownBy w'' none) :
    Calls Tryz.prog 320 #[.agg #[.int .i64 k, .slice (some ⟨g, 0, none⟩) n cap], .iface 317 (.agg a)] w fun x w' => x = .returned (strV (brackB false l)) ∧ w.grownBy w' none := by
  have HK := hide hK
  have HT := hide hT
  clear hK hT
  go_enter Tryz.func320, Tryz.ntmps320
  go_wp2
  go_region_with (go_at_call 329; refine (HK.out _).mono ?_; rintro x w1 ⟨rfl, hg⟩; have G1 := hide hg; have cK : w1.cell? ⟨w.heap.size, 0, none⟩ = some (.int .i64 k) := hg.cell (by simp) (by simp); clear hg)
  all_goals go_wp2_with fail
  all_goals refine (HT.out _ (grown_trans (grown_drew (World.grownBy_alloc _ _ _)) (Hid.out (by assumption)))).mono ?_
  all_goals rintro x w2 ⟨rfl, hg2⟩
  all_goals unfold strV
  all_goals go_wp2
  all_goals go_ret
  all_goals exact ⟨rfl, grown_trans (grown_trans (grown_drew (World.grownBy_alloc _ _ _)) (Hid.out (by assumption))) hg2⟩

set_option maxRecDepth 100000 in
set_option maxHeartbeats 1000000 in
theorem textOfTest_yes (a : Array Value) (kd k : Int) (l : List UInt8) (g n cap : Nat) (w : World) (hkk : kd < k) (hl : l.length ≤ 100000)
    (hK : ∀ w, Calls Tryz.prog 301 #[.agg a] w fun x w' => x = .returned (.int .i64 kd) ∧ w.grownBy w' none)
    (hT : ∀ w', w.grownBy w' none → Calls Tryz.prog 302 #[.agg a] w' fun x w'' => x = .returned (strV l) ∧ w'.grownBy w'' none) :
    Calls Tryz.prog 320 #[.agg #[.int .i64 k, .slice (some ⟨g, 0, none⟩) n cap], .iface 177 (.agg a)] w fun x w' => x = .returned (strV (brackB true l)) ∧ w.grownBy w' none := by
  have HK := hide hK
  have HT := hide hT
  clear hK hT
  go_enter Tryz.func320, Tryz.ntmps320
  go_wp2
  go_region_with (go_at_call 301; refine (HK.out _).mono ?_; rintro x w1 ⟨rfl, hg⟩; have G1 := hide hg; have cK : w1.cell? ⟨w.heap.size, 0, none⟩ = some (.int .i64 k) := hg.cell (by simp) (by simp); clear hg)
  all_goals go_wp2_with fail
  all_goals refine (HT.out _ (grown_trans (grown_drew (World.grownBy_alloc _ _ _)) (Hid.out (by assumption)))).mono ?_
  all_goals rintro x w2 ⟨rfl, hg2⟩
  all_goals unfold strV
  all_goals go_wp2
  all_goals go_ret
  all_goals exact ⟨congrArg Ending.returned (br_str l), grown_trans (grown_trans (grown_drew (World.grownBy_alloc _ _ _)) (Hid.out (by assumption))) hg2⟩

set_option maxRecDepth 100000 in
set_option maxHeartbeats 1000000 in
theorem textOfTest_no (a : Array Value) (kd k : Int) (l : List UInt8) (g n cap : Nat) (w : World) (hkk : k ≤ kd) (hl : l.length ≤ 100000)
    (hK : ∀ w, Calls Tryz.prog 301 #[.agg a] w fun x w' => x = .returned (.int .i64 kd) ∧ w.grownBy w' none)
    (hT : ∀ w', w.grownBy w' none → Calls Tryz.prog 302 #[.agg a] w' fun x w'' => x = .returned (strV l) ∧ w'.grownBy w'' none) :
    Calls Tryz.prog 320 #[.agg #[.int .i64 k, .slice (some ⟨g, 0, none⟩) n cap], .iface 177 (.agg a)] w fun x w' => x = .returned (strV (brackB false l)) ∧ w.grownBy w' none := by
  have HK := hide hK
  have HT := hide hT
  clear hK hT
  go_enter Tryz.func320, Tryz.ntmps320
  go_wp2
  go_region_with (go_at_call 301; refine (HK.out _).mono ?_; rintro x w1 ⟨rfl, hg⟩; have G1 := hide hg; have cK : w1.cell? ⟨w.heap.size, 0, none⟩ = some (.int .i64 k) := hg.cell (by simp) (by simp); clear hg)
  all_goals go_wp2_with fail
  all_goals refine (HT.out _ (grown_trans (grown_drew (World.grownBy_alloc _ _ _)) (Hid.out (by assumption)))).mono ?_
  all_goals rintro x w2 ⟨rfl, hg2⟩
  all_goals unfold strV
  all_goals go_wp2
  all_goals go_ret
  all_goals exact ⟨rfl, grown_trans (grown_trans (grown_drew (World.grownBy_alloc _ _ _)) (Hid.out (by assumption))) hg2⟩

set_option maxRecDepth 100000 in
set_option maxHeartbeats 1000000 in
theorem textOfSetting_yes (a : Array Value) (kd k : Int) (l : List UInt8) (g n cap : Nat) (w : World) (hkk : kd < k) (hl : l.length ≤ 100000)
    (hK : ∀ w, Calls Tryz.prog 316 #[.agg a] w fun x w' => x = .returned (.int .i64 kd) ∧ w.grownBy w' none)
    (hT : ∀ w', w.grownBy w' none → Calls Tryz.prog 317 #[.agg a] w' fun x w'' => x = .returned (strV l) ∧ w'.grownBy w'' none) :
    Calls Tryz.prog 320 #[.agg #[.int .i64 k, .slice (some ⟨g, 0, none⟩) n cap], .iface 178 (.agg a)] w fun x w' => x = .returned (strV (brackB true l)) ∧ w.grownBy w' none := by
  have HK := hide hK
  have HT := hide hT
  clear hK hT
  go_enter Tryz.func320, Tryz.ntmps320
  go_wp2
  go_region_with (go_at_call 316; refine (HK.out _).mono ?_; rintro x w1 ⟨rfl, hg⟩; have G1 := hide hg; have cK : w1.cell? ⟨w.heap.size, 0, none⟩ = some (.int .i64 k) := hg.cell (by simp) (by simp); clear hg)
  all_goals go_wp2_with fail
  all_goals refine (HT.out _ (grown_trans (grown_drew (World.grownBy_alloc _ _ _)) (Hid.out (by assumption)))).mono ?_
  all_goals rintro x w2 ⟨rfl, hg2⟩
  all_goals unfold strV
  all_goals go_wp2
  all_goals go_ret
  all_goals exact ⟨congrArg Ending.returned (br_str l), grown_trans (grown_trans (grown_drew (World.grownBy_alloc _ _ _)) (Hid.out (by assumption))) hg2⟩

set_option maxRecDepth 100000 in
set_option maxHeartbeats 1000000 in
theorem textOfSetting_no (a : Array Value) (kd k : Int) (l : List UInt8) (g n cap : Nat) (w : World) (hkk : k ≤ kd) (hl : l.length ≤ 100000)
    (hK : ∀ w, Calls Tryz.prog 316 #[.agg a] w fun x w' => x = .returned (.int .i64 kd) ∧ w.grownBy w' none)
    (hT : ∀ w', w.grownBy w' none → Calls Tryz.prog 317 #[.agg a] w' fun x w'' => x = .returned (strV l) ∧ w'.grownBy w'' none) :
    Calls Tryz.prog 320 #[.agg #[.int .i64 k, .slice (some ⟨g, 0, none⟩) n cap], .iface 178 (.agg a)] w fun x w' => x = .returned (strV (brackB false l)) ∧ w.grownBy w' none := by
  have HK := hide hK
  have HT := hide hT
  clear hK hT
  go_enter Tryz.func320, Tryz.ntmps320
  go_wp2
  go_region_with (go_at_call 316; refine (HK.out _).mono ?_; rintro x w1 ⟨rfl, hg⟩; have G1 := hide hg; have cK : w1.cell? ⟨w.heap.size, 0, none⟩ = some (.int .i64 k) := hg.cell (by simp) (by simp); clear hg)
  all_goals go_wp2_with fail
  all_goals refine (HT.out _ (grown_trans (grown_drew (World.grownBy_alloc _ _ _)) (Hid.out (by assumption)))).mono ?_
  all_goals rintro x w2 ⟨rfl, hg2⟩
  all_goals unfold strV
  all_goals go_wp2
  all_goals go_ret
  all_goals exact ⟨rfl, grown_trans (grown_trans (grown_drew (World.grownBy_alloc _ _ _)) (Hid.out (by assumption))) hg2⟩

set_option maxRecDepth 100000 in
set_option maxHeartbeats 1000000 in
theorem textOfGroup_yes (a : Array Value) (kd k : Int) (l : List UInt8) (g n cap : Nat) (w : World) (hkk : kd < k) (hl : l.length ≤ 100000)
    (hK : ∀ w, Calls Tryz.prog 318 #[.agg a] w fun x w' => x = .returned (.int .i64 kd) ∧ w.grownBy w' none)
    (hT : ∀ w', w.grownBy w' none → Calls Tryz.prog 319 #[.agg a] w' fun x w'' => x = .returned (strV l) ∧ w'.grownBy w'' none) :
    Calls Tryz.prog 320 #[.agg #[.int .i64 k, .slice (some ⟨g, 0, none⟩) n cap], .iface 234 (.agg a)] w fun x w' => x = .returned (strV (brackB true l)) ∧ w.grownBy w' none := by
  have HK := hide hK
  have HT := hide hT
  clear hK hT
  go_enter Tryz.func320, Tryz.ntmps320
  go_wp2
  go_region_with (go_at_call 318; refine (HK.out _).mono ?_; rintro x w1 ⟨rfl, hg⟩; have G1 := hide hg; have cK : w1.cell? ⟨w.heap.size, 0, none⟩ = some (.int .i64 k) := hg.cell (by simp) (by simp); clear hg)
  all_goals go_wp2_with fail
  all_goals refine (HT.out _ (grown_trans (grown_drew (World.grownBy_alloc _ _ _)) (Hid.out (by assumption)))).mono ?_
  all_goals rintro x w2 ⟨rfl, hg2⟩
  all_goals unfold strV
  all_goals go_wp2
  all_goals go_ret
  all_goals exact ⟨congrArg Ending.returned (br_str l), grown_trans (grown_trans (grown_drew (World.grownBy_alloc _ _ _)) (Hid.out (by assumption))) hg2⟩

set_option maxRecDepth 100000 in
set_option maxHeartbeats 1000000 in
theorem textOfGroup_no (a : Array Value) (kd k : Int) (l : List UInt8) (g n cap : Nat) (w : World) (hkk : k ≤ kd) (hl : l.length ≤ 100000)
    (hK : ∀ w, Calls Tryz.prog 318 #[.agg a] w fun x w' => x = .returned (.int .i64 kd) ∧ w.grownBy w' none)
    (hT : ∀ w', w.grownBy w' none → Calls Tryz.prog 319 #[.agg a] w' fun x w'' => x = .returned (strV l) ∧ w'.grownBy w'' none) :
    Calls Tryz.prog 320 #[.agg #[.int .i64 k, .slice (some ⟨g, 0, none⟩) n cap], .iface 234 (.agg a)] w fun x w' => x = .returned (strV (brackB false l)) ∧ w.grownBy w' none := by
  have HK := hide hK
  have HT := hide hT
  clear hK hT
  go_enter Tryz.func320, Tryz.ntmps320
  go_wp2
  go_region_with (go_at_call 318; refine (HK.out _).mono ?_; rintro x w1 ⟨rfl, hg⟩; have G1 := hide hg; have cK : w1.cell? ⟨w.heap.size, 0, none⟩ = some (.int .i64 k) := hg.cell (by simp) (by simp); clear hg)
  all_goals go_wp2_with fail
  all_goals refine (HT.out _ (grown_trans (grown_drew (World.grownBy_alloc _ _ _)) (Hid.out (by assumption)))).mono ?_
  all_goals rintro x w2 ⟨rfl, hg2⟩
  all_goals unfold strV
  all_goals go_wp2
  all_goals go_ret
  all_goals exact ⟨rfl, grown_trans (grown_trans (grown_drew (World.grownBy_alloc _ _ _)) (Hid.out (by assumption))) hg2⟩
end Go.Proofs.YtlhkfafdioakeaaGreatDoor
/- Proved here: how leaves are printed. -/
namespace Go.Proofs.YtlhkfafdioakeaaGreatDoor
open Go.RowKit Go.Weft
set_option linter.unusedVariables false
set_option linter.unusedSimpArgs false
set_option maxRecDepth 100000 in
set_option maxHeartbeats 1000000 in
theorem textWith_any (f v : Nat) (hf : f < 6) (hv : v < 32) (sg : ByteArray) (hsg : sg.size ≤ 10) (w : World) (hn : Names w) :
    Calls Tryz.prog 300 #[.agg #[.int .i64 f, .int .i64 v], .string sg] w fun x w' => x = .returned (.string (nameB f ++ sg ++ ⟨(Lib.decDigits v).toArray⟩)) ∧ w.grownBy w' none := by
  have hnf : w.cell? ⟨1, f, none⟩ = some (.string (nameB f)) := hn f hf
  have hg0 : 1 < w.heap.size := World.block_lt_of_cell? w _ hnf
  have hf0 : (0 : Int) ≤ (f : Int) := by omega
  have hf6 : (f : Int) < 6 := by omega
  have hs1 : (nameB f).size ≤ 10 := by
    rcases (show f = 0 ∨ f = 1 ∨ f = 2 ∨ f = 3 ∨ f = 4 ∨ f = 5 by omega) with rfl | rfl | rfl | rfl | rfl | rfl <;> decide
  have hs2 : (Lib.decDigits v).length ≤ 10 := by
    have : ∀ v, v < 32 → (Lib.decDigits v).length ≤ 10 := by decide +kernel
    exact this v hv
  have hs3 : (⟨(Lib.decDigits v).toArray⟩ : ByteArray).size ≤ 10 := by show (Lib.decDigits v).toArray.size ≤ 10; simpa using hs2
  have hs4 : (nameB f ++ sg).size ≤ 20 := by rw [ByteArray.size_append]; omega
  have HI := hide (Tryz.strconv_Itoa_small v (by omega))
  generalize nameB f = nb at *
  generalize (⟨(Lib.decDigits v).toArray⟩ : ByteArray) = db at *
  clear hn hs2
  go_enter Tryz.func300, Tryz.ntmps300
  go_wp2
  go_region_with (go_at_call 303; refine (HI.out _).mono ?_; rintro x w1 ⟨rfl, rfl⟩)
  all_goals go_wp2
  all_goals go_ret
  all_goals exact ⟨rfl, grown_drew (World.grownBy_alloc _ _ _)⟩
end Go.Proofs.YtlhkfafdioakeaaGreatDoor
/- Proved here: how groups are printed. -/
namespace Go.Proofs.YtlhkfafdioakeaaGreatDoor
open Go.RowKit Go.Weft
set_option linter.unusedVariables false
set_option linter.unusedSimpArgs false
theorem Tryz.infoStr : (Tryz.prog.info? 9).map (fun i => (i.zero, i.size, i.bytes)) = some (some (.string ByteArray.empty), 1, 16) := by kernel_rfl
def txs (n : Nat) (tx : Nat → List UInt8) : List (List UInt8) := (List.range n).map tx
def bas (n : Nat) (tx : Nat → List UInt8) : List ByteArray := (List.range n).map fun j => ⟨(tx j).toArray⟩
theorem bas_map (n : Nat) (tx : Nat → List UInt8) : (bas n tx).map (·.data.toList) = txs n tx := by simp [bas, txs]
theorem bas_len (n : Nat) (tx : Nat → List UInt8) : (bas n tx).length = n := by simp [bas]
theorem txs_cells {w : World} {B e g n : Nat} {cap : Nat} {xs : List Value} {tx : Nat → List UInt8} (h : w.ownsRow B e 1 (.slice (some ⟨g, 0, none⟩) n cap) n xs) (hx : ∀ j, j < n → xs[j]? = some (strV (tx j))) :
    ∀ (j : Nat) x, (bas n tx)[j]? = some x → w.cell? ⟨g, j, none⟩ = some (.string x) := by
  intro j x hj
  have hjn : j < n := by
    have := (List.getElem?_eq_some_iff.1 hj).1
    simpa [bas] using this
  rw [h.cellAt j (by omega), hx j hjn]
  simp [bas, hjn] at hj
  rw [← hj]
  rfl
theorem star_str (l : List UInt8) : Value.string ((⟨l.toArray⟩ : ByteArray) ++ (⟨#[42]⟩ : ByteArray)) = strV (l ++ [42]) := congrArg Value.string (ba_append l [42])
theorem not_str (l : List UInt8) : Value.string ((⟨#[33]⟩ : ByteArray) ++ (⟨l.toArray⟩ : ByteArray)) = strV (33 :: l) := congrArg Value.string (ba_append [33] l)
theorem set_get {xs : List Value} {k : Nat} {u : Value} {tx : Nat → List UInt8} (hk : k < xs.length) (hx : ∀ j, j < k → xs[j]? = some (strV (tx j))) (hu : u = strV (tx k)) : ∀ j, j < k + 1 → (xs.set k u)[j]? = some (strV (tx j)) := by
  intro j hj
  by_cases e : j = k
  · subst e; simp [hk, hu]
  · rw [List.getElem?_set_ne (by omega)]
    exact hx j (by omega)

set_option maxRecDepth 100000 in
set_option maxHeartbeats 4000000 in
theorem groupText1 (g n cap : Nat) (tx : Nat → List UInt8) (vx : Nat → Value) (w : World) (hn0 : 1 ≤ n) (hn : n ≤ 1000) (hlen : (Lib.join (txs n tx) [59]).length ≤ 100000)
    (hcell : ∀ j, j < n → w.cell? ⟨g, j, none⟩ = some (vx j))
    (hto : ∀ j, j < n → ∀ w', w.grownBy w' none → Calls Tryz.prog 320 #[.agg #[.int .i64 1, .slice (some ⟨g, 0, none⟩) n cap], vx j] w' fun x w'' => x = .returned (strV (tx j)) ∧ w'.grownBy w'' none) :
    Calls Tryz.prog 319 #[.agg #[.int .i64 1, .slice (some ⟨g, 0, none⟩) n cap]] w fun x w' => x = .returned (strV (Lib.join (txs n tx) [59])) ∧ w.grownBy w' none := by
  obtain ⟨i0, hi0, hz0, hz1, hz2⟩ := info_parts Tryz.infoStr
  have HC := hide hcell
  have HTO := hide hto
  clear hcell hto
  go_enter Tryz.func319, Tryz.ntmps319
  go_wp2_with (at_make; refine wpList_make_full _ rfl _ _ 35 rfl w.heap.size 9 i0 _ 1 Tryz.underlying35 hi0 hz0 hz1 .i64 .i64 _ _ n rfl rfl rfl rfl ?m1 ?m2 ?m3 ?_)
  case m1 => rw [hz2]; omega
  case m2 => unfold maxLen; omega
  case m3 => simp
  intro w1 hown1 hg1
  have hG0 : w.grownBy w1 none := grown_trans (World.grownBy_alloc _ _ _) hg1
  have b0 : w1.cell? ⟨w.heap.size, 0, none⟩ = some (.int .i64 1) := hg1.cell (by simp) (by simp)
  have b1 : w1.cell? ⟨w.heap.size, 1, none⟩ = some (.slice (some ⟨g, 0, none⟩) n cap) := hg1.cell (by simp) (by simp)
  have B0 := hide b0
  have B1 := hide b1
  have HO1 := hide hown1
  have HG0 := hide hG0
  clear hown1 hg1 hG0
  go_wp2
  go_loopw [13] (fun i wr => ∃ (k : Nat) (xs : List Value), k ≤ n ∧ i = .int .i64 k ∧ wr.ownsRow w.heap.size 9 1 (.slice (some ⟨w.heap.size + 1, 0, none⟩) n n) n xs ∧ (∀ j, j < k → xs[j]? = some (strV (tx j))) ∧ w.grownBy wr none ∧
      wr.cell? ⟨w.heap.size, 0, none⟩ = some (.int .i64 1) ∧ wr.cell? ⟨w.heap.size, 1, none⟩ = some (.slice (some ⟨g, 0, none⟩) n cap)) (fun i _ => n - (intOf i).toNat)
  case atStart => exact ⟨0, _, Nat.zero_le _, rfl, HO1.out, fun j hj => by omega, HG0.out, B0.out, B1.out⟩
  case round =>
    obtain ⟨k, xs, hk, rfl, hown, hx, hg, c0, c1⟩ := hrel
    have HO := hide hown
    have HX := hide hx
    have HG := hide hg
    clear hown hx hg b0 b1
    by_cases hlt : k < n
    · have hxc : wr.cell? ⟨g, k, none⟩ = some (vx k) := HG.out.cell (HC.out k hlt) (by simp)
      have HT := hide (HTO.out k hlt wr HG.out)
      go_wp2_with fail
      refine HT.out.mono ?_
      rintro x w2 ⟨rfl, hg2⟩
      have c0' : w2.cell? ⟨w.heap.size, 0, none⟩ = some (.int .i64 1) := hg2.cell c0 (by simp)
      have c1' : w2.cell? ⟨w.heap.size, 1, none⟩ = some (.slice (some ⟨g, 0, none⟩) n cap) := hg2.cell c1 (by simp)
      have ho2 := HO.out.kept hg2 (.inr (by simp [Value.ownBlock]))
      have q1 : w2.frozen? ⟨w.heap.size + 1, k, none⟩ = false := ho2.frozenAt k
      have hxl : k < xs.length := by have := ho2.1; omega
      have q2 : w2.cell? ⟨w.heap.size + 1, k, none⟩ = some (xs[k]) := by rw [ho2.cellAt k (by omega)]; simp [hxl]
      have hst := ho2.stored k (strV (tx k))
      have HS1 := hide hst.1
      have HS2 : Hid (w.grownBy (w2.setCell ⟨w.heap.size + 1, k, none⟩ (strV (tx k))) none) := grown_own (grown_trans HG.out hg2) hst.2 (fun b e => by cases e; omega)
      have D0 := hide (hst.2.cell c0' (by simp))
      have D1 := hide (hst.2.cell c1' (by simp))
      have HXS := hide (set_get hxl HX.out rfl)
      clear hst ho2 hg2 c0 c1 hxc
      unfold strV
      go_wp2
      go_roundw
      case rel => exact ⟨k + 1, _, by omega, by go_num, HS1.out, HXS.out, HS2.out, D0.out, D1.out⟩
      case measure => simp [intOf]; omega
    · have hps : k = n := by omega
      subst hps
      as_aux_lemma =>
        have hcells := hide (txs_cells HO.out HX.out)
        have hj0 := Tryz.strings_Join (w.heap.size + 1) 0 k (bas k tx) ⟨#[59]⟩ wr (by simpa using hcells.out) (by have := (HO.out.lt (w.heap.size + 1) rfl).2; exact this) (by rw [bas_len]; omega) (by rw [bas_len]; exact Nat.le_refl _) (by rw [bas_map]; exact Nat.le_trans hlen (by decide))
        rw [bas_map, bas_len] at hj0
        have HJ := hide hj0
        clear hj0
        go_wp2_with fail
        refine HJ.out.mono ?_
        rintro x w3 ⟨rfl, hb3⟩
        have G3 := hide (grown_trans HG.out (grown_below hb3))
        clear hb3
        go_wp2
        go_ret
        exact ⟨rfl, G3.out⟩

set_option maxRecDepth 100000 in
set_option maxHeartbeats 4000000 in
theorem groupText0 (g n cap : Nat) (tx : Nat → List UInt8) (vx : Nat → Value) (w : World) (hn0 : 1 ≤ n) (hn : n ≤ 1000) (hlen : (Lib.join (txs n tx) [32, 43, 32]).length ≤ 100000)
    (hcell : ∀ j, j < n → w.cell? ⟨g, j, none⟩ = some (vx j))
    (hto : ∀ j, j < n → ∀ w', w.grownBy w' none → Calls Tryz.prog 320 #[.agg #[.int .i64 0, .slice (some ⟨g, 0, none⟩) n cap], vx j] w' fun x w'' => x = .returned (strV (tx j)) ∧ w'.grownBy w'' none) :
    Calls Tryz.prog 319 #[.agg #[.int .i64 0, .slice (some ⟨g, 0, none⟩) n cap]] w fun x w' => x = .returned (strV (Lib.join (txs n tx) [32, 43, 32])) ∧ w.grownBy w' none := by
  obtain ⟨i0, hi0, hz0, hz1, hz2⟩ := info_parts Tryz.infoStr
  have HC := hide hcell
  have HTO := hide hto
  clear hcell hto
  go_enter Tryz.func319, Tryz.ntmps319
  go_wp2_with (at_make; refine wpList_make_full _ rfl _ _ 35 rfl w.heap.size 9 i0 _ 1 Tryz.underlying35 hi0 hz0 hz1 .i64 .i64 _ _ n rfl rfl rfl rfl ?m1 ?m2 ?m3 ?_)
  case m1 => rw [hz2]; omega
  case m2 => unfold maxLen; omega
  case m3 => simp
  intro w1 hown1 hg1
  have hG0 : w.grownBy w1 none := grown_trans (World.grownBy_alloc _ _ _) hg1
  have b0 : w1.cell? ⟨w.heap.size, 0, none⟩ = some (.int .i64 0) := hg1.cell (by simp) (by simp)
  have b1 : w1.cell? ⟨w.heap.size, 1, none⟩ = some (.slice (some ⟨g, 0, none⟩) n cap) := hg1.cell (by simp) (by simp)
  have B0 := hide b0
  have B1 := hide b1
  have HO1 := hide hown1
  have HG0 := hide hG0
  clear hown1 hg1 hG0
  go_wp2
  go_loopw [13] (fun i wr => ∃ (k : Nat) (xs : List Value), k ≤ n ∧ i = .int .i64 k ∧ wr.ownsRow w.heap.size 9 1 (.slice (some ⟨w.heap.size + 1, 0, none⟩) n n) n xs ∧ (∀ j, j < k → xs[j]? = some (strV (tx j))) ∧ w.grownBy wr none ∧
      wr.cell? ⟨w.heap.size, 0, none⟩ = some (.int .i64 0) ∧ wr.cell? ⟨w.heap.size, 1, none⟩ = some (.slice (some ⟨g, 0, none⟩) n cap)) (fun i _ => n - (intOf i).toNat)
  case atStart => exact ⟨0, _, Nat.zero_le _, rfl, HO1.out, fun j hj => by omega, HG0.out, B0.out, B1.out⟩
  case round =>
    obtain ⟨k, xs, hk, rfl, hown, hx, hg, c0, c1⟩ := hrel
    have HO := hide hown
    have HX := hide hx
    have HG := hide hg
    clear hown hx hg b0 b1
    by_cases hlt : k < n
    · have hxc : wr.cell? ⟨g, k, none⟩ = some (vx k) := HG.out.cell (HC.out k hlt) (by simp)
      have HT := hide (HTO.out k hlt wr HG.out)
      go_wp2_with fail
      refine HT.out.mono ?_
      rintro x w2 ⟨rfl, hg2⟩
      have c0' : w2.cell? ⟨w.heap.size, 0, none⟩ = some (.int .i64 0) := hg2.cell c0 (by simp)
      have c1' : w2.cell? ⟨w.heap.size, 1, none⟩ = some (.slice (some ⟨g, 0, none⟩) n cap) := hg2.cell c1 (by simp)
      have ho2 := HO.out.kept hg2 (.inr (by simp [Value.ownBlock]))
      have q1 : w2.frozen? ⟨w.heap.size + 1, k, none⟩ = false := ho2.frozenAt k
      have hxl : k < xs.length := by have := ho2.1; omega
      have q2 : w2.cell? ⟨w.heap.size + 1, k, none⟩ = some (xs[k]) := by rw [ho2.cellAt k (by omega)]; simp [hxl]
      have hst := ho2.stored k (strV (tx k))
      have HS1 := hide hst.1
      have HS2 : Hid (w.grownBy (w2.setCell ⟨w.heap.size + 1, k, none⟩ (strV (tx k))) none) := grown_own (grown_trans HG.out hg2) hst.2 (fun b e => by cases e; omega)
      have D0 := hide (hst.2.cell c0' (by simp))
      have D1 := hide (hst.2.cell c1' (by simp))
      have HXS := hide (set_get hxl HX.out rfl)
      clear hst ho2 hg2 c0 c1 hxc
      unfold strV
      go_wp2
      go_roundw
      case rel => exact ⟨k + 1, _, by omega, by go_num, HS1.out, HXS.out, HS2.out, D0.out, D1.out⟩
      case measure => simp [intOf]; omega
    · have hps : k = n := by omega
      subst hps
      as_aux_lemma =>
        have hcells := hide (txs_cells HO.out HX.out)
        have hj0 := Tryz.strings_Join (w.heap.size + 1) 0 k (bas k tx) ⟨#[32, 43, 32]⟩ wr (by simpa using hcells.out) (by have := (HO.out.lt (w.heap.size + 1) rfl).2; exact this) (by rw [bas_len]; omega) (by rw [bas_len]; exact Nat.le_refl _) (by rw [bas_map]; exact Nat.le_trans hlen (by decide))
        rw [bas_map, bas_len] at hj0
        have HJ := hide hj0
        clear hj0
        go_wp2_with fail
        refine HJ.out.mono ?_
        rintro x w3 ⟨rfl, hb3⟩
        have G3 := hide (grown_trans HG.out (grown_below hb3))
        clear hb3
        go_wp2
        go_ret
        exact ⟨rfl, G3.out⟩

set_option maxRecDepth 100000 in
set_option maxHeartbeats 4000000 in
theorem groupText2 (g n cap : Nat) (tx : Nat → List UInt8) (vx : Nat → Value) (w : World) (hn0 : 1 ≤ n) (hn : n ≤ 1000) (hlen : (tx 0).length ≤ 100000)
    (hcell : ∀ j, j < n → w.cell? ⟨g, j, none⟩ = some (vx j))
    (hto : ∀ j, j < n → ∀ w', w.grownBy w' none → Calls Tryz.prog 320 #[.agg #[.int .i64 2, .slice (some ⟨g, 0, none⟩) n cap], vx j] w' fun x w'' => x = .returned (strV (tx j)) ∧ w'.grownBy w'' none) :
    Calls Tryz.prog 319 #[.agg #[.int .i64 2, .slice (some ⟨g, 0, none⟩) n cap]] w fun x w' => x = .returned (strV (tx 0 ++ [42])) ∧ w.grownBy w' none := by
  obtain ⟨i0, hi0, hz0, hz1, hz2⟩ := info_parts Tryz.infoStr
  have HC := hide hcell
  have HTO := hide hto
  clear hcell hto
  go_enter Tryz.func319, Tryz.ntmps319
  go_wp2_with (at_make; refine wpList_make_full _ rfl _ _ 35 rfl w.heap.size 9 i0 _ 1 Tryz.underlying35 hi0 hz0 hz1 .i64 .i64 _ _ n rfl rfl rfl rfl ?m1 ?m2 ?m3 ?_)
  case m1 => rw [hz2]; omega
  case m2 => unfold maxLen; omega
  case m3 => simp
  intro w1 hown1 hg1
  have hG0 : w.grownBy w1 none := grown_trans (World.grownBy_alloc _ _ _) hg1
  have b0 : w1.cell? ⟨w.heap.size, 0, none⟩ = some (.int .i64 2) := hg1.cell (by simp) (by simp)
  have b1 : w1.cell? ⟨w.heap.size, 1, none⟩ = some (.slice (some ⟨g, 0, none⟩) n cap) := hg1.cell (by simp) (by simp)
  have B0 := hide b0
  have B1 := hide b1
  have HO1 := hide hown1
  have HG0 := hide hG0
  clear hown1 hg1 hG0
  go_wp2
  go_loopw [13] (fun i wr => ∃ (k : Nat) (xs : List Value), k ≤ n ∧ i = .int .i64 k ∧ wr.ownsRow w.heap.size 9 1 (.slice (some ⟨w.heap.size + 1, 0, none⟩) n n) n xs ∧ (∀ j, j < k → xs[j]? = some (strV (tx j))) ∧ w.grownBy wr none ∧
      wr.cell? ⟨w.heap.size, 0, none⟩ = some (.int .i64 2) ∧ wr.cell? ⟨w.heap.size, 1, none⟩ = some (.slice (some ⟨g, 0, none⟩) n cap)) (fun i _ => n - (intOf i).toNat)
  case atStart => exact ⟨0, _, Nat.zero_le _, rfl, HO1.out, fun j hj => by omega, HG0.out, B0.out, B1.out⟩
  case round =>
    obtain ⟨k, xs, hk, rfl, hown, hx, hg, c0, c1⟩ := hrel
    have HO := hide hown
    have HX := hide hx
    have HG := hide hg
    clear hown hx hg b0 b1
    by_cases hlt : k < n
    · have hxc : wr.cell? ⟨g, k, none⟩ = some (vx k) := HG.out.cell (HC.out k hlt) (by simp)
      have HT := hide (HTO.out k hlt wr HG.out)
      go_wp2_with fail
      refine HT.out.mono ?_
      rintro x w2 ⟨rfl, hg2⟩
      have c0' : w2.cell? ⟨w.heap.size, 0, none⟩ = some (.int .i64 2) := hg2.cell c0 (by simp)
      have c1' : w2.cell? ⟨w.heap.size, 1, none⟩ = some (.slice (some ⟨g, 0, none⟩) n cap) := hg2.cell c1 (by simp)
      have ho2 := HO.out.kept hg2 (.inr (by simp [Value.ownBlock]))
      have q1 : w2.frozen? ⟨w.heap.size + 1, k, none⟩ = false := ho2.frozenAt k
      have hxl : k < xs.length := by have := ho2.1; omega
      have q2 : w2.cell? ⟨w.heap.size + 1, k, none⟩ = some (xs[k]) := by rw [ho2.cellAt k (by omega)]; simp [hxl]
      have hst := ho2.stored k (strV (tx k))
      have HS1 := hide hst.1
      have HS2 : Hid (w.grownBy (w2.setCell ⟨w.heap.size + 1, k, none⟩ (strV (tx k))) none) := grown_own (grown_trans HG.out hg2) hst.2 (fun b e => by cases e; omega)
      have D0 := hide (hst.2.cell c0' (by simp))
      have D1 := hide (hst.2.cell c1' (by simp))
      have HXS := hide (set_get hxl HX.out rfl)
      clear hst ho2 hg2 c0 c1 hxc
      unfold strV
      go_wp2
      go_roundw
      case rel => exact ⟨k + 1, _, by omega, by go_num, HS1.out, HXS.out, HS2.out, D0.out, D1.out⟩
      case measure => simp [intOf]; omega
    · have hps : k = n := by omega
      subst hps
      as_aux_lemma =>
        have hc0 : wr.cell? ⟨w.heap.size + 1, 0, none⟩ = some (strV (tx 0)) := by rw [HO.out.cellAt 0 (by omega)]; exact HX.out 0 (by omega)
        have hsz : (⟨(tx 0).toArray⟩ : ByteArray).size ≤ 100000 := by show (tx 0).toArray.size ≤ 100000; simpa using hlen
        unfold strV at hc0
        generalize hq : (⟨(tx 0).toArray⟩ : ByteArray) = q at hc0 hsz
        have HQ := hide hq
        clear hq
        go_wp2
        go_ret
        exact ⟨congrArg Ending.returned (by rw [← HQ.out]; exact star_str (tx 0)), HG.out⟩

set_option maxRecDepth 100000 in
set_option maxHeartbeats 4000000 in
theorem groupText3 (g n cap : Nat) (tx : Nat → List UInt8) (vx : Nat → Value) (w : World) (hn0 : 1 ≤ n) (hn : n ≤ 1000) (hlen : (tx 0).length ≤ 100000)
    (hcell : ∀ j, j < n → w.cell? ⟨g, j, none⟩ = some (vx j))
    (hto : ∀ j, j < n → ∀ w', w.grownBy w' none → Calls Tryz.prog 320 #[.agg #[.int .i64 3, .slice (some ⟨g, 0, none⟩) n cap], vx j] w' fun x w'' => x = .returned (strV (tx j)) ∧ w'.grownBy w'' none) :
    Calls Tryz.prog 319 #[.agg #[.int .i64 3, .slice (some ⟨g, 0, none⟩) n cap]] w fun x w' => x = .returned (strV (33 :: tx 0)) ∧ w.grownBy w' none := by
  obtain ⟨i0, hi0, hz0, hz1, hz2⟩ := info_parts Tryz.infoStr
  have HC := hide hcell
  have HTO := hide hto
  clear hcell hto
  go_enter Tryz.func319, Tryz.ntmps319
  go_wp2_with (at_make; refine wpList_make_full _ rfl _ _ 35 rfl w.heap.size 9 i0 _ 1 Tryz.underlying35 hi0 hz0 hz1 .i64 .i64 _ _ n rfl rfl rfl rfl ?m1 ?m2 ?m3 ?_)
  case m1 => rw [hz2]; omega
  case m2 => unfold maxLen; omega
  case m3 => simp
  intro w1 hown1 hg1
  have hG0 : w.grownBy w1 none := grown_trans (World.grownBy_alloc _ _ _) hg1
  have b0 : w1.cell? ⟨w.heap.size, 0, none⟩ = some (.int .i64 3) := hg1.cell (by simp) (by simp)
  have b1 : w1.cell? ⟨w.heap.size, 1, none⟩ = some (.slice (some ⟨g, 0, none⟩) n cap) := hg1.cell (by simp) (by simp)
  have B0 := hide b0
  have B1 := hide b1
  have HO1 := hide hown1
  have HG0 := hide hG0
  clear hown1 hg1 hG0
  go_wp2
  go_loopw [13] (fun i wr => ∃ (k : Nat) (xs : List Value), k ≤ n ∧ i = .int .i64 k ∧ wr.ownsRow w.heap.size 9 1 (.slice (some ⟨w.heap.size + 1, 0, none⟩) n n) n xs ∧ (∀ j, j < k → xs[j]? = some (strV (tx j))) ∧ w.grownBy wr none ∧
      wr.cell? ⟨w.heap.size, 0, none⟩ = some (.int .i64 3) ∧ wr.cell? ⟨w.heap.size, 1, none⟩ = some (.slice (some ⟨g, 0, none⟩) n cap)) (fun i _ => n - (intOf i).toNat)
  case atStart => exact ⟨0, _, Nat.zero_le _, rfl, HO1.out, fun j hj => by omega, HG0.out, B0.out, B1.out⟩
  case round =>
    obtain ⟨k, xs, hk, rfl, hown, hx, hg, c0, c1⟩ := hrel
    have HO := hide hown
    have HX := hide hx
    have HG := hide hg
    clear hown hx hg b0 b1
    by_cases hlt : k < n
    · have hxc : wr.cell? ⟨g, k, none⟩ = some (vx k) := HG.out.cell (HC.out k hlt) (by simp)
      have HT := hide (HTO.out k hlt wr HG.out)
      go_wp2_with fail
      refine HT.out.mono ?_
      rintro x w2 ⟨rfl, hg2⟩
      have c0' : w2.cell? ⟨w.heap.size, 0, none⟩ = some (.int .i64 3) := hg2.cell c0 (by simp)
      have c1' : w2.cell? ⟨w.heap.size, 1, none⟩ = some (.slice (some ⟨g, 0, none⟩) n cap) := hg2.cell c1 (by simp)
      have ho2 := HO.out.kept hg2 (.inr (by simp [Value.ownBlock]))
      have q1 : w2.frozen? ⟨w.heap.size + 1, k, none⟩ = false := ho2.frozenAt k
      have hxl : k < xs.length := by have := ho2.1; omega
      have q2 : w2.cell? ⟨w.heap.size + 1, k, none⟩ = some (xs[k]) := by rw [ho2.cellAt k (by omega)]; simp [hxl]
      have hst := ho2.stored k (strV (tx k))
      have HS1 := hide hst.1
      have HS2 : Hid (w.grownBy (w2.setCell ⟨w.heap.size + 1, k, none⟩ (strV (tx k))) none) := grown_own (grown_trans HG.out hg2) hst.2 (fun b e => by cases e; omega)
      have D0 := hide (hst.2.cell c0' (by simp))
      have D1 := hide (hst.2.cell c1' (by simp))
      have HXS := hide (set_get hxl HX.out rfl)
      clear hst ho2 hg2 c0 c1 hxc
      unfold strV
      go_wp2
      go_roundw
      case rel => exact ⟨k + 1, _, by omega, by go_num, HS1.out, HXS.out, HS2.out, D0.out, D1.out⟩
      case measure => simp [intOf]; omega
    · have hps : k = n := by omega
      subst hps
      as_aux_lemma =>
        have hc0 : wr.cell? ⟨w.heap.size + 1, 0, none⟩ = some (strV (tx 0)) := by rw [HO.out.cellAt 0 (by omega)]; exact HX.out 0 (by omega)
        have hsz : (⟨(tx 0).toArray⟩ : ByteArray).size ≤ 100000 := by show (tx 0).toArray.size ≤ 100000; simpa using hlen
        unfold strV at hc0
        generalize hq : (⟨(tx 0).toArray⟩ : ByteArray) = q at hc0 hsz
        have HQ := hide hq
        clear hq
        go_wp2
        go_ret
        exact ⟨congrArg Ending.returned (by rw [← HQ.out]; exact not_str (tx 0)), HG.out⟩
end Go.Proofs.YtlhkfafdioakeaaGreatDoor
/- Proved here: how every tree is printed by the program. -/
namespace Go.Proofs.YtlhkfafdioakeaaGreatDoor
open Go.RowKit Go.Weft
set_option linter.unusedVariables false
set_option linter.unusedSimpArgs false
def leafT (n : Nat) : List UInt8 :=
  if n = 0 then [105, 100] else if n = 1 then [100, 114, 111, 112]
  else if n % 2 = 0 then (nameB ((n - 2) / 2 / 32)).data.toList ++ [61] ++ Lib.decDigits ((n - 2) / 2 % 32)
  else (nameB ((n - 2) / 2 / 32)).data.toList ++ [58, 61] ++ Lib.decDigits ((n - 2) / 2 % 32)
def sepC (k : Nat) : List UInt8 := if k = 0 then [32, 43, 32] else [59]
/-- A tree, printed; and the kinds and prints of a chain's parts. -/
def ptP : Code → List UInt8 × List (Int × List UInt8)
  | .exit n => (leafT n, [])
  | .loop t => (brackB (decide (kindC t < 2)) (ptP t).1 ++ [42], [])
  | .scope t => (33 :: brackB (decide (kindC t < 3)) (ptP t).1, [])
  | .block k l => (Lib.join ((ptP l).2.map fun p => brackB (decide (p.1 < (k : Int))) p.2) (sepC k), [])
  | .seq a l => ([], (kindC a, (ptP a).1) :: (ptP l).2)
  | _ => ([], [])
def pt (t : Code) : List UInt8 := (ptP t).1
theorem ptP_elems (l : Code) : (ptP l).2 = (elems l).map fun t => (kindC t, pt t) := by
  induction l with
  | seq a b _ ih => simp only [ptP, elems, List.map_cons, ih, pt]
  | _ => rfl
theorem brackB_len (b : Bool) (l : List UInt8) : (brackB b l).length ≤ l.length + 2 := by unfold brackB; split <;> simp
theorem leafT_len (n : Nat) (hn : n < 2 + 2 * 192) : (leafT n).length ≤ 12 := by
  have : ∀ n, n < 386 → (leafT n).length ≤ 12 := by decide +kernel
  exact this n hn
theorem join_len (sep : List UInt8) (hs : sep.length ≤ 3) : ∀ l : List (List UInt8), (Lib.join l sep).length ≤ (l.map fun x => x.length + 3).sum
  | [] => by simp [Lib.join]
  | [x] => by simp [Lib.join_one]
  | x :: y :: r => by
    have ih := join_len sep hs (y :: r)
    rw [show Lib.join (x :: y :: r) sep = x ++ sep ++ Lib.join (y :: r) sep by simp [Lib.join, List.intercalate]]
    simp only [List.length_append, List.map_cons, List.sum_cons] at ih ⊢
    omega
theorem pt_len {ok : Nat → Prop} {w : World} : ∀ t, (∀ v, (TV ok w t).1 v → (pt t).length ≤ wt t) ∧ (∀ g i n, (TV ok w t).2 g i n → (((ptP t).2.map fun p => p.2.length + 5).sum ≤ wt t)) := by
  intro t
  induction t with
  | exit n => exact ⟨fun v h => leafT_len n h.2, fun _ _ _ h => h.elim⟩
  | loop t ih =>
    refine ⟨fun v h => ?_, fun _ _ _ h => h.elim⟩
    obtain ⟨g, cap, x, _, _, _, h4⟩ := h
    have := ih.1 x h4
    have := brackB_len (decide (kindC t < 2)) (pt t)
    simp only [pt, ptP, wt, List.length_append, List.length_cons, List.length_nil] at *
    omega
  | scope t ih =>
    refine ⟨fun v h => ?_, fun _ _ _ h => h.elim⟩
    obtain ⟨g, cap, x, _, _, _, h4⟩ := h
    have := ih.1 x h4
    have := brackB_len (decide (kindC t < 3)) (pt t)
    simp only [pt, ptP, wt, List.length_append, List.length_cons, List.length_nil] at *
    omega
  | block k l ih =>
    refine ⟨fun v h => ?_, fun _ _ _ h => h.elim⟩
    obtain ⟨g, n, cap, _, _, _, _, _, h6⟩ := h
    have h1 := ih.2 g 0 n h6
    have h2 := join_len (sepC k) (by unfold sepC; split <;> simp) ((ptP l).2.map fun p => brackB (decide (p.1 < (k : Int))) p.2)
    have h3 : ∀ q : List (Int × List UInt8), ((q.map fun p => brackB (decide (p.1 < (k : Int))) p.2).map fun x => x.length + 3).sum ≤ (q.map fun p => p.2.length + 5).sum := by
      intro q
      induction q with
      | nil => simp
      | cons a q ihq =>
        have := brackB_len (decide (a.1 < (k : Int))) a.2
        simp only [List.map_cons, List.sum_cons]
        omega
    have := h3 (ptP l).2
    simp only [pt, ptP, wt] at *
    omega
  | seq a l ih1 ih2 =>
    refine ⟨fun v h => h.elim, fun g i n h => ?_⟩
    obtain ⟨n', x, _, _, h3, h4⟩ := h
    have := ih1.1 x h3
    have := ih2.2 g (i + 1) n' h4
    simp only [pt, ptP, wt, List.map_cons, List.sum_cons] at *
    omega
  | skip => exact ⟨fun v h => h.elim, fun _ _ _ h => by simp [ptP]⟩
  | _ => exact ⟨fun v h => h.elim, fun _ _ _ h => h.elim⟩

def fnText (T : Nat) : Nat := if T = 317 then 330 else if T = 177 then 302 else if T = 178 then 317 else 319
/-- A node's own Text answers its tree's print. -/
def TxtOK (l : List UInt8) (v : Value) (w : World) : Prop :=
  ∀ T a, v = .iface T (.agg a) → Calls Tryz.prog (fnText T) #[.agg a] w fun x w' => x = .returned (strV l) ∧ w.grownBy w' none
set_option maxRecDepth 100000 in
set_option maxHeartbeats 400000 in
theorem leafText_leaf (k : Int) (w : World) (hk : k = 4 ∨ k = 5) : Calls Tryz.prog 330 #[.agg #[.int .i64 k]] w fun x w' => x = .returned (strV (if k = 5 then [100, 114, 111, 112] else [105, 100])) ∧ w.grownBy w' none := by
  rcases hk with rfl | rfl
  all_goals
    go_enter Tryz.func330, Tryz.ntmps330
    go_wp2
    go_ret
    exact ⟨rfl, World.grownBy_alloc _ _ _⟩
theorem pair_str (nb sg : ByteArray) (dd : List UInt8) : Value.string (nb ++ sg ++ ⟨dd.toArray⟩) = strV (nb.data.toList ++ sg.data.toList ++ dd) := by
  exact congrArg Value.string (ByteArray.ext (by simp [ByteArray.data_append]))
set_option maxRecDepth 100000 in
set_option maxHeartbeats 400000 in
theorem testText_any (f v : Nat) (hf : f < 6) (hv : v < 32) (w : World) (hn : Names w) : Calls Tryz.prog 302 #[.agg #[.int .i64 f, .int .i64 v]] w fun x w' => x = .returned (strV ((nameB f).data.toList ++ [61] ++ Lib.decDigits v)) ∧ w.grownBy w' none := by
  have HN := hide (fun o => textWith_any f v hf hv ⟨#[61]⟩ (by decide) (w.alloc o) (hn.other (World.grownBy_alloc w o none) (B := w.heap.size) (by simp) (World.block_lt_of_cell? w _ (hn 0 (by decide)))))
  clear hn
  go_enter Tryz.func302, Tryz.ntmps302
  go_wp2_with fail
  refine (HN.out _).mono ?_
  rintro x w1 ⟨rfl, hg⟩
  rw [pair_str]
  have G := hide (grown_trans (World.grownBy_alloc _ _ _) hg)
  clear hg
  go_wp2
  go_ret
  exact ⟨by rw [show (nameB f).data.toList ++ [61] ++ Lib.decDigits v = (nameB f).data.toList ++ 61 :: Lib.decDigits v by simp]; rfl, G.out⟩
set_option maxRecDepth 100000 in
set_option maxHeartbeats 400000 in
theorem setText_any (f v : Nat) (hf : f < 6) (hv : v < 32) (w : World) (hn : Names w) : Calls Tryz.prog 317 #[.agg #[.int .i64 f, .int .i64 v]] w fun x w' => x = .returned (strV ((nameB f).data.toList ++ [58, 61] ++ Lib.decDigits v)) ∧ w.grownBy w' none := by
  have HN := hide (fun o => textWith_any f v hf hv ⟨#[58, 61]⟩ (by decide) (w.alloc o) (hn.other (World.grownBy_alloc w o none) (B := w.heap.size) (by simp) (World.block_lt_of_cell? w _ (hn 0 (by decide)))))
  clear hn
  go_enter Tryz.func317, Tryz.ntmps317
  go_wp2_with fail
  refine (HN.out _).mono ?_
  rintro x w1 ⟨rfl, hg⟩
  rw [pair_str]
  have G := hide (grown_trans (World.grownBy_alloc _ _ _) hg)
  clear hg
  go_wp2
  go_ret
  exact ⟨by rw [show (nameB f).data.toList ++ [58, 61] ++ Lib.decDigits v = (nameB f).data.toList ++ 58 :: 61 :: Lib.decDigits v by simp]; rfl, G.out⟩
theorem leaf_ok (n : Nat) (hn : n < 2 + 2 * 192) (w : World) (hnm : Names w) : TxtOK (leafT n) (leafV n) w := by
  intro T a h
  unfold leafV at h
  unfold leafT
  by_cases h0 : n = 0
  · rw [if_pos h0] at h ⊢; cases h; exact leafText_leaf 4 w (.inl rfl)
  rw [if_neg h0] at h ⊢
  by_cases h1 : n = 1
  · rw [if_pos h1] at h ⊢; cases h; exact leafText_leaf 5 w (.inr rfl)
  rw [if_neg h1] at h ⊢
  by_cases h2 : n % 2 = 0
  · rw [if_pos h2] at h ⊢; cases h; exact testText_any _ _ (by omega) (by omega) w hnm
  · rw [if_neg h2] at h ⊢; cases h; exact setText_any _ _ (by omega) (by omega) w hnm
/-- A part within a group of kind k. -/
theorem part_ok' (k : Int) (g n cap : Nat) {ok : Nat → Prop} {t : Code} {v : Value} {w : World} (h : (TV ok w t).1 v) (hl : (pt t).length ≤ 100000) (hT : ∀ w', w.grownBy w' none → TxtOK (pt t) v w') :
    Calls Tryz.prog 320 #[.agg #[.int .i64 k, .slice (some ⟨g, 0, none⟩) n cap], v] w fun x w' => x = .returned (strV (brackB (decide (kindC t < k)) (pt t))) ∧ w.grownBy w' none := by
  have yes : kindC t < k → decide (kindC t < k) = true := fun h => by simp [h]
  have no : ¬ kindC t < k → decide (kindC t < k) = false := fun h => by simp [h]
  have leafCase : ∀ m, t = .exit m → v = leafV m → Calls Tryz.prog 320 #[.agg #[.int .i64 k, .slice (some ⟨g, 0, none⟩) n cap], v] w fun x w' => x = .returned (strV (brackB (decide (kindC t < k)) (pt t))) ∧ w.grownBy w' none := by
    intro m e1 e2
    subst e1
    have hv := e2
    unfold leafV at hv
    have hkd : kindC (.exit m) = if m = 0 then 4 else if m = 1 then 5 else if m % 2 = 0 then 6 else 7 := rfl
    by_cases h0 : m = 0
    · rw [if_pos h0] at hv hkd
      subst hv
      by_cases hb : kindC (.exit m) < k
      · rw [yes hb]; rw [hkd] at hb; exact textOfLeaf_yes _ 4 k _ g n cap w hb hl (fun w => kindLeaf_any 4 w) (fun w' hg => hT w' hg _ _ rfl)
      · rw [no hb]; rw [hkd] at hb; exact textOfLeaf_no _ 4 k _ g n cap w (by omega) hl (fun w => kindLeaf_any 4 w) (fun w' hg => hT w' hg _ _ rfl)
    rw [if_neg h0] at hv hkd
    by_cases h1 : m = 1
    · rw [if_pos h1] at hv hkd
      subst hv
      by_cases hb : kindC (.exit m) < k
      · rw [yes hb]; rw [hkd] at hb; exact textOfLeaf_yes _ 5 k _ g n cap w hb hl (fun w => kindLeaf_any 5 w) (fun w' hg => hT w' hg _ _ rfl)
      · rw [no hb]; rw [hkd] at hb; exact textOfLeaf_no _ 5 k _ g n cap w (by omega) hl (fun w => kindLeaf_any 5 w) (fun w' hg => hT w' hg _ _ rfl)
    rw [if_neg h1] at hv hkd
    by_cases h2 : m % 2 = 0
    · rw [if_pos h2] at hv hkd
      subst hv
      by_cases hb : kindC (.exit m) < k
      · rw [yes hb]; rw [hkd] at hb; exact textOfTest_yes _ 6 k _ g n cap w hb hl (fun w => kindTest_any _ _ w) (fun w' hg => hT w' hg _ _ rfl)
      · rw [no hb]; rw [hkd] at hb; exact textOfTest_no _ 6 k _ g n cap w (by omega) hl (fun w => kindTest_any _ _ w) (fun w' hg => hT w' hg _ _ rfl)
    · rw [if_neg h2] at hv hkd
      subst hv
      by_cases hb : kindC (.exit m) < k
      · rw [yes hb]; rw [hkd] at hb; exact textOfSetting_yes _ 7 k _ g n cap w hb hl (fun w => kindSet_any _ _ w) (fun w' hg => hT w' hg _ _ rfl)
      · rw [no hb]; rw [hkd] at hb; exact textOfSetting_no _ 7 k _ g n cap w (by omega) hl (fun w => kindSet_any _ _ w) (fun w' hg => hT w' hg _ _ rfl)
  have groupCase : ∀ (kk : Int) g' n' cap', kindC t = kk → v = groupV kk g' n' cap' → Calls Tryz.prog 320 #[.agg #[.int .i64 k, .slice (some ⟨g, 0, none⟩) n cap], v] w fun x w' => x = .returned (strV (brackB (decide (kindC t < k)) (pt t))) ∧ w.grownBy w' none := by
    intro kk g' n' cap' e1 e2
    subst e2
    by_cases hb : kindC t < k
    · rw [yes hb]; exact textOfGroup_yes _ kk k _ g n cap w (by omega) hl (fun w => kindGroup_any kk undef g' n' cap' w) (fun w' hg => hT w' hg _ _ rfl)
    · rw [no hb]; exact textOfGroup_no _ kk k _ g n cap w (by omega) hl (fun w => kindGroup_any kk undef g' n' cap' w) (fun w' hg => hT w' hg _ _ rfl)
  cases t with
  | exit m => exact leafCase m rfl h.1
  | loop t => obtain ⟨g', cap', x, h1, _⟩ := h; exact groupCase 2 g' 1 cap' rfl h1
  | scope t => obtain ⟨g', cap', x, h1, _⟩ := h; exact groupCase 3 g' 1 cap' rfl h1
  | block k' l => obtain ⟨g', n', cap', h1, _⟩ := h; exact groupCase k' g' n' cap' rfl h1
  | _ => exact h.elim
end Go.Proofs.YtlhkfafdioakeaaGreatDoor
/- Proved here: every tree's own Text answers its print. -/
namespace Go.Proofs.YtlhkfafdioakeaaGreatDoor
open Go.RowKit Go.Weft
set_option linter.unusedVariables false
set_option linter.unusedSimpArgs false
theorem fnText_group : fnText 234 = 319 := rfl
theorem one_ok (ok : Nat → Prop) (kk : Int) (t : Code) (g cap : Nat) (x : Value) (w : World) (hx : (TV ok w t).1 x) (hc : w.cell? ⟨g, 0, none⟩ = some x) (hw : wt t ≤ 99000)
    (ih : ∀ w', w.grownBy w' none → TxtOK (pt t) x w') : ∀ j, j < 1 → ∀ w', w.grownBy w' none → Calls Tryz.prog 320 #[.agg #[.int .i64 kk, .slice (some ⟨g, 0, none⟩) 1 cap], (fun _ => x) j] w' fun y w'' => y = .returned (strV ((fun _ => brackB (decide (kindC t < kk)) (pt t)) j)) ∧ w'.grownBy w'' none := by
  intro j hj w' hg
  exact part_ok' kk g 1 cap (TV_kept hx hg) (Nat.le_trans ((pt_len t).1 x hx) (by omega)) (fun w'' hg' => ih w'' (grown_trans hg hg'))
theorem txs_map (l : List Code) (f : Code → List UInt8) : txs l.length (fun j => f (l.getD j .skip)) = l.map f := by
  apply List.ext_getElem
  · simp [txs]
  · intro i h1 h2
    simp [txs] at h1 h2 ⊢
    simp [List.getD, h2]
theorem text_any (ok : Nat → Prop) : ∀ (n : Nat) (t : Code) (v : Value) (w : World), szC t ≤ n → (TV ok w t).1 v → Names w → wt t ≤ 90000 → TxtOK (pt t) v w := by
  intro n
  induction n with
  | zero =>
    intro t v w hn h hnm hw
    cases t with
    | exit m => obtain ⟨rfl, hm⟩ := h; exact leaf_ok m hm w hnm
    | loop t => simp [szC] at hn
    | scope t => simp [szC] at hn
    | block k l => simp [szC] at hn
    | _ => exact h.elim
  | succ n ih =>
    intro t v w hn h hnm hw
    cases t with
    | exit m => obtain ⟨rfl, hm⟩ := h; exact leaf_ok m hm w hnm
    | loop t =>
      obtain ⟨g, cap, x, rfl, _, hc, hx⟩ := h
      simp only [wt] at hw
      simp only [szC] at hn
      intro T a e
      cases e
      exact groupText2 g 1 cap (fun _ => brackB (decide (kindC t < 2)) (pt t)) (fun _ => x) w (by decide) (by decide) (Nat.le_trans (brackB_len _ _) (by have := (pt_len t).1 x hx; omega)) (fun j hj => by rw [show j = 0 by omega]; exact hc)
        (one_ok ok 2 t g cap x w hx hc (by omega) (fun w' hg => ih t x w' (by omega) (TV_kept hx hg) (hnm.kept hg) (by omega)))
    | scope t =>
      obtain ⟨g, cap, x, rfl, _, hc, hx⟩ := h
      simp only [wt] at hw
      simp only [szC] at hn
      intro T a e
      cases e
      exact groupText3 g 1 cap (fun _ => brackB (decide (kindC t < 3)) (pt t)) (fun _ => x) w (by decide) (by decide) (Nat.le_trans (brackB_len _ _) (by have := (pt_len t).1 x hx; omega)) (fun j hj => by rw [show j = 0 by omega]; exact hc)
        (one_ok ok 3 t g cap x w hx hc (by omega) (fun w' hg => ih t x w' (by omega) (TV_kept hx hg) (hnm.kept hg) (by omega)))
    | block k l =>
      have hTV := h
      obtain ⟨g, m, cap, rfl, hk, _, hm, hm2, hl⟩ := h
      obtain ⟨hlen, hel⟩ := TV_elems hl
      simp only [szC] at hn
      have hpl : (pt (.block k l)).length ≤ 90000 := Nat.le_trans ((pt_len (.block k l)).1 _ hTV) hw
      simp only [wt] at hw
      intro T a e
      cases e
      have hjoin : Lib.join (txs m (fun j => brackB (decide (kindC ((elems l).getD j .skip) < (k : Int))) (pt ((elems l).getD j .skip)))) (sepC k) = pt (.block k l) := by
        rw [← hlen, txs_map (elems l) (fun t => brackB (decide (kindC t < (k : Int))) (pt t))]
        simp only [pt, ptP, ptP_elems, List.map_map]
        rfl
      have hcell : ∀ j, j < m → w.cell? ⟨g, j, none⟩ = some ((fun j => (w.cell? ⟨g, j, none⟩).getD undef) j) := by
        intro j hj
        obtain ⟨x, hx, _⟩ := hel j (by omega)
        rw [Nat.zero_add] at hx
        simp only [hx]
        rfl
      have hto : ∀ j, j < m → ∀ w', w.grownBy w' none → Calls Tryz.prog 320 #[.agg #[.int .i64 (k : Int), .slice (some ⟨g, 0, none⟩) m cap], (fun j => (w.cell? ⟨g, j, none⟩).getD undef) j] w' fun y w'' => y = .returned (strV ((fun j => brackB (decide (kindC ((elems l).getD j .skip) < (k : Int))) (pt ((elems l).getD j .skip))) j)) ∧ w'.grownBy w'' none := by
        intro j hj w' hg
        obtain ⟨x, hx, hxt⟩ := hel j (by omega)
        rw [Nat.zero_add] at hx
        have e1 : (elems l).getD j .skip = (elems l)[j]'(by omega) := by simp [List.getD, show j < (elems l).length by omega]
        simp only [hx, e1, Option.getD_some]
        have hme : (elems l)[j]'(by omega) ∈ elems l := List.getElem_mem _
        have hwe := wt_elems hme
        have hse := szC_elems hme
        exact part_ok' k g m cap (TV_kept hxt hg) (Nat.le_trans ((pt_len _).1 x hxt) (by omega)) (fun w'' hg' => ih _ x w'' (by omega) (TV_kept hxt (grown_trans hg hg')) (hnm.kept (grown_trans hg hg')) (by omega))
      rcases (show k = 0 ∨ k = 1 by omega) with rfl | rfl
      · have := groupText0 g m cap _ _ w (by omega) hm (by rw [show ([32, 43, 32] : List UInt8) = sepC 0 from rfl, hjoin]; omega) hcell hto
        rw [show ([32, 43, 32] : List UInt8) = sepC 0 from rfl, hjoin] at this
        exact this
      · have := groupText1 g m cap _ _ w (by omega) hm (by rw [show ([59] : List UInt8) = sepC 1 from rfl, hjoin]; omega) hcell hto
        rw [show ([59] : List UInt8) = sepC 1 from rfl, hjoin] at this
        exact this
    | _ => exact h.elim
end Go.Proofs.YtlhkfafdioakeaaGreatDoor
/- Proved here: what weft.Print answers for every text. -/
namespace Go.Proofs.YtlhkfafdioakeaaGreatDoor
open Go.RowKit Go.Weft
set_option linter.unusedVariables false
set_option linter.unusedSimpArgs false
theorem TV_shape {ok : Nat → Prop} {w : World} {t : Code} {v : Value} (h : (TV ok w t).1 v) : ∃ T a, v = .iface T (.agg a) ∧ (T = 317 ∨ T = 177 ∨ T = 178 ∨ T = 234) := by
  cases t with
  | exit n =>
    obtain ⟨rfl, _⟩ := h
    unfold leafV
    split
    · exact ⟨_, _, rfl, .inl rfl⟩
    · split
      · exact ⟨_, _, rfl, .inl rfl⟩
      · split
        · exact ⟨_, _, rfl, .inr (.inl rfl)⟩
        · exact ⟨_, _, rfl, .inr (.inr (.inl rfl))⟩
  | loop t => obtain ⟨g, cap, x, h1, _⟩ := h; exact ⟨_, _, h1, .inr (.inr (.inr rfl))⟩
  | scope t => obtain ⟨g, cap, x, h1, _⟩ := h; exact ⟨_, _, h1, .inr (.inr (.inr rfl))⟩
  | block k l => obtain ⟨g, n, cap, h1, _⟩ := h; exact ⟨_, _, h1, .inr (.inr (.inr rfl))⟩
  | _ => exact h.elim
/-- What Print answers. -/
def printR (s : ByteArray) : List UInt8 × Int × Nat := match readS s with
  | .ok t => (pt t, 0, 0)
  | .error (en, pl) => ([], en, pl)
set_option maxRecDepth 100000 in
set_option maxHeartbeats 400000 in
theorem print_err (s : ByteArray) (w : World) (hn : Names w) (hs : s.size ≤ 9223372036854775807) (en : Int) (pl : Nat) (hr : readS s = .error (en, pl)) :
    Calls Tryz.prog 11 #[.string s] w fun x w' => x = .returned (.tuple #[strV [], .int .i64 en, .int .i64 pl]) ∧ w.grownBy w' none := by
  have hne := read_errno hr
  have H := policy_any s w hn hs
  rw [hr] at H
  have HH := hide H
  clear H hr hn
  go_enter Tryz.func11, Tryz.ntmps11
  go_wp2_with fail
  refine HH.out.mono ?_
  rintro x w1 ⟨hg, rfl⟩
  have G := hide hg
  clear hg
  go_wp2
  go_ret3
  exact ⟨rfl, G.out⟩
set_option maxRecDepth 100000 in
set_option maxHeartbeats 1000000 in
theorem print_ok (s : ByteArray) (w : World) (hn : Names w) (hs : s.size ≤ 9223372036854775807) (t : Code) (hr : readS s = .ok t) :
    Calls Tryz.prog 11 #[.string s] w fun x w' => x = .returned (.tuple #[strV (pt t), .int .i64 0, .int .i64 0]) ∧ w.grownBy w' none := by
  have hw := readS_wt hr
  have H := policy_any s w hn hs
  rw [hr] at H
  have HH := hide H
  have HN := hide hn
  clear H hr hn
  go_enter Tryz.func11, Tryz.ntmps11
  go_wp2_with fail
  refine HH.out.mono ?_
  rintro x w1 ⟨hg, v, rfl, ht⟩
  have hT := text_any _ (szC t) t v w1 (Nat.le_refl _) ht (HN.out.kept hg) hw
  have G := hide hg
  obtain ⟨T, a, hv, hT4⟩ := TV_shape ht
  subst hv
  have HT := hide (hT T a rfl)
  clear hg ht hT
  rcases hT4 with rfl | rfl | rfl | rfl
  all_goals
    go_wp2_with fail
    refine HT.out.mono ?_
    rintro x w2 ⟨rfl, hg2⟩
    have G2 := hide (grown_trans G.out hg2)
    clear hg2
    go_wp2
    go_ret3
    exact ⟨rfl, G2.out⟩
end Go.Proofs.YtlhkfafdioakeaaGreatDoor
