/- Pk01: several parts, each with what it proves in plain words at its head. -/
import Derived.Test.YtlhkfafdioakeaaGreatDoorKitA
import Derived.ChangeKeysEq
import Derived.Deep.DeepCutAuto
import Derived.Sort.Grow
import Derived.Lib.SliceRun
import Derived.Laws.OwnMore
/- Proved here: plain mathematics of packets: their order, sets of them in order, and that a sorted list without its repetitions is the set. -/
namespace Go.Proofs.YtlhkfafdioakeaaGreatDoor
set_option linter.unusedVariables false
set_option linter.unusedSimpArgs false
/-- Which of two numbers is the less. -/
def cmpI (x y : Int) : Int := if x < y then -1 else if y < x then 1 else 0
theorem cmpI_zero (x y : Int) : cmpI x y = 0 ↔ x = y := by
  unfold cmpI; split
  · omega
  · split <;> omega
theorem cmpI_neg (x y : Int) : cmpI x y < 0 ↔ x < y := by
  unfold cmpI; split
  · omega
  · split <;> omega
/-- The comparison of two packets, from a field on, over so many fields. -/
def cmpN (x y : Nat → Int) : Nat → Nat → Int
  | _, 0 => 0
  | i, n + 1 => if x i = y i then cmpN x y (i + 1) n else cmpI (x i) (y i)
def cmpP (x y : Nat → Int) : Int := cmpN x y 0 6
theorem cmpN_zero (x y : Nat → Int) : ∀ n i, cmpN x y i n = 0 ↔ ∀ t, i ≤ t → t < i + n → x t = y t
  | 0, i => by simp [cmpN]; intro t h1 h2; omega
  | n + 1, i => by
    unfold cmpN
    split
    · rename_i h
      rw [cmpN_zero x y n (i + 1)]
      constructor
      · intro g t h1 h2
        by_cases e : t = i
        · rw [e]; exact h
        · exact g t (by omega) (by omega)
      · intro g t h1 h2
        exact g t (by omega) (by omega)
    · rename_i h
      constructor
      · intro g
        exact absurd ((cmpI_zero _ _).1 g) h
      · intro g
        exact absurd (g i (by omega) (by omega)) h
theorem cmpN_neg (x y : Nat → Int) : ∀ n i, cmpN x y i n < 0 ↔ ∃ j, i ≤ j ∧ j < i + n ∧ (∀ t, i ≤ t → t < j → x t = y t) ∧ x j < y j
  | 0, i => by
    simp [cmpN]
    intro j h1 h2
    omega
  | n + 1, i => by
    unfold cmpN
    split
    · rename_i h
      rw [cmpN_neg x y n (i + 1)]
      constructor
      · rintro ⟨j, h1, h2, h3, h4⟩
        refine ⟨j, by omega, by omega, fun t ht1 ht2 => ?_, h4⟩
        by_cases e : t = i
        · rw [e]; exact h
        · exact h3 t (by omega) ht2
      · rintro ⟨j, h1, h2, h3, h4⟩
        have hj : j ≠ i := fun e => by rw [e] at h4; omega
        exact ⟨j, by omega, by omega, fun t ht1 ht2 => h3 t (by omega) ht2, h4⟩
    · rename_i h
      rw [cmpI_neg]
      constructor
      · intro g
        exact ⟨i, by omega, by omega, fun t h1 h2 => by omega, g⟩
      · rintro ⟨j, h1, h2, h3, h4⟩
        by_cases e : j = i
        · rw [← e]; exact h4
        · exact absurd (h3 i (by omega) (by omega)) h
/-- A packet comes ahead of another one. -/
def ltP (x y : Nat → Int) : Prop := ∃ j, j < 6 ∧ (∀ t, t < j → x t = y t) ∧ x j < y j
theorem cmpP_neg (x y : Nat → Int) : cmpP x y < 0 ↔ ltP x y := by
  unfold cmpP ltP
  rw [cmpN_neg]
  constructor
  · rintro ⟨j, _, h2, h3, h4⟩
    exact ⟨j, by omega, fun t ht => h3 t (by omega) ht, h4⟩
  · rintro ⟨j, h2, h3, h4⟩
    exact ⟨j, by omega, by omega, fun t _ ht => h3 t ht, h4⟩
theorem cmpP_zero (x y : Nat → Int) : cmpP x y = 0 ↔ ∀ t, t < 6 → x t = y t := by
  unfold cmpP
  rw [cmpN_zero]
  exact ⟨fun h t ht => h t (by omega) (by omega), fun h t _ ht => h t (by omega)⟩
theorem ltP.irrefl (x : Nat → Int) : ¬ ltP x x := by
  rintro ⟨j, _, _, h⟩
  omega
theorem ltP.trans {x y z : Nat → Int} (h : ltP x y) (g : ltP y z) : ltP x z := by
  obtain ⟨j, h1, h2, h3⟩ := h
  obtain ⟨k, g1, g2, g3⟩ := g
  rcases Nat.lt_trichotomy j k with e | e | e
  · exact ⟨j, h1, fun t ht => (h2 t ht).trans (g2 t (by omega)), by rw [← g2 j e]; exact h3⟩
  · subst e
    exact ⟨j, h1, fun t ht => (h2 t ht).trans (g2 t ht), by omega⟩
  · exact ⟨k, g1, fun t ht => (h2 t (by omega)).trans (g2 t ht), by rw [h2 k e]; exact g3⟩
theorem first_diff (x y : Nat → Int) : ∀ n, (∀ t, t < n → x t = y t) ∨ ∃ j, j < n ∧ (∀ t, t < j → x t = y t) ∧ x j ≠ y j
  | 0 => .inl (fun t h => by omega)
  | n + 1 => by
    rcases first_diff x y n with h | ⟨j, h1, h2, h3⟩
    · by_cases e : x n = y n
      · exact .inl (fun t ht => by
          by_cases e2 : t = n
          · rw [e2]; exact e
          · exact h t (by omega))
      · exact .inr ⟨n, by omega, h, e⟩
    · exact .inr ⟨j, by omega, h2, h3⟩
theorem ltP.total (x y : Nat → Int) : ltP x y ∨ ltP y x ∨ ∀ t, t < 6 → x t = y t := by
  rcases first_diff x y 6 with h | ⟨j, h1, h2, h3⟩
  · exact .inr (.inr h)
  · rcases Int.lt_or_lt_of_ne h3 with g | g
    · exact .inl ⟨j, h1, h2, g⟩
    · exact .inr (.inl ⟨j, h1, fun t ht => (h2 t ht).symm, g⟩)
theorem ltP.cong {x y z : Nat → Int} (h : ltP x y) (g : ∀ t, t < 6 → y t = z t) : ltP x z := by
  obtain ⟨j, h1, h2, h3⟩ := h
  exact ⟨j, h1, fun t ht => (h2 t ht).trans (g t (by omega)), by rw [← g j h1]; exact h3⟩
theorem ltP.congL {x y z : Nat → Int} (h : ltP x y) (g : ∀ t, t < 6 → x t = z t) : ltP z y := by
  obtain ⟨j, h1, h2, h3⟩ := h
  exact ⟨j, h1, fun t ht => (g t (by omega)).symm.trans (h2 t ht), by rw [← g j h1]; exact h3⟩
theorem ltP.ntrans {x y z : Nat → Int} (h : ¬ ltP x y) (g : ¬ ltP y z) : ¬ ltP x z := by
  intro k
  rcases ltP.total y x with h1 | h1 | h1
  · exact g (h1.trans k)
  · exact h h1
  · exact g (k.congL (fun t ht => (h1 t ht).symm))
/-- A packet has six fields and no more. -/
def Nm (x : Nat → Int) : Prop := ∀ i, 6 ≤ i → x i = 0
theorem Nm.ext {x y : Nat → Int} (h : Nm x) (g : Nm y) (e : ∀ t, t < 6 → x t = y t) : x = y := by
  funext i
  by_cases c : i < 6
  · exact e i c
  · rw [h i (by omega), g i (by omega)]
/-- A set with a packet more. -/
def insS (k : Nat → Int) : List (Nat → Int) → List (Nat → Int)
  | [] => [k]
  | x :: r => if cmpP x k < 0 then x :: insS k r else if cmpP x k = 0 then x :: r else k :: x :: r
/-- The set of a list. -/
def setS (l : List (Nat → Int)) : List (Nat → Int) := l.foldl (fun s k => insS k s) []
/-- In order, each once. -/
def Srt (l : List (Nat → Int)) : Prop := l.Pairwise ltP
theorem insS_mem {k : Nat → Int} (hk : Nm k) : ∀ {l : List (Nat → Int)}, (∀ x ∈ l, Nm x) → ∀ x, x ∈ insS k l ↔ x = k ∨ x ∈ l
  | [], _, x => by simp [insS]
  | y :: r, hn, x => by
    unfold insS
    split
    · rw [List.mem_cons, insS_mem hk (fun z hz => hn z (List.mem_cons_of_mem _ hz)), List.mem_cons]
      constructor
      · rintro (h | h | h)
        · exact .inr (.inl h)
        · exact .inl h
        · exact .inr (.inr h)
      · rintro (h | h | h)
        · exact .inr (.inl h)
        · exact .inl h
        · exact .inr (.inr h)
    · split
      · rename_i _ h0
        have e : y = k := (hn y (by simp)).ext hk ((cmpP_zero _ _).1 h0)
        simp [e]
      · simp
theorem insS_srt {k : Nat → Int} (hk : Nm k) : ∀ {l : List (Nat → Int)}, (∀ x ∈ l, Nm x) → Srt l → Srt (insS k l)
  | [], _, _ => by simp [insS, Srt]
  | y :: r, hn, hs => by
    unfold Srt at hs ⊢
    rw [List.pairwise_cons] at hs
    unfold insS
    split
    · rename_i h
      rw [List.pairwise_cons]
      refine ⟨fun z hz => ?_, insS_srt hk (fun z hz => hn z (List.mem_cons_of_mem _ hz)) hs.2⟩
      rcases (insS_mem hk (fun z hz => hn z (List.mem_cons_of_mem _ hz)) z).1 hz with e | e
      · rw [e]; exact (cmpP_neg _ _).1 h
      · exact hs.1 z e
    · split
      · rw [List.pairwise_cons]; exact hs
      · rename_i h1 h2
        have hlt : ltP k y := by
          rcases ltP.total y k with h | h | h
          · exact absurd ((cmpP_neg _ _).2 h) h1
          · exact h
          · exact absurd ((cmpP_zero _ _).2 h) h2
        rw [List.pairwise_cons, List.pairwise_cons]
        exact ⟨fun z hz => by
          rcases List.mem_cons.1 hz with e | e
          · rw [e]; exact hlt
          · exact hlt.trans (hs.1 z e), hs⟩
theorem foldS {l : List (Nat → Int)} : ∀ {s : List (Nat → Int)}, (∀ x ∈ l, Nm x) → (∀ x ∈ s, Nm x) → Srt s → Srt (l.foldl (fun s k => insS k s) s) ∧ ∀ x, x ∈ l.foldl (fun s k => insS k s) s ↔ x ∈ l ∨ x ∈ s := by
  induction l with
  | nil => intro s _ _ hs; exact ⟨hs, fun x => by simp⟩
  | cons k l ih =>
    intro s hl hn hs
    have hk := hl k (by simp)
    have hm := insS_mem hk hn
    obtain ⟨h1, h2⟩ := ih (s := insS k s) (fun x hx => hl x (List.mem_cons_of_mem _ hx)) (fun x hx => by
      rcases (hm x).1 hx with e | e
      · rw [e]; exact hk
      · exact hn x e) (insS_srt hk hn hs)
    refine ⟨h1, fun x => ?_⟩
    rw [List.foldl_cons, h2, hm, List.mem_cons]
    constructor
    · rintro (h | h | h)
      · exact .inl (.inr h)
      · exact .inl (.inl h)
      · exact .inr h
    · rintro ((h | h) | h)
      · exact .inr (.inl h)
      · exact .inl h
      · exact .inr (.inr h)
theorem setS_srt {l : List (Nat → Int)} (hl : ∀ x ∈ l, Nm x) : Srt (setS l) := (foldS (s := []) hl (fun x hx => by simp at hx) (by simp [Srt])).1
theorem setS_mem {l : List (Nat → Int)} (hl : ∀ x ∈ l, Nm x) (x : Nat → Int) : x ∈ setS l ↔ x ∈ l := by
  have := (foldS (s := []) hl (fun x hx => by simp at hx) (by simp [Srt])).2 x
  unfold setS
  rw [this]
  simp
theorem srt_one : ∀ {l m : List (Nat → Int)}, Srt l → Srt m → (∀ x, x ∈ l ↔ x ∈ m) → l = m
  | [], [], _, _, _ => rfl
  | [], y :: m, _, _, h => by have := (h y).2 (by simp); simp at this
  | x :: l, [], _, _, h => by have := (h x).1 (by simp); simp at this
  | x :: l, y :: m, hl, hm, h => by
    unfold Srt at hl hm
    rw [List.pairwise_cons] at hl hm
    have e : x = y := by
      rcases List.mem_cons.1 ((h x).1 (by simp)) with a | a
      · exact a
      · rcases List.mem_cons.1 ((h y).2 (by simp)) with b | b
        · exact b.symm
        · exact absurd ((hm.1 x a).trans (hl.1 y b)) (ltP.irrefl _)
    subst e
    have hx1 : x ∉ l := fun g => ltP.irrefl _ (hl.1 x g)
    have hx2 : x ∉ m := fun g => ltP.irrefl _ (hm.1 x g)
    rw [srt_one (l := l) (m := m) hl.2 hm.2 (fun z => by
      constructor
      · intro g
        rcases List.mem_cons.1 ((h z).1 (List.mem_cons_of_mem _ g)) with a | a
        · rw [a] at g; exact absurd g hx1
        · exact a
      · intro g
        rcases List.mem_cons.1 ((h z).2 (List.mem_cons_of_mem _ g)) with a | a
        · rw [a] at g; exact absurd g hx2
        · exact a)]
/-- The first so many of a row, without those that stand behind one that is the same. -/
def compN (d : Nat → Nat → Int) : Nat → List (Nat → Int)
  | 0 => []
  | n + 1 => if n ≠ 0 ∧ cmpP (d n) (d (n - 1)) = 0 then compN d n else compN d n ++ [d n]
theorem compN_mem {d : Nat → Nat → Int} : ∀ {n : Nat}, (∀ j, j < n → Nm (d j)) → ∀ x, x ∈ compN d n ↔ ∃ j, j < n ∧ x = d j
  | 0, _, x => by simp [compN]
  | n + 1, hn, x => by
    have ih := compN_mem (d := d) (n := n) (fun j hj => hn j (by omega)) x
    unfold compN
    split
    · rename_i h
      rw [ih]
      constructor
      · rintro ⟨j, h1, h2⟩
        exact ⟨j, by omega, h2⟩
      · rintro ⟨j, h1, h2⟩
        by_cases e : j = n
        · refine ⟨n - 1, by omega, ?_⟩
          rw [h2, e]
          exact (hn n (by omega)).ext (hn (n - 1) (by omega)) ((cmpP_zero _ _).1 h.2)
        · exact ⟨j, by omega, h2⟩
    · rw [List.mem_append, ih]
      simp only [List.mem_singleton]
      constructor
      · rintro (⟨j, h1, h2⟩ | h)
        · exact ⟨j, by omega, h2⟩
        · exact ⟨n, by omega, h⟩
      · rintro ⟨j, h1, h2⟩
        by_cases e : j = n
        · rw [e] at h2; exact .inr h2
        · exact .inl ⟨j, by omega, h2⟩
theorem compN_srt {d : Nat → Nat → Int} : ∀ {n : Nat}, (∀ j, j < n → Nm (d j)) → (∀ i j, i < j → j < n → ¬ ltP (d j) (d i)) → Srt (compN d n)
  | 0, _, _ => by simp [compN, Srt]
  | n + 1, hn, hs => by
    have ih := compN_srt (d := d) (n := n) (fun j hj => hn j (by omega)) (fun i j h1 h2 => hs i j h1 (by omega))
    unfold compN
    split
    · exact ih
    · rename_i h
      unfold Srt at ih ⊢
      rw [List.pairwise_append]
      refine ⟨ih, by simp, fun x hx y hy => ?_⟩
      simp only [List.mem_singleton] at hy
      subst hy
      obtain ⟨j, hj, rfl⟩ := (compN_mem (d := d) (n := n) (fun j hj => hn j (by omega)) x).1 hx
      have h1 : ltP (d (n - 1)) (d n) := by
        rcases ltP.total (d (n - 1)) (d n) with g | g | g
        · exact g
        · exact absurd g (hs (n - 1) n (by omega) (by omega))
        · exact absurd ⟨by omega, (cmpP_zero _ _).2 (fun t ht => (g t ht).symm)⟩ h
      by_cases e : j = n - 1
      · rw [e]; exact h1
      · have h2 := hs j (n - 1) (by omega) (by omega)
        rcases ltP.total (d j) (d (n - 1)) with g | g | g
        · exact g.trans h1
        · exact absurd g h2
        · exact h1.congL (fun t ht => (g t ht).symm)
theorem compN_len (d : Nat → Nat → Int) : ∀ n, (compN d n).length ≤ n
  | 0 => by simp [compN]
  | n + 1 => by
    have := compN_len d n
    unfold compN
    split
    · omega
    · simp; omega
/-- What a sorted row comes to without its repetitions. -/
theorem compN_set {d : Nat → Nat → Int} {n : Nat} {l : List (Nat → Int)} (hn : ∀ j, j < n → Nm (d j)) (hs : ∀ i j, i < j → j < n → ¬ ltP (d j) (d i)) (hl : ∀ x ∈ l, Nm x) (hm : ∀ x, x ∈ l ↔ ∃ j, j < n ∧ x = d j) : compN d n = setS l :=
  srt_one (compN_srt hn hs) (setS_srt hl) (fun x => by rw [compN_mem hn, setS_mem hl, hm])
end Go.Proofs.YtlhkfafdioakeaaGreatDoor
/- Proved here: which packets, matches and actions the program takes for right. -/
namespace Go.Proofs.YtlhkfafdioakeaaGreatDoor
open Go.RowKit
set_option linter.unusedVariables false
set_option linter.unusedSimpArgs false
/-- A packet's cells: its six fields. -/
def pkA (k : Nat → Int) : Array Value := #[.int .i64 (k 0), .int .i64 (k 1), .int .i64 (k 2), .int .i64 (k 3), .int .i64 (k 4), .int .i64 (k 5)]
def pkV (k : Nat → Int) : Value := .agg (pkA k)
def okF (v : Int) : Prop := 0 ≤ v ∧ v ≤ 31
def okP (v : Int) : Prop := -1 ≤ v ∧ v ≤ 31
def rightS (k : Nat → Int) : Prop := ∀ i, i < 6 → okF (k i)
def openS (k : Nat → Int) : Prop := k 0 = -1 ∧ ∀ i, i < 6 → okP (k i)
/-- What a call that answers whether something holds comes to. -/
def Says (p : Prop) (w : World) (e : Ending) (w' : World) : Prop := (∃ b : Bool, e = .returned (.bool b) ∧ (b = true ↔ p)) ∧ w.grownBy w' none
/-- A block that holds a packet. -/
def pkBlk (w : World) (b : Nat) (k : Nat → Int) : Prop := w.heap[b]? = some (.cells (pkA k) 46 (0, 0))
theorem pkA_get (k : Nat → Int) (i : Nat) (h : i < 6) : (pkA k)[i]? = some (.int .i64 (k i)) := by
  rcases (show i = 0 ∨ i = 1 ∨ i = 2 ∨ i = 3 ∨ i = 4 ∨ i = 5 by omega) with rfl | rfl | rfl | rfl | rfl | rfl <;> rfl
theorem pkBlk.cell {w : World} {b : Nat} {k : Nat → Int} (h : pkBlk w b k) (i : Nat) (hi : i < 6) : w.cell? ⟨b, i, none⟩ = some (.int .i64 (k i)) := by
  unfold pkBlk at h
  have := pkA_get k i hi
  simp only [World.cell?, h]
  simpa using this
theorem pkBlk.frozen {w : World} {b : Nat} {k : Nat → Int} (h : pkBlk w b k) (i : Nat) : w.frozen? ⟨b, i, none⟩ = false := by
  unfold pkBlk at h
  simp [World.frozen?, h]
theorem pkBlk.grown {w w' : World} {b : Nat} {k : Nat → Int} {row : Option Nat} (h : pkBlk w b k) (hg : w.grownBy w' row) (hr : row ≠ some b) : pkBlk w' b k := by
  unfold pkBlk at *
  rw [hg.block b (Array.getElem?_eq_some_iff.1 h).1 hr.symm, h]
theorem pkBlk.alloc (w : World) (k : Nat → Int) : pkBlk (w.alloc (.cells (pkA k) 46)) w.heap.size k := by
  unfold pkBlk
  exact heap_alloc_new w _
theorem pkBlk.set {w : World} {b : Nat} {k : Nat → Int} (h : pkBlk w b k) (i : Nat) (hi : i < 6) (x : Int) : pkBlk (w.setCell ⟨b, i, none⟩ (.int .i64 x)) b (fun j => if j = i then x else k j) := by
  unfold pkBlk at *
  rw [heap_set h]
  congr 2
  rcases (show i = 0 ∨ i = 1 ∨ i = 2 ∨ i = 3 ∨ i = 4 ∨ i = 5 by omega) with rfl | rfl | rfl | rfl | rfl | rfl <;> simp [pkA]
@[go_sem] theorem Tryz.indexPk (k : Nat → Int) (i : Nat) (h : i < 6) (w : World) : Sem.run Tryz.prog (Instr.index 46 (.agg #[.int .i64 (k 0), .int .i64 (k 1), .int .i64 (k 2), .int .i64 (k 3), .int .i64 (k 4), .int .i64 (k 5)]) (.int .i64 (i : Int))) w = .ok (.int .i64 (k i)) w := by
  rcases (show i = 0 ∨ i = 1 ∨ i = 2 ∨ i = 3 ∨ i = 4 ∨ i = 5 by omega) with rfl | rfl | rfl | rfl | rfl | rfl <;> kernel_rfl
set_option maxRecDepth 100000 in
set_option maxHeartbeats 1000000 in
theorem right_any (k : Nat → Int) (w : World) : Calls Tryz.prog 55 #[pkV k] w (Says (rightS k) w) := by
  unfold pkV pkA
  go_enter Tryz.func55, Tryz.ntmps55
  go_wp2
  go_loopw [6] (fun i wr => ∃ j : Nat, j ≤ 6 ∧ i = .int .i64 j ∧ (∀ i, i < j → okF (k i)) ∧ w.grownBy wr none) (fun i _ => 6 - (intOf i).toNat)
  case atStart => exact ⟨0, by omega, rfl, fun i hi => by omega, World.grownBy_alloc _ _ _⟩
  case round =>
    obtain ⟨j, hj, rfl, hok, hg⟩ := hrel
    have HOK := hide hok
    have HG := hide hg
    clear hok hg
    by_cases hlt : j < 6
    · obtain ⟨x, hx⟩ : ∃ x, x = k j := ⟨_, rfl⟩
      have hix := Tryz.indexPk k j hlt wr
      rw [← hx] at hix
      by_cases h1 : x < 0
      · go_wp2
        go_ret
        exact ⟨⟨false, rfl, by simp; intro hh; have := (hh j hlt).1; omega⟩, HG.out⟩
      · by_cases h2 : 31 < x
        · go_wp2
          go_ret
          exact ⟨⟨false, rfl, by simp; intro hh; have := (hh j hlt).2; omega⟩, HG.out⟩
        · go_wp2
          go_roundw
          case rel => exact ⟨j + 1, by omega, by go_num, fun i hi => by
            by_cases e : i = j
            · subst e; rw [← hx]; exact ⟨by omega, by omega⟩
            · exact HOK.out i (by omega), HG.out⟩
          case measure => simp [intOf]; omega
    · go_wp2
      go_ret
      exact ⟨⟨true, rfl, by simp; intro i hi; exact HOK.out i (by omega)⟩, HG.out⟩
end Go.Proofs.YtlhkfafdioakeaaGreatDoor
/- Proved here: which lists of packets, and which rules, the program takes for right. -/
namespace Go.Proofs.YtlhkfafdioakeaaGreatDoor
open Go.RowKit
set_option linter.unusedVariables false
set_option linter.unusedSimpArgs false
def eq6 (a0 a1 a2 a3 a4 a5 b0 b1 b2 b3 b4 b5 : Int) : Bool := a0 == b0 && (a1 == b1 && (a2 == b2 && (a3 == b3 && (a4 == b4 && (a5 == b5)))))
theorem Tryz.part6 (a0 a1 a2 a3 a4 a5 : Int) (i : Nat) (h : i < 6) (w : World) : (part 3 #[.int .i64 a0, .int .i64 a1, .int .i64 a2, .int .i64 a3, .int .i64 a4, .int .i64 a5] i).run Tryz.prog w = .ok (.int .i64 (match i with | 0 => a0 | 1 => a1 | 2 => a2 | 3 => a3 | 4 => a4 | _ => a5)) w := by
  rcases (show i = 0 ∨ i = 1 ∨ i = 2 ∨ i = 3 ∨ i = 4 ∨ i = 5 by omega) with rfl | rfl | rfl | rfl | rfl | rfl <;> kernel_rfl
@[go_sem] theorem Tryz.eqPk (a0 a1 a2 a3 a4 a5 b0 b1 b2 b3 b4 b5 : Int) (w : World) :
    Sem.run Tryz.prog (Op.equalIn 10000 46 (.agg #[.int .i64 a0, .int .i64 a1, .int .i64 a2, .int .i64 a3, .int .i64 a4, .int .i64 a5]) (.agg #[.int .i64 b0, .int .i64 b1, .int .i64 b2, .int .i64 b3, .int .i64 b4, .int .i64 b5])) w = .ok (eq6 a0 a1 a2 a3 a4 a5 b0 b1 b2 b3 b4 b5) w := by
  obtain ⟨i0, hi0⟩ : ∃ i0, Tryz.prog.info? 3 = some i0 := by
    cases h : Tryz.prog.info? 3 with
    | none => exact absurd h (by have : (Tryz.prog.info? 3).isSome = true := by kernel_rfl
                                 intro e; rw [e] at this; cases this)
    | some i => exact ⟨i, rfl⟩
  have hu : Tryz.prog.underlying 46 = some (.array 6 3) := by kernel_rfl
  have hc : Tryz.prog.cellsOf 3 = 1 := by kernel_rfl
  have h3 : Tryz.prog.underlying 3 = some (.int .i64) := by kernel_rfl
  rw [run_equalIn_array w 9999 _ _ hu hi0, hc]
  rw [show List.range 6 = [0, 1, 2, 3, 4, 5] from rfl]
  have hs : ∀ x y : Int, ∀ w : World, (Op.equalIn 9999 3 (.int .i64 x) (.int .i64 y)).run Tryz.prog w = .ok (x == y) w := fun x y w => run_equalIn_int w 9998 3 .i64 .i64 x y h3
  have st : ∀ (i : Nat) (is : List Nat) (x y : Int), i < 6 → (part 3 #[.int .i64 a0, .int .i64 a1, .int .i64 a2, .int .i64 a3, .int .i64 a4, .int .i64 a5] i).run Tryz.prog w = .ok (.int .i64 x) w → (part 3 #[.int .i64 b0, .int .i64 b1, .int .i64 b2, .int .i64 b3, .int .i64 b4, .int .i64 b5] i).run Tryz.prog w = .ok (.int .i64 y) w →
      (Op.eqItems 9999 3 1 #[.int .i64 a0, .int .i64 a1, .int .i64 a2, .int .i64 a3, .int .i64 a4, .int .i64 a5] #[.int .i64 b0, .int .i64 b1, .int .i64 b2, .int .i64 b3, .int .i64 b4, .int .i64 b5] (i :: is)).run Tryz.prog w = if (x == y) = true then (Op.eqItems 9999 3 1 #[.int .i64 a0, .int .i64 a1, .int .i64 a2, .int .i64 a3, .int .i64 a4, .int .i64 a5] #[.int .i64 b0, .int .i64 b1, .int .i64 b2, .int .i64 b3, .int .i64 b4, .int .i64 b5] is).run Tryz.prog w else .ok false w := by
    intro i is x y hi h1 h2
    rw [Op.eqItems]
    simp only [Sem.run_bind, Nat.mul_one, h1, h2, Result.andThen_ok, hs]
    cases x == y <;> simp [Sem.run_pure]
  have p := fun i h => Tryz.part6 a0 a1 a2 a3 a4 a5 i h w
  have q := fun i h => Tryz.part6 b0 b1 b2 b3 b4 b5 i h w
  rw [st 0 _ _ _ (by decide) (p 0 (by decide)) (q 0 (by decide)), st 1 _ _ _ (by decide) (p 1 (by decide)) (q 1 (by decide)), st 2 _ _ _ (by decide) (p 2 (by decide)) (q 2 (by decide)), st 3 _ _ _ (by decide) (p 3 (by decide)) (q 3 (by decide)), st 4 _ _ _ (by decide) (p 4 (by decide)) (q 4 (by decide)), st 5 _ _ _ (by decide) (p 5 (by decide)) (q 5 (by decide))]
  have e : (Op.eqItems 9999 3 1 #[.int .i64 a0, .int .i64 a1, .int .i64 a2, .int .i64 a3, .int .i64 a4, .int .i64 a5] #[.int .i64 b0, .int .i64 b1, .int .i64 b2, .int .i64 b3, .int .i64 b4, .int .i64 b5] []).run Tryz.prog w = .ok true w := by simp [Op.eqItems, Sem.run_pure]
  rw [e]
  unfold eq6
  clear e st p q hs
  cases a0 == b0 <;> cases a1 == b1 <;> cases a2 == b2 <;> cases a3 == b3 <;> cases a4 == b4 <;> cases a5 == b5 <;> rfl
/-- A list of packets in a world: how many, and which. -/
def PkRow (w : World) (v : Value) (n : Nat) (ps : Nat → Nat → Int) : Prop :=
  (v = .slice none 0 0 ∧ n = 0) ∨ ∃ g off cap, v = .slice (some ⟨g, off, none⟩) n cap ∧ n ≤ 3000000000000 ∧ ∀ j, j < n → ∀ i, i < 6 → w.cell? ⟨g, off + j * 6 + i, none⟩ = some (.int .i64 (ps j i))
theorem PkRow.grown {w w' : World} {v : Value} {n : Nat} {ps : Nat → Nat → Int} (h : PkRow w v n ps) (hg : w.grownBy w' none) : PkRow w' v n ps := by
  rcases h with h | ⟨g, off, cap, h1, h2, h3⟩
  · exact .inl h
  · exact .inr ⟨g, off, cap, h1, h2, fun j hj i hi => hg.cell (h3 j hj i hi) (by simp)⟩
set_option maxRecDepth 100000 in
set_option maxHeartbeats 1000000 in
theorem allR_any (p : (Nat → Int) → Prop) (hfn : ∀ k w, Calls Tryz.prog 55 #[pkV k] w (Says (p k) w)) (v : Value) (n : Nat) (ps : Nat → Nat → Int) (w : World) (h : PkRow w v n ps) :
    Calls Tryz.prog 280 #[v, .func (.func 55) #[] #[]] w (Says (∀ j, j < n → p (ps j)) w) := by
  rcases h with ⟨rfl, rfl⟩ | ⟨g, off, cap, rfl, hn, hcell⟩
  · go_enter Tryz.func280, Tryz.ntmps280
    go_wp2
    go_loopw [9] (fun i wr => i = .int .i64 0 ∧ wr = w) (fun i _ => 0)
    case atStart => exact ⟨rfl, rfl⟩
    case round =>
      obtain ⟨rfl, rfl⟩ := hrel
      go_wp2
      go_ret
      exact ⟨⟨true, rfl, by simp⟩, grown_refl _ _⟩
  · have HF := hide hfn
    have HC := hide hcell
    clear hfn hcell
    unfold pkV pkA at HF
    go_enter Tryz.func280, Tryz.ntmps280
    go_wp2
    go_loopw [9] (fun i wr => ∃ j : Nat, j ≤ n ∧ i = .int .i64 j ∧ (∀ i, i < j → p (ps i)) ∧ w.grownBy wr none) (fun i _ => n - (intOf i).toNat)
    case atStart => exact ⟨0, by omega, rfl, fun i hi => by omega, grown_refl _ _⟩
    case round =>
      obtain ⟨j, hj, rfl, hok, hg⟩ := hrel
      have HOK := hide hok
      have HG := hide hg
      clear hok hg
      by_cases hlt : j < n
      · obtain ⟨k, hk⟩ : ∃ k, k = ps j := ⟨_, rfl⟩
        have c0 : wr.cell? ⟨g, off + j * 6, none⟩ = some (.int .i64 (k 0)) := by rw [hk]; exact HG.out.cell (HC.out j hlt 0 (by omega)) (by simp)
        have c1 : wr.cell? ⟨g, off + j * 6 + 1, none⟩ = some (.int .i64 (k 1)) := by rw [hk]; exact HG.out.cell (HC.out j hlt 1 (by omega)) (by simp)
        have c2 : wr.cell? ⟨g, off + j * 6 + 2, none⟩ = some (.int .i64 (k 2)) := by rw [hk]; exact HG.out.cell (HC.out j hlt 2 (by omega)) (by simp)
        have c3 : wr.cell? ⟨g, off + j * 6 + 3, none⟩ = some (.int .i64 (k 3)) := by rw [hk]; exact HG.out.cell (HC.out j hlt 3 (by omega)) (by simp)
        have c4 : wr.cell? ⟨g, off + j * 6 + 4, none⟩ = some (.int .i64 (k 4)) := by rw [hk]; exact HG.out.cell (HC.out j hlt 4 (by omega)) (by simp)
        have c5 : wr.cell? ⟨g, off + j * 6 + 5, none⟩ = some (.int .i64 (k 5)) := by rw [hk]; exact HG.out.cell (HC.out j hlt 5 (by omega)) (by simp)
        have HK := hide hk
        clear hk
        go_wp2_with fail
        refine (HF.out k _).mono ?_
        rintro e w1 ⟨⟨b, rfl, hb⟩, hg1⟩
        have G1 := hide hg1
        have HB := hide hb
        clear hb hg1
        cases b
        · go_wp2
          go_ret
          exact ⟨⟨false, rfl, by simp; exact ⟨j, hlt, fun h => by have := HB.out.2 (by rw [HK.out]; exact h); simp at this⟩⟩, grown_trans (grown_trans HG.out (World.grownBy_alloc _ _ _)) G1.out⟩
        · go_wp2
          go_roundw
          case rel => exact ⟨j + 1, by omega, by go_num, fun i hi => by
            by_cases e : i = j
            · subst e; rw [← HK.out]; exact HB.out.1 (by simp)
            · exact HOK.out i (by omega), grown_trans (grown_trans HG.out (World.grownBy_alloc _ _ _)) G1.out⟩
          case measure => simp [intOf]; omega
      · go_wp2
        go_ret
        exact ⟨⟨true, rfl, by simp; intro i hi; exact HOK.out i (by omega)⟩, HG.out⟩
set_option maxRecDepth 100000 in
set_option maxHeartbeats 1000000 in
theorem allP_any (p : (Nat → Int) → Prop) (hfn : ∀ k w, Calls Tryz.prog 283 #[pkV k] w (Says (p k) w)) (v : Value) (n : Nat) (ps : Nat → Nat → Int) (w : World) (h : PkRow w v n ps) :
    Calls Tryz.prog 280 #[v, .func (.func 283) #[] #[]] w (Says (∀ j, j < n → p (ps j)) w) := by
  rcases h with ⟨rfl, rfl⟩ | ⟨g, off, cap, rfl, hn, hcell⟩
  · go_enter Tryz.func280, Tryz.ntmps280
    go_wp2
    go_loopw [9] (fun i wr => i = .int .i64 0 ∧ wr = w) (fun i _ => 0)
    case atStart => exact ⟨rfl, rfl⟩
    case round =>
      obtain ⟨rfl, rfl⟩ := hrel
      go_wp2
      go_ret
      exact ⟨⟨true, rfl, by simp⟩, grown_refl _ _⟩
  · have HF := hide hfn
    have HC := hide hcell
    clear hfn hcell
    unfold pkV pkA at HF
    go_enter Tryz.func280, Tryz.ntmps280
    go_wp2
    go_loopw [9] (fun i wr => ∃ j : Nat, j ≤ n ∧ i = .int .i64 j ∧ (∀ i, i < j → p (ps i)) ∧ w.grownBy wr none) (fun i _ => n - (intOf i).toNat)
    case atStart => exact ⟨0, by omega, rfl, fun i hi => by omega, grown_refl _ _⟩
    case round =>
      obtain ⟨j, hj, rfl, hok, hg⟩ := hrel
      have HOK := hide hok
      have HG := hide hg
      clear hok hg
      by_cases hlt : j < n
      · obtain ⟨k, hk⟩ : ∃ k, k = ps j := ⟨_, rfl⟩
        have c0 : wr.cell? ⟨g, off + j * 6, none⟩ = some (.int .i64 (k 0)) := by rw [hk]; exact HG.out.cell (HC.out j hlt 0 (by omega)) (by simp)
        have c1 : wr.cell? ⟨g, off + j * 6 + 1, none⟩ = some (.int .i64 (k 1)) := by rw [hk]; exact HG.out.cell (HC.out j hlt 1 (by omega)) (by simp)
        have c2 : wr.cell? ⟨g, off + j * 6 + 2, none⟩ = some (.int .i64 (k 2)) := by rw [hk]; exact HG.out.cell (HC.out j hlt 2 (by omega)) (by simp)
        have c3 : wr.cell? ⟨g, off + j * 6 + 3, none⟩ = some (.int .i64 (k 3)) := by rw [hk]; exact HG.out.cell (HC.out j hlt 3 (by omega)) (by simp)
        have c4 : wr.cell? ⟨g, off + j * 6 + 4, none⟩ = some (.int .i64 (k 4)) := by rw [hk]; exact HG.out.cell (HC.out j hlt 4 (by omega)) (by simp)
        have c5 : wr.cell? ⟨g, off + j * 6 + 5, none⟩ = some (.int .i64 (k 5)) := by rw [hk]; exact HG.out.cell (HC.out j hlt 5 (by omega)) (by simp)
        have HK := hide hk
        clear hk
        go_wp2_with fail
        refine (HF.out k _).mono ?_
        rintro e w1 ⟨⟨b, rfl, hb⟩, hg1⟩
        have G1 := hide hg1
        have HB := hide hb
        clear hb hg1
        cases b
        · go_wp2
          go_ret
          exact ⟨⟨false, rfl, by simp; exact ⟨j, hlt, fun h => by have := HB.out.2 (by rw [HK.out]; exact h); simp at this⟩⟩, grown_trans (grown_trans HG.out (World.grownBy_alloc _ _ _)) G1.out⟩
        · go_wp2
          go_roundw
          case rel => exact ⟨j + 1, by omega, by go_num, fun i hi => by
            by_cases e : i = j
            · subst e; rw [← HK.out]; exact HB.out.1 (by simp)
            · exact HOK.out i (by omega), grown_trans (grown_trans HG.out (World.grownBy_alloc _ _ _)) G1.out⟩
          case measure => simp [intOf]; omega
      · go_wp2
        go_ret
        exact ⟨⟨true, rfl, by simp; intro i hi; exact HOK.out i (by omega)⟩, HG.out⟩


def noAny (k : Nat → Int) (j i : Nat) : Int := if i < j ∧ k i = -1 then 0 else k i
theorem noAny_zero (k : Nat → Int) : noAny k 0 = k := by funext i; simp [noAny]
theorem noAny_yes {k : Nat → Int} {j : Nat} (h : k j = -1) : (fun i => if i = j then 0 else noAny k j i) = noAny k (j + 1) := by
  funext i
  by_cases e : i = j
  · subst e; simp [noAny, h]
  · simp only [if_neg e, noAny]
    by_cases e2 : i < j
    · simp [e2, show i < j + 1 by omega]
    · simp [e2, show ¬ i < j + 1 by omega]
theorem noAny_no {k : Nat → Int} {j : Nat} (h : k j ≠ -1) : noAny k j = noAny k (j + 1) := by
  funext i
  by_cases e : i = j
  · subst e; simp [noAny, h]
  · simp only [noAny]
    by_cases e2 : i < j
    · simp [e2, show i < j + 1 by omega]
    · simp [e2, show ¬ i < j + 1 by omega]
theorem noAny_right (k : Nat → Int) (h0 : k 0 = -1) : rightS (noAny k 6) ↔ openS k := by
  constructor
  · intro h
    refine ⟨h0, fun i hi => ?_⟩
    have := h i hi
    unfold okF noAny at this
    unfold okP
    by_cases e : k i = -1
    · omega
    · simp [hi, e] at this; omega
  · intro h i hi
    have := h.2 i hi
    unfold okP at this
    unfold okF noAny
    by_cases e : k i = -1
    · simp [hi, e]
    · simp [hi, e]; omega
set_option maxRecDepth 100000 in
set_option maxHeartbeats 1000000 in
theorem pat_any (k : Nat → Int) (w : World) : Calls Tryz.prog 283 #[pkV k] w (Says (openS k) w) := by
  have HB := hide (pkBlk.alloc w k)
  unfold pkA at HB
  unfold pkV pkA
  go_enter Tryz.func283, Tryz.ntmps283
  by_cases h0 : k 0 = -1
  · have H0 := hide h0
    have h1 : k 0 ≤ -1 := by omega
    have h2 : -1 ≤ k 0 := by omega
    clear h0
    go_wp2
    go_loopw [9] (fun i wr => ∃ j : Nat, j ≤ 6 ∧ i = .int .i64 j ∧ pkBlk wr w.heap.size (noAny k j) ∧ w.grownBy wr none) (fun i _ => 6 - (intOf i).toNat)
    case atStart => exact ⟨0, by omega, rfl, by rw [noAny_zero]; exact HB.out, World.grownBy_alloc _ _ _⟩
    case round =>
      obtain ⟨j, hj, rfl, hb, hg⟩ := hrel
      have HG := hide hg
      have HP := hide hb
      clear hg hb h1 h2
      by_cases hlt : j < 6
      · obtain ⟨x, hx⟩ : ∃ x, x = k j := ⟨_, rfl⟩
        have HX := hide hx
        have hix := Tryz.indexPk k j hlt wr
        rw [← hx] at hix
        clear hx
        by_cases h3 : x = -1
        · have H3 := hide h3
          have h4 : x ≤ -1 := by omega
          have h5 : -1 ≤ x := by omega
          clear h3
          have c1 := HP.out.cell j hlt
          have c2 := HP.out.frozen j
          go_wp2
          go_roundw
          case rel =>
            have := HP.out.set j hlt 0
            rw [noAny_yes (by rw [← HX.out]; exact H3.out)] at this
            exact ⟨j + 1, by omega, by go_num, this, grown_new HG.out (grown_set _ _ _ _) (Nat.le_refl _)⟩
          case measure => simp [intOf]; omega
        · go_wp2
          go_roundw
          case rel =>
            have := HP.out
            rw [noAny_no (by rw [← HX.out]; exact h3)] at this
            exact ⟨j + 1, by omega, by go_num, this, HG.out⟩
          case measure => simp [intOf]; omega
      · obtain rfl : j = 6 := by omega
        have c0 := HP.out.cell 0 (by omega)
        have c1 := HP.out.cell 1 (by omega)
        have c2 := HP.out.cell 2 (by omega)
        have c3 := HP.out.cell 3 (by omega)
        have c4 := HP.out.cell 4 (by omega)
        have c5 := HP.out.cell 5 (by omega)
        obtain ⟨q, hq⟩ : ∃ q, q = noAny k 6 := ⟨_, rfl⟩
        rw [← hq] at c0 c1 c2 c3 c4 c5
        have HQ := hide hq
        clear hq
        have HR := hide (right_any q wr)
        unfold pkV pkA at HR
        go_wp2_with fail
        refine HR.out.mono ?_
        rintro e w1 ⟨⟨b, rfl, hb⟩, hg1⟩
        have G1 := hide hg1
        have HB := hide hb
        clear hb hg1
        go_wp2
        go_ret
        exact ⟨⟨b, rfl, by rw [HB.out, HQ.out]; exact noAny_right k H0.out⟩, grown_trans HG.out G1.out⟩
  · go_wp2
    go_ret
    exact ⟨⟨false, rfl, by simp; intro hh; exact h0 hh.1⟩, World.grownBy_alloc _ _ _⟩
end Go.Proofs.YtlhkfafdioakeaaGreatDoor
/- Proved here: what packet.Compare answers: the order of packets. -/
namespace Go.Proofs.YtlhkfafdioakeaaGreatDoor
open Go.RowKit
set_option linter.unusedVariables false
set_option linter.unusedSimpArgs false
set_option maxRecDepth 100000 in
set_option maxHeartbeats 1000000 in
theorem cmpInt_any (x y : Int) (w : World) : Calls Tryz.prog 214 #[.int .i64 x, .int .i64 y] w fun e w' => e = .returned (.int .i64 (cmpI x y)) ∧ w' = w := by
  unfold cmpI
  by_cases h1 : x < y
  · rw [if_pos h1]
    go_enter Tryz.func214, Tryz.ntmps214
    go_wp2
    go_ret
    exact ⟨rfl, rfl⟩
  · rw [if_neg h1]
    by_cases h2 : y < x
    · rw [if_pos h2]
      go_enter Tryz.func214, Tryz.ntmps214
      go_wp2
      go_ret
      exact ⟨rfl, rfl⟩
    · rw [if_neg h2]
      go_enter Tryz.func214, Tryz.ntmps214
      go_wp2
      go_ret
      exact ⟨rfl, rfl⟩
theorem cmpN_at (x y : Nat → Int) : ∀ n i j, i ≤ j → j < i + n → (∀ t, i ≤ t → t < j → x t = y t) → x j ≠ y j → cmpN x y i n = cmpI (x j) (y j)
  | 0, i, j, h1, h2, _, _ => by omega
  | n + 1, i, j, h1, h2, h3, h4 => by
    unfold cmpN
    by_cases e : i = j
    · rw [e, if_neg h4]
    · rw [if_pos (h3 i (by omega) (by omega))]
      exact cmpN_at x y n (i + 1) j (by omega) (by omega) (fun t a b => h3 t (by omega) b) h4
theorem cmpP_at (x y : Nat → Int) (j : Nat) (hj : j < 6) (h : ∀ t, t < j → x t = y t) (hne : x j ≠ y j) : cmpP x y = cmpI (x j) (y j) :=
  cmpN_at x y 6 0 j (by omega) (by omega) (fun t _ ht => h t ht) hne
set_option maxRecDepth 100000 in
set_option maxHeartbeats 1000000 in
theorem slCmp_any (b c : Nat) (x y : Nat → Int) (w : World) (hb : pkBlk w b x) (hc : pkBlk w c y) : Calls Tryz.prog 152 #[.slice (some ⟨b, 0, none⟩) 6 6, .slice (some ⟨c, 0, none⟩) 6 6] w fun e w' => e = .returned (.int .i64 (cmpP x y)) ∧ w' = w := by
  have HB := hide hb
  have HC := hide hc
  clear hb hc
  have HI := hide (fun x y w => cmpInt_any x y w)
  go_enter Tryz.func152, Tryz.ntmps152
  go_wp2
  go_loopw [11] (fun i wr => ∃ j : Nat, j ≤ 6 ∧ i = .int .i64 j ∧ (∀ t, t < j → x t = y t) ∧ wr = w) (fun i _ => 6 - (intOf i).toNat)
  case atStart => exact ⟨0, by omega, rfl, fun t ht => by omega, rfl⟩
  case round =>
    obtain ⟨j, hj, rfl, hok, rfl⟩ := hrel
    have HOK := hide hok
    clear hok
    by_cases hlt : j < 6
    · have c1 := HB.out.cell j hlt
      have c2 := HC.out.cell j hlt
      have hltI : (j : Int) < 6 := by omega
      obtain ⟨p, hp⟩ : ∃ p, p = x j := ⟨_, rfl⟩
      obtain ⟨q, hq⟩ : ∃ q, q = y j := ⟨_, rfl⟩
      rw [← hp] at c1
      rw [← hq] at c2
      have HP := hide hp
      have HQ := hide hq
      clear hp hq
      go_wp2_with fail
      refine (HI.out p q wr).mono ?_
      rintro e w1 ⟨rfl, hw⟩
      rw [hw]
      clear hw
      by_cases heq : p = q
      · have h0 : cmpI p q = 0 := (cmpI_zero _ _).2 heq
        rw [h0]
        have HE := hide heq
        clear heq h0
        go_wp2
        go_roundw
        case rel => exact ⟨j + 1, by omega, by go_num, fun t ht => by
          by_cases e : t = j
          · rw [e, ← HP.out, ← HQ.out]; exact HE.out
          · exact HOK.out t (by omega), by first | trivial | rfl⟩
        case measure => simp [intOf]; omega
      · have h0 : cmpP x y = cmpI p q := by rw [HP.out, HQ.out]; exact cmpP_at x y j hlt HOK.out (by rw [← HP.out, ← HQ.out]; exact heq)
        have hne : cmpI p q ≠ 0 := fun h => heq ((cmpI_zero _ _).1 h)
        have H0 := hide h0
        clear h0 heq
        generalize cmpI p q = r at *
        go_wp2
        go_ret
        exact ⟨by rw [H0.out]; rfl, by first | trivial | rfl⟩
    · have H0 : Hid (cmpP x y = 0) := (cmpP_zero _ _).2 (fun t ht => HOK.out t (by omega))
      have hj6 : (6 : Int) ≤ j := by omega
      go_wp2
      go_ret
      exact ⟨by rw [H0.out]; rfl, by first | trivial | rfl⟩
set_option maxRecDepth 100000 in
set_option maxHeartbeats 1000000 in
theorem compare_any (x y : Nat → Int) (w : World) : Calls Tryz.prog 99 #[pkV x, pkV y] w fun e w' => e = .returned (.int .i64 (cmpP x y)) ∧ ∃ q os', w' = Sort.grow (w.drewN q) os' := by
  obtain ⟨w1, hw1⟩ : ∃ w1, w1 = w.alloc (.cells (pkA x) 46) := ⟨_, rfl⟩
  obtain ⟨w2, hw2⟩ : ∃ w2, w2 = w1.alloc (.cells (pkA y) 46) := ⟨_, rfl⟩
  have B1 : pkBlk w2 w.heap.size x := by rw [hw2, hw1]; exact (pkBlk.alloc w x).grown (World.grownBy_alloc _ _ none) (by simp)
  have B2 : pkBlk w2 (w.heap.size + 1) y := by rw [hw2]; have := pkBlk.alloc w1 y; rw [hw1] at this ⊢; simpa using this
  have HS : Hid (∀ n, Calls Tryz.prog 152 #[.slice (some ⟨w.heap.size, 0, none⟩) 6 6, .slice (some ⟨w.heap.size + 1, 0, none⟩) 6 6] (w2.drewN n) fun e w' => e = .returned (.int .i64 (cmpP x y)) ∧ w' = w2.drewN n) := fun n => slCmp_any _ _ x y (w2.drewN n) B1 B2
  have HG : Hid (∀ n, ∃ q os', w2.drewN n = Sort.grow (w.drewN q) os') := fun n => ⟨n, #[.cells (pkA x) 46, .cells (pkA y) 46], by rw [hw2, hw1, Sort.alloc_eq_grow, Sort.alloc_eq_grow, Sort.grow_grow]; rfl⟩
  clear B1 B2
  generalize cmpP x y = r at *
  rw [hw1] at hw2
  clear hw1
  unfold pkA at hw2
  unfold pkV pkA
  go_enter Tryz.func99, Tryz.ntmps99
  go_wp2_with fail
  rw [← hw2]
  clear hw2
  go_quiet ((go_at_call 152; exact Calls.quiet_of_same (HS.out _)))
  go_wp2
  go_ret
  exact ⟨rfl, HG.out _⟩
end Go.Proofs.YtlhkfafdioakeaaGreatDoor
/- Proved here: rows of packets in blocks of their own; slices.Compact on them. -/
namespace Go.Proofs.YtlhkfafdioakeaaGreatDoor
open Go.RowKit
set_option linter.unusedVariables false
set_option linter.unusedSimpArgs false
/-- A row of packets in a block of its own: so many, with room for so many. -/
def Own (w : World) (g n cap : Nat) (d : Nat → Nat → Int) : Prop :=
  ∃ cur : Array Value, w.heap[g]? = some (.cells cur 46 (0, 0)) ∧ cur.size = cap * 6 ∧ n ≤ cap ∧ (cap ≤ 9223372036854775807 ∧ n ≤ 3000000000000) ∧ ∀ j, j < n → ∀ i, i < 6 → cur[j * 6 + i]? = some (.int .i64 (d j i))
theorem Own.cell {w : World} {g n cap : Nat} {d : Nat → Nat → Int} (h : Own w g n cap d) (j : Nat) (hj : j < n) (i : Nat) (hi : i < 6) : w.cell? ⟨g, j * 6 + i, none⟩ = some (.int .i64 (d j i)) := by
  obtain ⟨cur, h1, _, _, _, h4⟩ := h
  simp only [World.cell?, h1]
  simpa using h4 j hj i hi
theorem Own.frozen {w : World} {g n cap : Nat} {d : Nat → Nat → Int} (h : Own w g n cap d) (o : Nat) : w.frozen? ⟨g, o, none⟩ = false := by
  obtain ⟨cur, h1, _⟩ := h
  simp [World.frozen?, h1]
theorem Own.any {w : World} {g n cap : Nat} {d : Nat → Nat → Int} (h : Own w g n cap d) (o : Nat) (ho : o < cap * 6) : (w.cell? ⟨g, o, none⟩).isSome = true := by
  obtain ⟨cur, h1, h2, _⟩ := h
  simp only [World.cell?, h1]
  simp [h2, ho]
theorem Own.lt {w : World} {g n cap : Nat} {d : Nat → Nat → Int} (h : Own w g n cap d) : g < w.heap.size := by
  obtain ⟨cur, h1, _⟩ := h
  exact (Array.getElem?_eq_some_iff.1 h1).1
theorem Own.cap {w : World} {g n cap : Nat} {d : Nat → Nat → Int} (h : Own w g n cap d) : n ≤ cap ∧ cap ≤ 9223372036854775807 ∧ n ≤ 3000000000000 := by
  obtain ⟨cur, _, _, h1, h2, _⟩ := h
  exact ⟨h1, h2⟩
theorem Own.grown {w w' : World} {g n cap : Nat} {d : Nat → Nat → Int} {row : Option Nat} (h : Own w g n cap d) (hg : w.grownBy w' row) (hr : row ≠ some g) : Own w' g n cap d := by
  obtain ⟨cur, h1, h2⟩ := h
  exact ⟨cur, by rw [hg.block g (Array.getElem?_eq_some_iff.1 h1).1 hr.symm, h1], h2⟩
theorem Own.cong {w : World} {g n cap : Nat} {d e : Nat → Nat → Int} (h : Own w g n cap d) (he : ∀ j, j < n → ∀ i, i < 6 → d j i = e j i) : Own w g n cap e := by
  obtain ⟨cur, h1, h2, h3, h4, h5⟩ := h
  exact ⟨cur, h1, h2, h3, h4, fun j hj i hi => by rw [← he j hj i hi]; exact h5 j hj i hi⟩
theorem Own.less {w : World} {g n cap m : Nat} {d : Nat → Nat → Int} (h : Own w g n cap d) (hm : m ≤ n) : Own w g m cap d := by
  obtain ⟨cur, h1, h2, h3, h4, h5⟩ := h
  exact ⟨cur, h1, h2, by omega, ⟨h4.1, by omega⟩, fun j hj => h5 j (by omega)⟩
theorem Own.row {w : World} {g n cap : Nat} {d : Nat → Nat → Int} (h : Own w g n cap d) : PkRow w (.slice (some ⟨g, 0, none⟩) n cap) n d :=
  .inr ⟨g, 0, cap, rfl, by have := h.cap; omega, fun j hj i hi => by rw [Nat.zero_add]; exact h.cell j hj i hi⟩
/-- A packet laid over six cells. -/
def lay6 (w : World) (g o : Nat) (x : Nat → Int) : World :=
  (((((w.setCell ⟨g, o, none⟩ (.int .i64 (x 0))).setCell ⟨g, o + 1, none⟩ (.int .i64 (x 1))).setCell ⟨g, o + 2, none⟩ (.int .i64 (x 2))).setCell ⟨g, o + 3, none⟩ (.int .i64 (x 3))).setCell ⟨g, o + 4, none⟩ (.int .i64 (x 4))).setCell ⟨g, o + 5, none⟩ (.int .i64 (x 5))
theorem lay6_heap {w : World} {g o : Nat} {cur : Array Value} {T : TypeId} (h : w.heap[g]? = some (.cells cur T (0, 0))) (x : Nat → Int) :
    (lay6 w g o x).heap[g]? = some (.cells ((((((cur.setIfInBounds o (.int .i64 (x 0))).setIfInBounds (o + 1) (.int .i64 (x 1))).setIfInBounds (o + 2) (.int .i64 (x 2))).setIfInBounds (o + 3) (.int .i64 (x 3))).setIfInBounds (o + 4) (.int .i64 (x 4))).setIfInBounds (o + 5) (.int .i64 (x 5))) T (0, 0)) :=
  heap_set (heap_set (heap_set (heap_set (heap_set (heap_set h _ _) _ _) _ _) _ _) _ _) _ _
theorem lay6_grown (w : World) (g o : Nat) (x : Nat → Int) : w.grownBy (lay6 w g o x) (some g) :=
  grown_trans (grown_trans (grown_trans (grown_trans (grown_trans (grown_set _ _ _ _) (grown_set _ _ _ _)) (grown_set _ _ _ _)) (grown_set _ _ _ _)) (grown_set _ _ _ _)) (grown_set _ _ _ _)
theorem Own.put {w : World} {g n cap : Nat} {d : Nat → Nat → Int} (h : Own w g n cap d) (j : Nat) (hj : j < n) (x : Nat → Int) : Own (lay6 w g (j * 6) x) g n cap (fun t => if t = j then x else d t) := by
  obtain ⟨cur, h1, h2, h3, h4, h5⟩ := h
  refine ⟨_, lay6_heap h1 x, by simp [h2], h3, h4, fun t ht i hi => ?_⟩
  have hlt : j * 6 + 5 < cur.size := by rw [h2]; omega
  simp only [Array.getElem?_setIfInBounds, Array.size_setIfInBounds]
  by_cases e : t = j
  · subst e
    rw [if_pos rfl]
    rcases (show i = 0 ∨ i = 1 ∨ i = 2 ∨ i = 3 ∨ i = 4 ∨ i = 5 by omega) with rfl | rfl | rfl | rfl | rfl | rfl
    all_goals (repeat' split) <;> first | omega | rfl
  · rw [if_neg e, if_neg (by omega), if_neg (by omega), if_neg (by omega), if_neg (by omega), if_neg (by omega), if_neg (by omega)]
    exact h5 t ht i hi
theorem eq6_true {x y : Nat → Int} (h : cmpP x y = 0) : eq6 (x 0) (x 1) (x 2) (x 3) (x 4) (x 5) (y 0) (y 1) (y 2) (y 3) (y 4) (y 5) = true := by
  have e := (cmpP_zero _ _).1 h
  unfold eq6
  rw [e 0 (by omega), e 1 (by omega), e 2 (by omega), e 3 (by omega), e 4 (by omega), e 5 (by omega)]
  simp
theorem eq6_false {x y : Nat → Int} (h : cmpP x y ≠ 0) : eq6 (x 0) (x 1) (x 2) (x 3) (x 4) (x 5) (y 0) (y 1) (y 2) (y 3) (y 4) (y 5) = false := by
  cases hb : eq6 (x 0) (x 1) (x 2) (x 3) (x 4) (x 5) (y 0) (y 1) (y 2) (y 3) (y 4) (y 5) with
  | false => rfl
  | true =>
    unfold eq6 at hb
    simp only [Bool.and_eq_true, beq_iff_eq] at hb
    obtain ⟨h0, h1, h2, h3, h4, h5⟩ := hb
    refine absurd ((cmpP_zero _ _).2 (fun t ht => ?_)) h
    rcases (show t = 0 ∨ t = 1 ∨ t = 2 ∨ t = 3 ∨ t = 4 ∨ t = 5 by omega) with rfl | rfl | rfl | rfl | rfl | rfl <;> assumption
/-- How far the compacting of a row has come: of the first p there are k left, which e has at its front; behind them e is as the row was. -/
structure CompI (d : Nat → Nat → Int) (p k : Nat) (e : Nat → Nat → Int) : Prop where
  len : (compN d p).length = k
  low : ∀ j, j < k → (compN d p)[j]? = some (e j)
  high : ∀ j, k ≤ j → e j = d j
theorem CompI.one (d : Nat → Nat → Int) : CompI d 1 1 d := ⟨rfl, fun j (hj : j < 1) => by
  obtain rfl : j = 0 := by omega
  rfl, fun _ _ => rfl⟩
theorem CompI.skip {d e : Nat → Nat → Int} {p k : Nat} (h : CompI d p k e) (hp : 1 ≤ p) (hs : cmpP (d p) (d (p - 1)) = 0) : CompI d (p + 1) k e := by
  have e1 : compN d (p + 1) = compN d p := by
    conv => lhs; unfold compN
    rw [if_pos ⟨by omega, hs⟩]
  exact ⟨by rw [e1]; exact h.len, by rw [e1]; exact h.low, h.high⟩
theorem CompI.keep {d e : Nat → Nat → Int} {p k : Nat} (h : CompI d p k e) (hs : cmpP (d p) (d (p - 1)) ≠ 0) : CompI d (p + 1) (k + 1) (fun t => if t = k then d p else e t) := by
  have e1 : compN d (p + 1) = compN d p ++ [d p] := by
    conv => lhs; unfold compN
    rw [if_neg (fun c => hs c.2)]
  refine ⟨by rw [e1, List.length_append, h.len]; rfl, fun j hj => ?_, fun j hj => ?_⟩
  · rw [e1]
    by_cases c : j = k
    · subst c
      rw [List.getElem?_append_right (by rw [h.len]; exact Nat.le_refl _), h.len]
      simp
    · rw [List.getElem?_append_left (by rw [h.len]; omega), h.low j (by omega)]
      simp [c]
  · show (if j = k then d p else e j) = d j
    rw [if_neg (by omega)]
    exact h.high j (by omega)
theorem CompI.same {d : Nat → Nat → Int} {p : Nat} (h : CompI d p p d) (hs : cmpP (d p) (d (p - 1)) ≠ 0) : CompI d (p + 1) (p + 1) d := by
  have := h.keep hs
  have e : (fun t => if t = p then d p else d t) = d := by
    funext t
    split
    · rename_i c; rw [c]
    · rfl
  rw [e] at this
  exact this
theorem setCells_heap {g : Nat} {T : TypeId} : ∀ (vs : List Value) (o : Nat) (w : World) (cur : Array Value), w.heap[g]? = some (.cells cur T (0, 0)) → ∃ cur', (w.setCells g o vs).heap[g]? = some (.cells cur' T (0, 0)) ∧ cur'.size = cur.size ∧ ∀ t, t < o → cur'[t]? = cur[t]?
  | [], o, w, cur, h => ⟨cur, h, rfl, fun _ _ => rfl⟩
  | v :: vs, o, w, cur, h => by
    obtain ⟨cur', h1, h2, h3⟩ := setCells_heap vs (o + 1) (w.setCell ⟨g, o, none⟩ v) _ (heap_set h o v)
    refine ⟨cur', h1, by rw [h2]; simp, fun t ht => ?_⟩
    rw [h3 t (by omega), Array.getElem?_setIfInBounds_ne (by omega)]
theorem setCells_grownP (g : Nat) : ∀ (vs : List Value) (o : Nat) (w : World), w.grownBy (w.setCells g o vs) (some g)
  | [], o, w => grown_refl _ _
  | v :: vs, o, w => grown_trans (grown_set w g o v) (setCells_grownP g vs (o + 1) _)
theorem Own.cleared {w : World} {g n cap m : Nat} {d : Nat → Nat → Int} (h : Own w g n cap d) (hm : m ≤ n) (vs : List Value) : Own (w.setCells g (m * 6) vs) g m cap d := by
  obtain ⟨cur, h1, h2, h3, h4, h5⟩ := h
  obtain ⟨cur', g1, g2, g3⟩ := setCells_heap vs (m * 6) w cur h1
  exact ⟨cur', g1, by omega, by omega, ⟨h4.1, by omega⟩, fun j hj i hi => by rw [g3 _ (by omega)]; exact h5 j (by omega) i hi⟩
theorem run_clear_pk (w : World) (g o m c : Nat) (ty : TypeId) (hm : 0 < m) (hc : ∀ j, j < m * 6 → (w.cell? ⟨g, o + j, none⟩).isSome = true) (hf : ∀ j, j < m * 6 → w.frozen? ⟨g, o + j, none⟩ = false) :
    (Builtin.clear_ #[29] ty #[.slice (some ⟨g, o, none⟩) m c]).run Tryz.prog w = .ok (.tuple #[]) (w.setCells g o (Builtin.zeroCells (pkA fun _ => 0) m).toList) := by
  have ht : Tryz.prog.underlying 29 = some (.slice 46) := by kernel_rfl
  have hv : ∀ w, (zeroValue 46).run Tryz.prog w = .ok (pkV fun _ => 0) w := Tryz.zeroValue46
  have hz : (pkV fun _ => 0).cells = pkA fun _ => 0 := rfl
  have hst := run_storeCells_cells (P := Tryz.prog) g o (Builtin.zeroCells (pkA fun _ => 0) m).toList 0 w (by simpa [Builtin.zeroCells, pkA] using hc) (by simpa [Builtin.zeroCells, pkA] using hf) (by
    intro v hv'
    simp only [Builtin.zeroCells, Array.toList_map, List.mem_map] at hv'
    obtain ⟨i, _, rfl⟩ := hv'
    have : i % (pkA fun _ => 0).size < 6 := Nat.mod_lt _ (by simp [pkA])
    rcases (show i % (pkA fun _ => 0).size = 0 ∨ i % (pkA fun _ => 0).size = 1 ∨ i % (pkA fun _ => 0).size = 2 ∨ i % (pkA fun _ => 0).size = 3 ∨ i % (pkA fun _ => 0).size = 4 ∨ i % (pkA fun _ => 0).size = 5 by omega) with e | e | e | e | e | e <;> rw [e] <;> rfl)
  simp only [Nat.add_zero] at hst
  obtain ⟨k, rfl⟩ : ∃ k, m = k + 1 := ⟨m - 1, by omega⟩
  simp [Builtin.clear_, run_underlying ht, hv, hz, hst]
set_option maxRecDepth 100000 in
set_option maxHeartbeats 2000000 in
theorem compact_any (w : World) (g n cap : Nat) (d : Nat → Nat → Int) (h : Own w g n cap d) :
    Calls Tryz.prog 223 #[.slice (some ⟨g, 0, none⟩) n cap] w fun e w' => ∃ m e', CompI d n m e' ∧ e = .returned (.slice (some ⟨g, 0, none⟩) m cap) ∧ Own w' g m cap e' ∧ w.grownBy w' (some g) := by
  have hcap := h.cap
  obtain ⟨hc1, hc2, hc3⟩ := hcap
  have HO := hide h
  clear h
  by_cases h2 : n < 2
  · go_enter Tryz.func223, Tryz.ntmps223
    have h2I : (n : Int) < 2 := by omega
    go_wp2
    go_ret
    rcases (show n = 0 ∨ n = 1 by omega) with e | e
    · subst e
      exact ⟨0, d, ⟨rfl, fun j hj => by omega, fun _ _ => rfl⟩, rfl, HO.out, grown_refl _ _⟩
    · subst e
      exact ⟨1, d, CompI.one d, rfl, HO.out, grown_refl _ _⟩
  · have h2I : ¬ (n : Int) < 2 := by omega
    go_enter Tryz.func223, Tryz.ntmps223
    go_wp2
    go_loopw [3] (fun s3 wr => ∃ k : Nat, 1 ≤ k ∧ k ≤ n ∧ s3 = .int .i64 k ∧ CompI d k k d ∧ Own wr g n cap d ∧ w.grownBy wr (some g)) (fun s3 _ => n - (intOf s3).toNat)
    case atStart => exact ⟨1, by omega, by omega, rfl, CompI.one d, HO.out, grown_refl _ _⟩
    case round =>
      obtain ⟨k, hk1, hk, rfl, hI, hO, hg⟩ := hrel
      have HI := hide hI
      have HOO := hide hO
      have HG := hide hg
      clear hI hO hg
      by_cases hlt : k < n
      · have hltI : (k : Int) < n := by omega
        have hk1I : (1 : Int) ≤ k := by omega
        obtain ⟨x, hx⟩ : ∃ x, x = d k := ⟨_, rfl⟩
        obtain ⟨y, hy⟩ : ∃ y, y = d (k - 1) := ⟨_, rfl⟩
        have c0 := HOO.out.cell k hlt 0 (by omega)
        have c1 := HOO.out.cell k hlt 1 (by omega)
        have c2 := HOO.out.cell k hlt 2 (by omega)
        have c3 := HOO.out.cell k hlt 3 (by omega)
        have c4 := HOO.out.cell k hlt 4 (by omega)
        have c5 := HOO.out.cell k hlt 5 (by omega)
        have d0 := HOO.out.cell (k - 1) (by omega) 0 (by omega)
        have d1 := HOO.out.cell (k - 1) (by omega) 1 (by omega)
        have d2 := HOO.out.cell (k - 1) (by omega) 2 (by omega)
        have d3 := HOO.out.cell (k - 1) (by omega) 3 (by omega)
        have d4 := HOO.out.cell (k - 1) (by omega) 4 (by omega)
        have d5 := HOO.out.cell (k - 1) (by omega) 5 (by omega)
        rw [← hx] at c0 c1 c2 c3 c4 c5
        rw [← hy] at d0 d1 d2 d3 d4 d5
        rw [Nat.add_zero] at c0 d0
        by_cases hs : cmpP x y = 0
        · have he := eq6_true hs
          have HS : Hid (cmpP (d k) (d (k - 1)) = 0) := by rw [← hx, ← hy]; exact hs
          clear hs hx hy
          go_wp2_with fail
          go_quiet (fail)
          go_wp2
          clear c0 c1 c2 c3 c4 c5 d0 d1 d2 d3 d4 d5 he
          have HI2 := hide (HI.out.skip hk1 HS.out)
          clear HI HS
          go_loopw [3, 5] (fun s3 s5 wq => ∃ (kk k2 : Nat) (e' : Nat → Nat → Int), 1 ≤ k2 ∧ k + k2 ≤ n ∧ kk + 1 ≤ k + k2 ∧ s3 = .int .i64 kk ∧ s5 = .int .i64 k2 ∧ CompI d (k + k2) kk e' ∧ Own wq g n cap e' ∧ w.grownBy wq (some g)) (fun _ s5 _ => n - (intOf s5).toNat)
          case atStart => exact ⟨k, 1, d, by omega, by omega, by omega, rfl, rfl, HI2.out, HOO.out.grown (grown_drewN (grown_refl _ none) _) (by simp), grown_drewN HG.out _⟩
          case round =>
            obtain ⟨kk, k2, e', hk2, hkk, hlow, rfl, rfl, hI, hO, hg⟩ := hrel
            clear HI2 HOO HG
            have HI := hide hI
            have HOO := hide hO
            have HG := hide hg
            clear hI hO hg
            by_cases hlt2 : k + k2 < n
            · have hlt2I : (k2 : Int) < n - k := by omega
              have hk2I : (1 : Int) ≤ k2 := by omega
              have hkkI : (kk : Int) < n := by omega
              obtain ⟨x, hx⟩ : ∃ x, x = d (k + k2) := ⟨_, rfl⟩
              obtain ⟨y, hy⟩ : ∃ y, y = d (k + k2 - 1) := ⟨_, rfl⟩
              have ex : e' (k + k2) = x := by rw [hx]; exact HI.out.high _ (by omega)
              have ey : e' (k + k2 - 1) = y := by rw [hy]; exact HI.out.high _ (by omega)
              have cx : ∀ i, i < 6 → wr.cell? ⟨g, k * 6 + k2 * 6 + i, none⟩ = some (.int .i64 (x i)) := fun i hi => by
                rw [← ex, ← HOO.out.cell (k + k2) hlt2 i hi]; congr 2; omega
              have cy : ∀ i, i < 6 → wr.cell? ⟨g, k * 6 + (k2 - 1) * 6 + i, none⟩ = some (.int .i64 (y i)) := fun i hi => by
                rw [← ey, ← HOO.out.cell (k + k2 - 1) (by omega) i hi]; congr 2; omega
              have c0 := cx 0 (by omega)
              have c1 := cx 1 (by omega)
              have c2 := cx 2 (by omega)
              have c3 := cx 3 (by omega)
              have c4 := cx 4 (by omega)
              have c5 := cx 5 (by omega)
              have d0 := cy 0 (by omega)
              have d1 := cy 1 (by omega)
              have d2 := cy 2 (by omega)
              have d3 := cy 3 (by omega)
              have d4 := cy 4 (by omega)
              have d5 := cy 5 (by omega)
              rw [Nat.add_zero] at c0 d0
              clear cx cy ex ey
              by_cases hs : cmpP x y = 0
              · have he := eq6_true hs
                have HS : Hid (cmpP (d (k + k2)) (d (k + k2 - 1)) = 0) := by rw [← hx, ← hy]; exact hs
                clear hs hx hy
                go_wp2_with fail
                go_quiet (fail)
                go_wp2
                go_roundw
                case rel => exact ⟨kk, k2 + 1, e', by omega, by omega, by omega, rfl, by go_num, HI.out.skip (by omega) HS.out, HOO.out.grown (grown_drewN (grown_refl _ none) _) (by simp), grown_drewN HG.out _⟩
                case measure => simp [intOf]; omega
              · have he := eq6_false hs
                have HS : Hid (cmpP (d (k + k2)) (d (k + k2 - 1)) ≠ 0) := by rw [← hx, ← hy]; exact hs
                have HX := hide hx
                clear hs hx hy
                have f0 := HOO.out.cell kk (by omega) 0 (by omega)
                have f1 := HOO.out.cell kk (by omega) 1 (by omega)
                have f2 := HOO.out.cell kk (by omega) 2 (by omega)
                have f3 := HOO.out.cell kk (by omega) 3 (by omega)
                have f4 := HOO.out.cell kk (by omega) 4 (by omega)
                have f5 := HOO.out.cell kk (by omega) 5 (by omega)
                rw [Nat.add_zero] at f0
                have fz := HOO.out.frozen
                go_wp2_with fail
                go_quiet (fail)
                go_wp2_with fail
                have hkp := HI.out.keep HS.out
                rw [← HX.out] at hkp
                have hop := (HOO.out.grown (grown_drewN (grown_refl wr none) nq) (by simp)).put kk (by omega) x
                exact ⟨⟨kk + 1, k2 + 1, _, by omega, by omega, by omega, by go_num, by go_num, hkp, hop, grown_trans (grown_drewN HG.out _) (lay6_grown _ _ _ _)⟩, by simp [intOf]; omega⟩
            · have hend : k + k2 = n := by omega
              have hlt2I : ¬ (k2 : Int) < n - k := by omega
              have hcl : ∀ ty, (Builtin.clear_ #[29] ty #[.slice (some ⟨g, kk * 6, none⟩) (n - kk) (cap - kk)]).run Tryz.prog wr = .ok (.tuple #[]) (wr.setCells g (kk * 6) (Builtin.zeroCells (pkA fun _ => 0) (n - kk)).toList) :=
                fun ty => run_clear_pk wr g (kk * 6) (n - kk) (cap - kk) ty (by omega) (fun j hj => HOO.out.any _ (by omega)) (fun j hj => HOO.out.frozen _)
              generalize (Builtin.zeroCells (pkA fun _ => 0) (n - kk)).toList = vs at hcl
              go_wp2
              go_ret
              exact ⟨kk, e', by rw [← hend]; exact HI.out, rfl, HOO.out.cleared (by omega) _, grown_trans HG.out (setCells_grownP _ _ _ _)⟩
        · have he := eq6_false hs
          have HS : Hid (cmpP (d k) (d (k - 1)) ≠ 0) := by rw [← hx, ← hy]; exact hs
          clear hs hx hy
          go_wp2_with fail
          go_quiet (fail)
          go_wp2
          go_roundw
          case rel => exact ⟨k + 1, by omega, by omega, by go_num, HI.out.same HS.out, HOO.out.grown (grown_drewN (grown_refl _ none) _) (by simp), grown_drewN HG.out _⟩
          case measure => simp [intOf]; omega
      · obtain rfl : k = n := by omega
        go_wp2
        go_ret
        exact ⟨k, d, HI.out, rfl, HOO.out, HG.out⟩
end Go.Proofs.YtlhkfafdioakeaaGreatDoor
