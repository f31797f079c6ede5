/- Proved here: plain mathematics of packets: their order, sets of them in order, and that a sorted list without its repetitions is the set. -/
import Derived.Test.YtlhkfafdioakeaaKitA
namespace Go.Proofs.Ytlhkfafdioakeaa
set_option linter.unusedVariables false
set_option linter.unusedSimpArgs false
/-- Which of two numbers is the less. -/
def cmpI (x y : Int) : Int := if x < y then -1 else if y < x then 1 else 0
theorem cmpI_zero (x y : Int) : cmpI x y = 0 ↔ x = y := by
  unfold cmpI; split
  · omega
  · split <;> omega
theorem cmpI_neg (x y : Int) : cmpI x y < 0 ↔ x < y := by
  unfold cmpI; split
  · omega
  · split <;> omega
/-- The comparison of two packets, from a field on, over so many fields. -/
def cmpN (x y : Nat → Int) : Nat → Nat → Int
  | _, 0 => 0
  | i, n + 1 => if x i = y i then cmpN x y (i + 1) n else cmpI (x i) (y i)
def cmpP (x y : Nat → Int) : Int := cmpN x y 0 6
theorem cmpN_zero (x y : Nat → Int) : ∀ n i, cmpN x y i n = 0 ↔ ∀ t, i ≤ t → t < i + n → x t = y t
  | 0, i => by simp [cmpN]; intro t h1 h2; omega
  | n + 1, i => by
    unfold cmpN
    split
    · rename_i h
      rw [cmpN_zero x y n (i + 1)]
      constructor
      · intro g t h1 h2
        by_cases e : t = i
        · rw [e]; exact h
        · exact g t (by omega) (by omega)
      · intro g t h1 h2
        exact g t (by omega) (by omega)
    · rename_i h
      constructor
      · intro g
        exact absurd ((cmpI_zero _ _).1 g) h
      · intro g
        exact absurd (g i (by omega) (by omega)) h
theorem cmpN_neg (x y : Nat → Int) : ∀ n i, cmpN x y i n < 0 ↔ ∃ j, i ≤ j ∧ j < i + n ∧ (∀ t, i ≤ t → t < j → x t = y t) ∧ x j < y j
  | 0, i => by
    simp [cmpN]
    intro j h1 h2
    omega
  | n + 1, i => by
    unfold cmpN
    split
    · rename_i h
      rw [cmpN_neg x y n (i + 1)]
      constructor
      · rintro ⟨j, h1, h2, h3, h4⟩
        refine ⟨j, by omega, by omega, fun t ht1 ht2 => ?_, h4⟩
        by_cases e : t = i
        · rw [e]; exact h
        · exact h3 t (by omega) ht2
      · rintro ⟨j, h1, h2, h3, h4⟩
        have hj : j ≠ i := fun e => by rw [e] at h4; omega
        exact ⟨j, by omega, by omega, fun t ht1 ht2 => h3 t (by omega) ht2, h4⟩
    · rename_i h
      rw [cmpI_neg]
      constructor
      · intro g
        exact ⟨i, by omega, by omega, fun t h1 h2 => by omega, g⟩
      · rintro ⟨j, h1, h2, h3, h4⟩
        by_cases e : j = i
        · rw [← e]; exact h4
        · exact absurd (h3 i (by omega) (by omega)) h
/-- A packet comes ahead of another one. -/
def ltP (x y : Nat → Int) : Prop := ∃ j, j < 6 ∧ (∀ t, t < j → x t = y t) ∧ x j < y j
theorem cmpP_neg (x y : Nat → Int) : cmpP x y < 0 ↔ ltP x y := by
  unfold cmpP ltP
  rw [cmpN_neg]
  constructor
  · rintro ⟨j, _, h2, h3, h4⟩
    exact ⟨j, by omega, fun t ht => h3 t (by omega) ht, h4⟩
  · rintro ⟨j, h2, h3, h4⟩
    exact ⟨j, by omega, by omega, fun t _ ht => h3 t ht, h4⟩
theorem cmpP_zero (x y : Nat → Int) : cmpP x y = 0 ↔ ∀ t, t < 6 → x t = y t := by
  unfold cmpP
  rw [cmpN_zero]
  exact ⟨fun h t ht => h t (by omega) (by omega), fun h t _ ht => h t (by omega)⟩
theorem ltP.irrefl (x : Nat → Int) : ¬ ltP x x := by
  rintro ⟨j, _, _, h⟩
  omega
theorem ltP.trans {x y z : Nat → Int} (h : ltP x y) (g : ltP y z) : ltP x z := by
  obtain ⟨j, h1, h2, h3⟩ := h
  obtain ⟨k, g1, g2, g3⟩ := g
  rcases Nat.lt_trichotomy j k with e | e | e
  · exact ⟨j, h1, fun t ht => (h2 t ht).trans (g2 t (by omega)), by rw [← g2 j e]; exact h3⟩
  · subst e
    exact ⟨j, h1, fun t ht => (h2 t ht).trans (g2 t ht), by omega⟩
  · exact ⟨k, g1, fun t ht => (h2 t (by omega)).trans (g2 t ht), by rw [h2 k e]; exact g3⟩
theorem first_diff (x y : Nat → Int) : ∀ n, (∀ t, t < n → x t = y t) ∨ ∃ j, j < n ∧ (∀ t, t < j → x t = y t) ∧ x j ≠ y j
  | 0 => .inl (fun t h => by omega)
  | n + 1 => by
    rcases first_diff x y n with h | ⟨j, h1, h2, h3⟩
    · by_cases e : x n = y n
      · exact .inl (fun t ht => by
          by_cases e2 : t = n
          · rw [e2]; exact e
          · exact h t (by omega))
      · exact .inr ⟨n, by omega, h, e⟩
    · exact .inr ⟨j, by omega, h2, h3⟩
theorem ltP.total (x y : Nat → Int) : ltP x y ∨ ltP y x ∨ ∀ t, t < 6 → x t = y t := by
  rcases first_diff x y 6 with h | ⟨j, h1, h2, h3⟩
  · exact .inr (.inr h)
  · rcases Int.lt_or_lt_of_ne h3 with g | g
    · exact .inl ⟨j, h1, h2, g⟩
    · exact .inr (.inl ⟨j, h1, fun t ht => (h2 t ht).symm, g⟩)
theorem ltP.cong {x y z : Nat → Int} (h : ltP x y) (g : ∀ t, t < 6 → y t = z t) : ltP x z := by
  obtain ⟨j, h1, h2, h3⟩ := h
  exact ⟨j, h1, fun t ht => (h2 t ht).trans (g t (by omega)), by rw [← g j h1]; exact h3⟩
theorem ltP.congL {x y z : Nat → Int} (h : ltP x y) (g : ∀ t, t < 6 → x t = z t) : ltP z y := by
  obtain ⟨j, h1, h2, h3⟩ := h
  exact ⟨j, h1, fun t ht => (g t (by omega)).symm.trans (h2 t ht), by rw [← g j h1]; exact h3⟩
theorem ltP.ntrans {x y z : Nat → Int} (h : ¬ ltP x y) (g : ¬ ltP y z) : ¬ ltP x z := by
  intro k
  rcases ltP.total y x with h1 | h1 | h1
  · exact g (h1.trans k)
  · exact h h1
  · exact g (k.congL (fun t ht => (h1 t ht).symm))
/-- A packet has six fields and no more. -/
def Nm (x : Nat → Int) : Prop := ∀ i, 6 ≤ i → x i = 0
theorem Nm.ext {x y : Nat → Int} (h : Nm x) (g : Nm y) (e : ∀ t, t < 6 → x t = y t) : x = y := by
  funext i
  by_cases c : i < 6
  · exact e i c
  · rw [h i (by omega), g i (by omega)]
/-- A set with a packet more. -/
def insS (k : Nat → Int) : List (Nat → Int) → List (Nat → Int)
  | [] => [k]
  | x :: r => if cmpP x k < 0 then x :: insS k r else if cmpP x k = 0 then x :: r else k :: x :: r
/-- The set of a list. -/
def setS (l : List (Nat → Int)) : List (Nat → Int) := l.foldl (fun s k => insS k s) []
/-- In order, each once. -/
def Srt (l : List (Nat → Int)) : Prop := l.Pairwise ltP
theorem insS_mem {k : Nat → Int} (hk : Nm k) : ∀ {l : List (Nat → Int)}, (∀ x ∈ l, Nm x) → ∀ x, x ∈ insS k l ↔ x = k ∨ x ∈ l
  | [], _, x => by simp [insS]
  | y :: r, hn, x => by
    unfold insS
    split
    · rw [List.mem_cons, insS_mem hk (fun z hz => hn z (List.mem_cons_of_mem _ hz)), List.mem_cons]
      constructor
      · rintro (h | h | h)
        · exact .inr (.inl h)
        · exact .inl h
        · exact .inr (.inr h)
      · rintro (h | h | h)
        · exact .inr (.inl h)
        · exact .inl h
        · exact .inr (.inr h)
    · split
      · rename_i _ h0
        have e : y = k := (hn y (by simp)).ext hk ((cmpP_zero _ _).1 h0)
        simp [e]
      · simp
theorem insS_srt {k : Nat → Int} (hk : Nm k) : ∀ {l : List (Nat → Int)}, (∀ x ∈ l, Nm x) → Srt l → Srt (insS k l)
  | [], _, _ => by simp [insS, Srt]
  | y :: r, hn, hs => by
    unfold Srt at hs ⊢
    rw [List.pairwise_cons] at hs
    unfold insS
    split
    · rename_i h
      rw [List.pairwise_cons]
      refine ⟨fun z hz => ?_, insS_srt hk (fun z hz => hn z (List.mem_cons_of_mem _ hz)) hs.2⟩
      rcases (insS_mem hk (fun z hz => hn z (List.mem_cons_of_mem _ hz)) z).1 hz with e | e
      · rw [e]; exact (cmpP_neg _ _).1 h
      · exact hs.1 z e
    · split
      · rw [List.pairwise_cons]; exact hs
      · rename_i h1 h2
        have hlt : ltP k y := by
          rcases ltP.total y k with h | h | h
          · exact absurd ((cmpP_neg _ _).2 h) h1
          · exact h
          · exact absurd ((cmpP_zero _ _).2 h) h2
        rw [List.pairwise_cons, List.pairwise_cons]
        exact ⟨fun z hz => by
          rcases List.mem_cons.1 hz with e | e
          · rw [e]; exact hlt
          · exact hlt.trans (hs.1 z e), hs⟩
theorem foldS {l : List (Nat → Int)} : ∀ {s : List (Nat → Int)}, (∀ x ∈ l, Nm x) → (∀ x ∈ s, Nm x) → Srt s → Srt (l.foldl (fun s k => insS k s) s) ∧ ∀ x, x ∈ l.foldl (fun s k => insS k s) s ↔ x ∈ l ∨ x ∈ s := by
  induction l with
  | nil => intro s _ _ hs; exact ⟨hs, fun x => by simp⟩
  | cons k l ih =>
    intro s hl hn hs
    have hk := hl k (by simp)
    have hm := insS_mem hk hn
    obtain ⟨h1, h2⟩ := ih (s := insS k s) (fun x hx => hl x (List.mem_cons_of_mem _ hx)) (fun x hx => by
      rcases (hm x).1 hx with e | e
      · rw [e]; exact hk
      · exact hn x e) (insS_srt hk hn hs)
    refine ⟨h1, fun x => ?_⟩
    rw [List.foldl_cons, h2, hm, List.mem_cons]
    constructor
    · rintro (h | h | h)
      · exact .inl (.inr h)
      · exact .inl (.inl h)
      · exact .inr h
    · rintro ((h | h) | h)
      · exact .inr (.inl h)
      · exact .inl h
      · exact .inr (.inr h)
theorem setS_srt {l : List (Nat → Int)} (hl : ∀ x ∈ l, Nm x) : Srt (setS l) := (foldS (s := []) hl (fun x hx => by simp at hx) (by simp [Srt])).1
theorem setS_mem {l : List (Nat → Int)} (hl : ∀ x ∈ l, Nm x) (x : Nat → Int) : x ∈ setS l ↔ x ∈ l := by
  have := (foldS (s := []) hl (fun x hx => by simp at hx) (by simp [Srt])).2 x
  unfold setS
  rw [this]
  simp
theorem srt_one : ∀ {l m : List (Nat → Int)}, Srt l → Srt m → (∀ x, x ∈ l ↔ x ∈ m) → l = m
  | [], [], _, _, _ => rfl
  | [], y :: m, _, _, h => by have := (h y).2 (by simp); simp at this
  | x :: l, [], _, _, h => by have := (h x).1 (by simp); simp at this
  | x :: l, y :: m, hl, hm, h => by
    unfold Srt at hl hm
    rw [List.pairwise_cons] at hl hm
    have e : x = y := by
      rcases List.mem_cons.1 ((h x).1 (by simp)) with a | a
      · exact a
      · rcases List.mem_cons.1 ((h y).2 (by simp)) with b | b
        · exact b.symm
        · exact absurd ((hm.1 x a).trans (hl.1 y b)) (ltP.irrefl _)
    subst e
    have hx1 : x ∉ l := fun g => ltP.irrefl _ (hl.1 x g)
    have hx2 : x ∉ m := fun g => ltP.irrefl _ (hm.1 x g)
    rw [srt_one (l := l) (m := m) hl.2 hm.2 (fun z => by
      constructor
      · intro g
        rcases List.mem_cons.1 ((h z).1 (List.mem_cons_of_mem _ g)) with a | a
        · rw [a] at g; exact absurd g hx1
        · exact a
      · intro g
        rcases List.mem_cons.1 ((h z).2 (List.mem_cons_of_mem _ g)) with a | a
        · rw [a] at g; exact absurd g hx2
        · exact a)]
/-- The first so many of a row, without those that stand behind one that is the same. -/
def compN (d : Nat → Nat → Int) : Nat → List (Nat → Int)
  | 0 => []
  | n + 1 => if n ≠ 0 ∧ cmpP (d n) (d (n - 1)) = 0 then compN d n else compN d n ++ [d n]
theorem compN_mem {d : Nat → Nat → Int} : ∀ {n : Nat}, (∀ j, j < n → Nm (d j)) → ∀ x, x ∈ compN d n ↔ ∃ j, j < n ∧ x = d j
  | 0, _, x => by simp [compN]
  | n + 1, hn, x => by
    have ih := compN_mem (d := d) (n := n) (fun j hj => hn j (by omega)) x
    unfold compN
    split
    · rename_i h
      rw [ih]
      constructor
      · rintro ⟨j, h1, h2⟩
        exact ⟨j, by omega, h2⟩
      · rintro ⟨j, h1, h2⟩
        by_cases e : j = n
        · refine ⟨n - 1, by omega, ?_⟩
          rw [h2, e]
          exact (hn n (by omega)).ext (hn (n - 1) (by omega)) ((cmpP_zero _ _).1 h.2)
        · exact ⟨j, by omega, h2⟩
    · rw [List.mem_append, ih]
      simp only [List.mem_singleton]
      constructor
      · rintro (⟨j, h1, h2⟩ | h)
        · exact ⟨j, by omega, h2⟩
        · exact ⟨n, by omega, h⟩
      · rintro ⟨j, h1, h2⟩
        by_cases e : j = n
        · rw [e] at h2; exact .inr h2
        · exact .inl ⟨j, by omega, h2⟩
theorem compN_srt {d : Nat → Nat → Int} : ∀ {n : Nat}, (∀ j, j < n → Nm (d j)) → (∀ i j, i < j → j < n → ¬ ltP (d j) (d i)) → Srt (compN d n)
  | 0, _, _ => by simp [compN, Srt]
  | n + 1, hn, hs => by
    have ih := compN_srt (d := d) (n := n) (fun j hj => hn j (by omega)) (fun i j h1 h2 => hs i j h1 (by omega))
    unfold compN
    split
    · exact ih
    · rename_i h
      unfold Srt at ih ⊢
      rw [List.pairwise_append]
      refine ⟨ih, by simp, fun x hx y hy => ?_⟩
      simp only [List.mem_singleton] at hy
      subst hy
      obtain ⟨j, hj, rfl⟩ := (compN_mem (d := d) (n := n) (fun j hj => hn j (by omega)) x).1 hx
      have h1 : ltP (d (n - 1)) (d n) := by
        rcases ltP.total (d (n - 1)) (d n) with g | g | g
        · exact g
        · exact absurd g (hs (n - 1) n (by omega) (by omega))
        · exact absurd ⟨by omega, (cmpP_zero _ _).2 (fun t ht => (g t ht).symm)⟩ h
      by_cases e : j = n - 1
      · rw [e]; exact h1
      · have h2 := hs j (n - 1) (by omega) (by omega)
        rcases ltP.total (d j) (d (n - 1)) with g | g | g
        · exact g.trans h1
        · exact absurd g h2
        · exact h1.congL (fun t ht => (g t ht).symm)
theorem compN_len (d : Nat → Nat → Int) : ∀ n, (compN d n).length ≤ n
  | 0 => by simp [compN]
  | n + 1 => by
    have := compN_len d n
    unfold compN
    split
    · omega
    · simp; omega
/-- What a sorted row comes to without its repetitions. -/
theorem compN_set {d : Nat → Nat → Int} {n : Nat} {l : List (Nat → Int)} (hn : ∀ j, j < n → Nm (d j)) (hs : ∀ i j, i < j → j < n → ¬ ltP (d j) (d i)) (hl : ∀ x ∈ l, Nm x) (hm : ∀ x, x ∈ l ↔ ∃ j, j < n ∧ x = d j) : compN d n = setS l :=
  srt_one (compN_srt hn hs) (setS_srt hl) (fun x => by rw [compN_mem hn, setS_mem hl, hm])
end Go.Proofs.Ytlhkfafdioakeaa
