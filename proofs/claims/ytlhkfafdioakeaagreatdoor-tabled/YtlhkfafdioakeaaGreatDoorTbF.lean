/- Proved here: lists of rules that are owned: with actions in blocks of their own. -/
import Derived.Test.YtlhkfafdioakeaaGreatDoorTbE
namespace Go.Proofs.YtlhkfafdioakeaaGreatDoor
open Go.RowKit Go.Weft
set_option linter.unusedVariables false
set_option linter.unusedSimpArgs false
theorem ownsR_slice {w : World} {B : Nat} {T : TypeId} {size : Nat} {v : Value} {n : Nat} {xs : List Value} (h : w.ownsRow B T size v n xs) : ∃ a c, v = .slice a n c := by
  rcases h.2 with ⟨rfl, rfl⟩ | ⟨g, cap, cur, rfl, _⟩
  · exact ⟨_, _, rfl⟩
  · exact ⟨_, _, rfl⟩
theorem flR_cong2 (rs ts : Nat → Rl) : ∀ n, (∀ j, j < n → (rs j).prio = (ts j).prio ∧ (rs j).mt = (ts j).mt ∧ (rs j).av = (ts j).av) → flR rs n = flR ts n
  | 0, _ => rfl
  | n + 1, h => by rw [flR, flR, flR_cong2 rs ts n (fun j hj => h j (by omega)), (h n (by omega)).1, (h n (by omega)).2.1, (h n (by omega)).2.2]
/-- One list behind another one. -/
def catR {α : Type} (n : Nat) (rs ts : Nat → α) : Nat → α := fun j => if j < n then rs j else ts (j - n)
theorem catR_l {α : Type} {n : Nat} {rs ts : Nat → α} {j : Nat} (h : j < n) : catR n rs ts j = rs j := by unfold catR; rw [if_pos h]
theorem catR_r {α : Type} {n : Nat} {rs ts : Nat → α} {j : Nat} (h : n ≤ j) : catR n rs ts j = ts (j - n) := by unfold catR; rw [if_neg (by omega)]
theorem flR_cat (n : Nat) (rs ts : Nat → Rl) : ∀ m, flR (catR n rs ts) (n + m) = flR rs n ++ flR ts m
  | 0 => by
    rw [Nat.add_zero, flR_cong2 (catR n rs ts) rs n (fun j hj => by rw [catR_l hj]; exact ⟨rfl, rfl, rfl⟩)]
    simp [flR]
  | m + 1 => by
    rw [← Nat.add_assoc, flR, flR_cat n rs ts m, catR_r (by omega), show n + m - n = m by omega, flR, List.append_assoc]
theorem prL_cat (n m : Nat) (rs ts : Nat → Rl) (AL BL : Nat → List (Nat → Int)) : prL (catR n rs ts) (catR n AL BL) (n + m) = prL rs AL n ++ prL ts BL m := by
  unfold prL
  rw [List.range_add, List.map_append, List.map_map]
  congr 1
  · exact List.map_congr_left (fun j hj => by rw [catR_l (List.mem_range.1 hj), catR_l (List.mem_range.1 hj)])
  · refine List.map_congr_left (fun j hj => ?_)
    show ((catR n rs ts (n + j)).mt, catR n AL BL (n + j)) = _
    rw [catR_r (by omega), catR_r (by omega), show n + j - n = j by omega]
theorem owns_mono {w : World} {base base' : Nat} {e : TypeId} {size : Nat} {v : Value} {n : Nat} {xs : List Value} (h : w.ownsRow base e size v n xs) (hb : base' ≤ base) : w.ownsRow base' e size v n xs := by
  obtain ⟨h1, h2⟩ := h
  refine ⟨h1, h2.imp id ?_⟩
  rintro ⟨g, cap, cur, e, h0, h3⟩
  exact ⟨g, cap, cur, e, by omega, h3⟩
/-- A list of rules that is owned, each of them with actions of its own. -/
structure RlO (B : Nat) (w : World) (v : Value) (N : Nat) (rs : Nat → Rl) (AL : Nat → List (Nat → Int)) : Prop where
  row : w.ownsRow B 68 8 v N (flR rs N)
  own : ∀ j, j < N → OwnV B w (rs j).av (rs j).na (rs j).acts
  is : ∀ j, j < N → Is (AL j) (rs j).na (rs j).acts
  anm : ∀ j, j < N → ∀ x ∈ AL j, Nm x
  nm : ∀ j, j < N → Nm (rs j).mt
  prio : ∀ j, j < N → (rs j).prio = 0
  apart : ∀ i j, i < j → j < N → ∀ b, (rs i).av.ownBlock = some b → (rs j).av.ownBlock ≠ some b
theorem RlO.nil (B : Nat) (w : World) (rs : Nat → Rl) (AL : Nat → List (Nat → Int)) : RlO B w (.slice none 0 0) 0 rs AL :=
  ⟨⟨rfl, .inl ⟨rfl, rfl⟩⟩, fun _ h => by omega, fun _ h => by omega, fun _ h => by omega, fun _ h => by omega, fun _ h => by omega, fun _ _ _ h => by omega⟩
theorem RlO.mono {B C : Nat} {w : World} {v : Value} {N : Nat} {rs : Nat → Rl} {AL : Nat → List (Nat → Int)} (h : RlO B w v N rs AL) (hc : C ≤ B) : RlO C w v N rs AL :=
  ⟨owns_mono h.row hc, fun j hj => (h.own j hj).mono hc, h.is, h.anm, h.nm, h.prio, h.apart⟩
/-- Something else is written. -/
theorem RlO.kept {B : Nat} {w w' : World} {v : Value} {N : Nat} {rs : Nat → Rl} {AL : Nat → List (Nat → Int)} {row : Option Nat} (h : RlO B w v N rs AL) (hg : w.grownBy w' row) (hr : ∀ b, row = some b → v.ownBlock ≠ some b ∧ ∀ j, j < N → (rs j).av.ownBlock ≠ some b) : RlO B w' v N rs AL := by
  refine ⟨h.row.kept hg ?_, fun j hj => (h.own j hj).grown hg (fun b e => (hr b e).2 j hj), h.is, h.anm, h.nm, h.prio, h.apart⟩
  cases hv : v.ownBlock with
  | none => exact .inl rfl
  | some b => exact .inr (fun e => (hr b e.symm).1 hv)
theorem RlO.lt {B : Nat} {w : World} {v : Value} {N : Nat} {rs : Nat → Rl} {AL : Nat → List (Nat → Int)} (h : RlO B w v N rs AL) : (∀ b, v.ownBlock = some b → B ≤ b ∧ b < w.heap.size) ∧ ∀ j, j < N → ∀ b, (rs j).av.ownBlock = some b → B ≤ b ∧ b < w.heap.size :=
  ⟨h.row.lt, fun j hj => (h.own j hj).lt⟩
/-- What lies ahead of it is written. -/
theorem RlO.low {B : Nat} {w w' : World} {v : Value} {N : Nat} {rs : Nat → Rl} {AL : Nat → List (Nat → Int)} {row : Option Nat} (h : RlO B w v N rs AL) (hg : w.grownBy w' row) (hr : ∀ b, row = some b → b < B) : RlO B w' v N rs AL :=
  h.kept hg (fun b e => ⟨fun k => by have := (h.lt.1 b k).1; have := hr b e; omega, fun j hj k => by have := (h.lt.2 j hj b k).1; have := hr b e; omega⟩)
/-- All of it lies below. -/
def RlU (C : Nat) (v : Value) (N : Nat) (rs : Nat → Rl) : Prop := (∀ b, v.ownBlock = some b → b < C) ∧ ∀ j, j < N → ∀ b, (rs j).av.ownBlock = some b → b < C
theorem RlO.under {B : Nat} {w : World} {v : Value} {N : Nat} {rs : Nat → Rl} {AL : Nat → List (Nat → Int)} (h : RlO B w v N rs AL) : RlU w.heap.size v N rs := ⟨fun b e => (h.lt.1 b e).2, fun j hj b e => (h.lt.2 j hj b e).2⟩
theorem RlO.high {B C : Nat} {w w' : World} {v : Value} {N : Nat} {rs : Nat → Rl} {AL : Nat → List (Nat → Int)} {row : Option Nat} (h : RlO B w v N rs AL) (hu : RlU C v N rs) (hg : w.grownBy w' row) (hr : ∀ b, row = some b → C ≤ b) : RlO B w' v N rs AL :=
  h.kept hg (fun b e => ⟨fun k => by have := hu.1 b k; have := hr b e; omega, fun j hj k => by have := hu.2 j hj b k; have := hr b e; omega⟩)
theorem RlO.slice {B : Nat} {w : World} {v : Value} {N : Nat} {rs : Nat → Rl} {AL : Nat → List (Nat → Int)} (h : RlO B w v N rs AL) : ∃ a c, v = .slice a N c := ownsR_slice h.row
theorem RlO.cellAt {B : Nat} {w : World} {g N c : Nat} {rs : Nat → Rl} {AL : Nat → List (Nat → Int)} (h : RlO B w (.slice (some ⟨g, 0, none⟩) N c) N rs AL) : ∀ j u, (flR rs N)[j]? = some u → w.cell? ((⟨g, 0, none⟩ : Addr).add j) = some u := by
  intro j u hj
  obtain ⟨_, hr⟩ := h.row
  rcases hr with ⟨e, _⟩ | ⟨g', cap, cur, e, _, h1, _, _, _, h5⟩
  · cases e
  · cases e
    rw [show (⟨g, 0, none⟩ : Addr).add j = ⟨g, j, none⟩ by unfold Addr.add; split <;> simp_all]
    simp only [World.cell?, h1]
    rw [← h5] at hj
    have hl : j < N * 8 := by
      rcases Nat.lt_or_ge j (N * 8) with e | e
      · exact e
      · rw [List.getElem?_eq_none (by simp; omega)] at hj; cases hj
    rw [List.getElem?_take_of_lt hl] at hj
    simpa using hj
/-- It is a list that may be read. -/
theorem RlO.rd {B : Nat} {w : World} {v : Value} {N : Nat} {rs : Nat → Rl} {AL : Nat → List (Nat → Int)} (h : RlO B w v N rs AL) (hn : N ≤ 3000000000000) : RdR w v N rs AL := by
  refine ⟨?_, h.nm, h.is, h.anm⟩
  obtain ⟨_, hr⟩ := h.row
  rcases hr with ⟨rfl, rfl⟩ | ⟨g, cap, cur, rfl, _, h1, h2, h3, h4, h5⟩
  · exact .inl ⟨_, _, rfl, rfl⟩
  · have cc : ∀ j, j < N → ∀ i, i < 8 → w.cell? ⟨g, j * 8 + i, none⟩ = some (rlC (rs j).prio (rs j).mt (rs j).av i) := fun j hj i hi => by
      have := flR_get rs N j i hj hi
      rw [← h5, List.getElem?_take_of_lt (by omega)] at this
      simp only [World.cell?, h1]
      simpa using this
    refine .inr ⟨g, 0, cap, rfl, hn, fun j hj => ⟨?_, fun i hi => ?_, ?_, (h.own j hj).row.any⟩⟩
    · rw [Nat.zero_add]; exact cc j hj 0 (by omega)
    · have := cc j hj (1 + i) (by omega)
      rw [Nat.zero_add, this]
      unfold rlC
      rw [if_neg (by omega), if_pos (by omega), show 1 + i - 1 = i by omega]
    · rw [Nat.zero_add]; exact cc j hj 7 (by omega)
/-- One number of a match is written. -/
def tagR (f : Nat) (z : Int) (i : Nat) (rs : Nat → Rl) : Nat → Rl := fun j => if j < i then ⟨(rs j).prio, putF (rs j).mt f z, (rs j).na, (rs j).acts, (rs j).av⟩ else rs j
theorem tagR_na {f : Nat} {z : Int} {i : Nat} {rs : Nat → Rl} (j : Nat) : (tagR f z i rs j).na = (rs j).na ∧ (tagR f z i rs j).acts = (rs j).acts ∧ (tagR f z i rs j).av = (rs j).av ∧ (tagR f z i rs j).prio = (rs j).prio := by
  unfold tagR; split <;> exact ⟨rfl, rfl, rfl, rfl⟩
theorem tagR_zero (f : Nat) (z : Int) (rs : Nat → Rl) : tagR f z 0 rs = rs := by funext j; unfold tagR; rw [if_neg (by omega)]
theorem flR_tag (f : Nat) (hf : f < 6) (z : Int) (rs : Nat → Rl) (i N : Nat) (hi : i < N) : (flR (tagR f z i rs) N).set (i * 8 + (1 + f)) (.int .i64 z) = flR (tagR f z (i + 1) rs) N := by
  refine List.ext_getElem? (fun t => ?_)
  by_cases ht : t < N * 8
  · have h1 := flR_get (tagR f z i rs) N (t / 8) (t % 8) (by omega) (by omega)
    have h2 := flR_get (tagR f z (i + 1) rs) N (t / 8) (t % 8) (by omega) (by omega)
    rw [show t / 8 * 8 + t % 8 = t by omega] at h1 h2
    rw [List.getElem?_set, h1, h2, flR_len]
    obtain ⟨_, _, e1, e2⟩ := tagR_na (f := f) (z := z) (i := i) (rs := rs) (t / 8)
    obtain ⟨_, _, e3, e4⟩ := tagR_na (f := f) (z := z) (i := i + 1) (rs := rs) (t / 8)
    rw [e1, e2, e3, e4]
    by_cases e : i * 8 + (1 + f) = t
    · rw [if_pos e, if_pos (by omega)]
      have ed : t / 8 = i := by omega
      have em : t % 8 = 1 + f := by omega
      rw [em, ed]
      unfold rlC tagR putF
      rw [if_neg (by omega), if_pos (by omega), if_pos (by omega)]
      simp
    · rw [if_neg e]
      congr 1
      unfold rlC
      split
      · rfl
      · split
        · rename_i h0 h7
          congr 1
          unfold tagR
          by_cases a : t / 8 < i
          · rw [if_pos a, if_pos (by omega)]
          · rw [if_neg a]
            by_cases b : t / 8 = i
            · rw [if_pos (by omega)]
              show (rs (t / 8)).mt (t % 8 - 1) = putF (rs (t / 8)).mt f z (t % 8 - 1)
              unfold putF
              rw [if_neg (by omega)]
            · rw [if_neg (by omega)]
        · rfl
  · rw [List.getElem?_eq_none (by simp [flR_len]; omega), List.getElem?_eq_none (by rw [flR_len]; omega)]
theorem RlO.tag {B : Nat} {w : World} {g N c : Nat} {rs : Nat → Rl} {AL : Nat → List (Nat → Int)} {f : Nat} (hf : f < 6) {z : Int} {i : Nat} (hi : i < N) (h : RlO B w (.slice (some ⟨g, 0, none⟩) N c) N (tagR f z i rs) AL) : RlO B (w.setCell ⟨g, i * 8 + (1 + f), none⟩ (.int .i64 z)) (.slice (some ⟨g, 0, none⟩) N c) N (tagR f z (i + 1) rs) AL := by
  have hg := grown_set w g (i * 8 + (1 + f)) (.int .i64 z)
  have ht := owns_tagged h.row
  have e1 := fun j => tagR_na (f := f) (z := z) (i := i) (rs := rs) j
  have e2 := fun j => tagR_na (f := f) (z := z) (i := i + 1) (rs := rs) j
  refine ⟨?_, fun j hj => ?_, fun j hj => ?_, h.anm, fun j hj => ?_, fun j hj => ?_, fun a b hab hb => ?_⟩
  · obtain ⟨hl, hr⟩ := h.row
    rcases hr with ⟨e, _⟩ | ⟨g', cap, cur, e, h0, h1, h2, h3, h4, h5⟩
    · cases e
    · cases e
      refine ⟨by rw [flR_len], .inr ⟨g, c, _, rfl, h0, heap_set h1 _ _, h2, h3, by simp [h4], ?_⟩⟩
      rw [← flR_tag f hf z rs i N hi, ← h5]
      simp [List.take_set]
  · have := h.own j hj
    rw [(e1 j).1, (e1 j).2.1, (e1 j).2.2.1] at this
    rw [(e2 j).1, (e2 j).2.1, (e2 j).2.2.1]
    exact ownV_keptT this hg (fun b e => by cases e; exact ht _ rfl) (by decide)
  · have := h.is j hj
    rw [(e1 j).1, (e1 j).2.1] at this
    rw [(e2 j).1, (e2 j).2.1]
    exact this
  · have := h.nm j hj
    unfold tagR at this ⊢
    by_cases a : j < i
    · rw [if_pos a] at this; rw [if_pos (by omega)]; exact this
    · rw [if_neg a] at this
      split
      · intro q hq
        show putF (rs j).mt f z q = 0
        unfold putF
        rw [if_neg (by omega)]; exact this q hq
      · exact this
  · rw [(e2 j).2.2.2, ← (e1 j).2.2.2]; exact h.prio j hj
  · rw [(e2 a).2.2.1, (e2 b).2.2.1, ← (e1 a).2.2.1, ← (e1 b).2.2.1]; exact h.apart a b hab hb
/-- One list laid behind another one. -/
theorem RlO.cat {B C : Nat} {w w' : World} {v u v' : Value} {N M : Nat} {rs ts : Nat → Rl} {AL BL : Nat → List (Nat → Int)} (h : RlO B w v N rs AL) (k : RlO C w u M ts BL) (hCB : C ≤ B ∨ B ≤ C)
    (hne : ∀ i j, i < N → j < M → ∀ b, (rs i).av.ownBlock = some b → (ts j).av.ownBlock ≠ some b) (D : Nat) (hD : D ≤ B ∧ D ≤ C) (hv : w'.ownsRow D 68 8 v' (N + M) (flR rs N ++ flR ts M)) (hg : w.grownBy w' v.ownBlock) : RlO D w' v' (N + M) (catR N rs ts) (catR N AL BL) := by
  have ht : ∀ b, v.ownBlock = some b → blkT w b 68 := fun b hb => owns_tagged h.row b hb
  refine ⟨by rw [flR_cat]; exact hv, fun j hj => ?_, fun j hj => ?_, fun j hj => ?_, fun j hj => ?_, fun j hj => ?_, fun i j hij hj => ?_⟩
  · by_cases e : j < N
    · rw [catR_l e]; exact ownV_keptT ((h.own j e).mono hD.1) hg ht (by decide)
    · rw [catR_r (by omega)]; exact ownV_keptT ((k.own (j - N) (by omega)).mono hD.2) hg ht (by decide)
  · by_cases e : j < N
    · rw [catR_l e, catR_l e]; exact h.is j e
    · rw [catR_r (by omega), catR_r (by omega)]; exact k.is _ (by omega)
  · by_cases e : j < N
    · rw [catR_l e]; exact h.anm j e
    · rw [catR_r (by omega)]; exact k.anm _ (by omega)
  · by_cases e : j < N
    · rw [catR_l e]; exact h.nm j e
    · rw [catR_r (by omega)]; exact k.nm _ (by omega)
  · by_cases e : j < N
    · rw [catR_l e]; exact h.prio j e
    · rw [catR_r (by omega)]; exact k.prio _ (by omega)
  · by_cases e : j < N
    · rw [catR_l e, catR_l (show i < N by omega)]; exact h.apart i j hij e
    · rw [catR_r (show N ≤ j by omega)]
      by_cases e2 : i < N
      · rw [catR_l e2]; exact hne i (j - N) e2 (by omega)
      · rw [catR_r (show N ≤ i by omega)]; exact k.apart _ _ (by omega) (by omega)
theorem prL_tag (f : Nat) (z : Int) (rs : Nat → Rl) (AL : Nat → List (Nat → Int)) (N : Nat) : prL (tagR f z N rs) AL N = (prL rs AL N).map fun r => (putF r.1 f z, r.2) := by
  unfold prL
  rw [List.map_map]
  refine List.map_congr_left (fun j hj => ?_)
  unfold tagR
  rw [if_pos (List.mem_range.1 hj)]
  rfl
theorem rules_ne {T : Nat → List Int} {o : Nat → Int} {ac : (Nat → Int) → List (Nat → Int)} : ∀ (n : Nat) (k : Nat → Int), rulesS T o ac n k ≠ []
  | 0, k => by rw [rulesS]; simp
  | n + 1, k => by
    rw [rulesS]
    intro h
    exact rules_ne n _ (List.append_eq_nil_iff.1 h).2
end Go.Proofs.YtlhkfafdioakeaaGreatDoor
