/- GLh: several parts, each with what it proves in plain words at its head. -/
import Derived.Test.YtlhkfafdioakeaaGreatDoorGLa
import Derived.Laws.AppendOwnNone
import Derived.Deep.RegionWith
import Derived.Deep.CutBlock
import Derived.Deep.RegionHeld3
import Derived.Deep.RegionLaw
import Derived.Deep.RegionLawGrows
/- Proved here: appending packets; which of two packets is less, what a rule matches, a set with a packet more: the document's. -/
namespace Go.Proofs.YtlhkfafdioakeaaGreatDoor
open Go.RowKit
set_option linter.unusedVariables false
set_option linter.unusedSimpArgs false
/-- The cells of so many packets. -/
def fl (ps : Nat → Nat → Int) : Nat → List Value
  | 0 => []
  | n + 1 => fl ps n ++ pkCs (ps n)
theorem fl_len (ps : Nat → Nat → Int) : ∀ n, (fl ps n).length = n * 6
  | 0 => rfl
  | n + 1 => by rw [fl, List.length_append, fl_len ps n]; simp [pkCs]; omega
theorem pkCs_get? (k : Nat → Int) (i : Nat) (h : i < 6) : (pkCs k)[i]? = some (.int .i64 (k i)) := by
  rcases (show i = 0 ∨ i = 1 ∨ i = 2 ∨ i = 3 ∨ i = 4 ∨ i = 5 by omega) with rfl | rfl | rfl | rfl | rfl | rfl <;> rfl
theorem fl_get (ps : Nat → Nat → Int) : ∀ n j i, j < n → i < 6 → (fl ps n)[j * 6 + i]? = some (.int .i64 (ps j i))
  | 0, _, _, h, _ => by omega
  | n + 1, j, i, h, hi => by
    rw [fl]
    by_cases e : j = n
    · subst e
      rw [List.getElem?_append_right (by rw [fl_len]; omega), fl_len, show j * 6 + i - j * 6 = i by omega, pkCs_get? _ _ hi]
    · rw [List.getElem?_append_left (by rw [fl_len]; omega)]
      exact fl_get ps n j i (by omega) hi
theorem fl_one (ps : Nat → Nat → Int) (n : Nat) : ∀ v ∈ fl ps n, v.oneCell' = true := by
  induction n with
  | zero => intro v hv; simp [fl] at hv
  | succ n ih =>
    intro v hv
    rw [fl, List.mem_append] at hv
    rcases hv with h | h
    · exact ih v h
    · simp [pkCs] at h
      rcases h with rfl | rfl | rfl | rfl | rfl | rfl <;> rfl
theorem fl_cong {ps qs : Nat → Nat → Int} : ∀ {n : Nat}, (∀ j, j < n → ∀ i, i < 6 → ps j i = qs j i) → fl ps n = fl qs n
  | 0, _ => rfl
  | n + 1, h => by
    rw [fl, fl, fl_cong (n := n) (fun j hj => h j (by omega))]
    unfold pkCs
    rw [h n (by omega) 0 (by omega), h n (by omega) 1 (by omega), h n (by omega) 2 (by omega), h n (by omega) 3 (by omega), h n (by omega) 4 (by omega), h n (by omega) 5 (by omega)]
/-- Two rows, one behind the other. -/
def cat (n : Nat) (ps qs : Nat → Nat → Int) : Nat → Nat → Int := fun j => if j < n then ps j else qs (j - n)
theorem fl_cat (ps qs : Nat → Nat → Int) (n : Nat) : ∀ m, fl (cat n ps qs) (n + m) = fl ps n ++ fl qs m
  | 0 => by
    rw [Nat.add_zero, fl, List.append_nil]
    exact fl_cong (fun j hj i hi => by unfold cat; rw [if_pos hj])
  | m + 1 => by
    rw [← Nat.add_assoc, fl, fl_cat ps qs n m, fl, List.append_assoc]
    unfold cat
    rw [if_neg (by omega), Nat.add_sub_cancel_left]
theorem OwnV.owns {B : Nat} {w : World} {v : Value} {n : Nat} {d : Nat → Nat → Int} (h : OwnV B w v n d) : w.ownsRow B 46 6 v n (fl d n) := by
  rcases h with ⟨rfl, rfl⟩ | ⟨g, cap, h1, rfl, cur, g1, g2, g3, g4, g5⟩
  · exact ⟨rfl, .inl ⟨rfl, rfl⟩⟩
  · refine ⟨fl_len d n, .inr ⟨g, cap, cur, rfl, h1, g1, g3, by unfold maxLen; omega, g2, ?_⟩⟩
    apply List.ext_getElem?
    intro t
    by_cases ht : t < n * 6
    · rw [List.getElem?_take_of_lt ht, Array.getElem?_toList]
      have h1 := g5 (t / 6) (by omega) (t % 6) (by omega)
      have h2 := fl_get d n (t / 6) (t % 6) (by omega) (by omega)
      rw [show t / 6 * 6 + t % 6 = t by omega] at h1 h2
      rw [h1, h2]
    · rw [List.getElem?_eq_none (by rw [List.length_take]; omega), List.getElem?_eq_none (by rw [fl_len]; omega)]
theorem OwnV.of {B : Nat} {w : World} {v : Value} {n : Nat} {d : Nat → Nat → Int} (h : w.ownsRow B 46 6 v n (fl d n)) (hn : n ≤ 3000000000000) : OwnV B w v n d := by
  rcases h.2 with ⟨h1, h2⟩ | ⟨g, cap, cur, h1, h2, h3, h4, h5, h6, h7⟩
  · exact .inl ⟨h1, h2⟩
  · refine .inr ⟨g, cap, h2, h1, cur, h3, h6, h4, ⟨by unfold maxLen at h5; omega, hn⟩, fun j hj i hi => ?_⟩
    have := fl_get d n j i hj hi
    rw [← h7, List.getElem?_take_of_lt (by omega), Array.getElem?_toList] at this
    exact this
theorem OwnV.row {B : Nat} {w : World} {v : Value} {n : Nat} {d : Nat → Nat → Int} (h : OwnV B w v n d) : PkRow w v n d := by
  rcases h with h | ⟨g, cap, _, rfl, h⟩
  · exact .inl h
  · exact h.row
theorem OwnV.slice {B : Nat} {w : World} {v : Value} {n : Nat} {d : Nat → Nat → Int} (h : OwnV B w v n d) : ∃ a c, v = .slice a n c := by
  rcases h with ⟨rfl, rfl⟩ | ⟨g, cap, _, rfl, h⟩
  · exact ⟨_, _, rfl⟩
  · exact ⟨_, _, rfl⟩
theorem OwnV.grown {B : Nat} {w w' : World} {v : Value} {n : Nat} {d : Nat → Nat → Int} {row : Option Nat} (h : OwnV B w v n d) (hg : w.grownBy w' row) (hr : ∀ b, row = some b → v.ownBlock ≠ some b) : OwnV B w' v n d := by
  rcases h with h | ⟨g, cap, h1, h2, h3⟩
  · exact .inl h
  · refine .inr ⟨g, cap, h1, h2, h3.grown hg (fun e => hr g e (by rw [h2]; rfl))⟩
theorem OwnV.mono {B C : Nat} {w : World} {v : Value} {n : Nat} {d : Nat → Nat → Int} (h : OwnV B w v n d) (hc : C ≤ B) : OwnV C w v n d := by
  rcases h with h | ⟨g, cap, h1, h2, h3⟩
  · exact .inl h
  · exact .inr ⟨g, cap, by omega, h2, h3⟩
theorem OwnV.cong {B : Nat} {w : World} {v : Value} {n : Nat} {d e : Nat → Nat → Int} (h : OwnV B w v n d) (he : ∀ j, j < n → ∀ i, i < 6 → d j i = e j i) : OwnV B w v n e := by
  rcases h with h | ⟨g, cap, h1, h2, h3⟩
  · exact .inl h
  · exact .inr ⟨g, cap, h1, h2, h3.cong he⟩
theorem OwnV.nil (B : Nat) (w : World) (d : Nat → Nat → Int) : OwnV B w (.slice none 0 0) 0 d := .inl ⟨rfl, rfl⟩
theorem OwnV.lt {B : Nat} {w : World} {v : Value} {n : Nat} {d : Nat → Nat → Int} (h : OwnV B w v n d) : ∀ b, v.ownBlock = some b → B ≤ b ∧ b < w.heap.size := by
  intro b hb
  rcases h with ⟨rfl, _⟩ | ⟨g, cap, h1, rfl, h3⟩
  · cases hb
  · cases hb
    exact ⟨h1, h3.lt⟩
/-- append(s, x...) of packets: onto a row of the call's own, from anywhere. -/
theorem wpList_append_pk {ops : Array Oper} {rest : List Oper} {o : Oper} {a : Act} {Q : Exit → Act → World → Prop} (w : World) (hgd : o.guard = none) (s x : Operand)
    (ho : o.op = .call { callee := .builtin .append, args := #[s, x], argTypes := #[29, 29] })
    (B : Nat) (v : Value) (n : Nat) (d : Nat → Nat → Int) (hs : a.eval s = v) (hown : OwnV B w v n d) (u : Value) (m : Nat) (qs : Nat → Nat → Int) (hx : a.eval x = u) (hsrc : PkR w u m qs) (hb : n + m ≤ 2000000000000) (hB : B ≤ w.heap.size)
    (h : ∀ v' w', OwnV B w' v' (n + m) (cat n d qs) → w.grownBy w' v.ownBlock → (v'.ownBlock = v.ownBlock ∨ v'.ownBlock = some w.heap.size) → wpList Tryz.prog ops Q rest (a.put o.dst v') w') :
    wpList Tryz.prog ops Q (o :: rest) a w := by
  obtain ⟨i0, hi, hz0, hz1, hz2⟩ := info_parts Tryz.infoPk6
  have key : ∀ ad c, u = .slice (some ad) m c → (∀ j t, (fl qs m)[j]? = some t → w.cell? (ad.add j) = some t) → wpList Tryz.prog ops Q (o :: rest) a w := by
    intro ad c hu hc
    refine wpList_append_own_at w hgd s x 29 ho B 46 i0 _ 6 48 Tryz.underlying29 hi hz0 hz1 hz2 rfl (by decide) v n (fl d n) hs hown.owns ad m c (fl qs m) (by rw [hx, hu]) (fl_len qs m) hc (fl_one qs m) (by unfold maxLen; omega) (by omega) hB ?_
    intro v' w' h1 h2 _ h4
    rw [← fl_cat] at h1
    exact h v' w' (OwnV.of h1 (by omega)) h2 h4
  rcases hsrc with ⟨ao, c, hu, hm, hnone⟩ | ⟨g, off, cap, hu, hm, hc⟩
  · subst hm
    cases ao with
    | none =>
      obtain rfl := hnone rfl
      refine wpList_append_own_none hgd s x 29 ho B 46 i0 6 Tryz.underlying29 hi v n (fl d n) hs hown.owns (by rw [hx, hu]) ?_
      exact h v w (hown.cong (fun j hj i hi => by unfold cat; rw [if_pos hj])) (grown_refl _ _) (.inl rfl)
    | some ad => exact key ad c hu (fun j t hj => by simp [fl] at hj)
  · refine key ⟨g, off, none⟩ cap hu (fun j t hj => ?_)
    have hlt : j < m * 6 := by
      rcases Nat.lt_or_ge j (m * 6) with e | e
      · exact e
      · rw [List.getElem?_eq_none (by rw [fl_len]; exact e)] at hj
        cases hj
    have h2 := fl_get qs m (j / 6) (j % 6) (by omega) (by omega)
    rw [show j / 6 * 6 + j % 6 = j by omega, hj] at h2
    rw [h2, show (⟨g, off, none⟩ : Addr).add j = ⟨g, off + j, none⟩ by unfold Addr.add; split <;> simp_all]
    have := hc (j / 6) (by omega) (j % 6) (by omega)
    rw [show off + j / 6 * 6 + j % 6 = off + j by omega] at this
    exact this
theorem ltP_at {x y : Nat → Int} {j : Nat} (hj : j < 6) (h : ∀ t, t < j → x t = y t) (hne : x j ≠ y j) : ltP x y ↔ x j < y j := by
  constructor
  · rintro ⟨i, h1, h2, h3⟩
    rcases Nat.lt_trichotomy i j with e | e | e
    · rw [h i e] at h3; omega
    · subst e; exact h3
    · exact absurd (h2 j e) hne
  · intro g
    exact ⟨j, hj, h, g⟩
set_option maxRecDepth 100000 in
set_option maxHeartbeats 1000000 in
theorem less_any (m k : Nat → Int) (w : World) : Calls Tryz.prog 153 #[pkV m, pkV k] w (Says (ltP m k) w) := by
  obtain ⟨w1, hw1⟩ : ∃ w1, w1 = w.alloc (.cells (pkA m) 46) := ⟨_, rfl⟩
  obtain ⟨w2, hw2⟩ : ∃ w2, w2 = w1.alloc (.cells (pkA k) 46) := ⟨_, rfl⟩
  have B1 : Hid (pkBlk w2 w.heap.size m) := by rw [hw2, hw1]; exact (pkBlk.alloc w m).grown (World.grownBy_alloc _ _ none) (by simp)
  have B2 : Hid (pkBlk w2 (w.heap.size + 1) k) := by
    have z : w1.heap.size = w.heap.size + 1 := by rw [hw1]; simp
    rw [hw2, ← z]; exact pkBlk.alloc w1 k
  have G2 : Hid (w.grownBy w2 none) := by rw [hw2, hw1]; exact grown_trans (World.grownBy_alloc _ _ _) (World.grownBy_alloc _ _ _)
  rw [hw1] at hw2
  clear hw1
  unfold pkA at hw2
  unfold pkV pkA
  go_enter Tryz.func153, Tryz.ntmps153
  go_wp2
  rw [← hw2]
  clear hw2
  go_loopw [5] (fun i wr => ∃ j : Nat, j ≤ 6 ∧ i = .int .i64 j ∧ (∀ i, i < j → m i = k i) ∧ pkBlk wr w.heap.size m ∧ pkBlk wr (w.heap.size + 1) k ∧ w.grownBy wr none) (fun i _ => 6 - (intOf i).toNat)
  case atStart => exact ⟨0, by omega, rfl, fun i h2 => by omega, B1.out, B2.out, G2.out⟩
  case round =>
    obtain ⟨j, hj, rfl, hok, b1, b2, hg⟩ := hrel
    have HOK := hide hok
    clear hok B1 B2 G2
    have B1 := hide b1
    have B2 := hide b2
    have G2 := hide hg
    clear b1 b2 hg
    by_cases hlt : j < 6
    · obtain ⟨x, hx⟩ : ∃ x, x = m j := ⟨_, rfl⟩
      obtain ⟨y, hy⟩ : ∃ y, y = k j := ⟨_, rfl⟩
      have c1 : wr.cell? ⟨w.heap.size, j, none⟩ = some (.int .i64 x) := by rw [hx]; exact B1.out.cell j hlt
      have c2 : wr.cell? ⟨w.heap.size + 1, j, none⟩ = some (.int .i64 y) := by rw [hy]; exact B2.out.cell j hlt
      have HX := hide hx
      have HY := hide hy
      clear hx hy
      have hltI : (j : Int) < 6 := by omega
      by_cases h2 : x = y
      · subst h2
        go_wp2_with fail
        go_quiet (fail)
        go_wp2
        go_roundw
        case rel => exact ⟨j + 1, by omega, by go_num, fun i h2 => by
          by_cases e : i = j
          · subst e; rw [← HX.out, ← HY.out]
          · exact HOK.out i (by omega), B1.out, B2.out, grown_drewN G2.out _⟩
        case measure => simp [intOf]; omega
      · have hn3 : (x != y) = true := by rw [bne_iff_ne]; exact h2
        have hat : Hid (ltP m k ↔ x < y) := by rw [HX.out, HY.out]; exact ltP_at hlt HOK.out (by rw [← HX.out, ← HY.out]; exact h2)
        go_wp2_with fail
        go_quiet (fail)
        go_wp2_with fail
        go_quiet (fail)
        go_wp2
        go_ret
        exact ⟨⟨decide (x < y), rfl, by rw [hat.out]; simp⟩, grown_drewN (grown_drewN G2.out _) _⟩
    · go_wp2
      go_ret
      exact ⟨⟨false, rfl, by
        simp only [Bool.false_eq_true, false_iff]
        rintro ⟨i, h1, _, h3⟩
        rw [HOK.out i (by omega)] at h3
        omega⟩, G2.out⟩
theorem insS_at {k : Nat → Int} : ∀ {L : List (Nat → Int)} {i : Nat}, i ≤ L.length → (∀ t x, t < i → L[t]? = some x → ltP x k) → (∀ x, L[i]? = some x → ¬ ltP x k) → ((∃ x, L[i]? = some x ∧ cmpP x k = 0) ∧ insS k L = L) ∨ ((∀ x, L[i]? = some x → cmpP x k ≠ 0) ∧ insS k L = L.take i ++ k :: L.drop i)
  | [], i, hi, _, _ => by
    obtain rfl : i = 0 := by simpa using hi
    exact .inr ⟨fun x h => by simp at h, rfl⟩
  | y :: r, 0, _, _, h2 => by
    have hn := h2 y rfl
    unfold insS
    rw [if_neg (fun h => hn ((cmpP_neg _ _).1 h))]
    by_cases e : cmpP y k = 0
    · rw [if_pos e]
      exact .inl ⟨⟨y, rfl, e⟩, rfl⟩
    · rw [if_neg e]
      exact .inr ⟨fun x h => by cases h; exact e, rfl⟩
  | y :: r, i + 1, hi, h1, h2 => by
    have hy := h1 0 y (by omega) rfl
    unfold insS
    rw [if_pos ((cmpP_neg _ _).2 hy)]
    rcases insS_at (k := k) (L := r) (i := i) (by simpa using hi) (fun t x ht hx => h1 (t + 1) x (by omega) (by simpa using hx)) (fun x hx => h2 x (by simpa using hx)) with ⟨⟨x, a, b⟩, c⟩ | ⟨a, c⟩
    · exact .inl ⟨⟨x, by simpa using a, b⟩, by rw [c]⟩
    · exact .inr ⟨fun x hx => a x (by simpa using hx), by rw [c]; rfl⟩
end Go.Proofs.YtlhkfafdioakeaaGreatDoor
/- Proved here: what a rule of the document's matches; a set with a packet more. -/
namespace Go.Proofs.YtlhkfafdioakeaaGreatDoor
open Go.RowKit
set_option linter.unusedVariables false
set_option linter.unusedSimpArgs false
/-- A block that holds a rule. -/
def rlBlk (w : World) (b : Nat) (p : Int) (mt : Nat → Int) (v : Value) : Prop := w.heap[b]? = some (.cells (rlA p mt v) 68 (0, 0))
theorem rlBlk.cell {w : World} {b : Nat} {p : Int} {mt : Nat → Int} {v : Value} (h : rlBlk w b p mt v) (i : Nat) (hi : i < 6) : w.cell? ⟨b, i + 1, none⟩ = some (.int .i64 (mt i)) := by
  unfold rlBlk at h
  simp only [World.cell?, h]
  rcases (show i = 0 ∨ i = 1 ∨ i = 2 ∨ i = 3 ∨ i = 4 ∨ i = 5 by omega) with rfl | rfl | rfl | rfl | rfl | rfl <;> rfl
theorem rlBlk.grown {w w' : World} {b : Nat} {p : Int} {mt : Nat → Int} {v : Value} {row : Option Nat} (h : rlBlk w b p mt v) (hg : w.grownBy w' row) (hr : row ≠ some b) : rlBlk w' b p mt v := by
  unfold rlBlk at *
  rw [hg.block b (Array.getElem?_eq_some_iff.1 h).1 hr.symm, h]
/-- A rule as a value. -/
def rlV (p : Int) (mt : Nat → Int) (v : Value) : Value := .agg (rlA p mt v)
set_option maxRecDepth 100000 in
set_option maxHeartbeats 1000000 in
theorem rMatches_any (p : Int) (m k : Nat → Int) (a : Option Addr) (n c : Nat) (w : World) : Calls Tryz.prog 176 #[rlV p m (.slice a n c), pkV k] w (Says (matchS m k) w) := by
  obtain ⟨w1, hw1⟩ : ∃ w1, w1 = w.alloc (.cells (rlA p m (.slice a n c)) 68) := ⟨_, rfl⟩
  obtain ⟨w2, hw2⟩ : ∃ w2, w2 = w1.alloc (.cells (pkA k) 46) := ⟨_, rfl⟩
  have B1 : Hid (rlBlk w2 w.heap.size p m (.slice a n c)) := by
    rw [hw2, hw1]
    exact rlBlk.grown (heap_alloc_new w _) (World.grownBy_alloc _ _ none) (by simp)
  have B2 : Hid (pkBlk w2 (w.heap.size + 1) k) := by
    have z : w1.heap.size = w.heap.size + 1 := by rw [hw1]; simp
    rw [hw2, ← z]; exact pkBlk.alloc w1 k
  have G2 : Hid (w.grownBy w2 none) := by rw [hw2, hw1]; exact grown_trans (World.grownBy_alloc _ _ _) (World.grownBy_alloc _ _ _)
  rw [hw1] at hw2
  clear hw1
  unfold pkA rlA at hw2
  unfold pkV pkA rlV rlA
  go_enter Tryz.func176, Tryz.ntmps176
  go_wp2
  rw [← hw2]
  clear hw2
  go_loopw [5] (fun i wr => ∃ j : Nat, 1 ≤ j ∧ j ≤ 6 ∧ i = .int .i64 j ∧ (∀ i, 1 ≤ i → i < j → m i = -1 ∨ m i = k i) ∧ rlBlk wr w.heap.size p m (.slice a n c) ∧ pkBlk wr (w.heap.size + 1) k ∧ w.grownBy wr none) (fun i _ => 6 - (intOf i).toNat)
  case atStart => exact ⟨1, by omega, by omega, rfl, fun i h1 h2 => by omega, B1.out, B2.out, G2.out⟩
  case round =>
    obtain ⟨j, hj1, hj, rfl, hok, b1, b2, hg⟩ := hrel
    have HOK := hide hok
    clear hok B1 B2 G2
    have B1 := hide b1
    have B2 := hide b2
    have G2 := hide hg
    clear b1 b2 hg
    by_cases hlt : j < 6
    · obtain ⟨x, hx⟩ : ∃ x, x = m j := ⟨_, rfl⟩
      obtain ⟨y, hy⟩ : ∃ y, y = k j := ⟨_, rfl⟩
      have c1 : wr.cell? ⟨w.heap.size, 1 + j, none⟩ = some (.int .i64 x) := by rw [hx, Nat.add_comm 1 j]; exact B1.out.cell j hlt
      have c2 : wr.cell? ⟨w.heap.size + 1, j, none⟩ = some (.int .i64 y) := by rw [hy]; exact B2.out.cell j hlt
      have HX := hide hx
      have HY := hide hy
      clear hx hy
      have hltI : (j : Int) < 6 := by omega
      by_cases h1 : x = -1
      · have hn2 : (x != -1) = false := by simp [h1]
        have H1 := hide h1
        clear h1
        go_wp2_with fail
        go_quiet (fail)
        go_wp2
        go_roundw
        case rel => exact ⟨j + 1, by omega, by omega, by go_num, fun i h1 h2 => by
          by_cases e : i = j
          · subst e; left; rw [← HX.out]; exact H1.out
          · exact HOK.out i h1 (by omega), B1.out, B2.out, grown_drewN G2.out _⟩
        case measure => simp [intOf]; omega
      · have hn2 : (x != -1) = true := by rw [bne_iff_ne]; exact h1
        by_cases h2 : x = y
        · subst h2
          go_wp2_with fail
          go_quiet (fail)
          go_wp2
          go_roundw
          case rel => exact ⟨j + 1, by omega, by omega, by go_num, fun i h1 h2 => by
            by_cases e : i = j
            · subst e; right; rw [← HX.out, ← HY.out]
            · exact HOK.out i h1 (by omega), B1.out, B2.out, grown_drewN G2.out _⟩
          case measure => simp [intOf]; omega
        · have hn3 : (x != y) = true := by rw [bne_iff_ne]; exact h2
          go_wp2_with fail
          go_quiet (fail)
          go_wp2
          go_ret
          exact ⟨⟨false, rfl, by
            simp only [Bool.false_eq_true, false_iff]
            intro hh
            rcases hh j hj1 hlt with e | e
            · exact h1 (by rw [HX.out]; exact e)
            · exact h2 (by rw [HX.out, HY.out]; exact e)⟩, grown_drewN G2.out _⟩
    · go_wp2
      go_ret
      exact ⟨⟨true, rfl, by
        simp only [true_iff]
        exact fun i h1 h2 => HOK.out i h1 (by omega)⟩, G2.out⟩
/-- What With comes to: the set with this packet in it. -/
def WithOut (B : Nat) (k : Nat → Int) (L : List (Nat → Int)) (w : World) (e : Ending) (w' : World) : Prop :=
  ∃ v n d b, Is (insS k L) n d ∧ OwnV B w' v n d ∧ e = .returned (.tuple #[v, .bool b]) ∧ w.grownBy w' none
theorem PkR.nil (w : World) (ps : Nat → Nat → Int) : PkR w (.slice none 0 0) 0 ps := .inl ⟨none, 0, rfl, rfl, fun _ => rfl⟩
theorem Own.cut {w : World} {g n cap : Nat} {ps : Nat → Nat → Int} (h : Own w g n cap ps) (i : Nat) (hi : i ≤ n) : PkR w (.slice (some ⟨g, 0, none⟩) i cap) i ps := (h.less hi).row.any
theorem Own.rest {w : World} {g n cap : Nat} {ps : Nat → Nat → Int} (h : Own w g n cap ps) (i : Nat) (hi : i ≤ n) (c : Nat) : PkR w (.slice (some ⟨g, i * 6, none⟩) (n - i) c) (n - i) (fun j => ps (i + j)) :=
  .inr ⟨g, i * 6, c, rfl, by have := h.cap; omega, fun j hj t ht => by
    rw [show i * 6 + j * 6 + t = (i + j) * 6 + t by omega]
    exact h.cell (i + j) (by omega) t ht⟩
/-- The cells of a new row with one packet. -/
theorem one_row (w : World) (k : Nat → Int) : PkR (w.alloc (.cells (pkA k) 46)) (.slice (some ⟨w.heap.size, 0, none⟩) 1 1) 1 (fun _ => k) :=
  .inr ⟨w.heap.size, 0, 1, rfl, by omega, fun j hj i hi => by
    obtain rfl : j = 0 := by omega
    rw [Nat.zero_mul, Nat.add_zero, Nat.zero_add]
    exact (pkBlk.alloc w k).cell i hi⟩
theorem with_is {L : List (Nat → Int)} {n i : Nat} {ps : Nat → Nat → Int} (h : Is L n ps) (hi : i ≤ n) (k : Nat → Int) : Is (L.take i ++ k :: L.drop i) (i + 1 + (n - i)) (cat (i + 1) (cat i ps fun _ => k) (fun j => ps (i + j))) := by
  have hl := h.len
  refine ⟨by simp; omega, fun j hj => ?_⟩
  unfold cat
  by_cases h1 : j < i
  · rw [List.getElem?_append_left (by simp; omega), List.getElem?_take_of_lt h1, h.get j (by omega), if_pos (by omega), if_pos h1]
  · rw [List.getElem?_append_right (by simp; omega), List.length_take, Nat.min_eq_left (by omega)]
    by_cases h2 : j = i
    · subst h2
      simp
    · obtain ⟨t, rfl⟩ : ∃ t, j = i + 1 + t := ⟨j - i - 1, by omega⟩
      rw [show i + 1 + t - i = t + 1 by omega, List.getElem?_cons_succ, List.getElem?_drop, if_neg (by omega), Nat.add_sub_cancel_left]
      exact h.get (i + t) (by omega)
set_option maxRecDepth 100000 in
set_option maxHeartbeats 2000000 in
theorem with_any (B : Nat) (v : Value) (n : Nat) (ps : Nat → Nat → Int) (L : List (Nat → Int)) (k : Nat → Int) (w : World) (h : OwnV B w v n ps) (hL : Is L n ps) (hn : n ≤ 1000000000000) (hB : B ≤ w.heap.size) :
    Calls Tryz.prog 100 #[v, pkV k] w (WithOut B k L w) := by
  obtain ⟨a, ca, rfl⟩ := h.slice
  have HP := hide h
  have HL := hide hL
  clear h hL
  have HQ : Hid (∀ e w', WithOut B k L w e w' ↔ ∃ v n d b, Is (insS k L) n d ∧ OwnV B w' v n d ∧ e = .returned (.tuple #[v, .bool b]) ∧ w.grownBy w' none) := fun _ _ => Iff.rfl
  generalize WithOut B k L w = Q at HQ ⊢
  obtain ⟨w1, hw1⟩ : ∃ w1, w1 = w.alloc (.cells (pkA k) 46) := ⟨_, rfl⟩
  have B1 : Hid (pkBlk w1 w.heap.size k) := by rw [hw1]; exact pkBlk.alloc w k
  have G1 : Hid (w.grownBy w1 none) := by rw [hw1]; exact World.grownBy_alloc _ _ _
  unfold pkA at hw1
  unfold pkV pkA
  have HLE := hide (fun x w => less_any x k w)
  unfold pkV pkA at HLE
  go_enter Tryz.func100, Tryz.ntmps100
  go_upto_block 0 with fail
  rw [← hw1]
  clear hw1
  go_cut [6] (fun s6 wx => ∃ i : Nat, i ≤ n ∧ s6 = .int .i64 i ∧ (∀ t, t < i → ltP (ps t) k) ∧ (i < n → ¬ ltP (ps i) k) ∧ pkBlk wx w.heap.size k ∧ w.grownBy wx none)
  case first =>
    go_wp2_with fail
    go_loopw [6] (fun s6 wr => ∃ i : Nat, i ≤ n ∧ s6 = .int .i64 i ∧ (∀ t, t < i → ltP (ps t) k) ∧ pkBlk wr w.heap.size k ∧ w.grownBy wr none) (fun s6 _ => n - (intOf s6).toNat)
    case atStart => exact ⟨0, by omega, rfl, fun t ht => by omega, B1.out, G1.out⟩
    case round =>
      obtain ⟨i, hi, rfl, hlow, hb, hg⟩ := hrel
      clear B1 G1
      have HLOW := hide hlow
      have HB := hide hb
      have HG := hide hg
      clear hlow hb hg
      by_cases hlt : i < n
      · rcases HP.out with ⟨_, h0⟩ | ⟨g, cap', _, hv, hown⟩
        · omega
        cases hv
        obtain ⟨x, hx⟩ : ∃ x, x = ps i := ⟨_, rfl⟩
        have cc : ∀ t, t < 6 → wr.cell? ⟨g, i * 6 + t, none⟩ = some (.int .i64 (x t)) := fun t ht => by rw [hx]; exact HG.out.cell (hown.cell i hlt t ht) (by simp)
        have c0 : wr.cell? ⟨g, i * 6, none⟩ = some (.int .i64 (x 0)) := cc 0 (by omega)
        have c1 := cc 1 (by omega)
        have c2 := cc 2 (by omega)
        have c3 := cc 3 (by omega)
        have c4 := cc 4 (by omega)
        have c5 := cc 5 (by omega)
        have d0 := HB.out.cell 0 (by omega)
        have d1 := HB.out.cell 1 (by omega)
        have d2 := HB.out.cell 2 (by omega)
        have d3 := HB.out.cell 3 (by omega)
        have d4 := HB.out.cell 4 (by omega)
        have d5 := HB.out.cell 5 (by omega)
        have HX := hide hx
        clear cc hown hx
        have hltI : (i : Int) < n := by omega
        have HG0 : Hid (wr.grownBy wr.drew none) := grown_drew (grown_refl _ _)
        go_wp2_with fail
        go_region_with (go_at_call 153; refine (HLE.out x _).mono ?_; rintro e w3 ⟨⟨b, rfl, hb3⟩, hg3⟩; have HB3 := hide hb3; have HG3 := hide hg3; clear hb3 hg3)
        all_goals
          clear c0 c1 c2 c3 c4 c5 d0 d1 d2 d3 d4 d5
          have GG := hide (grown_trans HG.out (grown_trans HG0.out HG3.out))
          have BB := hide (HB.out.grown (grown_trans HG0.out HG3.out) (by simp))
          cases b
          · go_wp2_with fail
            go_meet
            exact ⟨i, hi, rfl, HLOW.out, fun _ hh => by have := HB3.out.2 (by rw [HX.out]; exact hh); simp at this, BB.out, GG.out⟩
          · go_wp2
            go_roundw
            case rel => exact ⟨i + 1, by omega, by go_num, fun t ht => by
              by_cases e : t = i
              · subst e; rw [← HX.out]; exact HB3.out.1 rfl
              · exact HLOW.out t (by omega), BB.out, GG.out⟩
            case measure => simp [intOf]; omega
      · go_wp2_with fail
        go_meet
        exact ⟨i, hi, rfl, HLOW.out, fun h => absurd h hlt, HB.out, HG.out⟩
  case rest =>
    obtain ⟨i, hi, rfl, hlow, hhigh, hb, hg⟩ := hcut
    clear B1 G1 HLE
    have HB := hide hb
    have HG := hide hg
    have hat := insS_at (k := k) (L := L) (i := i) (by rw [HL.out.len]; exact hi) (fun t x ht hx => by
      rw [HL.out.get t (by omega)] at hx
      cases hx
      exact hlow t ht) (fun x hx => by
      have hlt : i < n := by
        have := (List.getElem?_eq_some_iff.1 hx).1
        rw [HL.out.len] at this
        exact this
      rw [HL.out.get i hlt] at hx
      cases hx
      exact hhigh hlt)
    have HAT := hide hat
    clear hlow hhigh hb hg hat
    have d0 := HB.out.cell 0 (by omega)
    have d1 := HB.out.cell 1 (by omega)
    have d2 := HB.out.cell 2 (by omega)
    have d3 := HB.out.cell 3 (by omega)
    have d4 := HB.out.cell 4 (by omega)
    have d5 := HB.out.cell 5 (by omega)
    by_cases hlt : i < n
    · rcases HP.out with ⟨_, h0⟩ | ⟨g, cap', _, hv, hown⟩
      · omega
      cases hv
      obtain ⟨hc1, hc2, hc3⟩ := hown.cap
      obtain ⟨x, hx⟩ : ∃ x, x = ps i := ⟨_, rfl⟩
      have cc : ∀ t, t < 6 → wc.cell? ⟨g, i * 6 + t, none⟩ = some (.int .i64 (x t)) := fun t ht => by rw [hx]; exact HG.out.cell (hown.cell i hlt t ht) (by simp)
      have c0 : wc.cell? ⟨g, i * 6, none⟩ = some (.int .i64 (x 0)) := cc 0 (by omega)
      have c1 := cc 1 (by omega)
      have c2 := cc 2 (by omega)
      have c3 := cc 3 (by omega)
      have c4 := cc 4 (by omega)
      have c5 := cc 5 (by omega)
      have HX := hide hx
      have HO := hide hown
      clear cc hown hx
      have hltI : (i : Int) < n := by omega
      by_cases hs : cmpP x k = 0
      · have he := eq6_true hs
        have HS := hide hs
        clear hs
        go_wp2_with fail
        go_quiet (fail)
        go_wp2
        have hins : insS k L = L := by
          rcases HAT.out with ⟨_, h⟩ | ⟨h, _⟩
          · exact h
          · exact absurd HS.out (h x (by rw [HL.out.get i hlt, HX.out]))
        exact (HQ.out _ _).2 ⟨_, n, ps, false, by rw [hins]; exact HL.out, HP.out.grown (grown_drewN HG.out _) (fun b e => by cases e), rfl, grown_drewN HG.out _⟩
      · have he := eq6_false hs
        have hins : insS k L = L.take i ++ k :: L.drop i := by
          rcases HAT.out with ⟨⟨y, h1, h2⟩, _⟩ | ⟨_, h⟩
          · rw [HL.out.get i hlt, ← HX.out] at h1
            cases h1
            exact absurd h2 hs
          · exact h
        have HI := hide hins
        clear hs hins HAT
        have hicI : (i : Int) ≤ ca := by omega
        go_wp2_with fail
        go_quiet (fail)
        clear c0 c1 c2 c3 c4 c5 he
        have HW := hide (HO.out.grown (grown_drewN HG.out nq) (by simp))
        have GW := hide (grown_drewN HG.out nq)
        have BW := hide (HB.out.grown (grown_drewN (grown_refl wc none) nq) (by simp))
        clear d0 d1 d2 d3 d4 d5
        go_wp2_with (at_builtin; refine wpList_append_pk _ rfl _ _ rfl w.heap.size (.slice none 0 0) 0 (fun _ _ => 0) rfl (OwnV.nil _ _ _) _ i ps rfl (HW.out.cut i (by omega)) (by omega) GW.out.size ?_)
        intro v1 w4 o1 g1 _
        have o1' := o1.cong (e := ps) (fun j hj t ht => by unfold cat; rw [if_neg (by omega), Nat.sub_zero])
        obtain ⟨a1, q1, rfl⟩ := o1.slice
        have G4 := hide (grown_trans GW.out (show (wc.drewN nq).grownBy w4 none from g1))
        have O4 := hide o1'
        have B4 := hide (BW.out.grown (show (wc.drewN nq).grownBy w4 none from g1) (by simp))
        clear o1 o1' g1 GW BW
        have d0 := B4.out.cell 0 (by omega)
        have d1 := B4.out.cell 1 (by omega)
        have d2 := B4.out.cell 2 (by omega)
        have d3 := B4.out.cell 3 (by omega)
        have d4 := B4.out.cell 4 (by omega)
        have d5 := B4.out.cell 5 (by omega)
        have HR := hide (one_row w4 k)
        unfold pkA at HR
        go_wp2_with (at_builtin; refine wpList_append_pk _ rfl _ _ rfl w.heap.size (.slice a1 i q1) i ps rfl (O4.out.grown (World.grownBy_alloc _ _ none) (fun b e => by cases e)) _ 1 (fun _ => k) rfl HR.out (by omega) (by have := G4.out.size; simp; omega) ?_)
        intro v2 w5 o2 g2 _
        obtain ⟨a2, q2, rfl⟩ := o2.slice
        have hown1 : ∀ b, (Value.slice a1 i q1).ownBlock = some b → w.heap.size ≤ b := fun b hb => (O4.out.lt b hb).1
        have G5 := hide (grown_own (grown_trans G4.out (World.grownBy_alloc _ _ none)) g2 hown1)
        have O5 := hide o2
        clear d0 d1 d2 d3 d4 d5 HR o2 g2 hown1 B4 O4 G4
        have R5 := hide ((HO.out.grown G5.out (by simp)).rest i (by omega) (ca - i))
        go_wp2_with (at_builtin; refine wpList_append_pk _ rfl _ _ rfl w.heap.size (.slice a2 (i + 1) q2) (i + 1) (cat i ps fun _ => k) rfl O5.out _ (n - i) (fun j => ps (i + j)) rfl R5.out (by omega) G5.out.size ?_)
        intro v3 w6 o3 g3 _
        have G6 := hide (grown_own G5.out g3 (fun b hb => (O5.out.lt b hb).1))
        have O6 := hide o3
        obtain ⟨a3, q3, rfl⟩ := o3.slice
        clear o3 g3
        go_wp2
        exact (HQ.out _ _).2 ⟨_, _, _, true, by rw [HI.out]; exact with_is HL.out (by omega) k, O6.out.mono hB, rfl, G6.out⟩
    · obtain rfl : i = n := by omega
      have hltI : ¬ (i : Int) < i := by omega
      have hins : insS k L = L.take i ++ k :: L.drop i := by
        rcases HAT.out with ⟨⟨y, h1, h2⟩, _⟩ | ⟨_, h⟩
        · have := (List.getElem?_eq_some_iff.1 h1).1
          rw [HL.out.len] at this
          omega
        · exact h
      have HI := hide hins
      clear hins HAT
      rcases HP.out with ⟨hv, h0⟩ | ⟨g, cap', _, hv, hown⟩
      · subst h0
        cases hv
        go_wp2_with fail
        go_quiet (fail)
        have GW := hide (grown_drewN HG.out nq)
        have BW := hide (HB.out.grown (grown_drewN (grown_refl wc none) nq) (by simp))
        clear d0 d1 d2 d3 d4 d5
        go_wp2_with (at_builtin; refine wpList_append_pk _ rfl _ _ rfl w.heap.size (.slice none 0 0) 0 (fun _ _ => 0) rfl (OwnV.nil _ _ _) _ 0 ps rfl (PkR.nil _ _) (by omega) GW.out.size ?_)
        intro v1 w4 o1 g1 _
        have o1' : OwnV w.heap.size w4 v1 0 ps := OwnV.cong (d := cat 0 (fun _ _ => 0) ps) (by simpa using o1) (fun j hj t ht => by unfold cat; rw [if_neg (by omega), Nat.sub_zero])
        obtain ⟨a1, q1, rfl⟩ := o1'.slice
        have G4 := hide (grown_trans GW.out (show (wc.drewN nq).grownBy w4 none from g1))
        have O4 := hide o1'
        have B4 := hide (BW.out.grown (show (wc.drewN nq).grownBy w4 none from g1) (by simp))
        clear o1 o1' g1 GW BW
        have d0 := B4.out.cell 0 (by omega)
        have d1 := B4.out.cell 1 (by omega)
        have d2 := B4.out.cell 2 (by omega)
        have d3 := B4.out.cell 3 (by omega)
        have d4 := B4.out.cell 4 (by omega)
        have d5 := B4.out.cell 5 (by omega)
        have HR := hide (one_row w4 k)
        unfold pkA at HR
        go_wp2_with (at_builtin; refine wpList_append_pk _ rfl _ _ rfl w.heap.size (.slice a1 0 q1) 0 ps rfl (O4.out.grown (World.grownBy_alloc _ _ none) (fun b e => by cases e)) _ 1 (fun _ => k) rfl HR.out (by omega) (by have := G4.out.size; simp; omega) ?_)
        intro v2 w5 o2 g2 _
        obtain ⟨a2, q2, rfl⟩ := o2.slice
        have hown1 : ∀ b, (Value.slice a1 0 q1).ownBlock = some b → w.heap.size ≤ b := fun b hb => (O4.out.lt b hb).1
        have G5 := hide (grown_own (grown_trans G4.out (World.grownBy_alloc _ _ none)) g2 hown1)
        have O5 := hide o2
        clear d0 d1 d2 d3 d4 d5 HR o2 g2 hown1 B4 O4 G4
        have R5 := hide (PkR.nil w5 (fun j => ps (0 + j)))
        go_wp2_with (at_builtin; refine wpList_append_pk _ rfl _ _ rfl w.heap.size (.slice a2 (0 + 1) q2) (0 + 1) (cat 0 ps fun _ => k) rfl O5.out _ 0 (fun j => ps (0 + j)) rfl R5.out (by omega) G5.out.size ?_)
        intro v3 w6 o3 g3 _
        have G6 := hide (grown_own G5.out g3 (fun b hb => (O5.out.lt b hb).1))
        have O6 := hide o3
        obtain ⟨a3, q3, rfl⟩ := o3.slice
        clear o3 g3
        go_wp2
        have hw : Is (insS k L) 1 (cat 1 (cat 0 ps fun _ => k) fun j => ps j) := by rw [HI.out]; simpa using with_is HL.out (Nat.le_refl 0) k
        exact (HQ.out _ _).2 ⟨_, _, _, true, hw, O6.out.mono hB, rfl, G6.out⟩
      · cases hv
        obtain ⟨hc1, hc2, hc3⟩ := hown.cap
        have HO := hide hown
        clear hown
        have hicI : (i : Int) ≤ ca := by omega
        by_cases hca : ca = i
        · have hca' := hca.symm
          subst hca'
          clear hca
          by_cases hi0 : i = 0
          · subst hi0
            go_wp2_with fail
            go_quiet (fail)
            have GW := hide (grown_drewN HG.out nq)
            have BW := hide (HB.out.grown (grown_drewN (grown_refl wc none) nq) (by simp))
            clear d0 d1 d2 d3 d4 d5
            have HW := hide (HO.out.grown (grown_drewN HG.out nq) (by simp))
            go_wp2_with (at_builtin; refine wpList_append_pk _ rfl _ _ rfl w.heap.size (.slice none 0 0) 0 (fun _ _ => 0) rfl (OwnV.nil _ _ _) _ 0 ps rfl (HW.out.cut 0 (Nat.le_refl _)) (by omega) GW.out.size ?_)
            intro v1 w4 o1 g1 _
            have o1' : OwnV w.heap.size w4 v1 0 ps := OwnV.cong (d := cat 0 (fun _ _ => 0) ps) (by simpa using o1) (fun j hj t ht => by unfold cat; rw [if_neg (by omega), Nat.sub_zero])
            obtain ⟨a1, q1, rfl⟩ := o1'.slice
            have G4 := hide (grown_trans GW.out (show (wc.drewN nq).grownBy w4 none from g1))
            have O4 := hide o1'
            have B4 := hide (BW.out.grown (show (wc.drewN nq).grownBy w4 none from g1) (by simp))
            clear o1 o1' g1 GW BW
            have d0 := B4.out.cell 0 (by omega)
            have d1 := B4.out.cell 1 (by omega)
            have d2 := B4.out.cell 2 (by omega)
            have d3 := B4.out.cell 3 (by omega)
            have d4 := B4.out.cell 4 (by omega)
            have d5 := B4.out.cell 5 (by omega)
            have HR := hide (one_row w4 k)
            unfold pkA at HR
            go_wp2_with (at_builtin; refine wpList_append_pk _ rfl _ _ rfl w.heap.size (.slice a1 0 q1) 0 ps rfl (O4.out.grown (World.grownBy_alloc _ _ none) (fun b e => by cases e)) _ 1 (fun _ => k) rfl HR.out (by omega) (by have := G4.out.size; simp; omega) ?_)
            intro v2 w5 o2 g2 _
            obtain ⟨a2, q2, rfl⟩ := o2.slice
            have hown1 : ∀ b, (Value.slice a1 0 q1).ownBlock = some b → w.heap.size ≤ b := fun b hb => (O4.out.lt b hb).1
            have G5 := hide (grown_own (grown_trans G4.out (World.grownBy_alloc _ _ none)) g2 hown1)
            have O5 := hide o2
            clear d0 d1 d2 d3 d4 d5 HR o2 g2 hown1 B4 O4 G4
            have R5 : Hid (PkR w5 (.slice (some ⟨g, 0, none⟩) 0 0) 0 (fun j => ps (0 + j))) := .inl ⟨_, _, rfl, rfl, fun e => by cases e⟩
            go_wp2_with (at_builtin; refine wpList_append_pk _ rfl _ _ rfl w.heap.size (.slice a2 (0 + 1) q2) (0 + 1) (cat 0 ps fun _ => k) rfl O5.out _ 0 (fun j => ps (0 + j)) rfl R5.out (by omega) G5.out.size ?_)
            intro v3 w6 o3 g3 _
            have G6 := hide (grown_own G5.out g3 (fun b hb => (O5.out.lt b hb).1))
            have O6 := hide o3
            obtain ⟨a3, q3, rfl⟩ := o3.slice
            clear o3 g3
            go_wp2
            have hw : Is (insS k L) 1 (cat 1 (cat 0 ps fun _ => k) fun j => ps j) := by rw [HI.out]; simpa using with_is HL.out (Nat.le_refl 0) k
            exact (HQ.out _ _).2 ⟨_, _, _, true, hw, O6.out.mono hB, rfl, G6.out⟩
          · have hi0I : (0 : Int) < i := by omega
            go_wp2_with fail
            go_quiet (fail)
            have GW := hide (grown_drewN HG.out nq)
            have BW := hide (HB.out.grown (grown_drewN (grown_refl wc none) nq) (by simp))
            clear d0 d1 d2 d3 d4 d5
            have HW := hide (HO.out.grown (grown_drewN HG.out nq) (by simp))
            go_wp2_with (at_builtin; refine wpList_append_pk _ rfl _ _ rfl w.heap.size (.slice none 0 0) 0 (fun _ _ => 0) rfl (OwnV.nil _ _ _) _ i ps rfl (HW.out.cut i (Nat.le_refl _)) (by omega) GW.out.size ?_)
            intro v1 w4 o1 g1 _
            have o1' : OwnV w.heap.size w4 v1 i ps := OwnV.cong (d := cat 0 (fun _ _ => 0) ps) (by simpa using o1) (fun j hj t ht => by unfold cat; rw [if_neg (by omega), Nat.sub_zero])
            obtain ⟨a1, q1, rfl⟩ := o1'.slice
            have G4 := hide (grown_trans GW.out (show (wc.drewN nq).grownBy w4 none from g1))
            have O4 := hide o1'
            have B4 := hide (BW.out.grown (show (wc.drewN nq).grownBy w4 none from g1) (by simp))
            clear o1 o1' g1 GW BW
            have d0 := B4.out.cell 0 (by omega)
            have d1 := B4.out.cell 1 (by omega)
            have d2 := B4.out.cell 2 (by omega)
            have d3 := B4.out.cell 3 (by omega)
            have d4 := B4.out.cell 4 (by omega)
            have d5 := B4.out.cell 5 (by omega)
            have HR := hide (one_row w4 k)
            unfold pkA at HR
            go_wp2_with (at_builtin; refine wpList_append_pk _ rfl _ _ rfl w.heap.size (.slice a1 i q1) i ps rfl (O4.out.grown (World.grownBy_alloc _ _ none) (fun b e => by cases e)) _ 1 (fun _ => k) rfl HR.out (by omega) (by have := G4.out.size; simp; omega) ?_)
            intro v2 w5 o2 g2 _
            obtain ⟨a2, q2, rfl⟩ := o2.slice
            have hown1 : ∀ b, (Value.slice a1 i q1).ownBlock = some b → w.heap.size ≤ b := fun b hb => (O4.out.lt b hb).1
            have G5 := hide (grown_own (grown_trans G4.out (World.grownBy_alloc _ _ none)) g2 hown1)
            have O5 := hide o2
            clear d0 d1 d2 d3 d4 d5 HR o2 g2 hown1 B4 O4 G4
            have R5 : Hid (PkR w5 (.slice (some ⟨g, 0, none⟩) 0 0) 0 (fun j => ps (i + j))) := .inl ⟨_, _, rfl, rfl, fun e => by cases e⟩
            go_wp2_with (at_builtin; refine wpList_append_pk _ rfl _ _ rfl w.heap.size (.slice a2 (i + 1) q2) (i + 1) (cat i ps fun _ => k) rfl O5.out _ 0 (fun j => ps (i + j)) rfl R5.out (by omega) G5.out.size ?_)
            intro v3 w6 o3 g3 _
            have G6 := hide (grown_own G5.out g3 (fun b hb => (O5.out.lt b hb).1))
            have O6 := hide o3
            obtain ⟨a3, q3, rfl⟩ := o3.slice
            clear o3 g3
            go_wp2
            have hw := with_is HL.out (Nat.le_refl i) k
            rw [← HI.out, Nat.sub_self] at hw
            exact (HQ.out _ _).2 ⟨_, _, _, true, hw, O6.out.mono hB, rfl, G6.out⟩
        · have hcaI : (i : Int) < ca := by omega
          go_wp2_with fail
          go_quiet (fail)
          have GW := hide (grown_drewN HG.out nq)
          have BW := hide (HB.out.grown (grown_drewN (grown_refl wc none) nq) (by simp))
          clear d0 d1 d2 d3 d4 d5
          have HW := hide (HO.out.grown (grown_drewN HG.out nq) (by simp))
          go_wp2_with (at_builtin; refine wpList_append_pk _ rfl _ _ rfl w.heap.size (.slice none 0 0) 0 (fun _ _ => 0) rfl (OwnV.nil _ _ _) _ i ps rfl (HW.out.cut i (Nat.le_refl _)) (by omega) GW.out.size ?_)
          intro v1 w4 o1 g1 _
          have o1' : OwnV w.heap.size w4 v1 i ps := OwnV.cong (d := cat 0 (fun _ _ => 0) ps) (by simpa using o1) (fun j hj t ht => by unfold cat; rw [if_neg (by omega), Nat.sub_zero])
          obtain ⟨a1, q1, rfl⟩ := o1'.slice
          have G4 := hide (grown_trans GW.out (show (wc.drewN nq).grownBy w4 none from g1))
          have O4 := hide o1'
          have B4 := hide (BW.out.grown (show (wc.drewN nq).grownBy w4 none from g1) (by simp))
          clear o1 o1' g1 GW BW
          have d0 := B4.out.cell 0 (by omega)
          have d1 := B4.out.cell 1 (by omega)
          have d2 := B4.out.cell 2 (by omega)
          have d3 := B4.out.cell 3 (by omega)
          have d4 := B4.out.cell 4 (by omega)
          have d5 := B4.out.cell 5 (by omega)
          have HR := hide (one_row w4 k)
          unfold pkA at HR
          go_wp2_with (at_builtin; refine wpList_append_pk _ rfl _ _ rfl w.heap.size (.slice a1 i q1) i ps rfl (O4.out.grown (World.grownBy_alloc _ _ none) (fun b e => by cases e)) _ 1 (fun _ => k) rfl HR.out (by omega) (by have := G4.out.size; simp; omega) ?_)
          intro v2 w5 o2 g2 _
          obtain ⟨a2, q2, rfl⟩ := o2.slice
          have hown1 : ∀ b, (Value.slice a1 i q1).ownBlock = some b → w.heap.size ≤ b := fun b hb => (O4.out.lt b hb).1
          have G5 := hide (grown_own (grown_trans G4.out (World.grownBy_alloc _ _ none)) g2 hown1)
          have O5 := hide o2
          clear d0 d1 d2 d3 d4 d5 HR o2 g2 hown1 B4 O4 G4
          have R5 : Hid (PkR w5 (.slice (some ⟨g, i * 6, none⟩) 0 (ca - i)) 0 (fun j => ps (i + j))) := .inl ⟨_, _, rfl, rfl, fun e => by cases e⟩
          go_wp2_with (at_builtin; refine wpList_append_pk _ rfl _ _ rfl w.heap.size (.slice a2 (i + 1) q2) (i + 1) (cat i ps fun _ => k) rfl O5.out _ 0 (fun j => ps (i + j)) rfl R5.out (by omega) G5.out.size ?_)
          intro v3 w6 o3 g3 _
          have G6 := hide (grown_own G5.out g3 (fun b hb => (O5.out.lt b hb).1))
          have O6 := hide o3
          obtain ⟨a3, q3, rfl⟩ := o3.slice
          clear o3 g3
          go_wp2
          have hw := with_is HL.out (Nat.le_refl i) k
          rw [← HI.out, Nat.sub_self] at hw
          exact (HQ.out _ _).2 ⟨_, _, _, true, hw, O6.out.mono hB, rfl, G6.out⟩
end Go.Proofs.YtlhkfafdioakeaaGreatDoor
/- Proved here: lists of packets, texts and rules that hold the same are the same to the statements. -/
namespace Go.Proofs.YtlhkfafdioakeaaGreatDoor
open Go.RowKit
set_option linter.unusedVariables false
set_option linter.unusedSimpArgs false
theorem eq6_self (a b c d e f : Int) : eq6 a b c d e f a b c d e f = true := by simp [eq6]
set_option maxRecDepth 100000 in
set_option maxHeartbeats 2000000 in
theorem samePR (va vb : Value) (n : Nat) (ps qs : Nat → Nat → Int) (w : World) (ha : PkR w va n ps) (hb : PkR w vb n qs) (hpq : ∀ j, j < n → ∀ i, i < 6 → ps j i = qs j i) :
    Calls Tryz.prog 19 #[va, vb] w fun e w' => e = .returned (.bool true) ∧ w.grownBy w' none := by
  obtain ⟨a, ca, rfl⟩ := ha.slice
  obtain ⟨b, cb, rfl⟩ := hb.slice
  have HA := hide ha
  have HB := hide (hb.cong (fun j hj i hi => (hpq j hj i hi).symm))
  have hfew := ha.few
  clear ha hb hpq
  go_enter Tryz.func19, Tryz.ntmps19
  go_wp2
  go_loopw [5] (fun v5 wr => ∃ (j : Nat), v5 = .int .i64 j ∧ j ≤ n ∧ w.grownBy wr none) (fun v5 _ => n - (intOf v5).toNat)
  case atStart => exact ⟨0, rfl, Nat.zero_le _, grown_refl _ _⟩
  case round =>
    obtain ⟨j, rfl, hj, hg⟩ := hrel
    have HG := hide hg
    clear hg
    by_cases hlt : j < n
    · rcases HA.out with ⟨_, _, _, h0, _⟩ | ⟨g, off, cap', hv, _, hcell⟩
      · omega
      rcases HB.out with ⟨_, _, _, h0, _⟩ | ⟨g2, off2, cap2, hv2, _, hcell2⟩
      · omega
      cases hv
      cases hv2
      obtain ⟨k, hk⟩ : ∃ k, k = ps j := ⟨_, rfl⟩
      have cc : ∀ i, i < 6 → wr.cell? ⟨g, off + j * 6 + i, none⟩ = some (.int .i64 (k i)) := fun i hi => by rw [hk]; exact HG.out.cell (hcell j hlt i hi) (by simp)
      have dd : ∀ i, i < 6 → wr.cell? ⟨g2, off2 + j * 6 + i, none⟩ = some (.int .i64 (k i)) := fun i hi => by rw [hk]; exact HG.out.cell (hcell2 j hlt i hi) (by simp)
      have c0 : wr.cell? ⟨g, off + j * 6, none⟩ = some (.int .i64 (k 0)) := cc 0 (by omega)
      have c1 := cc 1 (by omega)
      have c2 := cc 2 (by omega)
      have c3 := cc 3 (by omega)
      have c4 := cc 4 (by omega)
      have c5 := cc 5 (by omega)
      have d0 : wr.cell? ⟨g2, off2 + j * 6, none⟩ = some (.int .i64 (k 0)) := dd 0 (by omega)
      have d1 := dd 1 (by omega)
      have d2 := dd 2 (by omega)
      have d3 := dd 3 (by omega)
      have d4 := dd 4 (by omega)
      have d5 := dd 5 (by omega)
      clear cc dd hcell hcell2 hk
      have he := eq6_self (k 0) (k 1) (k 2) (k 3) (k 4) (k 5)
      have hltI : (j : Int) < n := by omega
      go_wp2_with fail
      go_quiet (fail)
      go_wp2
      go_roundw
      case rel => exact ⟨j + 1, by go_num, by omega, grown_drewN HG.out _⟩
      case measure => simp [intOf]; omega
    · go_wp2
      go_ret
      exact ⟨rfl, HG.out⟩
set_option maxRecDepth 100000 in
set_option maxHeartbeats 1000000 in
theorem sameT_nil (w : World) : Calls Tryz.prog 59 #[.slice none 0 0, .slice none 0 0] w fun e w' => e = .returned (.bool true) ∧ w' = w := by
  go_enter Tryz.func59, Tryz.ntmps59
  go_wp2
  go_loopw [5] (fun v5 wr => v5 = .int .i64 0 ∧ wr = w) (fun v5 _ => 0)
  case atStart => exact ⟨rfl, rfl⟩
  case round =>
    obtain ⟨rfl, rfl⟩ := hrel
    go_wp2
    go_ret
    exact ⟨rfl, by first | trivial | rfl⟩
/-- Two rules that say the same. -/
structure SameRl (a b : Rl) : Prop where
  prio : a.prio = b.prio
  mt : ∀ i, i < 6 → a.mt i = b.mt i
  na : a.na = b.na
  acts : ∀ j, j < b.na → ∀ i, i < 6 → a.acts j i = b.acts j i
set_option maxRecDepth 100000 in
set_option maxHeartbeats 2000000 in
theorem sameRR (va vb : Value) (n : Nat) (rs qs : Nat → Rl) (w : World) (ha : RlRow w va n rs) (hb : RlRow w vb n qs) (hpq : ∀ j, j < n → SameRl (rs j) (qs j)) :
    Calls Tryz.prog 60 #[va, vb] w fun e w' => e = .returned (.bool true) ∧ w.grownBy w' none := by
  obtain ⟨a, ca, rfl⟩ := ha.slice
  obtain ⟨b, cb, rfl⟩ := hb.slice
  have HA := hide ha
  have HB := hide hb
  have HPQ := hide hpq
  have hfew := ha.few
  clear ha hb hpq
  go_enter Tryz.func60, Tryz.ntmps60
  go_wp2
  go_loopw [5] (fun v5 wr => ∃ (j : Nat), v5 = .int .i64 j ∧ j ≤ n ∧ w.grownBy wr none) (fun v5 _ => n - (intOf v5).toNat)
  case atStart => exact ⟨0, rfl, Nat.zero_le _, grown_refl _ _⟩
  case round =>
    obtain ⟨j, rfl, hj, hg⟩ := hrel
    have HG := hide hg
    clear hg
    by_cases hlt : j < n
    · have HS := HPQ.out j hlt
      rcases HA.out with ⟨_, _, _, h0⟩ | ⟨g, off, cap', hv, _, hcell⟩
      · omega
      rcases HB.out with ⟨_, _, _, h0⟩ | ⟨g2, off2, cap2, hv2, _, hcell2⟩
      · omega
      cases hv
      cases hv2
      obtain ⟨xp, xm, xa, xr⟩ := hcell j hlt
      obtain ⟨yp, ym, ya, yr⟩ := hcell2 j hlt
      obtain ⟨aa, ac, haa⟩ := xr.slice
      obtain ⟨ab, ad, hab⟩ := yr.slice
      rw [haa] at xa xr
      rw [hab] at ya yr
      rw [HS.na] at xr xa
      have HC : Hid (∀ wx, w.grownBy wx none → Calls Tryz.prog 19 #[.slice aa (qs j).na ac, .slice ab (qs j).na ad] wx fun e w' => e = .returned (.bool true) ∧ w.grownBy w' none) := by
        intro wx hg
        refine (samePR _ _ (qs j).na _ _ wx (xr.grown hg) (yr.grown hg) HS.acts).mono ?_
        rintro e w' ⟨rfl, hg2⟩
        exact ⟨rfl, grown_trans hg hg2⟩
      obtain ⟨N, hN⟩ : ∃ N, N = (qs j).na := ⟨_, rfl⟩
      obtain ⟨k, hk⟩ : ∃ k, k = (rs j).mt := ⟨_, rfl⟩
      obtain ⟨p, hp⟩ : ∃ p, p = (rs j).prio := ⟨_, rfl⟩
      rw [← hN] at xa ya HC
      have HX : Hid (∀ wx, w.grownBy wx none → wx.cell? ⟨g, off + j * 8, none⟩ = some (.int .i64 p) ∧ (∀ i, i < 6 → wx.cell? ⟨g, off + j * 8 + (1 + i), none⟩ = some (.int .i64 (k i))) ∧ wx.cell? ⟨g, off + j * 8 + 7, none⟩ = some (.slice aa N ac) ∧ wx.cell? ⟨g2, off2 + j * 8, none⟩ = some (.int .i64 p) ∧ (∀ i, i < 6 → wx.cell? ⟨g2, off2 + j * 8 + (1 + i), none⟩ = some (.int .i64 (k i))) ∧ wx.cell? ⟨g2, off2 + j * 8 + 7, none⟩ = some (.slice ab N ad)) := by
        intro wx hg
        refine ⟨by rw [hp]; exact hg.cell xp (by simp), fun i hi => by rw [hk]; exact hg.cell (xm i hi) (by simp), hg.cell xa (by simp), by rw [hp, HS.prio]; exact hg.cell yp (by simp), fun i hi => by rw [hk, HS.mt i hi]; exact hg.cell (ym i hi) (by simp), hg.cell ya (by simp)⟩
      clear xp xm xa xr yp ym ya yr hN hk hp hcell hcell2 HS haa hab
      obtain ⟨c0, c1, c2, d0, d1, d2⟩ := HX.out wr HG.out
      have HG0 : Hid (w.grownBy wr.drew none) := grown_drew HG.out
      clear c1 d1 c0 d0
      have hltI : (j : Int) < n := by omega
      go_wp2_with fail
      go_region_with (go_at_call 19; refine (HC.out _ HG0.out).mono ?_; rintro e w3 ⟨rfl, hg3⟩; have G3 := hide hg3; clear hg3)
      all_goals
        obtain ⟨z0, z1, z2, y0, y1, y2⟩ := HX.out w3 G3.out
        have a0 : w3.cell? ⟨g, off + j * 8 + 1, none⟩ = some (.int .i64 (k 0)) := z1 0 (by omega)
        have a1 : w3.cell? ⟨g, off + j * 8 + 1 + 1, none⟩ = some (.int .i64 (k 1)) := z1 1 (by omega)
        have a2 : w3.cell? ⟨g, off + j * 8 + 1 + 2, none⟩ = some (.int .i64 (k 2)) := z1 2 (by omega)
        have a3 : w3.cell? ⟨g, off + j * 8 + 1 + 3, none⟩ = some (.int .i64 (k 3)) := z1 3 (by omega)
        have a4 : w3.cell? ⟨g, off + j * 8 + 1 + 4, none⟩ = some (.int .i64 (k 4)) := z1 4 (by omega)
        have a5 : w3.cell? ⟨g, off + j * 8 + 1 + 5, none⟩ = some (.int .i64 (k 5)) := z1 5 (by omega)
        have b0 : w3.cell? ⟨g2, off2 + j * 8 + 1, none⟩ = some (.int .i64 (k 0)) := y1 0 (by omega)
        have b1 : w3.cell? ⟨g2, off2 + j * 8 + 1 + 1, none⟩ = some (.int .i64 (k 1)) := y1 1 (by omega)
        have b2 : w3.cell? ⟨g2, off2 + j * 8 + 1 + 2, none⟩ = some (.int .i64 (k 2)) := y1 2 (by omega)
        have b3 : w3.cell? ⟨g2, off2 + j * 8 + 1 + 3, none⟩ = some (.int .i64 (k 3)) := y1 3 (by omega)
        have b4 : w3.cell? ⟨g2, off2 + j * 8 + 1 + 4, none⟩ = some (.int .i64 (k 4)) := y1 4 (by omega)
        have b5 : w3.cell? ⟨g2, off2 + j * 8 + 1 + 5, none⟩ = some (.int .i64 (k 5)) := y1 5 (by omega)
        clear z1 y1
        have he := eq6_self (k 0) (k 1) (k 2) (k 3) (k 4) (k 5)
        go_wp2_with fail
        go_quiet (fail)
        go_wp2
        go_roundw
        case rel => exact ⟨j + 1, by go_num, by omega, grown_drewN G3.out _⟩
        case measure => simp [intOf]; omega
    · go_wp2
      go_ret
      exact ⟨rfl, HG.out⟩
end Go.Proofs.YtlhkfafdioakeaaGreatDoor
/- Proved here: appending one packet, told where it comes to lie; a block of books; lists that are marked. -/
namespace Go.Proofs.YtlhkfafdioakeaaGreatDoor
open Go.RowKit
set_option linter.unusedVariables false
set_option linter.unusedSimpArgs false
theorem ownV_new (w : World) (B n cap : Nat) (D : Nat → Nat → Int) (Z : Array Value) (hB : B ≤ w.heap.size) (hn : n ≤ cap) (hc : cap ≤ 9223372036854775807) (hn2 : n ≤ 3000000000000) (hz : Z.size = (cap - n) * 6) :
    OwnV B (w.drew.alloc (.cells ((fl D n).toArray ++ Z) 46)) (.slice (some ⟨w.heap.size, 0, none⟩) n cap) n D := by
  refine .inr ⟨w.heap.size, cap, hB, rfl, _, heap_alloc_new w.drew _, ?_, hn, ⟨hc, hn2⟩, fun j hj i hi => ?_⟩
  · simp only [Array.size_append, List.size_toArray, fl_len, hz]
    omega
  · rw [Array.getElem?_append_left (by simp [fl_len]; omega)]
    simpa using fl_get D n j i hj hi
theorem fl_snoc (d : Nat → Nat → Int) (n : Nat) (k : Nat → Int) : fl d n ++ pkCs k = fl (cat n d fun _ => k) (n + 1) := by
  have := fl_cat d (fun _ => k) n 1
  rw [this]
  rfl
/-- append(s, x) of one packet onto a row of the call's own: in place, or in a new block. -/
theorem wpList_append_one {ops : Array Oper} {rest : List Oper} {o : Oper} {a : Act} {Q : Exit → Act → World → Prop} (w : World) (hgd : o.guard = none) (s x : Operand)
    (ho : o.op = .call { callee := .builtin .append, args := #[s, x], argTypes := #[29, 29] })
    (B : Nat) (v : Value) (n : Nat) (d : Nat → Nat → Int) (hs : a.eval s = v) (hown : OwnV B w v n d) (u : Value) (k : Nat → Int) (hx : a.eval x = u) (hsrc : PkR w u 1 (fun _ => k)) (hb : n + 1 ≤ 2000000000000) (hB : B ≤ w.heap.size)
    (h : ∀ v' w', OwnV B w' v' (n + 1) (cat n d fun _ => k) → ((∃ g cap, v = .slice (some ⟨g, 0, none⟩) n cap ∧ v' = .slice (some ⟨g, 0, none⟩) (n + 1) cap ∧ w.grownBy w' (some g)) ∨ (v'.ownBlock = some w.heap.size ∧ w.grownBy w' none)) → wpList Tryz.prog ops Q rest (a.put o.dst v') w') :
    wpList Tryz.prog ops Q (o :: rest) a w := by
  obtain ⟨i0, hi, hz0, hz1, hz2⟩ := info_parts Tryz.infoPk6
  rcases hsrc with ⟨_, _, _, h0, _⟩ | ⟨g2, off2, c2, rfl, _, hc⟩
  · omega
  have hnews : ∀ j t, (pkCs k)[j]? = some t → w.cell? ((⟨g2, off2, none⟩ : Addr).add j) = some t := by
    intro j t hj
    have hlt : j < 6 := by
      rcases Nat.lt_or_ge j 6 with e | e
      · exact e
      · rw [List.getElem?_eq_none (by simpa [pkCs] using e)] at hj
        cases hj
    rw [pkCs_get? _ _ hlt] at hj
    rw [← hj, show (⟨g2, off2, none⟩ : Addr).add j = ⟨g2, off2 + j, none⟩ by unfold Addr.add; split <;> simp_all]
    have := hc 0 (by omega) j hlt
    rwa [Nat.zero_mul, Nat.add_zero] at this
  have hone : ∀ t ∈ pkCs k, t.oneCell' = true := by
    intro t ht
    simp [pkCs] at ht
    rcases ht with rfl | rfl | rfl | rfl | rfl | rfl <;> rfl
  rcases hown with ⟨rfl, rfl⟩ | ⟨g, cap, hBg, rfl, hO⟩
  · have hrun := run_append_nil (P := Tryz.prog) w 29 o.type 46 i0 _ Tryz.underlying29 hi hz0 ⟨g2, off2, none⟩ 1 c2 (pkCs k) (by rw [hz1]; rfl) hnews (by omega) (by omega) (by rw [hz2]; omega)
    have hge := grownCap_ge w 1 0 46
    have hle := grownCap_le_maxLen w 1 0 46 (by unfold maxLen; omega)
    unfold maxLen at hle
    refine wpList_plain hgd fun K hK => ?_
    unfold Oper.wp
    simp only [execOp, ho, resolve, invoke, builtin, Sem.run_bind, Sem.run_pure, Result.andThen_ok, List.map_toArray, List.map_cons, List.map_nil, hs, hx, hrun]
    refine hK _ _ (h _ _ ?_ (.inr ⟨rfl, grown_alloc_drew w _ none⟩))
    have := ownV_new w B 1 (grownCap w 1 0 46) (cat 0 d fun _ => k) (Builtin.zeroCells (pkV fun _ => 0).cells (grownCap w 1 0 46 - 1)) hB hge (by omega) (by omega) (by rw [size_zeroCells]; rfl)
    rw [show 1 = 0 + 1 by rfl, ← fl_snoc] at this
    exact this
  · have hcap := hO.cap
    have hown' : OwnV B w (.slice (some ⟨g, 0, none⟩) n cap) n d := .inr ⟨g, cap, hBg, rfl, hO⟩
    by_cases hroom : n + 1 ≤ cap
    · refine wpList_append_fits w hgd s x 29 ho B 46 i0 6 Tryz.underlying29 hi hz1 g n cap (fl d n) hs hown'.owns ⟨g2, off2, none⟩ 1 c2 (pkCs k) hx rfl hnews hone hroom ?_
      intro w' h1 h2
      rw [fl_snoc] at h1
      exact h _ w' (OwnV.of h1 (by omega)) (.inl ⟨g, cap, rfl, rfl, h2⟩)
    · have hrun := run_append_grow (P := Tryz.prog) w 29 o.type 46 i0 _ Tryz.underlying29 hi hz0 ⟨g, 0, none⟩ n cap (fl d n) (by rw [hz1]; exact fl_len d n) (World.ownsRow.cells hown'.owns rfl) ⟨g2, off2, none⟩ 1 c2 (pkCs k) (by rw [hz1]; rfl) hnews (by omega) (by omega) (growslice_fits (by omega) (by rw [hz2]; omega))
      have hge := grownCap_ge w (n + 1) cap 46
      have hle := grownCap_le_maxLen w (n + 1) cap 46 (by unfold maxLen; omega)
      unfold maxLen at hle
      refine wpList_plain hgd fun K hK => ?_
      unfold Oper.wp
      simp only [execOp, ho, resolve, invoke, builtin, Sem.run_bind, Sem.run_pure, Result.andThen_ok, List.map_toArray, List.map_cons, List.map_nil, hs, hx, hrun]
      refine hK _ _ (h _ _ ?_ (.inr ⟨rfl, grown_alloc_drew w _ none⟩))
      have := ownV_new w B (n + 1) (grownCap w (n + 1) cap 46) (cat n d fun _ => k) (Builtin.zeroCells (pkV fun _ => 0).cells (grownCap w (n + 1) cap 46 - (n + 1))) hB hge (by omega) (by omega) (by rw [size_zeroCells]; rfl)
      rw [← fl_snoc] at this
      rw [show (fl d n).toArray ++ (pkCs k).toArray = (fl d n ++ pkCs k).toArray by simp]
      exact this
/-- The cells of books. -/
def bkA (c : Nat → Value) : Array Value := #[c 0, c 1, c 2, c 3, c 4, c 5, c 6, c 7, c 8, c 9, c 10, c 11, c 12, c 13, c 14]
def bkBlk (w : World) (b : Nat) (c : Nat → Value) : Prop := w.heap[b]? = some (.cells (bkA c) 42 (0, 0))
/-- The cells, but one. -/
def updB (c : Nat → Value) (i : Nat) (x : Value) : Nat → Value := fun j => if j = i then x else c j
theorem bkA_get (c : Nat → Value) (i : Nat) (h : i < 15) : (bkA c)[i]? = some (c i) := by
  rcases (show i = 0 ∨ i = 1 ∨ i = 2 ∨ i = 3 ∨ i = 4 ∨ i = 5 ∨ i = 6 ∨ i = 7 ∨ i = 8 ∨ i = 9 ∨ i = 10 ∨ i = 11 ∨ i = 12 ∨ i = 13 ∨ i = 14 by omega) with rfl | rfl | rfl | rfl | rfl | rfl | rfl | rfl | rfl | rfl | rfl | rfl | rfl | rfl | rfl <;> rfl
theorem bkBlk.cell {w : World} {b : Nat} {c : Nat → Value} (h : bkBlk w b c) (i : Nat) (hi : i < 15) : w.cell? ⟨b, i, none⟩ = some (c i) := by
  unfold bkBlk at h
  have := bkA_get c i hi
  simp only [World.cell?, h]
  simpa using this
theorem bkBlk.frozen {w : World} {b : Nat} {c : Nat → Value} (h : bkBlk w b c) (i : Nat) : w.frozen? ⟨b, i, none⟩ = false := by
  unfold bkBlk at h
  simp [World.frozen?, h]
theorem bkBlk.grown {w w' : World} {b : Nat} {c : Nat → Value} {row : Option Nat} (h : bkBlk w b c) (hg : w.grownBy w' row) (hr : row ≠ some b) : bkBlk w' b c := by
  unfold bkBlk at *
  rw [hg.block b (Array.getElem?_eq_some_iff.1 h).1 hr.symm, h]
theorem bkBlk.set {w : World} {b : Nat} {c : Nat → Value} (h : bkBlk w b c) (i : Nat) (hi : i < 15) (x : Value) : bkBlk (w.setCell ⟨b, i, none⟩ x) b (updB c i x) := by
  unfold bkBlk at *
  rw [heap_set h]
  congr 2
  rcases (show i = 0 ∨ i = 1 ∨ i = 2 ∨ i = 3 ∨ i = 4 ∨ i = 5 ∨ i = 6 ∨ i = 7 ∨ i = 8 ∨ i = 9 ∨ i = 10 ∨ i = 11 ∨ i = 12 ∨ i = 13 ∨ i = 14 by omega) with rfl | rfl | rfl | rfl | rfl | rfl | rfl | rfl | rfl | rfl | rfl | rfl | rfl | rfl | rfl <;> simp [bkA, updB]
theorem bkBlk.lt {w : World} {b : Nat} {c : Nat → Value} (h : bkBlk w b c) : b < w.heap.size := (Array.getElem?_eq_some_iff.1 h).1
/-- A mark. -/
def mkP (z : Int) : Nat → Int := fun i => if i = 0 then z else 0
/-- The blocks of a value's row are of this type. -/
def Tagged (w : World) (v : Value) (T : TypeId) : Prop := ∀ b, v.ownBlock = some b → ∃ cur, w.heap[b]? = some (.cells cur T (0, 0))
theorem Tagged.ne {w : World} {u v : Value} {T U : TypeId} (h : Tagged w u T) (g : Tagged w v U) (hne : T ≠ U) {b : Nat} (hb : v.ownBlock = some b) : u.ownBlock ≠ some b := by
  intro hu
  obtain ⟨c1, h1⟩ := h b hu
  obtain ⟨c2, h2⟩ := g b hb
  rw [h1] at h2
  cases h2
  exact hne rfl
theorem OwnV.tagged {B : Nat} {w : World} {v : Value} {n : Nat} {d : Nat → Nat → Int} (h : OwnV B w v n d) : Tagged w v 46 := by
  intro b hb
  rcases h with ⟨rfl, _⟩ | ⟨g, cap, _, rfl, cur, h1, _⟩
  · cases hb
  · cases hb
    exact ⟨cur, h1⟩
theorem owns_tagged {w : World} {B : Nat} {T : TypeId} {size : Nat} {v : Value} {n : Nat} {xs : List Value} (h : w.ownsRow B T size v n xs) : Tagged w v T := by
  intro b hb
  rcases h.2 with ⟨rfl, _⟩ | ⟨g, cap, cur, rfl, _, h1, _⟩
  · cases hb
  · cases hb
    exact ⟨cur, h1⟩
/-- Lists that are marked: so many, each with its mark; where their rows lie. -/
structure Mks (B : Nat) (w : World) (vP vN : Value) (q : Nat) (xs : Nat → Value) (ys : Nat → Int) (ls : Nat → Nat) : Prop where
  rP : w.ownsRow B 29 1 vP q ((List.range q).map xs)
  rN : w.ownsRow B 3 1 vN q ((List.range q).map fun i => .int .i64 (ys i))
  rows : ∀ i, i < q → PkR w (xs i) (ls i) (fun _ => mkP (ys i))
  lies : ∀ i, i < q → ∀ b, (xs i).ownBlock = some b → B ≤ b ∧ ∃ cur, w.heap[b]? = some (.cells cur 46 (0, 0))
theorem PkR.kept {w w' : World} {v : Value} {n : Nat} {ps : Nat → Nat → Int} {row : Option Nat} (h : PkR w v n ps) (hg : w.grownBy w' row) (hr : ∀ b, row = some b → v.ownBlock ≠ some b) : PkR w' v n ps := by
  rcases h with h | ⟨g, off, cap, h1, h2, h3⟩
  · exact .inl h
  · refine .inr ⟨g, off, cap, h1, h2, fun j hj i hi => hg.cell (h3 j hj i hi) (fun e => ?_)⟩
    exact hr g e.symm (by rw [h1]; rfl)
theorem Mks.grown {B : Nat} {w w' : World} {vP vN : Value} {q : Nat} {xs : Nat → Value} {ys : Nat → Int} {ls : Nat → Nat} {row : Option Nat} (h : Mks B w vP vN q xs ys ls) (hg : w.grownBy w' row)
    (hP : ∀ b, row = some b → vP.ownBlock ≠ some b) (hN : ∀ b, row = some b → vN.ownBlock ≠ some b) (hX : ∀ i, i < q → ∀ b, row = some b → (xs i).ownBlock ≠ some b) : Mks B w' vP vN q xs ys ls := by
  refine ⟨h.rP.kept hg ?_, h.rN.kept hg ?_, fun i hi => (h.rows i hi).kept hg (hX i hi), fun i hi b hb => ?_⟩
  · cases hr : row with
    | none => cases hv : vP.ownBlock with
      | none => exact .inl rfl
      | some b => exact .inr (by simp)
    | some b => exact .inr (hP b hr)
  · cases hr : row with
    | none => cases hv : vN.ownBlock with
      | none => exact .inl rfl
      | some b => exact .inr (by simp)
    | some b => exact .inr (hN b hr)
  · obtain ⟨h1, cur, h2⟩ := h.lies i hi b hb
    refine ⟨h1, cur, ?_⟩
    rw [hg.block b (Array.getElem?_eq_some_iff.1 h2).1 (fun e => hX i hi b e.symm hb), h2]
end Go.Proofs.YtlhkfafdioakeaaGreatDoor
/- Proved here: a list is marked: written full of a mark, made longer thrice, and kept in the books. -/
namespace Go.Proofs.YtlhkfafdioakeaaGreatDoor
open Go.RowKit
set_option linter.unusedVariables false
set_option linter.unusedSimpArgs false
theorem Tryz.infoPs : (Tryz.prog.info? 29).map (fun i => (i.zero, i.size, i.bytes)) = some (some (.slice none 0 0), 1, 24) := by kernel_rfl
theorem Tryz.infoInt : (Tryz.prog.info? 3).map (fun i => (i.zero, i.size, i.bytes)) = some (some (.int .i64 0), 1, 8) := by kernel_rfl
/-- All but some blocks are as they were. -/
def Kp (S : Nat → Prop) (w w' : World) : Prop := w'.os = w.os ∧ w'.tape = w.tape ∧ w'.output = w.output ∧ w.heap.size ≤ w'.heap.size ∧ ∀ b, b < w.heap.size → ¬ S b → w'.heap[b]? = w.heap[b]?
theorem Kp.refl (S : Nat → Prop) (w : World) : Kp S w w := ⟨rfl, rfl, rfl, Nat.le_refl _, fun _ _ _ => rfl⟩
theorem Kp.size {S : Nat → Prop} {w w' : World} (h : Kp S w w') : w.heap.size ≤ w'.heap.size := h.2.2.2.1
theorem Kp.step {S : Nat → Prop} {w w1 w2 : World} {row : Option Nat} (h : Kp S w w1) (k : w1.grownBy w2 row) (hr : ∀ b, row = some b → S b ∨ w.heap.size ≤ b) : Kp S w w2 :=
  ⟨k.os.trans h.1, k.tape.trans h.2.1, k.output.trans h.2.2.1, Nat.le_trans h.size k.size, fun b hb hn => by
    rw [k.block b (Nat.lt_of_lt_of_le hb h.size) (fun e => by
      rcases hr b e.symm with c | c
      · exact hn c
      · omega)]
    exact h.2.2.2.2 b hb hn⟩
theorem Kp.mono {S T : Nat → Prop} {w w' : World} (h : Kp S w w') (hs : ∀ b, b < w.heap.size → S b → T b) : Kp T w w' :=
  ⟨h.1, h.2.1, h.2.2.1, h.2.2.2.1, fun b hb hn => h.2.2.2.2 b hb (fun c => hn (hs b hb c))⟩
theorem Kp.trans {S : Nat → Prop} {w w1 w2 : World} (h : Kp S w w1) (k : Kp S w1 w2) : Kp S w w2 :=
  ⟨k.1.trans h.1, k.2.1.trans h.2.1, k.2.2.1.trans h.2.2.1, Nat.le_trans h.size k.size, fun b hb hn => (k.2.2.2.2 b (Nat.lt_of_lt_of_le hb h.size) hn).trans (h.2.2.2.2 b hb hn)⟩
/-- A block of this type. -/
def blkT (w : World) (b : Nat) (T : TypeId) : Prop := ∃ cur, w.heap[b]? = some (.cells cur T (0, 0))
theorem blkT.ne {w : World} {b c : Nat} {T U : TypeId} (h : blkT w b T) (g : blkT w c U) (hne : T ≠ U) : b ≠ c := by
  rintro rfl
  obtain ⟨c1, h1⟩ := h
  obtain ⟨c2, h2⟩ := g
  rw [h1] at h2
  cases h2
  exact hne rfl
theorem bkBlk.tag {w : World} {b : Nat} {c : Nat → Value} (h : bkBlk w b c) : blkT w b 42 := ⟨_, h⟩
theorem pkBlk.tag {w : World} {b : Nat} {k : Nat → Int} (h : pkBlk w b k) : blkT w b 46 := ⟨_, h⟩
/-- Lists that are marked. -/
def Mrk (B : Nat) (w : World) (q : Nat) (xs : Nat → Value) (ys : Nat → Int) (ls : Nat → Nat) : Prop :=
  ∀ i, i < q → PkR w (xs i) (ls i) (fun _ => mkP (ys i)) ∧ ∀ b, (xs i).ownBlock = some b → B ≤ b ∧ blkT w b 46
theorem Mrk.grown {B : Nat} {w w' : World} {q : Nat} {xs : Nat → Value} {ys : Nat → Int} {ls : Nat → Nat} {row : Option Nat} (h : Mrk B w q xs ys ls) (hg : w.grownBy w' row) (hX : ∀ i, i < q → ∀ b, row = some b → (xs i).ownBlock ≠ some b) : Mrk B w' q xs ys ls := by
  refine fun i hi => ⟨(h i hi).1.kept hg (hX i hi), fun b hb => ?_⟩
  obtain ⟨h1, cur, h2⟩ := (h i hi).2 b hb
  refine ⟨h1, cur, ?_⟩
  rw [hg.block b (Array.getElem?_eq_some_iff.1 h2).1 (fun e => hX i hi b e.symm hb), h2]
theorem Mrk.grownT {B : Nat} {w w' : World} {q : Nat} {xs : Nat → Value} {ys : Nat → Int} {ls : Nat → Nat} {row : Option Nat} {T : TypeId} (h : Mrk B w q xs ys ls) (hg : w.grownBy w' row) (ht : ∀ b, row = some b → blkT w b T) (hT : T ≠ 46) : Mrk B w' q xs ys ls :=
  h.grown hg (fun i hi b e hb => ((ht b e).ne ((h i hi).2 b hb).2 hT) rfl)
theorem owns_keptT {w w' : World} {B : Nat} {T U : TypeId} {size : Nat} {v : Value} {n : Nat} {xs : List Value} {row : Option Nat} (h : w.ownsRow B T size v n xs) (hg : w.grownBy w' row) (ht : ∀ b, row = some b → blkT w b U) (hU : U ≠ T) : w'.ownsRow B T size v n xs := by
  refine h.kept hg ?_
  cases hv : v.ownBlock with
  | none => exact .inl rfl
  | some b =>
    right
    intro e
    exact (ht b e.symm).ne (owns_tagged h b hv) hU rfl
theorem ownV_keptT {w w' : World} {B : Nat} {U : TypeId} {v : Value} {n : Nat} {d : Nat → Nat → Int} {row : Option Nat} (h : OwnV B w v n d) (hg : w.grownBy w' row) (ht : ∀ b, row = some b → blkT w b U) (hU : U ≠ 46) : OwnV B w' v n d :=
  h.grown hg (fun b e hb => ((ht b e).ne (h.tagged b hb) hU) rfl)
theorem bkBlk.keptT {w w' : World} {b : Nat} {c : Nat → Value} {row : Option Nat} {U : TypeId} (h : bkBlk w b c) (hg : w.grownBy w' row) (ht : ∀ b, row = some b → blkT w b U) (hU : U ≠ 42) : bkBlk w' b c :=
  h.grown hg (fun e => (ht b e).ne h.tag hU rfl)
theorem pkBlk.keptT {w w' : World} {b : Nat} {k : Nat → Int} {row : Option Nat} {U : TypeId} (h : pkBlk w b k) (hg : w.grownBy w' row) (ht : ∀ b, row = some b → blkT w b U) (hU : U ≠ 46) : pkBlk w' b k :=
  h.grown hg (fun e => (ht b e).ne h.tag hU rfl)
/-- One element more. -/
def snoc {α : Type} (q : Nat) (xs : Nat → α) (x : α) : Nat → α := fun i => if i < q then xs i else x
theorem snoc_map {α β : Type} (q : Nat) (xs : Nat → α) (x : α) (f : α → β) : (List.range (q + 1)).map (fun i => f (snoc q xs x i)) = (List.range q).map (fun i => f (xs i)) ++ [f x] := by
  rw [List.range_succ, List.map_append]
  congr 1
  · apply List.map_congr_left
    intro i hi
    unfold snoc
    rw [if_pos (List.mem_range.1 hi)]
  · simp [snoc]
theorem Mrk.snoc {B : Nat} {w : World} {q : Nat} {xs : Nat → Value} {ys : Nat → Int} {ls : Nat → Nat} (h : Mrk B w q xs ys ls) (x : Value) (y : Int) (l : Nat) (hx : PkR w x l (fun _ => mkP y)) (hb : ∀ b, x.ownBlock = some b → B ≤ b ∧ blkT w b 46) : Mrk B w (q + 1) (snoc q xs x) (snoc q ys y) (snoc q ls l) := by
  intro i hi
  unfold Go.Proofs.YtlhkfafdioakeaaGreatDoor.snoc
  by_cases e : i < q
  · simp only [if_pos e]
    exact h i e
  · simp only [if_neg e]
    exact ⟨hx, hb⟩
/-- The books within a marking: the cells, the rows of the lists and of their marks, the lists, the list that is marked, the mark; what is as it was. -/
structure MSt (B : Nat) (w0 : World) (bb : Nat) (c : Nat → Value) (S M0 : Nat → Prop) (lb : Option Nat) (q m : Nat) (n : Int) (z : Int) (w : World) (p r : Nat) (vP vN lv : Value) (ln : Nat) (xs : Nat → Value) (ys : Nat → Int) (ls : Nat → Nat) : Prop where
  bk : bkBlk w bb (updB (updB (updB c 0 (.int .i64 n)) 9 vP) 10 vN)
  rP : w.ownsRow B 29 1 vP p ((List.range p).map xs)
  rN : w.ownsRow B 3 1 vN r ((List.range r).map fun i => .int .i64 (ys i))
  bP : ∀ b, vP.ownBlock = some b → S b ∨ w0.heap.size < b
  bN : ∀ b, vN.ownBlock = some b → S b ∨ w0.heap.size < b
  bL : ∀ b, lv.ownBlock = some b → lb = some b ∨ w0.heap.size < b
  mrk : Mrk B w p xs ys ls
  old : ∀ i, i < q → ∀ b, (xs i).ownBlock = some b → lb ≠ some b ∧ b < w0.heap.size ∧ M0 b
  new : ∀ i, q ≤ i → i < p → ys i = z ∧ (∃ a cc, xs i = .slice a (ls i) cc ∧ (a = none → ls i = 0 ∧ cc = 0) ∧ ∀ ad, a = some ad → ad.off = 0 ∧ ad.spot = none) ∧ ls i ≤ ln ∧ ∀ b, (xs i).ownBlock = some b → lb = some b ∨ w0.heap.size < b
  lv : OwnV B w lv ln (fun _ => mkP z)
  mb : pkBlk w w0.heap.size (mkP z)
  kp : Kp S w0 w
  lbS : ∀ b, lb = some b → S b ∧ b < w0.heap.size
  bbS : S bb ∧ bb < w0.heap.size ∧ B ≤ bb
/-- A list joins. -/
theorem MSt.addP {B : Nat} {w0 : World} {bb : Nat} {c : Nat → Value} {S M0 : Nat → Prop} {lb : Option Nat} {q m : Nat} {n z : Int} {w : World} {p r : Nat} {vP vN lv : Value} {ln : Nat} {xs : Nat → Value} {ys : Nat → Int} {ls : Nat → Nat} (h : MSt B w0 bb c S M0 lb q m n z w p r vP vN lv ln xs ys ls) (hq : q ≤ p) (hrp : r ≤ p)
    {w1 w2 : World} {vP' : Value} (hg1 : w.grownBy w1 none) (ho : w2.ownsRow B 29 1 vP' (p + 1) ((List.range p).map xs ++ [lv])) (hg2 : w1.grownBy w2 vP.ownBlock) (hat : vP'.ownBlock = vP.ownBlock ∨ vP'.ownBlock = some w1.heap.size) :
    MSt B w0 bb c S M0 lb q m n z (w2.setCell ⟨bb, 9, none⟩ vP') (p + 1) r vP' vN lv ln (snoc p xs lv) (snoc p ys z) (snoc p ls ln) := by
  have hs0 := h.kp.size
  have hmb : w0.heap.size < w.heap.size := (Array.getElem?_eq_some_iff.1 h.mb).1
  have tP1 : ∀ b, vP.ownBlock = some b → blkT w1 b 29 := fun b hb => owns_tagged (h.rP.kept hg1 (by cases hv : vP.ownBlock with | none => exact .inl rfl | some b => exact .inr (by simp))) b hb
  have no : ∀ b, (none : Option Nat) = some b → blkT w b 0 := fun b e => by cases e
  have bk2 : bkBlk w2 bb (updB (updB (updB c 0 (.int .i64 n)) 9 vP) 10 vN) := (h.bk.grown hg1 (by simp)).keptT hg2 tP1 (by decide)
  have tbb : ∀ b, some bb = some b → blkT w2 b 42 := fun b e => by cases e; exact bk2.tag
  have hg3 := grown_set w2 bb 9 vP'
  have rN2 := owns_keptT (owns_keptT (h.rN.kept hg1 (by cases hv : vN.ownBlock with | none => exact .inl rfl | some b => exact .inr (by simp))) hg2 tP1 (by decide)) hg3 tbb (by decide)
  have rP2 := owns_keptT ho hg3 tbb (by decide)
  have lv1 := h.lv.grown hg1 (fun b e => by cases e)
  have lv2 := ownV_keptT (ownV_keptT lv1 hg2 tP1 (by decide)) hg3 tbb (by decide)
  have mr2 := ((h.mrk.grown hg1 (fun i hi b e => by cases e)).grownT hg2 tP1 (by decide)).grownT hg3 tbb (by decide)
  have mb2 := ((h.mb.grown hg1 (by simp)).keptT hg2 tP1 (by decide)).keptT hg3 tbb (by decide)
  obtain ⟨la, lc, hlv⟩ := h.lv.slice
  have rN3 : (List.range r).map (fun i => Value.int .i64 (snoc p ys z i)) = (List.range r).map fun i => .int .i64 (ys i) := by
    apply List.map_congr_left
    intro i hi
    unfold snoc
    rw [if_pos (by have := List.mem_range.1 hi; omega)]
  refine ⟨?_, ?_, by rw [rN3]; exact rN2, fun b hb => ?_, h.bN, h.bL, mr2.snoc lv z ln (lv2.row.any) (fun b hb => ⟨(lv2.lt b hb).1, lv2.tagged b hb⟩), fun i hi b hb => ?_, fun i h1 h2 => ?_, lv2, mb2, ?_, h.lbS, h.bbS⟩
  · have := bk2.set 9 (by omega) vP'
    have e : updB (updB (updB (updB c 0 (.int .i64 n)) 9 vP) 10 vN) 9 vP' = updB (updB (updB c 0 (.int .i64 n)) 9 vP') 10 vN := by
      funext j
      unfold updB
      by_cases e1 : j = 9
      · subst e1; simp
      · simp [e1]
    rw [e] at this
    exact this
  · have := snoc_map p xs lv (fun x => x)
    rw [show (List.range (p + 1)).map (snoc p xs lv) = (List.range p).map xs ++ [lv] from this]
    exact rP2
  · rcases hat with e | e
    · exact h.bP b (by rw [← e]; exact hb)
    · rw [e] at hb
      cases hb
      right
      have := hg1.size
      omega
  · unfold snoc at hb
    rw [if_pos (by omega)] at hb
    exact h.old i hi b hb
  · unfold snoc
    by_cases e : i < p
    · rw [if_pos e, if_pos e, if_pos e]
      exact h.new i h1 e
    · rw [if_neg e, if_neg e, if_neg e]
      refine ⟨rfl, ⟨la, lc, hlv, fun hn => ?_, fun ad ha => ?_⟩, Nat.le_refl _, h.bL⟩
      · rcases h.lv with ⟨e1, e2⟩ | ⟨g, cap, _, e1, _⟩
        · rw [hlv] at e1; cases e1; exact ⟨e2, rfl⟩
        · rw [hlv, hn] at e1; cases e1
      · rcases h.lv with ⟨e1, _⟩ | ⟨g, cap, _, e1, _⟩
        · rw [hlv, ha] at e1; cases e1
        · rw [hlv, ha] at e1; cases e1; exact ⟨rfl, rfl⟩
  · refine ((h.kp.step hg1 (fun b e => by cases e)).step hg2 (fun b e => ?_)).step hg3 (fun b e => by cases e; exact .inl h.bbS.1)
    rcases h.bP b e with c | c
    · exact .inl c
    · exact .inr (by omega)
/-- A mark joins. -/
theorem MSt.addN {B : Nat} {w0 : World} {bb : Nat} {c : Nat → Value} {S M0 : Nat → Prop} {lb : Option Nat} {q m : Nat} {n z : Int} {w : World} {p r : Nat} {vP vN lv : Value} {ln : Nat} {xs : Nat → Value} {ys : Nat → Int} {ls : Nat → Nat} (h : MSt B w0 bb c S M0 lb q m n z w p r vP vN lv ln xs ys ls) (hr : r < p) (hy : ys r = z)
    {w1 w2 : World} {vN' : Value} (hg1 : w.grownBy w1 none) (ho : w2.ownsRow B 3 1 vN' (r + 1) ((List.range r).map (fun i => .int .i64 (ys i)) ++ [.int .i64 z])) (hg2 : w1.grownBy w2 vN.ownBlock) (hat : vN'.ownBlock = vN.ownBlock ∨ ∃ b, vN'.ownBlock = some b ∧ w.heap.size ≤ b) :
    MSt B w0 bb c S M0 lb q m n z (w2.setCell ⟨bb, 10, none⟩ vN') p (r + 1) vP vN' lv ln xs ys ls := by
  have hs0 := h.kp.size
  have hmb : w0.heap.size < w.heap.size := (Array.getElem?_eq_some_iff.1 h.mb).1
  have tN1 : ∀ b, vN.ownBlock = some b → blkT w1 b 3 := fun b hb => owns_tagged (h.rN.kept hg1 (by cases hv : vN.ownBlock with | none => exact .inl rfl | some b => exact .inr (by simp))) b hb
  have bk2 : bkBlk w2 bb (updB (updB (updB c 0 (.int .i64 n)) 9 vP) 10 vN) := (h.bk.grown hg1 (by simp)).keptT hg2 tN1 (by decide)
  have tbb : ∀ b, some bb = some b → blkT w2 b 42 := fun b e => by cases e; exact bk2.tag
  have hg3 := grown_set w2 bb 10 vN'
  have rP2 := owns_keptT (owns_keptT (h.rP.kept hg1 (by cases hv : vP.ownBlock with | none => exact .inl rfl | some b => exact .inr (by simp))) hg2 tN1 (by decide)) hg3 tbb (by decide)
  have rN2 := owns_keptT ho hg3 tbb (by decide)
  have lv1 := h.lv.grown hg1 (fun b e => by cases e)
  have lv2 := ownV_keptT (ownV_keptT lv1 hg2 tN1 (by decide)) hg3 tbb (by decide)
  have mr2 := ((h.mrk.grown hg1 (fun i hi b e => by cases e)).grownT hg2 tN1 (by decide)).grownT hg3 tbb (by decide)
  have mb2 := ((h.mb.grown hg1 (by simp)).keptT hg2 tN1 (by decide)).keptT hg3 tbb (by decide)
  refine ⟨?_, rP2, ?_, h.bP, fun b hb => ?_, h.bL, mr2, h.old, h.new, lv2, mb2, ?_, h.lbS, h.bbS⟩
  · have := bk2.set 10 (by omega) vN'
    have e : updB (updB (updB (updB c 0 (.int .i64 n)) 9 vP) 10 vN) 10 vN' = updB (updB (updB c 0 (.int .i64 n)) 9 vP) 10 vN' := by
      funext j
      unfold updB
      by_cases e1 : j = 10
      · subst e1; simp
      · simp [e1]
    rw [e] at this
    exact this
  · rw [List.range_succ, List.map_append]
    simp only [List.map_cons, List.map_nil, hy]
    exact rN2
  · rcases hat with e | ⟨b', e, hb'⟩
    · exact h.bN b (by rw [← e]; exact hb)
    · rw [e] at hb
      cases hb
      right
      omega
  · refine ((h.kp.step hg1 (fun b e => by cases e)).step hg2 (fun b e => ?_)).step hg3 (fun b e => by cases e; exact .inl h.bbS.1)
    rcases h.bN b e with c | c
    · exact .inl c
    · exact .inr (by omega)
/-- The list is made longer. -/
theorem MSt.longer {B : Nat} {w0 : World} {bb : Nat} {c : Nat → Value} {S M0 : Nat → Prop} {lb : Option Nat} {q m : Nat} {n z : Int} {w : World} {p r : Nat} {vP vN lv : Value} {ln : Nat} {xs : Nat → Value} {ys : Nat → Int} {ls : Nat → Nat} (h : MSt B w0 bb c S M0 lb q m n z w p r vP vN lv ln xs ys ls)
    {w1 w2 : World} {lv' : Value} (hg1 : w.grownBy w1 none) (ho : OwnV B w2 lv' (ln + 1) (fun _ => mkP z)) (hat : (∃ g cap, lv = .slice (some ⟨g, 0, none⟩) ln cap ∧ lv' = .slice (some ⟨g, 0, none⟩) (ln + 1) cap ∧ w1.grownBy w2 (some g)) ∨ (lv'.ownBlock = some w1.heap.size ∧ w1.grownBy w2 none)) :
    MSt B w0 bb c S M0 lb q m n z w2 p r vP vN lv' (ln + 1) xs ys ls := by
  have hs0 := h.kp.size
  have hmb : w0.heap.size < w.heap.size := (Array.getElem?_eq_some_iff.1 h.mb).1
  have hs1 := hg1.size
  have bk1 := h.bk.grown hg1 (by simp)
  have rP1 := h.rP.kept hg1 (by cases hv : vP.ownBlock with | none => exact .inl rfl | some b => exact .inr (by simp))
  have rN1 := h.rN.kept hg1 (by cases hv : vN.ownBlock with | none => exact .inl rfl | some b => exact .inr (by simp))
  have mr1 := h.mrk.grown hg1 (fun i hi b e => by cases e)
  have mb1 := h.mb.grown hg1 (by simp)
  have lv1 := h.lv.grown hg1 (fun b e => by cases e)
  have kp1 := h.kp.step hg1 (fun b e => by cases e)
  rcases hat with ⟨g, cap, rfl, rfl, hg2⟩ | ⟨hat, hg2⟩
  · have tg : ∀ b, some g = some b → blkT w1 b 46 := fun b e => lv1.tagged b e
    have bLg := h.bL g rfl
    have old1 : ∀ i, i < q → i < p → (xs i).ownBlock ≠ some g := fun i hi hp e => by
      obtain ⟨a1, a2, _⟩ := h.old i hi g e
      rcases bLg with c | c
      · exact a1 c
      · omega
    refine ⟨bk1.keptT hg2 tg (by decide), owns_keptT rP1 hg2 tg (by decide), owns_keptT rN1 hg2 tg (by decide), h.bP, h.bN, fun b hb => by cases hb; exact bLg, fun i hi => ?_, h.old, fun i h1 h2 => ?_, ho, ?_, kp1.step hg2 (fun b e => ?_), h.lbS, h.bbS⟩
    · by_cases hqi : i < q
      · refine ⟨(mr1 i hi).1.kept hg2 (fun b e hb => by cases e; exact old1 i hqi hi hb), fun b hb => ?_⟩
        obtain ⟨a1, cur, a2⟩ := (mr1 i hi).2 b hb
        refine ⟨a1, cur, ?_⟩
        rw [hg2.block b (Array.getElem?_eq_some_iff.1 a2).1 (fun e => by cases e; exact old1 i hqi hi hb), a2]
      · obtain ⟨hyz, ⟨a, cc, hx, hn, hoff⟩, hls, _⟩ := h.new i (by omega) hi
        by_cases hbe : (xs i).ownBlock = some g
        · rcases ho with ⟨e1, _⟩ | ⟨g', cap', hBg, e1, hO⟩
          · cases e1
          · cases e1
            refine ⟨?_, fun b hb => by rw [hbe] at hb; cases hb; exact ⟨hBg, ⟨_, (show ∃ cur, w2.heap[g]? = some (.cells cur 46 (0, 0)) from ⟨_, hO.choose_spec.1⟩).choose_spec⟩⟩⟩
            cases a with
            | none => rw [hx] at hbe; cases hbe
            | some ad =>
              obtain ⟨o1, o2⟩ := hoff ad rfl
              obtain ⟨ab, ao, asp⟩ := ad
              simp only at o1 o2
              subst o1 o2
              rw [hx] at hbe
              cases hbe
              rw [hx, hyz]
              exact .inr ⟨_, 0, cc, rfl, by have := hO.cap; omega, fun j hj t ht => by rw [Nat.zero_add]; exact hO.cell j (by omega) t ht⟩
        · refine ⟨(mr1 i hi).1.kept hg2 (fun b e hb => by cases e; exact hbe hb), fun b hb => ?_⟩
          obtain ⟨a1, cur, a2⟩ := (mr1 i hi).2 b hb
          refine ⟨a1, cur, ?_⟩
          rw [hg2.block b (Array.getElem?_eq_some_iff.1 a2).1 (fun e => by cases e; exact hbe hb), a2]
    · obtain ⟨a1, a2, a3, a4⟩ := h.new i h1 h2
      exact ⟨a1, a2, by omega, a4⟩
    · refine mb1.grown hg2 (fun e => ?_)
      cases e
      rcases bLg with c | c
      · have := (h.lbS _ c).2; omega
      · omega
    · cases e
      rcases bLg with c | c
      · exact .inl (h.lbS _ c).1
      · exact .inr (by omega)
  · refine ⟨bk1.grown hg2 (by simp), rP1.kept hg2 (by cases hv : vP.ownBlock with | none => exact .inl rfl | some b => exact .inr (by simp)), rN1.kept hg2 (by cases hv : vN.ownBlock with | none => exact .inl rfl | some b => exact .inr (by simp)), h.bP, h.bN, fun b hb => ?_, mr1.grown hg2 (fun i hi b e => by cases e), h.old, fun i h1 h2 => ?_, ho, mb1.grown hg2 (by simp), kp1.step hg2 (fun b e => by cases e), h.lbS, h.bbS⟩
    · rw [hat] at hb
      cases hb
      right
      omega
    · obtain ⟨a1, a2, a3, a4⟩ := h.new i h1 h2
      exact ⟨a1, a2, by omega, a4⟩
end Go.Proofs.YtlhkfafdioakeaaGreatDoor
