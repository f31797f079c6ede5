/- Proved here: appending packets; which of two packets is less, what a rule matches, a set with a packet more: the document's. -/
import Derived.Test.YtlhkfafdioakeaaLkG
import Derived.Laws.AppendOwnNone
import Derived.Deep.RegionWith
namespace Go.Proofs.Ytlhkfafdioakeaa
open Go.RowKit
set_option linter.unusedVariables false
set_option linter.unusedSimpArgs false
/-- The cells of so many packets. -/
def fl (ps : Nat → Nat → Int) : Nat → List Value
  | 0 => []
  | n + 1 => fl ps n ++ pkCs (ps n)
theorem fl_len (ps : Nat → Nat → Int) : ∀ n, (fl ps n).length = n * 6
  | 0 => rfl
  | n + 1 => by rw [fl, List.length_append, fl_len ps n]; simp [pkCs]; omega
theorem pkCs_get? (k : Nat → Int) (i : Nat) (h : i < 6) : (pkCs k)[i]? = some (.int .i64 (k i)) := by
  rcases (show i = 0 ∨ i = 1 ∨ i = 2 ∨ i = 3 ∨ i = 4 ∨ i = 5 by omega) with rfl | rfl | rfl | rfl | rfl | rfl <;> rfl
theorem fl_get (ps : Nat → Nat → Int) : ∀ n j i, j < n → i < 6 → (fl ps n)[j * 6 + i]? = some (.int .i64 (ps j i))
  | 0, _, _, h, _ => by omega
  | n + 1, j, i, h, hi => by
    rw [fl]
    by_cases e : j = n
    · subst e
      rw [List.getElem?_append_right (by rw [fl_len]; omega), fl_len, show j * 6 + i - j * 6 = i by omega, pkCs_get? _ _ hi]
    · rw [List.getElem?_append_left (by rw [fl_len]; omega)]
      exact fl_get ps n j i (by omega) hi
theorem fl_one (ps : Nat → Nat → Int) (n : Nat) : ∀ v ∈ fl ps n, v.oneCell' = true := by
  induction n with
  | zero => intro v hv; simp [fl] at hv
  | succ n ih =>
    intro v hv
    rw [fl, List.mem_append] at hv
    rcases hv with h | h
    · exact ih v h
    · simp [pkCs] at h
      rcases h with rfl | rfl | rfl | rfl | rfl | rfl <;> rfl
theorem fl_cong {ps qs : Nat → Nat → Int} : ∀ {n : Nat}, (∀ j, j < n → ∀ i, i < 6 → ps j i = qs j i) → fl ps n = fl qs n
  | 0, _ => rfl
  | n + 1, h => by
    rw [fl, fl, fl_cong (n := n) (fun j hj => h j (by omega))]
    unfold pkCs
    rw [h n (by omega) 0 (by omega), h n (by omega) 1 (by omega), h n (by omega) 2 (by omega), h n (by omega) 3 (by omega), h n (by omega) 4 (by omega), h n (by omega) 5 (by omega)]
/-- Two rows, one behind the other. -/
def cat (n : Nat) (ps qs : Nat → Nat → Int) : Nat → Nat → Int := fun j => if j < n then ps j else qs (j - n)
theorem fl_cat (ps qs : Nat → Nat → Int) (n : Nat) : ∀ m, fl (cat n ps qs) (n + m) = fl ps n ++ fl qs m
  | 0 => by
    rw [Nat.add_zero, fl, List.append_nil]
    exact fl_cong (fun j hj i hi => by unfold cat; rw [if_pos hj])
  | m + 1 => by
    rw [← Nat.add_assoc, fl, fl_cat ps qs n m, fl, List.append_assoc]
    unfold cat
    rw [if_neg (by omega), Nat.add_sub_cancel_left]
theorem OwnV.owns {B : Nat} {w : World} {v : Value} {n : Nat} {d : Nat → Nat → Int} (h : OwnV B w v n d) : w.ownsRow B 27 6 v n (fl d n) := by
  rcases h with ⟨rfl, rfl⟩ | ⟨g, cap, h1, rfl, cur, g1, g2, g3, g4, g5⟩
  · exact ⟨rfl, .inl ⟨rfl, rfl⟩⟩
  · refine ⟨fl_len d n, .inr ⟨g, cap, cur, rfl, h1, g1, g3, by unfold maxLen; omega, g2, ?_⟩⟩
    apply List.ext_getElem?
    intro t
    by_cases ht : t < n * 6
    · rw [List.getElem?_take_of_lt ht, Array.getElem?_toList]
      have h1 := g5 (t / 6) (by omega) (t % 6) (by omega)
      have h2 := fl_get d n (t / 6) (t % 6) (by omega) (by omega)
      rw [show t / 6 * 6 + t % 6 = t by omega] at h1 h2
      rw [h1, h2]
    · rw [List.getElem?_eq_none (by rw [List.length_take]; omega), List.getElem?_eq_none (by rw [fl_len]; omega)]
theorem OwnV.of {B : Nat} {w : World} {v : Value} {n : Nat} {d : Nat → Nat → Int} (h : w.ownsRow B 27 6 v n (fl d n)) (hn : n ≤ 3000000000000) : OwnV B w v n d := by
  rcases h.2 with ⟨h1, h2⟩ | ⟨g, cap, cur, h1, h2, h3, h4, h5, h6, h7⟩
  · exact .inl ⟨h1, h2⟩
  · refine .inr ⟨g, cap, h2, h1, cur, h3, h6, h4, ⟨by unfold maxLen at h5; omega, hn⟩, fun j hj i hi => ?_⟩
    have := fl_get d n j i hj hi
    rw [← h7, List.getElem?_take_of_lt (by omega), Array.getElem?_toList] at this
    exact this
theorem OwnV.row {B : Nat} {w : World} {v : Value} {n : Nat} {d : Nat → Nat → Int} (h : OwnV B w v n d) : PkRow w v n d := by
  rcases h with h | ⟨g, cap, _, rfl, h⟩
  · exact .inl h
  · exact h.row
theorem OwnV.slice {B : Nat} {w : World} {v : Value} {n : Nat} {d : Nat → Nat → Int} (h : OwnV B w v n d) : ∃ a c, v = .slice a n c := by
  rcases h with ⟨rfl, rfl⟩ | ⟨g, cap, _, rfl, h⟩
  · exact ⟨_, _, rfl⟩
  · exact ⟨_, _, rfl⟩
theorem OwnV.grown {B : Nat} {w w' : World} {v : Value} {n : Nat} {d : Nat → Nat → Int} {row : Option Nat} (h : OwnV B w v n d) (hg : w.grownBy w' row) (hr : ∀ b, row = some b → v.ownBlock ≠ some b) : OwnV B w' v n d := by
  rcases h with h | ⟨g, cap, h1, h2, h3⟩
  · exact .inl h
  · refine .inr ⟨g, cap, h1, h2, h3.grown hg (fun e => hr g e (by rw [h2]; rfl))⟩
theorem OwnV.mono {B C : Nat} {w : World} {v : Value} {n : Nat} {d : Nat → Nat → Int} (h : OwnV B w v n d) (hc : C ≤ B) : OwnV C w v n d := by
  rcases h with h | ⟨g, cap, h1, h2, h3⟩
  · exact .inl h
  · exact .inr ⟨g, cap, by omega, h2, h3⟩
theorem OwnV.cong {B : Nat} {w : World} {v : Value} {n : Nat} {d e : Nat → Nat → Int} (h : OwnV B w v n d) (he : ∀ j, j < n → ∀ i, i < 6 → d j i = e j i) : OwnV B w v n e := by
  rcases h with h | ⟨g, cap, h1, h2, h3⟩
  · exact .inl h
  · exact .inr ⟨g, cap, h1, h2, h3.cong he⟩
theorem OwnV.nil (B : Nat) (w : World) (d : Nat → Nat → Int) : OwnV B w (.slice none 0 0) 0 d := .inl ⟨rfl, rfl⟩
theorem OwnV.lt {B : Nat} {w : World} {v : Value} {n : Nat} {d : Nat → Nat → Int} (h : OwnV B w v n d) : ∀ b, v.ownBlock = some b → B ≤ b ∧ b < w.heap.size := by
  intro b hb
  rcases h with ⟨rfl, _⟩ | ⟨g, cap, h1, rfl, h3⟩
  · cases hb
  · cases hb
    exact ⟨h1, h3.lt⟩
/-- append(s, x...) of packets: onto a row of the call's own, from anywhere. -/
theorem wpList_append_pk {ops : Array Oper} {rest : List Oper} {o : Oper} {a : Act} {Q : Exit → Act → World → Prop} (w : World) (hgd : o.guard = none) (s x : Operand)
    (ho : o.op = .call { callee := .builtin .append, args := #[s, x], argTypes := #[23, 23] })
    (B : Nat) (v : Value) (n : Nat) (d : Nat → Nat → Int) (hs : a.eval s = v) (hown : OwnV B w v n d) (u : Value) (m : Nat) (qs : Nat → Nat → Int) (hx : a.eval x = u) (hsrc : PkR w u m qs) (hb : n + m ≤ 2000000000000) (hB : B ≤ w.heap.size)
    (h : ∀ v' w', OwnV B w' v' (n + m) (cat n d qs) → w.grownBy w' v.ownBlock → (v'.ownBlock = v.ownBlock ∨ v'.ownBlock = some w.heap.size) → wpList Try.prog ops Q rest (a.put o.dst v') w') :
    wpList Try.prog ops Q (o :: rest) a w := by
  obtain ⟨i0, hi, hz0, hz1, hz2⟩ := info_parts Try.infoPk6
  have key : ∀ ad c, u = .slice (some ad) m c → (∀ j t, (fl qs m)[j]? = some t → w.cell? (ad.add j) = some t) → wpList Try.prog ops Q (o :: rest) a w := by
    intro ad c hu hc
    refine wpList_append_own_at w hgd s x 23 ho B 27 i0 _ 6 48 Try.underlying23 hi hz0 hz1 hz2 rfl (by decide) v n (fl d n) hs hown.owns ad m c (fl qs m) (by rw [hx, hu]) (fl_len qs m) hc (fl_one qs m) (by unfold maxLen; omega) (by omega) hB ?_
    intro v' w' h1 h2 _ h4
    rw [← fl_cat] at h1
    exact h v' w' (OwnV.of h1 (by omega)) h2 h4
  rcases hsrc with ⟨ao, c, hu, hm, hnone⟩ | ⟨g, off, cap, hu, hm, hc⟩
  · subst hm
    cases ao with
    | none =>
      obtain rfl := hnone rfl
      refine wpList_append_own_none hgd s x 23 ho B 27 i0 6 Try.underlying23 hi v n (fl d n) hs hown.owns (by rw [hx, hu]) ?_
      exact h v w (hown.cong (fun j hj i hi => by unfold cat; rw [if_pos hj])) (grown_refl _ _) (.inl rfl)
    | some ad => exact key ad c hu (fun j t hj => by simp [fl] at hj)
  · refine key ⟨g, off, none⟩ cap hu (fun j t hj => ?_)
    have hlt : j < m * 6 := by
      rcases Nat.lt_or_ge j (m * 6) with e | e
      · exact e
      · rw [List.getElem?_eq_none (by rw [fl_len]; exact e)] at hj
        cases hj
    have h2 := fl_get qs m (j / 6) (j % 6) (by omega) (by omega)
    rw [show j / 6 * 6 + j % 6 = j by omega, hj] at h2
    rw [h2, show (⟨g, off, none⟩ : Addr).add j = ⟨g, off + j, none⟩ by unfold Addr.add; split <;> simp_all]
    have := hc (j / 6) (by omega) (j % 6) (by omega)
    rw [show off + j / 6 * 6 + j % 6 = off + j by omega] at this
    exact this
theorem ltP_at {x y : Nat → Int} {j : Nat} (hj : j < 6) (h : ∀ t, t < j → x t = y t) (hne : x j ≠ y j) : ltP x y ↔ x j < y j := by
  constructor
  · rintro ⟨i, h1, h2, h3⟩
    rcases Nat.lt_trichotomy i j with e | e | e
    · rw [h i e] at h3; omega
    · subst e; exact h3
    · exact absurd (h2 j e) hne
  · intro g
    exact ⟨j, hj, h, g⟩
set_option maxRecDepth 100000 in
set_option maxHeartbeats 1000000 in
theorem less_any (m k : Nat → Int) (w : World) : Calls Try.prog 38 #[pkV m, pkV k] w (Says (ltP m k) w) := by
  obtain ⟨w1, hw1⟩ : ∃ w1, w1 = w.alloc (.cells (pkA m) 27) := ⟨_, rfl⟩
  obtain ⟨w2, hw2⟩ : ∃ w2, w2 = w1.alloc (.cells (pkA k) 27) := ⟨_, rfl⟩
  have B1 : Hid (pkBlk w2 w.heap.size m) := by rw [hw2, hw1]; exact (pkBlk.alloc w m).grown (World.grownBy_alloc _ _ none) (by simp)
  have B2 : Hid (pkBlk w2 (w.heap.size + 1) k) := by
    have z : w1.heap.size = w.heap.size + 1 := by rw [hw1]; simp
    rw [hw2, ← z]; exact pkBlk.alloc w1 k
  have G2 : Hid (w.grownBy w2 none) := by rw [hw2, hw1]; exact grown_trans (World.grownBy_alloc _ _ _) (World.grownBy_alloc _ _ _)
  rw [hw1] at hw2
  clear hw1
  unfold pkA at hw2
  unfold pkV pkA
  go_enter Try.func38, Try.ntmps38
  go_wp2
  rw [← hw2]
  clear hw2
  go_loopw [5] (fun i wr => ∃ j : Nat, j ≤ 6 ∧ i = .int .i64 j ∧ (∀ i, i < j → m i = k i) ∧ pkBlk wr w.heap.size m ∧ pkBlk wr (w.heap.size + 1) k ∧ w.grownBy wr none) (fun i _ => 6 - (intOf i).toNat)
  case atStart => exact ⟨0, by omega, rfl, fun i h2 => by omega, B1.out, B2.out, G2.out⟩
  case round =>
    obtain ⟨j, hj, rfl, hok, b1, b2, hg⟩ := hrel
    have HOK := hide hok
    clear hok B1 B2 G2
    have B1 := hide b1
    have B2 := hide b2
    have G2 := hide hg
    clear b1 b2 hg
    by_cases hlt : j < 6
    · obtain ⟨x, hx⟩ : ∃ x, x = m j := ⟨_, rfl⟩
      obtain ⟨y, hy⟩ : ∃ y, y = k j := ⟨_, rfl⟩
      have c1 : wr.cell? ⟨w.heap.size, j, none⟩ = some (.int .i64 x) := by rw [hx]; exact B1.out.cell j hlt
      have c2 : wr.cell? ⟨w.heap.size + 1, j, none⟩ = some (.int .i64 y) := by rw [hy]; exact B2.out.cell j hlt
      have HX := hide hx
      have HY := hide hy
      clear hx hy
      have hltI : (j : Int) < 6 := by omega
      by_cases h2 : x = y
      · subst h2
        go_wp2_with fail
        go_quiet (fail)
        go_wp2
        go_roundw
        case rel => exact ⟨j + 1, by omega, by go_num, fun i h2 => by
          by_cases e : i = j
          · subst e; rw [← HX.out, ← HY.out]
          · exact HOK.out i (by omega), B1.out, B2.out, grown_drewN G2.out _⟩
        case measure => simp [intOf]; omega
      · have hn3 : (x != y) = true := by rw [bne_iff_ne]; exact h2
        have hat : Hid (ltP m k ↔ x < y) := by rw [HX.out, HY.out]; exact ltP_at hlt HOK.out (by rw [← HX.out, ← HY.out]; exact h2)
        go_wp2_with fail
        go_quiet (fail)
        go_wp2_with fail
        go_quiet (fail)
        go_wp2
        go_ret
        exact ⟨⟨decide (x < y), rfl, by rw [hat.out]; simp⟩, grown_drewN (grown_drewN G2.out _) _⟩
    · go_wp2
      go_ret
      exact ⟨⟨false, rfl, by
        simp only [Bool.false_eq_true, false_iff]
        rintro ⟨i, h1, _, h3⟩
        rw [HOK.out i (by omega)] at h3
        omega⟩, G2.out⟩
theorem insS_at {k : Nat → Int} : ∀ {L : List (Nat → Int)} {i : Nat}, i ≤ L.length → (∀ t x, t < i → L[t]? = some x → ltP x k) → (∀ x, L[i]? = some x → ¬ ltP x k) → ((∃ x, L[i]? = some x ∧ cmpP x k = 0) ∧ insS k L = L) ∨ ((∀ x, L[i]? = some x → cmpP x k ≠ 0) ∧ insS k L = L.take i ++ k :: L.drop i)
  | [], i, hi, _, _ => by
    obtain rfl : i = 0 := by simpa using hi
    exact .inr ⟨fun x h => by simp at h, rfl⟩
  | y :: r, 0, _, _, h2 => by
    have hn := h2 y rfl
    unfold insS
    rw [if_neg (fun h => hn ((cmpP_neg _ _).1 h))]
    by_cases e : cmpP y k = 0
    · rw [if_pos e]
      exact .inl ⟨⟨y, rfl, e⟩, rfl⟩
    · rw [if_neg e]
      exact .inr ⟨fun x h => by cases h; exact e, rfl⟩
  | y :: r, i + 1, hi, h1, h2 => by
    have hy := h1 0 y (by omega) rfl
    unfold insS
    rw [if_pos ((cmpP_neg _ _).2 hy)]
    rcases insS_at (k := k) (L := r) (i := i) (by simpa using hi) (fun t x ht hx => h1 (t + 1) x (by omega) (by simpa using hx)) (fun x hx => h2 x (by simpa using hx)) with ⟨⟨x, a, b⟩, c⟩ | ⟨a, c⟩
    · exact .inl ⟨⟨x, by simpa using a, b⟩, by rw [c]⟩
    · exact .inr ⟨fun x hx => a x (by simpa using hx), by rw [c]; rfl⟩
end Go.Proofs.Ytlhkfafdioakeaa
