/- Proved here: the books take a list. -/
import Derived.Test.YtlhkfafdioakeaaLkN
import Derived.Test.YtlhkfafdioakeaaLkK
namespace Go.Proofs.Ytlhkfafdioakeaa
open Go.RowKit
set_option linter.unusedVariables false
set_option linter.unusedSimpArgs false
/-- The cells of books that hold lists of packets alone. -/
def bkF (n ca : Nat) (kv wv vP vN : Value) : Nat → Value := fun j =>
  if j = 0 then .int .i64 n else if j = 1 then .int .i64 ca else if j = 2 then .bool false else if j = 3 then kv else if j = 4 then wv else if j = 9 then vP else if j = 10 then vN else .slice none 0 0
/-- The books between two calls: all that is theirs lies in blocks from B on and ahead of C. -/
structure BkS (B C : Nat) (w : World) (bb n ca : Nat) (kv wv vP vN : Value) (km : Nat) (kd : Nat → Nat → Int) (xs : Nat → Value) (ys : Nat → Int) (ls : Nat → Nat) : Prop where
  bk : bkBlk w bb (bkF n ca kv wv vP vN)
  few : n ≤ 2 * ca
  kfew : km ≤ 1000000000000
  rP : w.ownsRow B 23 1 vP (4 * n) ((List.range (4 * n)).map xs)
  rN : w.ownsRow B 3 1 vN (4 * n) ((List.range (4 * n)).map fun i => .int .i64 (ys i))
  mrk : Mrk B w (4 * n) xs ys ls
  kept : OwnV B w kv km kd
  were : OwnV B w wv km kd
  apart : ∀ i, i < 4 * n → ∀ b, (xs i).ownBlock = some b → kv.ownBlock ≠ some b
  inB : B ≤ bb ∧ bb < C
  inP : ∀ b, vP.ownBlock = some b → b < C
  inN : ∀ b, vN.ownBlock = some b → b < C
  inK : ∀ b, kv.ownBlock = some b → b < C
  inW : ∀ b, wv.ownBlock = some b → b < C
  inX : ∀ i, i < 4 * n → ∀ b, (xs i).ownBlock = some b → b < C
  lt : C ≤ w.heap.size
/-- The books, whatever is in them. -/
def Bk (B C : Nat) (w : World) (bb ca : Nat) : Prop := ∃ n kv wv vP vN km kd xs ys ls, BkS B C w bb n ca kv wv vP vN km kd xs ys ls
theorem OwnV.kp {B : Nat} {w w' : World} {v : Value} {n : Nat} {d : Nat → Nat → Int} {S : Nat → Prop} (h : OwnV B w v n d) (hk : Kp S w w') (hs : ∀ b, v.ownBlock = some b → ¬ S b) : OwnV B w' v n d := by
  rcases h with h | ⟨g, cap, h1, rfl, cur, h2, h3⟩
  · exact .inl h
  · exact .inr ⟨g, cap, h1, rfl, cur, by rw [hk.2.2.2.2 g (Array.getElem?_eq_some_iff.1 h2).1 (hs g rfl), h2], h3⟩
theorem BkS.grown {B C : Nat} {w w' : World} {bb n ca : Nat} {kv wv vP vN : Value} {km : Nat} {kd : Nat → Nat → Int} {xs : Nat → Value} {ys : Nat → Int} {ls : Nat → Nat} (h : BkS B C w bb n ca kv wv vP vN km kd xs ys ls) (hg : w.grownBy w' none) : BkS B C w' bb n ca kv wv vP vN km kd xs ys ls := by
  have no2 : ∀ {v : Value}, v.ownBlock = none ∨ v.ownBlock ≠ none := fun {v} => by cases hv : v.ownBlock with | none => exact .inl rfl | some b => exact .inr (by simp)
  exact ⟨h.bk.grown hg (by simp), h.few, h.kfew, h.rP.kept hg no2, h.rN.kept hg no2, h.mrk.grown hg (fun i hi b e => by cases e), h.kept.grown hg (fun b e => by cases e), h.were.grown hg (fun b e => by cases e), h.apart, h.inB, h.inP, h.inN, h.inK, h.inW, h.inX, Nat.le_trans h.lt hg.size⟩
theorem Bk.grown {B C : Nat} {w w' : World} {bb ca : Nat} (h : Bk B C w bb ca) (hg : w.grownBy w' none) : Bk B C w' bb ca := by
  obtain ⟨n, kv, wv, vP, vN, km, kd, xs, ys, ls, h⟩ := h
  exact ⟨n, kv, wv, vP, vN, km, kd, xs, ys, ls, h.grown hg⟩
theorem Kp.trans2 {S T : Nat → Prop} {w w1 w2 : World} (h : Kp S w w1) (k : Kp T w1 w2) (hT : ∀ b, b < w.heap.size → T b → S b) : Kp S w w2 :=
  ⟨k.1.trans h.1, k.2.1.trans h.2.1, k.2.2.1.trans h.2.2.1, Nat.le_trans h.size k.size, fun b hb hn => (k.2.2.2.2 b (Nat.lt_of_lt_of_le hb h.size) (fun c => hn (hT b hb c))).trans (h.2.2.2.2 b hb hn)⟩
theorem bkF_mark (n ca : Nat) (kv wv vP vN vP' vN' : Value) : updB (updB (updB (bkF n ca kv wv vP vN) 0 (.int .i64 ((n + 1 : Nat) : Int))) 9 vP') 10 vN' = bkF (n + 1) ca kv wv vP' vN' := by
  funext j
  unfold updB bkF
  by_cases h0 : j = 0
  · subst h0; simp
  · by_cases h9 : j = 9
    · subst h9; simp
    · by_cases h10 : j = 10
      · subst h10; simp
      · simp [h0, h9, h10]
theorem bkF_keep (n ca : Nat) (kv wv vP vN kv' wv' : Value) : updB (updB (bkF n ca kv wv vP vN) 3 kv') 4 wv' = bkF n ca kv' wv' vP vN := by
  funext j
  unfold updB bkF
  by_cases h3 : j = 3
  · subst h3; simp
  · by_cases h4 : j = 4
    · subst h4; simp
    · simp [h3, h4]
/-- What the books come to when a list is taken. -/
def TakeOut (B C : Nat) (w : World) (bb ca : Nat) (l : Value) (e : Ending) (w' : World) : Prop :=
  e = .returned (.tuple #[]) ∧ Bk B w'.heap.size w' bb (ca + 1) ∧ Kp (fun b => (B ≤ b ∧ b < C) ∨ l.ownBlock = some b) w w'
set_option maxRecDepth 100000 in
set_option maxHeartbeats 4000000 in
theorem packets_any (B C : Nat) (w : World) (bb ca : Nat) (l : Value) (m : Nat) (d : Nat → Nat → Int) (hbk : Bk B C w bb ca) (hca : ca ≤ 10000000000) (hl : OwnV C w l m d) (hm : m ≤ 1000000000000) :
    Calls Try.prog 11 #[.pointer (some ⟨bb, 0, none⟩), l] w (TakeOut B C w bb ca l) := by
  obtain ⟨n, kv, wv, vP, vN, km, kd, xs, ys, ls, hS⟩ := hbk
  have HQ : Hid (∀ e w', TakeOut B C w bb ca l e w' ↔ (e = .returned (.tuple #[]) ∧ Bk B w'.heap.size w' bb (ca + 1) ∧ Kp (fun b => (B ≤ b ∧ b < C) ∨ l.ownBlock = some b) w w')) := fun _ _ => Iff.rfl
  generalize TakeOut B C w bb ca l = Q at HQ ⊢
  have hCw := hS.lt
  have hBC : B ≤ C := by have := hS.inB; omega
  have hfew := hS.few
  have HS := hide hS
  obtain ⟨la, lc, rfl⟩ := hl.slice
  have HL := hide hl
  have HSRC := hide hl.row.any
  have hlC : Hid (∀ b, (Value.slice la m lc).ownBlock = some b → C ≤ b ∧ b < w.heap.size) := fun b hb => hl.lt b hb
  clear hS hl
  go_enter Try.func11, Try.ntmps11
  go_wp2_with (at_builtin; refine wpList_append_pk _ rfl _ _ rfl C (.slice none 0 0) 0 (fun _ _ => 0) rfl (OwnV.nil _ _ _) _ m d rfl HSRC.out (by omega) (by omega) ?_)
  intro vw w1 how hg1 hat1
  have how' : OwnV C w1 vw m d := OwnV.cong (d := cat 0 (fun _ _ => 0) d) (by simpa using how) (fun j hj t ht => by unfold cat; rw [if_neg (by omega), Nat.sub_zero])
  obtain ⟨wa, wc, rfl⟩ := how'.slice
  have G1 : Hid (w.grownBy w1 none) := hg1
  have HW := hide how'
  have S1 := hide (HS.out.grown hg1)
  have L1 := hide (HL.out.grown G1.out (fun b e => by cases e))
  have HAT : Hid (∀ b, (Value.slice wa m wc).ownBlock = some b → w.heap.size ≤ b) := fun b hb => by
    rcases hat1 with e | e
    · rw [e] at hb; cases hb
    · rw [e] at hb; cases hb; exact Nat.le_refl _
  clear how how' hg1 hat1 HS HL HSRC
  obtain ⟨ka, kc, hkv⟩ := S1.out.kept.slice
  subst hkv
  obtain ⟨wwa, wwc, hwv⟩ := S1.out.were.slice
  subst hwv
  have b3 := S1.out.bk.cell 3 (by omega)
  have b4 := S1.out.bk.cell 4 (by omega)
  simp only [bkF, if_true, Nat.reduceEqDiff, if_false] at b3 b4
  have HSP : Hid (∀ ww, w1.grownBy ww none → Calls Try.prog 7 #[.slice ka km kc, .slice wwa km wwc] ww fun e w' => e = .returned (.bool true) ∧ w1.grownBy w' none) := by
    intro ww hg
    refine (samePR _ _ km kd kd ww (S1.out.kept.row.any.grown hg) (S1.out.were.row.any.grown hg) (fun _ _ _ _ => rfl)).mono ?_
    rintro e w' ⟨rfl, hg2⟩
    exact ⟨rfl, grown_trans hg hg2⟩
  have HG0 : Hid (w1.grownBy w1.drew none) := grown_drew (grown_refl _ _)
  go_wp2_with fail
  go_region_with (go_at_call 7; refine (HSP.out _ HG0.out).mono ?_; rintro e w2 ⟨rfl, hg2⟩; have HG2 := hide hg2; clear hg2)
  all_goals
    clear b3 b4
    have S2 := hide (S1.out.grown HG2.out)
    have L2 := hide (L1.out.grown HG2.out (fun b e => by cases e))
    have W2 := hide (HW.out.grown HG2.out (fun b e => by cases e))
    have G2 := hide (grown_trans G1.out HG2.out)
    have b3 := S2.out.bk.cell 3 (by omega)
    simp only [bkF, if_true, Nat.reduceEqDiff, if_false] at b3
    have HMP := hide (markP_any B w2 bb _ n (4 * n) xs ys ls vP vN (.slice ka km kc) km kd S2.out.bk S2.out.inB.1 rfl (by omega) rfl rfl S2.out.rP S2.out.rN (by omega) S2.out.mrk S2.out.kept S2.out.kfew S2.out.apart)
    go_wp2_with fail
    clear b3
    refine HMP.out.mono ?_
    rintro e w3 ⟨rfl, vP1, vN1, xs1, ys1, ls1, bk3, rP3, rN3, mk3, at3, nw3, kp3⟩
    have hS1 : ∀ b, (b = bb ∨ vP.ownBlock = some b ∨ vN.ownBlock = some b ∨ (Value.slice ka km kc).ownBlock = some b) → B ≤ b ∧ b < C := by
      rintro b (e | e | e | e)
      · rw [e]; exact S2.out.inB
      · exact ⟨(S2.out.rP.lt b e).1, S2.out.inP b e⟩
      · exact ⟨(S2.out.rN.lt b e).1, S2.out.inN b e⟩
      · exact ⟨(S2.out.kept.lt b e).1, S2.out.inK b e⟩
    have L3 := L2.out.kp kp3 (fun b hb hc => by have := hS1 b hc; have := (L2.out.lt b hb).1; omega)
    have W3 := W2.out.kp kp3 (fun b hb hc => by have := hS1 b hc; have := (W2.out.lt b hb).1; omega)
    have K3 : Kp (fun b => (B ≤ b ∧ b < C) ∨ (Value.slice la m lc).ownBlock = some b) w w3 := ((Kp.refl _ w).step G2.out (fun b e => by cases e)).trans (kp3.mono (fun b _ hb => .inl (hS1 b hb)))
    have hsz2 : w.heap.size ≤ w2.heap.size := G2.out.size
    have HX3 : Hid (∀ i, i < 4 * n + 4 → ∀ b, (xs1 i).ownBlock = some b → b < C ∨ w2.heap.size < b) := fun i hi b hb => by
      rcases at3 i hi b hb with ⟨j, hj, e⟩ | e | e
      · exact .inl (S2.out.inX j hj b e)
      · exact .inl (S2.out.inK b e)
      · exact .inr e
    have HN3 : Hid (∀ b, vP1.ownBlock = some b ∨ vN1.ownBlock = some b → (B ≤ b ∧ b < C) ∨ w2.heap.size < b) := fun b hb => by
      rcases nw3 b hb with e | e
      · exact .inl (hS1 b e)
      · exact .inr e
    have HG38 : Hid (w2.heap.size ≤ w3.heap.size) := kp3.size
    have HSP2 := hide (samePR _ _ m d d w3 L3.row.any W3.row.any (fun _ _ _ _ => rfl))
    have L3' := hide L3
    have W3' := hide W3
    have K3' := hide K3
    have BK3 := hide bk3
    have RP3 := hide rP3
    have RN3 := hide rN3
    have MK3 := hide mk3
    clear L3 W3 K3 bk3 rP3 rN3 mk3 at3 nw3 kp3 hS1 HMP S2 L2 W2
    go_wp2_with fail
    refine HSP2.out.mono ?_
    rintro e w4 ⟨rfl, hg4⟩
    have no2 : ∀ {v : Value}, v.ownBlock = none ∨ v.ownBlock ≠ none := fun {v} => by cases hv : v.ownBlock with | none => exact .inl rfl | some b => exact .inr (by simp)
    obtain ⟨w8, hw8⟩ : ∃ w8, w8 = (((w4.setCell ⟨bb, 2, none⟩ (.bool false)).setCell ⟨bb, 3, none⟩ (.slice none 0 0)).setCell ⟨bb, 4, none⟩ (.slice none 0 0)).setCell ⟨bb, 1, none⟩ (.int .i64 ((ca : Int) + 1)) := ⟨_, rfl⟩
    have bk4 := BK3.out.grown hg4 (by simp)
    have tb4 : ∀ b, some bb = some b → blkT w4 b 38 := fun b e => by cases e; exact bk4.tag
    have hg8 : w4.grownBy w8 (some bb) := by rw [hw8]; exact grown_trans (grown_trans (grown_trans (grown_set _ _ _ _) (grown_set _ _ _ _)) (grown_set _ _ _ _)) (grown_set _ _ _ _)
    have bk8 : bkBlk w8 bb (bkF (n + 1) (ca + 1) (.slice none 0 0) (.slice none 0 0) vP1 vN1) := by
      have h := (((bk4.set 2 (by omega) (.bool false)).set 3 (by omega) (.slice none 0 0)).set 4 (by omega) (.slice none 0 0)).set 1 (by omega) (.int .i64 ((ca : Int) + 1))
      rw [← hw8] at h
      have e : updB (updB (updB (updB (updB (updB (updB (bkF n ca (.slice ka km kc) (.slice wwa km wwc) vP vN) 0 (.int .i64 ((n + 1 : Nat) : Int))) 9 vP1) 10 vN1) 2 (.bool false)) 3 (.slice none 0 0)) 4 (.slice none 0 0)) 1 (.int .i64 ((ca : Int) + 1)) = bkF (n + 1) (ca + 1) (.slice none 0 0) (.slice none 0 0) vP1 vN1 := by
        funext j
        unfold updB bkF
        by_cases h0 : j = 0
        · subst h0; simp
        · by_cases h1 : j = 1
          · subst h1; simp
          · by_cases h2 : j = 2
            · subst h2; simp
            · by_cases h3 : j = 3
              · subst h3; simp
              · by_cases h4 : j = 4
                · subst h4; simp
                · by_cases h9 : j = 9
                  · subst h9; simp
                  · by_cases h10 : j = 10
                    · subst h10; simp
                    · simp [h0, h1, h2, h3, h4, h9, h10]
      rw [e] at h
      exact h
    have RP8 := hide (owns_keptT (RP3.out.kept hg4 no2) hg8 tb4 (by decide))
    have RN8 := hide (owns_keptT (RN3.out.kept hg4 no2) hg8 tb4 (by decide))
    have MK8 := hide ((MK3.out.grown hg4 (fun i hi b e => by cases e)).grownT hg8 tb4 (by decide))
    have L8 := hide (ownV_keptT (L3'.out.grown hg4 (fun b e => by cases e)) hg8 tb4 (by decide))
    have W8 := hide (ownV_keptT (W3'.out.grown hg4 (fun b e => by cases e)) hg8 tb4 (by decide))
    have BK8 := hide bk8
    have hbbC : Hid (B ≤ bb ∧ bb < C) := S1.out.inB
    have K8 := hide ((K3'.out.step hg4 (fun b e => by cases e)).step hg8 (fun b e => by cases e; exact .inl (.inl hbbC.out)))
    have hsz8 : w2.heap.size ≤ w8.heap.size := by
      have h1 := HG38.out
      have h2 := hg4.size
      have h3 := hg8.size
      omega
    have c1 := bk4.cell 1 (by omega)
    have c2 := bk4.cell 2 (by omega)
    have c3 := bk4.cell 3 (by omega)
    have c4 := bk4.cell 4 (by omega)
    simp only [updB, bkF, if_true, Nat.reduceEqDiff, if_false] at c1 c2 c3 c4
    have fz := bk4.frozen
    clear BK3 RP3 RN3 MK3 L3' W3' K3' bk4 tb4 hg4 hg8 bk8 no2 HSP2 HG38
    by_cases hev : ((ca : Int) + 1) % 2 = 0
    · have hevB : ((((ca : Int) + 1) % 2) == 0) = true := beq_iff_eq.2 hev
      have HEV := hide hev
      clear hev
      go_wp2_with fail
      rw [← hw8]
      clear hw8 c1 c2 c3 c4 fz
      have hap : ∀ i, i < 4 * n + 4 → ∀ b, (xs1 i).ownBlock = some b → (Value.slice la m lc).ownBlock ≠ some b := fun i hi b hb hc => by
        have h1 := hlC.out b hc
        rcases HX3.out i hi b hb with e | e <;> omega
      have HMP := hide (markP_any B w8 bb _ (n + 1) (4 * n + 4) xs1 ys1 ls1 vP1 vN1 (.slice la m lc) m d BK8.out hbbC.out.1 rfl (by omega) rfl rfl RP8.out RN8.out (by omega) MK8.out (L8.out.mono hBC) hm hap)
      refine HMP.out.mono ?_
      rintro e w9 ⟨rfl, vP2, vN2, xs2, ys2, ls2, bk9, rP9, rN9, mk9, at9, nw9, kp9⟩
      rw [bkF_mark] at bk9
      have e4 : 4 * n + 4 + 4 = 4 * (n + 1 + 1) := by omega
      rw [e4] at rP9 rN9 mk9 at9
      have K9 := hide (K8.out.trans2 kp9 (fun b hb h => by
        rcases h with e | e | e | e
        · rw [e]; exact .inl hbbC.out
        · rcases HN3.out b (.inl e) with c | c
          · exact .inl c
          · omega
        · rcases HN3.out b (.inr e) with c | c
          · exact .inl c
          · omega
        · exact .inr e))
      have HB9 : Hid (Bk B w9.heap.size w9 bb (ca + 1)) := ⟨n + 1 + 1, .slice none 0 0, .slice none 0 0, vP2, vN2, 0, fun _ _ => 0, xs2, ys2, ls2, bk9, by omega, by omega, rP9, rN9, mk9, .inl ⟨rfl, rfl⟩, .inl ⟨rfl, rfl⟩, (fun i hi b hb e => by cases e), ⟨hbbC.out.1, bk9.lt⟩, fun b hb => (rP9.lt b hb).2, fun b hb => (rN9.lt b hb).2, (fun b hb => by cases hb), (fun b hb => by cases hb), fun i hi b hb => (by
        obtain ⟨_, cur, h2⟩ := (mk9 i hi).2 b hb
        exact (Array.getElem?_eq_some_iff.1 h2).1), Nat.le_refl _⟩
      clear bk9 rP9 rN9 mk9 at9 nw9 kp9 HMP
      go_wp2
      go_end0
      exact (HQ.out _ _).2 ⟨rfl, HB9.out, K9.out⟩
    · have hevB : ((((ca : Int) + 1) % 2) == 0) = false := beq_eq_false_iff_ne.2 hev
      have HEV := hide hev
      clear hev
      go_upto_region 11 with fail
      rw [← hw8]
      clear hw8 c1 c2 c3 c4 fz
      have c3 := BK8.out.cell 3 (by omega)
      have c4 := BK8.out.cell 4 (by omega)
      simp only [bkF, if_true, Nat.reduceEqDiff, if_false] at c3 c4
      have fz := BK8.out.frozen
      obtain ⟨w9, hw9⟩ : ∃ w9, w9 = (w8.setCell ⟨bb, 3, none⟩ (.slice la m lc)).setCell ⟨bb, 4, none⟩ (.slice wa m wc) := ⟨_, rfl⟩
      have bk9 := (BK8.out.set 3 (by omega) (.slice la m lc)).set 4 (by omega) (.slice wa m wc)
      rw [← hw9, bkF_keep] at bk9
      have hg9 : w8.grownBy w9 (some bb) := by rw [hw9]; exact grown_trans (grown_set _ _ _ _) (grown_set _ _ _ _)
      have tb8 : ∀ b, some bb = some b → blkT w8 b 38 := fun b e => by cases e; exact BK8.out.tag
      have rP9 := owns_keptT RP8.out hg9 tb8 (by decide)
      have rN9 := owns_keptT RN8.out hg9 tb8 (by decide)
      have mk9 := MK8.out.grownT hg9 tb8 (by decide)
      have l9 := (ownV_keptT L8.out hg9 tb8 (by decide)).mono hBC
      have v9 := (ownV_keptT W8.out hg9 tb8 (by decide)).mono hBC
      have e4 : 4 * n + 4 = 4 * (n + 1) := by omega
      rw [e4] at rP9 rN9 mk9
      have K9 := hide (K8.out.step hg9 (fun b e => by cases e; exact .inl (.inl hbbC.out)))
      have HB9 : Hid (Bk B w9.heap.size w9 bb (ca + 1)) := ⟨n + 1, .slice la m lc, .slice wa m wc, vP1, vN1, m, d, xs1, ys1, ls1, bk9, by omega, hm, rP9, rN9, mk9, l9, v9, (fun i hi b hb hc => by
        have h1 := hlC.out b hc
        rcases HX3.out i (by omega) b hb with e | e <;> omega), ⟨hbbC.out.1, bk9.lt⟩, fun b hb => (rP9.lt b hb).2, fun b hb => (rN9.lt b hb).2, fun b hb => (l9.lt b hb).2, fun b hb => (v9.lt b hb).2, fun i hi b hb => (by
        obtain ⟨_, cur, h2⟩ := (mk9 i hi).2 b hb
        exact (Array.getElem?_eq_some_iff.1 h2).1), Nat.le_refl _⟩
      clear bk9 rP9 rN9 mk9 l9 v9 hg9 tb8
      go_wp2
      go_end0
      rw [← hw9]
      exact (HQ.out _ _).2 ⟨rfl, HB9.out, K9.out⟩
end Go.Proofs.Ytlhkfafdioakeaa
