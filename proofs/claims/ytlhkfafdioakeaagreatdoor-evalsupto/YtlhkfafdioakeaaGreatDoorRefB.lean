/- Proved here: the tokens that the document's answer makes of a text of at most 400 bytes. -/
import Derived.Test.YtlhkfafdioakeaaGreatDoorGRefA
namespace Go.Proofs.YtlhkfafdioakeaaGreatDoor
open Go.RowKit Go.Weft
set_option linter.unusedVariables false
set_option linter.unusedSimpArgs false
theorem rTxt_no (s : ByteArray) (t : Tok) (h : ¬ t.kind = 2) : ByteArray.empty = rTxt s t := by unfold rTxt; rw [if_neg h]
theorem rNum_no (s : ByteArray) (t : Tok) (h : ¬ t.kind = 3) : (0 : Int) = rNum s t := by unfold rNum; rw [if_neg h]; rfl
theorem rk_sign {c : Int} (h : ¬ signK c = 1) : rk (signK c) = c := by
  have h2 : c = 43 ∨ c = 59 ∨ c = 42 ∨ c = 33 ∨ c = 40 ∨ c = 41 ∨ c = 61 := by
    simp only [signK] at h
    repeat' split at h
    all_goals omega
  rcases h2 with rfl | rfl | rfl | rfl | rfl | rfl | rfl <;> rfl
theorem signK_no2 (c : Int) : ¬ signK c = 2 ∧ ¬ signK c = 3 := by
  unfold signK
  repeat' split
  all_goals decide
theorem digOf_le (c : UInt8) : digOf c ≤ 1000 := by unfold digOf; omega
theorem rnum_step2 (m : Nat) (c : UInt8) (h1 : (48 : Int) ≤ (c.toNat : Int)) (h2 : (c.toNat : Int) ≤ 57) : (if 1000 < 10 * (m : Int) + ((c.toNat : Int) - 48) then (1000 : Int) else 10 * (m : Int) + ((c.toNat : Int) - 48)) = ((min (10 * m + digOf c) 1000 : Nat) : Int) := by
  have e : ((c.toNat : Int) - 48) % 256 = (c.toNat : Int) - 48 := by omega
  rw [← e]
  exact rnum_step m c
theorem signK_some {c : Int} (h : ¬ signK c = 1) : c = 43 ∨ c = 59 ∨ c = 42 ∨ c = 33 ∨ c = 40 ∨ c = 41 ∨ c = 61 := by
  simp only [signK] at h
  repeat' split at h
  all_goals omega
theorem signK_none {c : Int} (h : signK c = 1) : ¬ c = 43 ∧ ¬ c = 59 ∧ ¬ c = 42 ∧ ¬ c = 33 ∧ ¬ c = 40 ∧ ¬ c = 41 ∧ ¬ c = 61 := by
  refine ⟨?_, ?_, ?_, ?_, ?_, ?_, ?_⟩ <;> (intro e; subst e; revert h; decide)
theorem rzero {s : ByteArray} {pos : Nat} {c : Int} (hlt : pos < s.size) (h : ((s[pos]'hlt).toNat : Int) = c) (hc : c = 48) : (0 : Int) = rVal (txt s ⟨3, pos, pos + 1⟩) := by
  have e := rNumTo_one s pos hlt
  have e2 : digOf (s[pos]'hlt) = 0 := by unfold digOf; rw [h, hc]; rfl
  rw [e2] at e
  show (0 : Int) = ((rNumTo s pos (pos + 1) : Nat) : Int)
  rw [e]; rfl
set_option maxRecDepth 1000000 in
set_option maxHeartbeats 40000000 in
theorem rtokens_any (s : ByteArray) (w : World) (hs : s.size ≤ 400) :
    Calls Tryz.prog 52 #[.string s] w fun e w' => ∃ v, e = .returned v ∧ w'.ownsRow w.heap.size 123 4 v (toks s false 0).length (rCells s (toks s false 0)) ∧ Below w.heap.size w w' := by
  obtain ⟨i0, hi, hz0, hz1, hz2⟩ := info_parts Tryz.infoRTok
  go_enter Tryz.func52, Tryz.ntmps52
  go_wp2
  go_loopw [3, 4] (fun v i wr => ∃ (acc : List Tok) (pos : Nat), acc.length ≤ pos ∧ pos ≤ s.size ∧ i = .int .i64 pos ∧ wr.ownsRow w.heap.size 123 4 v acc.length (rCells s acc) ∧ Below w.heap.size w wr ∧ w.heap.size ≤ wr.heap.size ∧ acc ++ toks s false pos = toks s false 0) (fun _ i _ => s.size - (intOf i).toNat)
  case atStart => exact ⟨[], 0, Nat.zero_le _, Nat.zero_le _, rfl, World.ownsRow_nil _ _ _ _, Below.refl _ _, Nat.le_refl _, rfl⟩
  case round =>
    obtain ⟨acc, pos, hacc, hpos, rfl, hown, hbel, hB, he⟩ := hrel
    have HO := hide hown
    have HB := hide hbel
    have HE := hide he
    clear hown hbel he
    by_cases hlt : pos < s.size
    · obtain ⟨c, hcv⟩ : ∃ c : Int, c = ((s[pos]'hlt).toNat : Int) := ⟨_, rfl⟩
      have hbyt : Hid (byt s pos = c) := by show _ = _; rw [hcv]; exact byt_lt s pos hlt
      have hcr : 0 ≤ c ∧ c ≤ 255 := by have := byt_range s pos; rw [hbyt.out] at this; exact this
      have HCV : Hid (((s[pos]'hlt).toNat : Int) = c) := hcv.symm
      clear hcv
      by_cases hb : c = 32 ∨ c = 10
      · have h1 : ((s[pos]'hlt).toNat : Int) = 32 ∨ ((s[pos]'hlt).toNat : Int) = 10 := by rw [HCV.out]; exact hb
        rcases h1 with h1 | h1
        all_goals
          go_wp2
          go_roundw
          case rel => exact ⟨acc, pos + 1, by omega, by omega, by go_num, HO.out, HB.out, hB, by rw [← HE.out, r_blank hlt hbyt.out hb]⟩
          case measure => simp [intOf]; omega
      have b32 : (((s[pos]'hlt).toNat : Int) == 32) = false := by rw [HCV.out, beq_eq_false_iff_ne]; omega
      have b10 : (((s[pos]'hlt).toNat : Int) == 10) = false := by rw [HCV.out, beq_eq_false_iff_ne]; omega
      by_cases hl : 97 ≤ c ∧ c ≤ 122
      · as_aux_lemma =>
          have h1 : (97 : Int) ≤ ((s[pos]'hlt).toNat : Int) := by rw [HCV.out]; exact hl.1
          have h2 : ((s[pos]'hlt).toNat : Int) ≤ 122 := by rw [HCV.out]; exact hl.2
          go_wp2
          go_loop [4] (fun i => ∃ k : Nat, pos + 1 ≤ k ∧ k ≤ s.size ∧ i = .int .i64 k ∧ runEnd s true s.size (pos + 1) = runEnd s true s.size k) (fun i => s.size - (intOf i).toNat)
          case atStart => exact ⟨pos + 1, Nat.le_refl _, by omega, by go_num, rfl⟩
          case round =>
            obtain ⟨k, hk1, hk2, rfl, hk3⟩ := hrel
            have HK3 := hide hk3
            clear hk3
            by_cases hk : k < s.size
            · have hby : Hid (byt s k = ((s[k]'hk).toNat : Int)) := byt_lt s k hk
              by_cases hlk : letB (byt s k) = true
              · have HLK := hide hlk
                have hlk2 := hlk
                simp only [letB, decide_eq_true_eq] at hlk2
                rw [hby.out] at hlk2
                have g1 : (97 : Int) ≤ ((s[k]'hk).toNat : Int) := hlk2.1
                have g2 : ((s[k]'hk).toNat : Int) ≤ 122 := hlk2.2
                clear hlk hlk2
                go_wp2
                go_round
                case rel => exact ⟨k + 1, by omega, by omega, by go_num, by rw [HK3.out, runEnd_step s true k hk HLK.out]⟩
                case measure => simp [intOf]; omega
              · have HRE : Hid (runEnd s true s.size (pos + 1) = k) := by show _ = _; rw [HK3.out]; exact runEnd_stop s true k (fun h => hlk h.2)
                have hno : ¬ (97 ≤ ((s[k]'hk).toNat : Int) ∧ ((s[k]'hk).toNat : Int) ≤ 122) := by rw [← hby.out]; intro h; exact hlk (by simp [letB, h])
                have hno2 : ((s[k]'hk).toNat : Int) < 97 ∨ 122 < ((s[k]'hk).toNat : Int) := by omega
                clear hlk hno
                rcases hno2 with g1 | g1
                · go_wp2_with (at_builtin; refine wpList_append_own _ rfl _ _ 117 rfl w.heap.size 123 i0 _ 4 40 Tryz.underlying117 hi hz0 hz1 hz2 rfl (by decide) _ _ _ rfl (HO.out.alloc _) ⟨wr.heap.size, 0, none⟩ 1 1 [.int .u8 119, .int .i64 pos, .string (s.extract pos k), .int .i64 0] rfl rfl (news_alloc _ _ _) ?wa2 ?wa3 ?wa4 ?wa5 ?_)
                  case wa2 => first | exact ⟨rfl, rfl, rfl, rfl⟩ | (intro u hu; simp only [List.mem_cons, List.not_mem_nil, or_false] at hu; rcases hu with rfl | rfl | rfl | rfl <;> rfl)
                  case wa3 => unfold maxLen; omega
                  case wa4 => omega
                  case wa5 => first | omega | (simp; omega)
                  intro v' w2 hown' hgrow _
                  have R := r_grown (s := s) (⟨2, pos, k⟩ : Tok) HO.out HB.out hB hown' hgrow rfl rfl rfl rfl
                  have HR := hide R
                  clear hown' hgrow R
                  go_wp2
                  go_roundw
                  case rel => exact ⟨acc ++ [⟨2, pos, k⟩], k, by simp; omega, by omega, rfl, HR.out.1, HR.out.2.1, HR.out.2.2, toks_next HE.out (by rw [r_word hlt hbyt.out hl, HRE.out])⟩
                  case measure => simp [intOf]; omega
                · go_wp2_with (at_builtin; refine wpList_append_own _ rfl _ _ 117 rfl w.heap.size 123 i0 _ 4 40 Tryz.underlying117 hi hz0 hz1 hz2 rfl (by decide) _ _ _ rfl (HO.out.alloc _) ⟨wr.heap.size, 0, none⟩ 1 1 [.int .u8 119, .int .i64 pos, .string (s.extract pos k), .int .i64 0] rfl rfl (news_alloc _ _ _) ?wb2 ?wb3 ?wb4 ?wb5 ?_)
                  case wb2 => first | exact ⟨rfl, rfl, rfl, rfl⟩ | (intro u hu; simp only [List.mem_cons, List.not_mem_nil, or_false] at hu; rcases hu with rfl | rfl | rfl | rfl <;> rfl)
                  case wb3 => unfold maxLen; omega
                  case wb4 => omega
                  case wb5 => first | omega | (simp; omega)
                  intro v' w2 hown' hgrow _
                  have R := r_grown (s := s) (⟨2, pos, k⟩ : Tok) HO.out HB.out hB hown' hgrow rfl rfl rfl rfl
                  have HR := hide R
                  clear hown' hgrow R
                  go_wp2
                  go_roundw
                  case rel => exact ⟨acc ++ [⟨2, pos, k⟩], k, by simp; omega, by omega, rfl, HR.out.1, HR.out.2.1, HR.out.2.2, toks_next HE.out (by rw [r_word hlt hbyt.out hl, HRE.out])⟩
                  case measure => simp [intOf]; omega
            · have HRE : Hid (runEnd s true s.size (pos + 1) = k) := by show _ = _; rw [HK3.out]; exact runEnd_stop s true k (fun h => hk h.1)
              go_wp2_with (at_builtin; refine wpList_append_own _ rfl _ _ 117 rfl w.heap.size 123 i0 _ 4 40 Tryz.underlying117 hi hz0 hz1 hz2 rfl (by decide) _ _ _ rfl (HO.out.alloc _) ⟨wr.heap.size, 0, none⟩ 1 1 [.int .u8 119, .int .i64 pos, .string (s.extract pos k), .int .i64 0] rfl rfl (news_alloc _ _ _) ?wc2 ?wc3 ?wc4 ?wc5 ?_)
              case wc2 => first | exact ⟨rfl, rfl, rfl, rfl⟩ | (intro u hu; simp only [List.mem_cons, List.not_mem_nil, or_false] at hu; rcases hu with rfl | rfl | rfl | rfl <;> rfl)
              case wc3 => unfold maxLen; omega
              case wc4 => omega
              case wc5 => first | omega | (simp; omega)
              intro v' w2 hown' hgrow _
              have R := r_grown (s := s) (⟨2, pos, k⟩ : Tok) HO.out HB.out hB hown' hgrow rfl rfl rfl rfl
              have HR := hide R
              clear hown' hgrow R
              go_wp2
              go_roundw
              case rel => exact ⟨acc ++ [⟨2, pos, k⟩], k, by simp; omega, by omega, rfl, HR.out.1, HR.out.2.1, HR.out.2.2, toks_next HE.out (by rw [r_word hlt hbyt.out hl, HRE.out])⟩
              case measure => simp [intOf]; omega
      have hl2 : ((s[pos]'hlt).toNat : Int) < 97 ∨ 122 < ((s[pos]'hlt).toNat : Int) := by rw [HCV.out]; omega
      have nl : (decide ((97 : Int) ≤ ((s[pos]'hlt).toNat : Int)) && decide (((s[pos]'hlt).toNat : Int) ≤ 122)) = false := by rw [Bool.and_eq_false_iff, decide_eq_false_iff_not, decide_eq_false_iff_not]; omega
      by_cases hz : c = 48
      · as_aux_lemma =>
          have h48 : ((s[pos]'hlt).toNat : Int) = 48 := by rw [HCV.out]; exact hz
          rcases hl2 with hl3 | hl3
          · go_wp2
            refine wp_loop_rounds 1 ?_
            rw [rounds_succ]
            go_wp2_with (at_builtin; refine wpList_append_own _ rfl _ _ 117 rfl w.heap.size 123 i0 _ 4 40 Tryz.underlying117 hi hz0 hz1 hz2 rfl (by decide) _ _ _ rfl (HO.out.alloc _) ⟨wr.heap.size, 0, none⟩ 1 1 [.int .u8 110, .int .i64 pos, .string ByteArray.empty, .int .i64 0] rfl rfl (news_alloc _ _ _) ?za2 ?za3 ?za4 ?za5 ?_)
            case za2 => first | exact ⟨rfl, rfl, rfl, rfl⟩ | (intro u hu; simp only [List.mem_cons, List.not_mem_nil, or_false] at hu; rcases hu with rfl | rfl | rfl | rfl <;> rfl)
            case za3 => unfold maxLen; omega
            case za4 => omega
            case za5 => first | omega | (simp; omega)
            intro v' w2 hown' hgrow _
            have R := r_grown (s := s) (⟨3, pos, pos + 1⟩ : Tok) HO.out HB.out hB hown' hgrow rfl rfl (rTxt_no s _ (show ¬ ((3 : Int) = 2) by decide)) (by show (0 : Int) = _; rw [rNum, if_pos rfl]; exact rzero hlt HCV.out hz)
            have HR := hide R
            clear hown' hgrow R
            go_wp2
            go_roundw
            case rel => exact ⟨acc ++ [⟨3, pos, pos + 1⟩], pos + 1, by simp; omega, by omega, by go_num, HR.out.1, HR.out.2.1, HR.out.2.2, toks_next HE.out (r_zero hlt hbyt.out hz)⟩
            case measure => simp [intOf]; omega
          · omega
      by_cases hd : 48 ≤ c ∧ c ≤ 57
      · as_aux_lemma =>
          have h1 : (48 : Int) ≤ ((s[pos]'hlt).toNat : Int) := by rw [HCV.out]; exact hd.1
          have h2 : ((s[pos]'hlt).toNat : Int) ≤ 57 := by rw [HCV.out]; exact hd.2
          have hn48 : (((s[pos]'hlt).toNat : Int) != 48) = true := by rw [HCV.out, bne_iff_ne]; exact hz
          clear hl2 nl
          go_wp2
          go_loop [4, 7] (fun i n => ∃ k m : Nat, pos + 1 ≤ k ∧ k ≤ s.size ∧ m ≤ 1000 ∧ i = .int .i64 k ∧ n = .int .i64 m ∧ m = rNumTo s pos k ∧ runEnd s false s.size (pos + 1) = runEnd s false s.size k) (fun i _ => s.size - (intOf i).toNat)
          case atStart => exact ⟨pos + 1, digOf (s[pos]'hlt), Nat.le_refl _, by omega, digOf_le _, by go_num, congrArg (Value.int .i64) (by rw [digOf_cast]; omega), (rNumTo_one s pos hlt).symm, rfl⟩
          case round =>
            obtain ⟨k, m, hk1, hk2, hm, rfl, rfl, hm2, hk3⟩ := hrel
            have HK3 := hide hk3
            have HM2 := hide hm2
            clear hk3 hm2
            by_cases hk : k < s.size
            · have hby : Hid (byt s k = ((s[k]'hk).toNat : Int)) := byt_lt s k hk
              by_cases hlk : digB (byt s k) = true
              · have HLK := hide hlk
                have hlk2 := hlk
                simp only [digB, decide_eq_true_eq] at hlk2
                rw [hby.out] at hlk2
                have g1 : (48 : Int) ≤ ((s[k]'hk).toNat : Int) := hlk2.1
                have g2 : ((s[k]'hk).toNat : Int) ≤ 57 := hlk2.2
                clear hlk hlk2
                have HST := hide (rNumTo_succ s pos k (by omega) hk)
                have HNS := hide (rnum_step2 m (s[k]'hk) g1 g2)
                go_wp2
                go_round
                case rel => exact ⟨k + 1, min (10 * m + digOf (s[k]'hk)) 1000, by omega, by omega, by omega, by go_num, congrArg (Value.int .i64) HNS.out, by rw [HST.out, HM2.out], by rw [HK3.out, runEnd_step s false k hk HLK.out]⟩
                case measure => simp [intOf]; omega
              · have HRE : Hid (runEnd s false s.size (pos + 1) = k) := by show _ = _; rw [HK3.out]; exact runEnd_stop s false k (fun h => hlk h.2)
                have hno : ¬ (48 ≤ ((s[k]'hk).toNat : Int) ∧ ((s[k]'hk).toNat : Int) ≤ 57) := by rw [← hby.out]; intro h; exact hlk (by simp [digB, h])
                have hno2 : ((s[k]'hk).toNat : Int) < 48 ∨ 57 < ((s[k]'hk).toNat : Int) := by omega
                clear hlk hno
                rcases hno2 with g1 | g1
                · go_wp2_with (at_builtin; refine wpList_append_own _ rfl _ _ 117 rfl w.heap.size 123 i0 _ 4 40 Tryz.underlying117 hi hz0 hz1 hz2 rfl (by decide) _ _ _ rfl (HO.out.alloc _) ⟨wr.heap.size, 0, none⟩ 1 1 [.int .u8 110, .int .i64 pos, .string ByteArray.empty, .int .i64 m] rfl rfl (news_alloc _ _ _) ?da2 ?da3 ?da4 ?da5 ?_)
                  case da2 => first | exact ⟨rfl, rfl, rfl, rfl⟩ | (intro u hu; simp only [List.mem_cons, List.not_mem_nil, or_false] at hu; rcases hu with rfl | rfl | rfl | rfl <;> rfl)
                  case da3 => unfold maxLen; omega
                  case da4 => omega
                  case da5 => first | omega | (simp; omega)
                  intro v' w2 hown' hgrow _
                  have R := r_grown (s := s) (⟨3, pos, k⟩ : Tok) HO.out HB.out hB hown' hgrow rfl rfl (rTxt_no s _ (show ¬ ((3 : Int) = 2) by decide)) (by rw [HM2.out]; rfl)
                  have HR := hide R
                  clear hown' hgrow R
                  go_wp2
                  go_roundw
                  case rel => exact ⟨acc ++ [⟨3, pos, k⟩], k, by simp; omega, by omega, rfl, HR.out.1, HR.out.2.1, HR.out.2.2, toks_next HE.out (by rw [r_num hlt hbyt.out hz hd, HRE.out])⟩
                  case measure => simp [intOf]; omega
                · go_wp2_with (at_builtin; refine wpList_append_own _ rfl _ _ 117 rfl w.heap.size 123 i0 _ 4 40 Tryz.underlying117 hi hz0 hz1 hz2 rfl (by decide) _ _ _ rfl (HO.out.alloc _) ⟨wr.heap.size, 0, none⟩ 1 1 [.int .u8 110, .int .i64 pos, .string ByteArray.empty, .int .i64 m] rfl rfl (news_alloc _ _ _) ?db2 ?db3 ?db4 ?db5 ?_)
                  case db2 => first | exact ⟨rfl, rfl, rfl, rfl⟩ | (intro u hu; simp only [List.mem_cons, List.not_mem_nil, or_false] at hu; rcases hu with rfl | rfl | rfl | rfl <;> rfl)
                  case db3 => unfold maxLen; omega
                  case db4 => omega
                  case db5 => first | omega | (simp; omega)
                  intro v' w2 hown' hgrow _
                  have R := r_grown (s := s) (⟨3, pos, k⟩ : Tok) HO.out HB.out hB hown' hgrow rfl rfl (rTxt_no s _ (show ¬ ((3 : Int) = 2) by decide)) (by rw [HM2.out]; rfl)
                  have HR := hide R
                  clear hown' hgrow R
                  go_wp2
                  go_roundw
                  case rel => exact ⟨acc ++ [⟨3, pos, k⟩], k, by simp; omega, by omega, rfl, HR.out.1, HR.out.2.1, HR.out.2.2, toks_next HE.out (by rw [r_num hlt hbyt.out hz hd, HRE.out])⟩
                  case measure => simp [intOf]; omega
            · have HRE : Hid (runEnd s false s.size (pos + 1) = k) := by show _ = _; rw [HK3.out]; exact runEnd_stop s false k (fun h => hk h.1)
              go_wp2_with (at_builtin; refine wpList_append_own _ rfl _ _ 117 rfl w.heap.size 123 i0 _ 4 40 Tryz.underlying117 hi hz0 hz1 hz2 rfl (by decide) _ _ _ rfl (HO.out.alloc _) ⟨wr.heap.size, 0, none⟩ 1 1 [.int .u8 110, .int .i64 pos, .string ByteArray.empty, .int .i64 m] rfl rfl (news_alloc _ _ _) ?dc2 ?dc3 ?dc4 ?dc5 ?_)
              case dc2 => first | exact ⟨rfl, rfl, rfl, rfl⟩ | (intro u hu; simp only [List.mem_cons, List.not_mem_nil, or_false] at hu; rcases hu with rfl | rfl | rfl | rfl <;> rfl)
              case dc3 => unfold maxLen; omega
              case dc4 => omega
              case dc5 => first | omega | (simp; omega)
              intro v' w2 hown' hgrow _
              have R := r_grown (s := s) (⟨3, pos, k⟩ : Tok) HO.out HB.out hB hown' hgrow rfl rfl (rTxt_no s _ (show ¬ ((3 : Int) = 2) by decide)) (by rw [HM2.out]; rfl)
              have HR := hide R
              clear hown' hgrow R
              go_wp2
              go_roundw
              case rel => exact ⟨acc ++ [⟨3, pos, k⟩], k, by simp; omega, by omega, rfl, HR.out.1, HR.out.2.1, HR.out.2.2, toks_next HE.out (by rw [r_num hlt hbyt.out hz hd, HRE.out])⟩
              case measure => simp [intOf]; omega
      by_cases hcol : c = 58
      · as_aux_lemma =>
          have h58 : ((s[pos]'hlt).toNat : Int) = 58 := by rw [HCV.out]; exact hcol
          clear hl2 nl
          by_cases hp1 : pos + 1 < s.size
          · have hby1 : Hid (byt s (pos + 1) = ((s[pos + 1]'hp1).toNat : Int)) := byt_lt s (pos + 1) hp1
            by_cases he1 : byt s (pos + 1) = 61
            · have h61 : ((s[pos + 1]'hp1).toNat : Int) = 61 := hby1.out.symm.trans he1
              have HE1 := hide he1
              clear he1
              go_wp2_with (at_builtin; refine wpList_append_own _ rfl _ _ 117 rfl w.heap.size 123 i0 _ 4 40 Tryz.underlying117 hi hz0 hz1 hz2 rfl (by decide) _ _ _ rfl (HO.out.alloc _) ⟨wr.heap.size, 0, none⟩ 1 1 [.int .u8 58, .int .i64 pos, .string ByteArray.empty, .int .i64 0] rfl rfl (news_alloc _ _ _) ?ca2 ?ca3 ?ca4 ?ca5 ?_)
              case ca2 => first | exact ⟨rfl, rfl, rfl, rfl⟩ | (intro u hu; simp only [List.mem_cons, List.not_mem_nil, or_false] at hu; rcases hu with rfl | rfl | rfl | rfl <;> rfl)
              case ca3 => unfold maxLen; omega
              case ca4 => omega
              case ca5 => first | omega | (simp; omega)
              intro v' w2 hown' hgrow _
              have R := r_grown (s := s) (⟨11, pos, pos + 2⟩ : Tok) HO.out HB.out hB hown' hgrow rfl rfl (rTxt_no s _ (show ¬ ((11 : Int) = 2) by decide)) (rNum_no s _ (show ¬ ((11 : Int) = 3) by decide))
              have HR := hide R
              clear hown' hgrow R
              go_wp2
              go_roundw
              case rel => exact ⟨acc ++ [⟨11, pos, pos + 2⟩], pos + 2, by simp; omega, by omega, by go_num, HR.out.1, HR.out.2.1, HR.out.2.2, toks_next HE.out (r_set hlt hbyt.out hcol hp1 HE1.out)⟩
              case measure => simp [intOf]; omega
            · have h61 : (((s[pos + 1]'hp1).toNat : Int) == 61) = false := by rw [← hby1.out, beq_eq_false_iff_ne]; exact he1
              have HE1 := hide he1
              clear he1
              go_wp2_with (at_builtin; refine wpList_append_own _ rfl _ _ 117 rfl w.heap.size 123 i0 _ 4 40 Tryz.underlying117 hi hz0 hz1 hz2 rfl (by decide) _ _ _ rfl (HO.out.alloc _) ⟨wr.heap.size, 0, none⟩ 1 1 [.int .u8 63, .int .i64 pos, .string ByteArray.empty, .int .i64 0] rfl rfl (news_alloc _ _ _) ?cb2 ?cb3 ?cb4 ?cb5 ?_)
              case cb2 => first | exact ⟨rfl, rfl, rfl, rfl⟩ | (intro u hu; simp only [List.mem_cons, List.not_mem_nil, or_false] at hu; rcases hu with rfl | rfl | rfl | rfl <;> rfl)
              case cb3 => unfold maxLen; omega
              case cb4 => omega
              case cb5 => first | omega | (simp; omega)
              intro v' w2 hown' hgrow _
              have R := r_grown (s := s) (⟨1, pos, pos⟩ : Tok) HO.out HB.out hB hown' hgrow rfl rfl (rTxt_no s _ (show ¬ ((1 : Int) = 2) by decide)) (rNum_no s _ (show ¬ ((1 : Int) = 3) by decide))
              have HR := hide R
              clear hown' hgrow R
              go_wp2
              go_roundw
              case rel => exact ⟨acc ++ [⟨1, pos, pos⟩], pos + 1, by simp; omega, by omega, by go_num, HR.out.1, HR.out.2.1, HR.out.2.2, toks_next HE.out (r_wrong hlt hbyt.out hb hl hd (fun h => HE1.out h.2.2) (by rw [hcol]; rfl))⟩
              case measure => simp [intOf]; omega
          · go_wp2_with (at_builtin; refine wpList_append_own _ rfl _ _ 117 rfl w.heap.size 123 i0 _ 4 40 Tryz.underlying117 hi hz0 hz1 hz2 rfl (by decide) _ _ _ rfl (HO.out.alloc _) ⟨wr.heap.size, 0, none⟩ 1 1 [.int .u8 63, .int .i64 pos, .string ByteArray.empty, .int .i64 0] rfl rfl (news_alloc _ _ _) ?cc2 ?cc3 ?cc4 ?cc5 ?_)
            case cc2 => first | exact ⟨rfl, rfl, rfl, rfl⟩ | (intro u hu; simp only [List.mem_cons, List.not_mem_nil, or_false] at hu; rcases hu with rfl | rfl | rfl | rfl <;> rfl)
            case cc3 => unfold maxLen; omega
            case cc4 => omega
            case cc5 => first | omega | (simp; omega)
            intro v' w2 hown' hgrow _
            have R := r_grown (s := s) (⟨1, pos, pos⟩ : Tok) HO.out HB.out hB hown' hgrow rfl rfl (rTxt_no s _ (show ¬ ((1 : Int) = 2) by decide)) (rNum_no s _ (show ¬ ((1 : Int) = 3) by decide))
            have HR := hide R
            clear hown' hgrow R
            go_wp2
            go_roundw
            case rel => exact ⟨acc ++ [⟨1, pos, pos⟩], pos + 1, by simp; omega, by omega, by go_num, HR.out.1, HR.out.2.1, HR.out.2.2, toks_next HE.out (r_wrong hlt hbyt.out hb hl hd (fun h => hp1 h.2.1) (by rw [hcol]; rfl))⟩
            case measure => simp [intOf]; omega
      by_cases hsg : signK c = 1
      · as_aux_lemma =>
          have ns : ¬ c = 43 ∧ ¬ c = 59 ∧ ¬ c = 42 ∧ ¬ c = 33 ∧ ¬ c = 40 ∧ ¬ c = 41 ∧ ¬ c = 61 := signK_none hsg
          have b58 : (((s[pos]'hlt).toNat : Int) == 58) = false := by rw [HCV.out, beq_eq_false_iff_ne]; omega
          have b43 : (((s[pos]'hlt).toNat : Int) == 43) = false := by rw [HCV.out, beq_eq_false_iff_ne]; omega
          have b59 : (((s[pos]'hlt).toNat : Int) == 59) = false := by rw [HCV.out, beq_eq_false_iff_ne]; omega
          have b42 : (((s[pos]'hlt).toNat : Int) == 42) = false := by rw [HCV.out, beq_eq_false_iff_ne]; omega
          have b33 : (((s[pos]'hlt).toNat : Int) == 33) = false := by rw [HCV.out, beq_eq_false_iff_ne]; omega
          have b40 : (((s[pos]'hlt).toNat : Int) == 40) = false := by rw [HCV.out, beq_eq_false_iff_ne]; omega
          have b41 : (((s[pos]'hlt).toNat : Int) == 41) = false := by rw [HCV.out, beq_eq_false_iff_ne]; omega
          have b61 : (((s[pos]'hlt).toNat : Int) == 61) = false := by rw [HCV.out, beq_eq_false_iff_ne]; omega
          have hd2 : ((s[pos]'hlt).toNat : Int) < 48 ∨ 57 < ((s[pos]'hlt).toNat : Int) := by rw [HCV.out]; omega
          have HSG := hide hsg
          clear nl hsg ns
          rcases hl2 with l2 | l2
          all_goals rcases hd2 with d2 | d2
          all_goals try omega
          · go_wp2_with (at_builtin; refine wpList_append_own _ rfl _ _ 117 rfl w.heap.size 123 i0 _ 4 40 Tryz.underlying117 hi hz0 hz1 hz2 rfl (by decide) _ _ _ rfl (HO.out.alloc _) ⟨wr.heap.size, 0, none⟩ 1 1 [.int .u8 63, .int .i64 pos, .string ByteArray.empty, .int .i64 0] rfl rfl (news_alloc _ _ _) ?xa2 ?xa3 ?xa4 ?xa5 ?_)
            case xa2 => first | exact ⟨rfl, rfl, rfl, rfl⟩ | (intro u hu; simp only [List.mem_cons, List.not_mem_nil, or_false] at hu; rcases hu with rfl | rfl | rfl | rfl <;> rfl)
            case xa3 => unfold maxLen; omega
            case xa4 => omega
            case xa5 => first | omega | (simp; omega)
            intro v' w2 hown' hgrow _
            have R := r_grown (s := s) (⟨1, pos, pos⟩ : Tok) HO.out HB.out hB hown' hgrow rfl rfl (rTxt_no s _ (show ¬ ((1 : Int) = 2) by decide)) (rNum_no s _ (show ¬ ((1 : Int) = 3) by decide))
            have HR := hide R
            clear hown' hgrow R
            go_wp2
            go_roundw
            case rel => exact ⟨acc ++ [⟨1, pos, pos⟩], pos + 1, by simp; omega, by omega, by go_num, HR.out.1, HR.out.2.1, HR.out.2.2, toks_next HE.out (r_wrong hlt hbyt.out hb hl hd (fun h => hcol h.1) HSG.out)⟩
            case measure => simp [intOf]; omega
          · go_wp2_with (at_builtin; refine wpList_append_own _ rfl _ _ 117 rfl w.heap.size 123 i0 _ 4 40 Tryz.underlying117 hi hz0 hz1 hz2 rfl (by decide) _ _ _ rfl (HO.out.alloc _) ⟨wr.heap.size, 0, none⟩ 1 1 [.int .u8 63, .int .i64 pos, .string ByteArray.empty, .int .i64 0] rfl rfl (news_alloc _ _ _) ?xb2 ?xb3 ?xb4 ?xb5 ?_)
            case xb2 => first | exact ⟨rfl, rfl, rfl, rfl⟩ | (intro u hu; simp only [List.mem_cons, List.not_mem_nil, or_false] at hu; rcases hu with rfl | rfl | rfl | rfl <;> rfl)
            case xb3 => unfold maxLen; omega
            case xb4 => omega
            case xb5 => first | omega | (simp; omega)
            intro v' w2 hown' hgrow _
            have R := r_grown (s := s) (⟨1, pos, pos⟩ : Tok) HO.out HB.out hB hown' hgrow rfl rfl (rTxt_no s _ (show ¬ ((1 : Int) = 2) by decide)) (rNum_no s _ (show ¬ ((1 : Int) = 3) by decide))
            have HR := hide R
            clear hown' hgrow R
            go_wp2
            go_roundw
            case rel => exact ⟨acc ++ [⟨1, pos, pos⟩], pos + 1, by simp; omega, by omega, by go_num, HR.out.1, HR.out.2.1, HR.out.2.2, toks_next HE.out (r_wrong hlt hbyt.out hb hl hd (fun h => hcol h.1) HSG.out)⟩
            case measure => simp [intOf]; omega
          · go_wp2_with (at_builtin; refine wpList_append_own _ rfl _ _ 117 rfl w.heap.size 123 i0 _ 4 40 Tryz.underlying117 hi hz0 hz1 hz2 rfl (by decide) _ _ _ rfl (HO.out.alloc _) ⟨wr.heap.size, 0, none⟩ 1 1 [.int .u8 63, .int .i64 pos, .string ByteArray.empty, .int .i64 0] rfl rfl (news_alloc _ _ _) ?xc2 ?xc3 ?xc4 ?xc5 ?_)
            case xc2 => first | exact ⟨rfl, rfl, rfl, rfl⟩ | (intro u hu; simp only [List.mem_cons, List.not_mem_nil, or_false] at hu; rcases hu with rfl | rfl | rfl | rfl <;> rfl)
            case xc3 => unfold maxLen; omega
            case xc4 => omega
            case xc5 => first | omega | (simp; omega)
            intro v' w2 hown' hgrow _
            have R := r_grown (s := s) (⟨1, pos, pos⟩ : Tok) HO.out HB.out hB hown' hgrow rfl rfl (rTxt_no s _ (show ¬ ((1 : Int) = 2) by decide)) (rNum_no s _ (show ¬ ((1 : Int) = 3) by decide))
            have HR := hide R
            clear hown' hgrow R
            go_wp2
            go_roundw
            case rel => exact ⟨acc ++ [⟨1, pos, pos⟩], pos + 1, by simp; omega, by omega, by go_num, HR.out.1, HR.out.2.1, HR.out.2.2, toks_next HE.out (r_wrong hlt hbyt.out hb hl hd (fun h => hcol h.1) HSG.out)⟩
            case measure => simp [intOf]; omega
      have hsv := signK_some hsg
      have HSG := hide hsg
      clear nl hl2 hsg
      rcases hsv with h9 | h9 | h9 | h9 | h9 | h9 | h9
      · as_aux_lemma =>
          have h10 : ((s[pos]'hlt).toNat : Int) = 43 := by rw [HCV.out]; exact h9
          go_wp2_with (at_builtin; refine wpList_append_own _ rfl _ _ 117 rfl w.heap.size 123 i0 _ 4 40 Tryz.underlying117 hi hz0 hz1 hz2 rfl (by decide) _ _ _ rfl (HO.out.alloc _) ⟨wr.heap.size, 0, none⟩ 1 1 [.int .u8 43, .int .i64 pos, .string ByteArray.empty, .int .i64 0] rfl rfl (news_alloc _ _ _) ?sa2 ?sa3 ?sa4 ?sa5 ?_)
          case sa2 => first | exact ⟨rfl, rfl, rfl, rfl⟩ | (intro u hu; simp only [List.mem_cons, List.not_mem_nil, or_false] at hu; rcases hu with rfl | rfl | rfl | rfl <;> rfl)
          case sa3 => unfold maxLen; omega
          case sa4 => omega
          case sa5 => first | omega | (simp; omega)
          intro v' w2 hown' hgrow _
          have R := r_grown (s := s) (⟨signK c, pos, pos + 1⟩ : Tok) HO.out HB.out hB hown' hgrow (by rw [rk_sign HSG.out, h9]) rfl (rTxt_no s _ (signK_no2 c).1) (rNum_no s _ (signK_no2 c).2)
          have HR := hide R
          clear hown' hgrow R
          go_wp2
          go_roundw
          case rel => exact ⟨acc ++ [⟨signK c, pos, pos + 1⟩], pos + 1, by simp; omega, by omega, by go_num, HR.out.1, HR.out.2.1, HR.out.2.2, toks_next HE.out (r_sign hlt hbyt.out HSG.out)⟩
          case measure => simp [intOf]; omega
      · as_aux_lemma =>
          have h10 : ((s[pos]'hlt).toNat : Int) = 59 := by rw [HCV.out]; exact h9
          go_wp2_with (at_builtin; refine wpList_append_own _ rfl _ _ 117 rfl w.heap.size 123 i0 _ 4 40 Tryz.underlying117 hi hz0 hz1 hz2 rfl (by decide) _ _ _ rfl (HO.out.alloc _) ⟨wr.heap.size, 0, none⟩ 1 1 [.int .u8 59, .int .i64 pos, .string ByteArray.empty, .int .i64 0] rfl rfl (news_alloc _ _ _) ?sb2 ?sb3 ?sb4 ?sb5 ?_)
          case sb2 => first | exact ⟨rfl, rfl, rfl, rfl⟩ | (intro u hu; simp only [List.mem_cons, List.not_mem_nil, or_false] at hu; rcases hu with rfl | rfl | rfl | rfl <;> rfl)
          case sb3 => unfold maxLen; omega
          case sb4 => omega
          case sb5 => first | omega | (simp; omega)
          intro v' w2 hown' hgrow _
          have R := r_grown (s := s) (⟨signK c, pos, pos + 1⟩ : Tok) HO.out HB.out hB hown' hgrow (by rw [rk_sign HSG.out, h9]) rfl (rTxt_no s _ (signK_no2 c).1) (rNum_no s _ (signK_no2 c).2)
          have HR := hide R
          clear hown' hgrow R
          go_wp2
          go_roundw
          case rel => exact ⟨acc ++ [⟨signK c, pos, pos + 1⟩], pos + 1, by simp; omega, by omega, by go_num, HR.out.1, HR.out.2.1, HR.out.2.2, toks_next HE.out (r_sign hlt hbyt.out HSG.out)⟩
          case measure => simp [intOf]; omega
      · as_aux_lemma =>
          have h10 : ((s[pos]'hlt).toNat : Int) = 42 := by rw [HCV.out]; exact h9
          go_wp2_with (at_builtin; refine wpList_append_own _ rfl _ _ 117 rfl w.heap.size 123 i0 _ 4 40 Tryz.underlying117 hi hz0 hz1 hz2 rfl (by decide) _ _ _ rfl (HO.out.alloc _) ⟨wr.heap.size, 0, none⟩ 1 1 [.int .u8 42, .int .i64 pos, .string ByteArray.empty, .int .i64 0] rfl rfl (news_alloc _ _ _) ?sc2 ?sc3 ?sc4 ?sc5 ?_)
          case sc2 => first | exact ⟨rfl, rfl, rfl, rfl⟩ | (intro u hu; simp only [List.mem_cons, List.not_mem_nil, or_false] at hu; rcases hu with rfl | rfl | rfl | rfl <;> rfl)
          case sc3 => unfold maxLen; omega
          case sc4 => omega
          case sc5 => first | omega | (simp; omega)
          intro v' w2 hown' hgrow _
          have R := r_grown (s := s) (⟨signK c, pos, pos + 1⟩ : Tok) HO.out HB.out hB hown' hgrow (by rw [rk_sign HSG.out, h9]) rfl (rTxt_no s _ (signK_no2 c).1) (rNum_no s _ (signK_no2 c).2)
          have HR := hide R
          clear hown' hgrow R
          go_wp2
          go_roundw
          case rel => exact ⟨acc ++ [⟨signK c, pos, pos + 1⟩], pos + 1, by simp; omega, by omega, by go_num, HR.out.1, HR.out.2.1, HR.out.2.2, toks_next HE.out (r_sign hlt hbyt.out HSG.out)⟩
          case measure => simp [intOf]; omega
      · as_aux_lemma =>
          have h10 : ((s[pos]'hlt).toNat : Int) = 33 := by rw [HCV.out]; exact h9
          go_wp2_with (at_builtin; refine wpList_append_own _ rfl _ _ 117 rfl w.heap.size 123 i0 _ 4 40 Tryz.underlying117 hi hz0 hz1 hz2 rfl (by decide) _ _ _ rfl (HO.out.alloc _) ⟨wr.heap.size, 0, none⟩ 1 1 [.int .u8 33, .int .i64 pos, .string ByteArray.empty, .int .i64 0] rfl rfl (news_alloc _ _ _) ?sd2 ?sd3 ?sd4 ?sd5 ?_)
          case sd2 => first | exact ⟨rfl, rfl, rfl, rfl⟩ | (intro u hu; simp only [List.mem_cons, List.not_mem_nil, or_false] at hu; rcases hu with rfl | rfl | rfl | rfl <;> rfl)
          case sd3 => unfold maxLen; omega
          case sd4 => omega
          case sd5 => first | omega | (simp; omega)
          intro v' w2 hown' hgrow _
          have R := r_grown (s := s) (⟨signK c, pos, pos + 1⟩ : Tok) HO.out HB.out hB hown' hgrow (by rw [rk_sign HSG.out, h9]) rfl (rTxt_no s _ (signK_no2 c).1) (rNum_no s _ (signK_no2 c).2)
          have HR := hide R
          clear hown' hgrow R
          go_wp2
          go_roundw
          case rel => exact ⟨acc ++ [⟨signK c, pos, pos + 1⟩], pos + 1, by simp; omega, by omega, by go_num, HR.out.1, HR.out.2.1, HR.out.2.2, toks_next HE.out (r_sign hlt hbyt.out HSG.out)⟩
          case measure => simp [intOf]; omega
      · as_aux_lemma =>
          have h10 : ((s[pos]'hlt).toNat : Int) = 40 := by rw [HCV.out]; exact h9
          go_wp2_with (at_builtin; refine wpList_append_own _ rfl _ _ 117 rfl w.heap.size 123 i0 _ 4 40 Tryz.underlying117 hi hz0 hz1 hz2 rfl (by decide) _ _ _ rfl (HO.out.alloc _) ⟨wr.heap.size, 0, none⟩ 1 1 [.int .u8 40, .int .i64 pos, .string ByteArray.empty, .int .i64 0] rfl rfl (news_alloc _ _ _) ?se2 ?se3 ?se4 ?se5 ?_)
          case se2 => first | exact ⟨rfl, rfl, rfl, rfl⟩ | (intro u hu; simp only [List.mem_cons, List.not_mem_nil, or_false] at hu; rcases hu with rfl | rfl | rfl | rfl <;> rfl)
          case se3 => unfold maxLen; omega
          case se4 => omega
          case se5 => first | omega | (simp; omega)
          intro v' w2 hown' hgrow _
          have R := r_grown (s := s) (⟨signK c, pos, pos + 1⟩ : Tok) HO.out HB.out hB hown' hgrow (by rw [rk_sign HSG.out, h9]) rfl (rTxt_no s _ (signK_no2 c).1) (rNum_no s _ (signK_no2 c).2)
          have HR := hide R
          clear hown' hgrow R
          go_wp2
          go_roundw
          case rel => exact ⟨acc ++ [⟨signK c, pos, pos + 1⟩], pos + 1, by simp; omega, by omega, by go_num, HR.out.1, HR.out.2.1, HR.out.2.2, toks_next HE.out (r_sign hlt hbyt.out HSG.out)⟩
          case measure => simp [intOf]; omega
      · as_aux_lemma =>
          have h10 : ((s[pos]'hlt).toNat : Int) = 41 := by rw [HCV.out]; exact h9
          go_wp2_with (at_builtin; refine wpList_append_own _ rfl _ _ 117 rfl w.heap.size 123 i0 _ 4 40 Tryz.underlying117 hi hz0 hz1 hz2 rfl (by decide) _ _ _ rfl (HO.out.alloc _) ⟨wr.heap.size, 0, none⟩ 1 1 [.int .u8 41, .int .i64 pos, .string ByteArray.empty, .int .i64 0] rfl rfl (news_alloc _ _ _) ?sf2 ?sf3 ?sf4 ?sf5 ?_)
          case sf2 => first | exact ⟨rfl, rfl, rfl, rfl⟩ | (intro u hu; simp only [List.mem_cons, List.not_mem_nil, or_false] at hu; rcases hu with rfl | rfl | rfl | rfl <;> rfl)
          case sf3 => unfold maxLen; omega
          case sf4 => omega
          case sf5 => first | omega | (simp; omega)
          intro v' w2 hown' hgrow _
          have R := r_grown (s := s) (⟨signK c, pos, pos + 1⟩ : Tok) HO.out HB.out hB hown' hgrow (by rw [rk_sign HSG.out, h9]) rfl (rTxt_no s _ (signK_no2 c).1) (rNum_no s _ (signK_no2 c).2)
          have HR := hide R
          clear hown' hgrow R
          go_wp2
          go_roundw
          case rel => exact ⟨acc ++ [⟨signK c, pos, pos + 1⟩], pos + 1, by simp; omega, by omega, by go_num, HR.out.1, HR.out.2.1, HR.out.2.2, toks_next HE.out (r_sign hlt hbyt.out HSG.out)⟩
          case measure => simp [intOf]; omega
      · as_aux_lemma =>
          have h10 : ((s[pos]'hlt).toNat : Int) = 61 := by rw [HCV.out]; exact h9
          go_wp2_with (at_builtin; refine wpList_append_own _ rfl _ _ 117 rfl w.heap.size 123 i0 _ 4 40 Tryz.underlying117 hi hz0 hz1 hz2 rfl (by decide) _ _ _ rfl (HO.out.alloc _) ⟨wr.heap.size, 0, none⟩ 1 1 [.int .u8 61, .int .i64 pos, .string ByteArray.empty, .int .i64 0] rfl rfl (news_alloc _ _ _) ?sg2 ?sg3 ?sg4 ?sg5 ?_)
          case sg2 => first | exact ⟨rfl, rfl, rfl, rfl⟩ | (intro u hu; simp only [List.mem_cons, List.not_mem_nil, or_false] at hu; rcases hu with rfl | rfl | rfl | rfl <;> rfl)
          case sg3 => unfold maxLen; omega
          case sg4 => omega
          case sg5 => first | omega | (simp; omega)
          intro v' w2 hown' hgrow _
          have R := r_grown (s := s) (⟨signK c, pos, pos + 1⟩ : Tok) HO.out HB.out hB hown' hgrow (by rw [rk_sign HSG.out, h9]) rfl (rTxt_no s _ (signK_no2 c).1) (rNum_no s _ (signK_no2 c).2)
          have HR := hide R
          clear hown' hgrow R
          go_wp2
          go_roundw
          case rel => exact ⟨acc ++ [⟨signK c, pos, pos + 1⟩], pos + 1, by simp; omega, by omega, by go_num, HR.out.1, HR.out.2.1, HR.out.2.2, toks_next HE.out (r_sign hlt hbyt.out HSG.out)⟩
          case measure => simp [intOf]; omega
    · as_aux_lemma =>
        have hps : pos = s.size := by omega
        subst hps
        go_wp2_with (at_builtin; refine wpList_append_own _ rfl _ _ 117 rfl w.heap.size 123 i0 _ 4 40 Tryz.underlying117 hi hz0 hz1 hz2 rfl (by decide) _ _ _ rfl (HO.out.alloc _) ⟨wr.heap.size, 0, none⟩ 1 1 [.int .u8 0, .int .i64 s.size, .string ByteArray.empty, .int .i64 0] rfl rfl (news_alloc _ _ _) ?ea2 ?ea3 ?ea4 ?ea5 ?_)
        case ea2 => first | exact ⟨rfl, rfl, rfl, rfl⟩ | (intro u hu; simp only [List.mem_cons, List.not_mem_nil, or_false] at hu; rcases hu with rfl | rfl | rfl | rfl <;> rfl)
        case ea3 => unfold maxLen; omega
        case ea4 => omega
        case ea5 => first | omega | (simp; omega)
        intro v' w2 hown' hgrow _
        have R := r_grown (s := s) (⟨0, s.size, s.size⟩ : Tok) HO.out HB.out hB hown' hgrow rfl rfl (rTxt_no s _ (show ¬ ((0 : Int) = 2) by decide)) (rNum_no s _ (show ¬ ((0 : Int) = 3) by decide))
        have HF : Hid (acc ++ [(⟨0, s.size, s.size⟩ : Tok)] = toks s false 0) := by show _ = _; rw [← HE.out, toks_eq s false s.size, if_pos (Nat.le_refl _)]
        have HR := hide R
        clear hown' hgrow R
        go_wp2
        go_ret
        have HR2 := HR.out
        rw [HF.out] at HR2
        exact ⟨_, rfl, HR2.1, HR2.2.1⟩
end Go.Proofs.YtlhkfafdioakeaaGreatDoor
