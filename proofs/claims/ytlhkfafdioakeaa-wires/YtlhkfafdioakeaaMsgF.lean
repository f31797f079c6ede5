/- Proved here: what Encode answers for every message. -/
import Derived.Test.YtlhkfafdioakeaaMsgE
import Derived.Deep.RegionWith
namespace Go.Proofs.Ytlhkfafdioakeaa
open Go.RowKit
set_option linter.unusedVariables false
set_option linter.unusedSimpArgs false
def u8 (n : Int) : UInt8 := UInt8.ofNat n.toNat
def strI (l : List Int) : Value := .string ⟨(l.map u8).toArray⟩
theorem fold_bytes (l : List Int) : ∀ s : ByteArray, l.foldl (fun r n => r.push (UInt8.ofNat n.toNat)) s = ⟨s.data ++ (l.map u8).toArray⟩ := by
  induction l with
  | nil => intro s; cases s; simp
  | cons x l ih => intro s; rw [List.foldl_cons, ih]; simp [ByteArray.push, u8, ByteArray.ext_iff]
def encB (m : Msg) : List Int := m.kind % 256 :: (twoB (bodyB m).length ++ bodyB m)
def canS (m : Msg) : Prop := msgS m ∧ (bodyB m).length ≤ 65535
/-- What Encode comes to. -/
def EncOut (m : Msg) (w : World) (e : Ending) (w' : World) : Prop := w.grownBy w' none ∧ ((canS m ∧ e = .returned (.tuple #[strI (encB m), .int .i64 0])) ∨ (¬ canS m ∧ e = .returned (.tuple #[.string ByteArray.empty, .int .i64 9])))

theorem bodyB_few (m : Msg) (h1 : m.na ≤ 3000000000000) (h2 : m.np ≤ 3000000000000) : (bodyB m).length ≤ 20000000000000 := by
  unfold bodyB
  split
  · simp [pksB_len, twoB, pkB]; omega
  · split
    · simp [pksB_len, twoB]; omega
    · rw [pksB_len]; omega
theorem Says.cases {p : Prop} {w w' : World} {e : Ending} (h : Says p w e w') : ((p ∧ e = .returned (.bool true)) ∨ (¬ p ∧ e = .returned (.bool false))) ∧ w.grownBy w' none := by
  obtain ⟨⟨b, rfl, hb⟩, hg⟩ := h
  refine ⟨?_, hg⟩
  cases b
  · exact .inr ⟨fun hp => by simpa using hb.2 hp, rfl⟩
  · exact .inl ⟨hb.1 rfl, rfl⟩
theorem BRow.slice {B : Nat} {w : World} {v : Value} {bs : List Int} (h : BRow B w v bs) : ∃ a cap, v = .slice a bs.length cap := by
  rcases h.2 with ⟨h2, h3⟩ | ⟨g, cap, cur, hv, _⟩
  · exact ⟨none, 0, by rw [h2, h3]⟩
  · exact ⟨_, _, hv⟩
theorem BRow.made (w : World) (x : Int) : BRow w.heap.size (w.alloc (.cells #[.int .u8 x] 5)) (.slice (some ⟨w.heap.size, 0, none⟩) 1 1) [x] :=
  ⟨rfl, .inr ⟨w.heap.size, 1, _, rfl, Nat.le_refl _, heap_alloc_new w _, Nat.le_refl _, by unfold maxLen; omega, rfl, rfl⟩⟩
theorem addr_add (g j : Nat) : (⟨g, 0, none⟩ : Addr).add j = ⟨g, j, none⟩ := by unfold Addr.add; split <;> simp_all
/-- Where the row of some bytes lies. -/
theorem BRow.at {B : Nat} {w : World} {v : Value} {bs : List Int} (h : BRow B w v bs) : (v = .slice none 0 0 ∧ bs = []) ∨ ∃ g cap, v = .slice (some ⟨g, 0, none⟩) bs.length cap ∧ bs.length ≤ cap ∧ ∀ j u, (bs.map (Value.int .u8))[j]? = some u → w.cell? ((⟨g, 0, none⟩ : Addr).add j) = some u := by
  rcases h.2 with ⟨h2, h3⟩ | ⟨g, cap, cur, rfl, hb, hg, hc, _⟩
  · exact .inl ⟨h2, List.eq_nil_of_length_eq_zero h3⟩
  · exact .inr ⟨g, cap, rfl, hc, World.ownsRow.cells h rfl⟩
theorem BRow.str {B : Nat} {w : World} {v : Value} {bs : List Int} (h : BRow B w v bs) (hne : bs ≠ []) : (convert 64 9 v).run Try.prog w = .ok (strI bs) w := by
  rcases h.at with ⟨_, h2⟩ | ⟨g, cap, rfl, _, hc⟩
  · exact absurd h2 hne
  · rw [run_convert_bytes_string w 64 9 5 _ _ _ (by kernel_rfl) (by kernel_rfl) (by kernel_rfl)]
    have hl := run_loadCells_list (P := Try.prog) w ⟨g, 0, none⟩ (bs.map (Value.int .u8)) hc
    rw [List.length_map] at hl
    rw [run_bytesToString w _ _ _ bs hl, fold_bytes]
    unfold strI
    simp
set_option maxRecDepth 100000 in
set_option maxHeartbeats 4000000 in
theorem encode_any (m : Msg) (a b : Option Addr) (ca cb : Nat) (w : World) (hav : PkRow w (.slice a m.na ca) m.na m.acts) (hpv : PkRow w (.slice b m.np cb) m.np m.pks) (hia : RowIn w.heap.size (.slice a m.na ca)) (hib : RowIn w.heap.size (.slice b m.np cb)) :
    Calls Try.prog 28 #[msgV m (.slice a m.na ca) (.slice b m.np cb)] w (EncOut m w) := by
  have HR := hide (fun w hav hpv => msg_any m a b ca cb w hav hpv)
  have HBO := hide (fun w hav hpv hia hib => body_any m a b ca cb w hav hpv hia hib)
  have HAV := hide hav
  have HPV := hide hpv
  have HIA := hide hia
  have HIB := hide hib
  have hblen := bodyB_few m hav.few hpv.few
  clear hav hpv hia hib
  have HQ : Hid (∀ e w', EncOut m w e w' ↔ (w.grownBy w' none ∧ ((msgS m ∧ (bodyB m).length ≤ 65535 ∧ e = .returned (.tuple #[strI (m.kind % 256 :: (twoB (bodyB m).length ++ bodyB m)), .int .i64 0])) ∨ (¬ (msgS m ∧ (bodyB m).length ≤ 65535) ∧ e = .returned (.tuple #[.string ByteArray.empty, .int .i64 9]))))) := by
    intro e w'; unfold EncOut canS encB; rw [and_assoc]
  generalize EncOut m w = Q at HQ ⊢
  generalize msgS m = RP at *
  generalize bodyB m = BB at *
  obtain ⟨kind, p, mt, na, acts, np, pks⟩ := m
  have M0 := hide (msgBlk.alloc w kind p mt (.slice a na ca) (.slice b np cb))
  unfold msgV at *
  simp only at HR HBO HAV HPV HIA HIB HQ ⊢
  go_enter Try.func28, Try.ntmps28
  go_wp2_with fail
  obtain ⟨wa, hwa⟩ : ∃ wa, wa = w.alloc (Obj.cells #[.int .i64 kind, .int .i64 p, .int .i64 (mt 0), .int .i64 (mt 1), .int .i64 (mt 2), .int .i64 (mt 3), .int .i64 (mt 4), .int .i64 (mt 5), .slice a na ca, .slice b np cb] 45) := ⟨_, rfl⟩
  have hsa : wa.heap.size = w.heap.size + 1 := by rw [hwa]; simp
  have GA : Hid (w.grownBy wa none) := by rw [hwa]; exact World.grownBy_alloc _ _ _
  rw [← hwa] at M0 ⊢
  clear hwa
  refine (HR.out _ (HAV.out.grown GA.out) (HPV.out.grown GA.out)).mono ?_
  rintro e w1 hs
  obtain ⟨hs, hg1⟩ := hs.cases
  have G1 := hide (grown_trans GA.out hg1)
  have M1 := hide (M0.out.below (Below.up (B := w.heap.size + 1) hg1 (by omega)) (by omega))
  have hs1 := hg1.size
  clear hg1
  rcases hs with ⟨hrp, rfl⟩ | ⟨hrp, rfl⟩
  · have HRP := hide hrp
    clear hrp
    obtain ⟨c0, c1, c2, c3, c4, c5, c6, c7, c8, c9⟩ := M1.out.cells
    go_wp2_with fail
    clear c0 c1 c2 c3 c4 c5 c6 c7 c8 c9
    refine (HBO.out w1 (HAV.out.grown G1.out) (HPV.out.grown G1.out) (HIA.out.mono (by omega)) (HIB.out.mono (by omega))).mono ?_
    rintro e w2 ⟨vb, rfl, hB2, hL2⟩
    have B2 := hide hB2
    have L2 := hide hL2
    have M2 := hide (M1.out.below hL2 (by omega))
    have hat2 := hB2.at
    obtain ⟨ab, cab, hvb⟩ := hB2.slice
    subst hvb
    have HAT := hide hat2
    clear hB2 hL2 hat2
    obtain ⟨c0, c1, c2, c3, c4, c5, c6, c7, c8, c9⟩ := M2.out.cells
    clear c1 c2 c3 c4 c5 c6 c7 c8 c9
    by_cases hlong : BB.length ≤ 65535
    · go_wp2_with fail
      clear c0
      obtain ⟨wb, hwb⟩ : ∃ wb, wb = w2.alloc (Obj.cells #[.int .u8 (kind % 256)] 5) := ⟨_, rfl⟩
      have GB : Hid (w2.grownBy wb none) := by rw [hwb]; exact World.grownBy_alloc _ _ _
      have BM : Hid (BRow w2.heap.size wb (.slice (some ⟨w2.heap.size, 0, none⟩) 1 1) [kind % 256]) := by rw [hwb]; exact BRow.made _ _
      rw [← hwb]
      clear hwb
      refine (addTwo_any w2.heap.size _ [kind % 256] BB.length wb BM.out GB.out.size (by simp)).mono ?_
      rintro e w3 ⟨v3, rfl, hB3, hg3, ho3⟩
      have B3 := hide hB3
      have L3 := hide ((Below.up (B := w2.heap.size) GB.out (Nat.le_refl _)).trans (grown_below_own BM.out hg3 GB.out.size))
      have hs3 := L3.out.size
      clear hB3 hg3 ho3
      have hL23 := hide (L2.out.trans (L3.out.mono L2.out.size))
      rcases HAT.out with ⟨hnil, hBB⟩ | ⟨gb, capb, hvb, hcb, hcells⟩
      · subst hBB
        cases hnil
        clear HAT
        obtain ⟨i0, hi0, hz0, hz1, hz2⟩ := info_parts Try.infoU8
        rcases B3.out.at with ⟨_, h3⟩ | ⟨g3, cap3, rfl, hc3, _⟩
        · simp at h3
        have hB30 := B3.out
        unfold BRow at hB30
        have HB30 := hide hB30
        clear hB30
        have hlen3 : ([kind % 256] ++ twoB (([] : List Int).length : Nat)).length = 3 := rfl
        rw [hlen3] at HB30 hc3
        have HL3 := hide hlen3
        clear hlen3
        go_wp2_with (at_builtin; refine wpList_append_fits_any _ rfl _ _ 64 rfl w2.heap.size 5 i0 1 Try.underlying64 hi0 hz1 g3 3 cap3 _ rfl HB30.out none 0 0 [] rfl rfl ?d1 ?d2 ?d3 ?d4 ?_)
        case d2 => intro ad e; cases e
        case d3 => intro u hu; cases hu
        case d4 => omega
        intro w4 hown4 hg4
        have hB4 : BRow w2.heap.size w4 (.slice (some ⟨g3, 0, none⟩) 3 cap3) (([kind % 256] ++ twoB (([] : List Int).length : Nat)) ++ []) := by
          unfold BRow
          simpa [twoB] using hown4
        have hconv := hB4.str (by simp)
        have hle4 := hide (hL23.out.trans ((Below.refl w1.heap.size w3).grown hg4 (by have := L2.out.size; omega) (fun k e => by cases e; have := (HB30.out.lt g3 rfl).1; have := L2.out.size; omega)))
        clear hown4 hg4 hB4
        obtain ⟨SS, hSS⟩ : ∃ SS, SS = strI (([kind % 256] ++ twoB (([] : List Int).length : Nat)) ++ []) := ⟨_, rfl⟩
        rw [← hSS] at hconv
        have HSS := hide hSS
        clear hSS
        go_wp2
        refine (HQ.out _ _).2 ⟨grown_trans G1.out (grown_below hle4.out), .inl ⟨HRP.out, hlong, ?_⟩⟩
        rw [HSS.out]
        rfl
      · cases hvb
        have HCE : Hid (∀ j u, (BB.map (Value.int .u8))[j]? = some u → w3.cell? ((⟨gb, 0, none⟩ : Addr).add j) = some u) := by
          intro j u hj
          have hlt : gb < w2.heap.size := (B2.out.lt gb rfl).2
          have := hcells j u hj
          rw [addr_add] at this ⊢
          rw [L3.out.cell hlt]
          exact this
        clear hcells HAT
        obtain ⟨i0, hi0, hz0, hz1, hz2⟩ := info_parts Try.infoU8
        go_wp2_with (at_builtin; refine wpList_append_own_at _ rfl _ _ 64 rfl w2.heap.size 5 i0 _ 1 1 Try.underlying64 hi0 hz0 hz1 hz2 rfl (by decide) _ _ _ rfl B3.out ⟨gb, 0, none⟩ BB.length _ (BB.map (Value.int .u8)) rfl ?e1 HCE.out ?e2 ?e3 ?e4 ?e5 ?_)
        case e1 => simp
        case e2 => intro u hu; simp only [List.mem_map] at hu; obtain ⟨x, _, rfl⟩ := hu; rfl
        case e3 => unfold maxLen; simp [twoB]; omega
        case e4 => simp [twoB]; omega
        case e5 => omega
        intro v4 w4 hown4 hg4 _ _
        have hB4 : BRow w2.heap.size w4 v4 (([kind % 256] ++ twoB BB.length) ++ BB) := by
          unfold BRow
          rw [List.map_append, List.length_append]
          exact hown4
        have hconv := hB4.str (by simp)
        have hle4 := hide (hL23.out.trans ((Below.refl w1.heap.size w3).grown hg4 (by have := L2.out.size; omega) (fun k e => by have := (B3.out.lt k e).1; have := L2.out.size; omega)))
        clear hown4 hg4 hB4
        obtain ⟨SS, hSS⟩ : ∃ SS, SS = strI (([kind % 256] ++ twoB BB.length) ++ BB) := ⟨_, rfl⟩
        rw [← hSS] at hconv
        have HSS := hide hSS
        clear hSS
        go_wp2
        refine (HQ.out _ _).2 ⟨grown_trans G1.out (grown_below hle4.out), .inl ⟨HRP.out, hlong, ?_⟩⟩
        rw [HSS.out]
        rfl
    · go_wp2
      refine (HQ.out _ _).2 ⟨?_, .inr ⟨fun h => hlong h.2, rfl⟩⟩
      exact grown_trans G1.out (grown_below L2.out)
  · have HRP := hide hrp
    clear hrp
    go_wp2
    exact (HQ.out _ _).2 ⟨G1.out, .inr ⟨fun h => HRP.out h.1, rfl⟩⟩

set_option maxRecDepth 100000 in
set_option maxHeartbeats 1000000 in
theorem wEncode_any (m : Msg) (a b : Option Addr) (ca cb : Nat) (w : World) (hav : PkRow w (.slice a m.na ca) m.na m.acts) (hpv : PkRow w (.slice b m.np cb) m.np m.pks) (hia : RowIn w.heap.size (.slice a m.na ca)) (hib : RowIn w.heap.size (.slice b m.np cb)) :
    Calls Try.prog 14 #[msgV m (.slice a m.na ca) (.slice b m.np cb)] w (EncOut m w) := by
  have HE := hide (fun w hav hpv hia hib => encode_any m a b ca cb w hav hpv hia hib)
  have HAV := hide hav
  have HPV := hide hpv
  have HIA := hide hia
  have HIB := hide hib
  clear hav hpv hia hib
  unfold EncOut at *
  generalize canS m = C at *
  generalize strI (encB m) = S at *
  obtain ⟨kind, p, mt, na, acts, np, pks⟩ := m
  unfold msgV at *
  simp only at HE HAV HPV HIA HIB ⊢
  go_enter Try.func14, Try.ntmps14
  go_wp2_with fail
  refine (HE.out _ (HAV.out.grown (World.grownBy_alloc _ _ _)) (HPV.out.grown (World.grownBy_alloc _ _ _)) (HIA.out.mono (by simp)) (HIB.out.mono (by simp))).mono ?_
  rintro e w1 ⟨hg, h⟩
  have HG := hide hg
  clear hg
  rcases h with ⟨hc, rfl⟩ | ⟨hc, rfl⟩
  · have HC := hide hc
    clear hc
    go_wp2
    go_ret2
    exact ⟨grown_trans (World.grownBy_alloc _ _ _) HG.out, .inl ⟨HC.out, rfl⟩⟩
  · have HC := hide hc
    clear hc
    go_wp2
    go_ret2
    exact ⟨grown_trans (World.grownBy_alloc _ _ _) HG.out, .inr ⟨HC.out, rfl⟩⟩
end Go.Proofs.Ytlhkfafdioakeaa
