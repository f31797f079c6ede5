/- Parts of the proof. -/
import Derived.Test.YtlhkfafdioakeaaGreatDoorSf18
namespace Go.Proofs.YtlhkfafdioakeaaGreatDoor
set_option maxRecDepth 100000
set_option maxHeartbeats 4000000
open Go.RowKit Go.Weft
set_option linter.unusedVariables false
set_option linter.unusedSimpArgs false
theorem mkP1:xno.1:=by
 delta xno;intro ok st pa pn pc w i0 hi0 hz0 hz1 hz2 T u A ha HLT zz1 zz2 zz3 W4 w1 ac wr u8 u9 u10 u18 u19 u20 u21 u22 u23 u24 u25 u26 u27 u28 u29 u30 u31 u32 u33 u34 u35 u36 u37 u38 u39 u40 u41 u42 u43 u44 u45 u46 u47 u48 u49 u50 u51 u52 u53 u54 u55 u56 u57 u58 u59 u60 u61 u62 u63 u64 u65 u66 u67 u68 u69 u70 u71 u72 k r hk hlt g n hn C SN F V hF6 hb2 hb3 zz4 zz5 na nc hFI HFV HCL0 RL0 h2 zz6 zz7 zz8 zz9 zz10 w5 x0 x1 S5 O5 RLF ta tc HRX cx RX hbx hby yx y0 y1 RL hCx hgx zz11 zz12 zz13 zz14
 go_region_law (refine xxc rfl (.tmp 33) (.tmp 37) 38 rfl (w.heap.size+4) 3 i0 _ 1 8 Tryz.underlying38 hi0 hz0 hz1 hz2 rfl (by decide) (.slice ta (C (F)).length tc) (C (F)).length (intZ (C (F))) (by simp [Act.eval,Act.put]) (RX.out.alloc _).drew ⟨w5.heap.size,0,none⟩ 1 1 [.int .i64 (V:Int)] (by simp [Act.eval,Act.put]) rfl (cell_one_new _ _ _) (by intro u hu;simp at hu;subst hu;rfl) (by unfold maxLen;omega) (by omega) (by simp;omega) ?_;intro v6 w6 ho6 hg6 hat6;obtain ⟨xa,xc,hx6⟩:=xqm ho6;subst hx6;obtain ⟨m6,c6,z6⟩:=MkS.addT S5.out hF6 HRX.out O5.out ho6 hg6 hat6;have e60:w6.cell? ⟨wr.heap.size,0,none⟩=some (.int .i64 (F:Int)):=hg6.cell y0 (fun e=>Nat.lt_irrefl _ (RL.out _ e.symm));have e61:w6.cell? ⟨wr.heap.size,1,none⟩=some (.int .i64 (V:Int)):=hg6.cell y1 (fun e=>Nat.lt_irrefl _ (RL.out _ e.symm));have M6:=hide m6;have b6:w.heap.size+2<w6.heap.size:=World.block_lt_of_cell? w6 _ c6;clear m6 ho6 hg6 hat6)
 all_goals
  go_wp2_with fail;go_meet
  exact ⟨xa,xc,M6.out,(xjc _ _ _ _).cell e60 (by simp;omega),(xjc _ _ _ _).cell e61 (by simp;omega)⟩
end Go.Proofs.YtlhkfafdioakeaaGreatDoor
