/- Parts of the proof. -/
import Derived.Test.YtlhkfafdioakeaaGreatDoorSfFrB
import Derived.Test.YtlhkfafdioakeaaGreatDoorSf45
namespace Go.Proofs.YtlhkfafdioakeaaGreatDoor
set_option maxRecDepth 100000
set_option maxHeartbeats 1600000
open Go.ChangeShapes Go.WideShapes Go.ChangeAt Go.WideMaps Go.WideElems Go.RowKit Go.Weft
open Go.ChangeMaps (open_string shut_string)
set_option linter.unusedVariables false
set_option linter.unusedSimpArgs false
section
variable{w:World}{base:Nat}
theorem xpn{v:Value}(hv:Value.okWide Tryz.prog w .any base 88 v):v.cells.toList=[v]:=by
 cases v<;>first|rfl|(simp [Value.okWide,Tryz.underlying88,Cell.okWide,Cell.ok] at hv)
end
theorem xvf(os:Os):laidMet Tryz.prog Rows.safeUptoRow.laid ((World.doorLaid Tryz.prog 400 os).forCall (fun _ _=>0) ⟨#[],#[.string ByteArray.empty,.agg #[.int .i64 0,.slice none 0 0,.int .i64 0],.slice none 0 0],[]⟩).memory:=
 laidMet_of_run' 8 (by kernel_rfl) (by kernel_rfl)
theorem xvg(os:Os){H:Type}(enc:TypeId×Value->H):∃places,DataW.whole enc Tryz.prog ((World.doorLaid Tryz.prog 400 os).forCall (fun _ _=>0) ⟨#[],#[.string ByteArray.empty,.agg #[.int .i64 0,.slice none 0 0,.int .i64 0],.slice none 0 0],[]⟩).memory Tryz.f9.params.toList Rows.safeSpec.vars false #[.string ByteArray.empty,.agg #[.int .i64 0,.slice none 0 0,.int .i64 0],.slice none 0 0].toList 8=some ([.lit (.string []),.agg [.lit (.int .i64 0),.nil,.lit (.int .i64 0)],.nil],[],places):=
 ⟨[],by kernel_rfl⟩
theorem xve(os:Os)(started:os.Started)(H:Type)(enc:TypeId×Value->H)(F:Stop.Interp):
  ReturnsInHanded {} Tryz.checked os 9 .any ((Rows.OpenSpec.upto Rows.safeSpec).preRow enc Tryz.prog Tryz.f9 Rows.safeUptoRow.domain false Rows.safeUptoRow.laid) (((Rows.OpenSpec.upto Rows.safeSpec).at F).post enc Tryz.prog Tryz.f9 false true false false):=by
 obtain ⟨places,hx⟩:=xvg os enc
 refine returnsInHanded_of_row (C:=Tryz.checked) (s:=Rows.OpenSpec.upto Rows.safeSpec) own started (by kernel_rfl) Tryz.func9
  (witness_row_at (enc:=enc) (C:=Tryz.checked) false (World.doorLaid Tryz.prog 400 os) #[.string ByteArray.empty,.agg #[.int .i64 0,.slice none 0 0,.int .i64 0],.slice none 0 0] rfl (by kernel_rfl) (by kernel_rfl) (by kernel_rfl)
   (OpenSpec.preRow_of_cond 8 hx (by kernel_rfl) (fun k hk=>by cases hk;kernel_rfl) (by kernel_rfl) (xvf os))) ?_
 intro W base args ds gs before hval0 hW0 _ hcond _ hL _ _;have hval:∀(j:Nat) t v,Tryz.f9.params[j]?=some t->args[j]?=some v->Value.okWide Tryz.prog W .any base t v:=hval0;have hW':DataW.Whole enc Tryz.prog Tryz.f9.params.toList Rows.safeSpec.vars false W args.toList ds gs before:=hW0;have hW:=hW';obtain ⟨p,q,hA0,hV,rfl,hfz,hnd⟩:=hW;have hA:DataW.TrodAll enc Tryz.prog W 0 (fun _=>true) true Tryz.f9.params.toList args.toList ds p:=hA0;rw [Tryz.params9] at hA hval;obtain ⟨v0,v1,v2,d0,d1,d2,p0,p1,p2,rfl,rfl,rfl,h0,h1,h2⟩:=trodAll_three hA;obtain ⟨rfl,rfl⟩:=trodVars_none hV;have hk:=hcond _ rfl;clear hA0 hval0 hcond;simp only [List.append_nil] at hW' hk;have hbk:Rows.uptoBulkAll [d0,d1,d2]<=1048576:=of_decide_eq_true hk;have hb1:Rows.uptoBulk d1<=1048576:=Nat.le_trans (Opn.part_le (by simp)) hbk;have hb2:Rows.uptoBulk d2<=1048576:=Nat.le_trans (Opn.part_le (by simp)) hbk;have hlt1:∀x∈p1,x.block<W.heap.size:=fun x hx=>hW'.lt x (by simp [hx])
 have hlt2:∀x∈p2,x.block<W.heap.size:=fun x hx=>hW'.lt x (by simp [hx])
 have h2':=h2;obtain ⟨f2,h2'⟩:=h2';rw [xpn (hval 2 88 v2 rfl rfl)] at h2';obtain ⟨n,d,hm⟩:=Opn.open_script h2' hb2;obtain ⟨f1,h1'⟩:=id h1;obtain ⟨Sw,room,la,ln,lc,ld,rfl,s1,s2,s3,s4⟩:=Opn.open_config h1' hb1;obtain ⟨a0,rfl,rfl,rfl,w0⟩:=open_string Tryz.underlying9 (hval 0 9 v0 rfl rfl) h0;have hl2:=xz8 hL;refine (xvc a0 Sw room la ln lc ld v2 n d W hl2.1 hl2.2 (by unfold maxLen at w0;omega) s1 s2 s3 s4 hm).mono fun e W' ⟨he,hg⟩=>?_
 subst he;have hb:=xc0 hg;exact ⟨_,rfl,_,_,_,[],_,[],hW',trodAll_mk1 (shut_bool Tryz.underlying4 _),trodAll_mk3 (shut_string Tryz.underlying9 w0) (Below.trod (by kernel_rfl) (by kernel_rfl) (of_decide_eq_true (by kernel_rfl)) h1 hb hlt1) (Below.trod (by kernel_rfl) (by kernel_rfl) (of_decide_eq_true (by kernel_rfl)) h2 hb hlt2),rfl,hb.frame _,fun h=>by cases h⟩
end Go.Proofs.YtlhkfafdioakeaaGreatDoor
