/- Parts of the proof. -/
import Derived.Test.YtlhkfafdioakeaaGreatDoorSf02
namespace Go.Proofs.YtlhkfafdioakeaaGreatDoor
set_option maxRecDepth 100000
set_option maxHeartbeats 1000000
open Go.RowKit
set_option linter.unusedVariables false
set_option linter.unusedSimpArgs false
def linkI(ld:Nat->Nat->Int)(sw pt:Int)(ln:Nat):Int:=match fromS ld sw pt ln with
 | some j=>(j:Int)
 | none=>-1
theorem xin(gb:Nat)(la:Option Addr)(ln lc:Nat)(ld:Nat->Nat->Int)(sw pt:Int)(w:World)(hc:w.cell? ⟨gb,3,none⟩=some (.slice la ln lc))(h:LnR w (.slice la ln lc) ln ld):Calls Tryz.prog 133 #[.pointer (some ⟨gb,0,none⟩),.int .i64 sw,.int .i64 pt] w fun e w'=>e=.returned (.int .i64 (linkI ld sw pt ln))/\w.grownBy w' none:=by
 have hn:=h.few;have HL:=hide h;have HC:=hide hc;clear h hc;obtain ⟨R,hR⟩:∃R,R=linkI ld sw pt ln:=⟨_,rfl⟩;rw [<-hR];have HR:=hide hR;clear hR;go_enter Tryz.func133,Tryz.ntmps133;go_wp2_with fail;go_loopw [7] (fun s4 wq=>∃i:Nat,i<=ln/\s4=.int .i64 i/\w.grownBy wq none/\∀j,j<i->¬(ld j 0=sw/\ld j 1=pt)) (fun s4 _=>ln-(intOf s4).toNat)
 case atStart=>exact ⟨0,by omega,rfl,xjb _ _,fun j hj=>by omega⟩
 case round=>
  obtain ⟨i,hi,rfl,hg,hno⟩:=hrel;have HG:=hide hg;have HN:=hide hno;have hc:=hg.cell HC.out (by simp);clear hg hno;by_cases hlt:i<ln
  ·obtain ⟨g,off,rfl,hcc⟩:=HL.out.at (by omega);have m0:wr.cell? ⟨g,off+i*4,none⟩=some (.int .i64 (ld i 0)):=HG.out.cell (hcc i hlt 0 (by omega)) (by simp);have m1:=HG.out.cell (hcc i hlt 1 (by omega)) (by simp);have hltI:(i:Int)<ln:=by omega
   obtain ⟨y0,hy0⟩:∃y,y=ld i 0:=⟨_,rfl⟩;obtain ⟨y1,hy1⟩:∃y,y=ld i 1:=⟨_,rfl⟩;rw [<-hy0] at m0;rw [<-hy1] at m1;have HY:Hid (y0=ld i 0/\y1=ld i 1):=⟨hy0,hy1⟩;clear hy0 hy1 hcc;by_cases h0:y0=sw
   ·by_cases h1:y1=pt
    ·go_wp2_with fail;go_ret;refine ⟨?_,HG.out⟩;rw [HR.out];unfold linkI;rw [xid (i:=i) HN.out (by rw [<-HY.out.1,<-HY.out.2];exact ⟨h0,h1⟩) ln hlt];rfl
    ·go_wp2_with fail;refine ⟨⟨i+1,by omega,by go_num,HG.out,fun j hj=>?_⟩,by simp [intOf];omega⟩;rcases Nat.lt_or_ge j i with e|e
     ·exact HN.out j e
     ·obtain rfl:j=i:=by omega
      rw [<-HY.out.1,<-HY.out.2];exact fun h=>h1 h.2
   ·go_wp2_with fail;refine ⟨⟨i+1,by omega,by go_num,HG.out,fun j hj=>?_⟩,by simp [intOf];omega⟩;rcases Nat.lt_or_ge j i with e|e
    ·exact HN.out j e
    ·obtain rfl:j=i:=by omega
     rw [<-HY.out.1,<-HY.out.2];exact fun h=>h0 h.1
  ·obtain rfl:ln=i:=by omega
   go_wp2_with fail;go_ret;refine ⟨?_,HG.out⟩;rw [HR.out];unfold linkI;rw [xie.2 HN.out];rfl
def hostG(ld:Nat->Nat->Int)(ln:Nat)(sw pt:Int):Prop:=pt<8/\∀j,j<ln->¬(ld j 0=sw/\ld j 1=pt)/\¬(ld j 2=sw/\ld j 3=pt)
instance(ld:Nat->Nat->Int)(ln:Nat)(sw pt:Int):Decidable (hostG ld ln sw pt):=by unfold hostG;exact inferInstance
theorem xim(gb:Nat)(la:Option Addr)(ln lc:Nat)(ld:Nat->Nat->Int)(sw pt:Int)(w:World)(hc:w.cell? ⟨gb,3,none⟩=some (.slice la ln lc))(h:LnR w (.slice la ln lc) ln ld):Calls Tryz.prog 76 #[.pointer (some ⟨gb,0,none⟩),.int .i64 sw,.int .i64 pt] w fun e w'=>e=.returned (.bool (decide (hostG ld ln sw pt)))/\w.grownBy w' none:=by
 have hn:=h.few;have HL:=hide h;have HC:=hide hc;clear h hc;obtain ⟨P,hP⟩:∃P:Ending->World->Prop,P=fun e w'=>e=.returned (.bool (decide (hostG ld ln sw pt)))/\w.grownBy w' none:=⟨_,rfl⟩
 rw [<-hP]
 have NOT:Hid (∀i w',i<ln->((ld i 0=sw/\ld i 1=pt)\/(ld i 2=sw/\ld i 3=pt))->w.grownBy w' none->P (.returned (.bool false)) w'):=fun i w' hi hx hg=>by
  rw [hP];refine ⟨?_,hg⟩;rw [decide_eq_false (fun hh=>by have:=hh.2 i hi;rcases hx with e|e;exact this.1 e;exact this.2 e)]
 have YES:Hid (∀w',(∀j,j<ln->¬(ld j 0=sw/\ld j 1=pt)/\¬(ld j 2=sw/\ld j 3=pt))->w.grownBy w' none->P (.returned (.bool (decide (pt<8)))) w'):=fun w' hx hg=>by
  rw [hP];refine ⟨?_,hg⟩;congr 2;by_cases h8:pt<8
  ·rw [decide_eq_true h8,decide_eq_true (show hostG ld ln sw pt from ⟨h8,hx⟩)]
  ·rw [decide_eq_false h8,decide_eq_false (fun hh=>h8 hh.1)]
 clear hP;go_enter Tryz.func76,Tryz.ntmps76;go_wp2_with fail;go_loopw [7] (fun s4 wq=>∃i:Nat,i<=ln/\s4=.int .i64 i/\w.grownBy wq none/\∀j,j<i->¬(ld j 0=sw/\ld j 1=pt)/\¬(ld j 2=sw/\ld j 3=pt)) (fun s4 _=>ln-(intOf s4).toNat)
 case atStart=>exact ⟨0,by omega,rfl,xjb _ _,fun j hj=>by omega⟩
 case round=>
  obtain ⟨i,hi,rfl,hg,hno⟩:=hrel;have HG:=hide hg;have HN:=hide hno;have hc:=hg.cell HC.out (by simp);clear hg hno;by_cases hlt:i<ln
  ·obtain ⟨g,off,rfl,hcc⟩:=HL.out.at (by omega);have m0:wr.cell? ⟨g,off+i*4,none⟩=some (.int .i64 (ld i 0)):=HG.out.cell (hcc i hlt 0 (by omega)) (by simp);have m1:=HG.out.cell (hcc i hlt 1 (by omega)) (by simp);have m2:=HG.out.cell (hcc i hlt 2 (by omega)) (by simp);have m3:=HG.out.cell (hcc i hlt 3 (by omega)) (by simp);have hltI:(i:Int)<ln:=by omega
   obtain ⟨y0,hy0⟩:∃y,y=ld i 0:=⟨_,rfl⟩;obtain ⟨y1,hy1⟩:∃y,y=ld i 1:=⟨_,rfl⟩;obtain ⟨y2,hy2⟩:∃y,y=ld i 2:=⟨_,rfl⟩;obtain ⟨y3,hy3⟩:∃y,y=ld i 3:=⟨_,rfl⟩;rw [<-hy0] at m0;rw [<-hy1] at m1;rw [<-hy2] at m2;rw [<-hy3] at m3;have RET:Hid (((y0=sw/\y1=pt)\/(y2=sw/\y3=pt))->∀w',wr.grownBy w' none->P (.returned (.bool false)) w'):=fun hx w' hg=>NOT.out i w' hlt (by rw [<-hy0,<-hy1,<-hy2,<-hy3];exact hx) (xje HG.out hg)
   have CON:Hid (¬((y0=sw/\y1=pt)\/(y2=sw/\y3=pt))->∀j,j<i+1->¬(ld j 0=sw/\ld j 1=pt)/\¬(ld j 2=sw/\ld j 3=pt)):=fun hx j hj=>by
    rcases Nat.lt_or_ge j i with e|e
    ·exact HN.out j e
    ·obtain rfl:j=i:=by omega
     rw [<-hy0,<-hy1,<-hy2,<-hy3];exact ⟨fun h=>hx (.inl h),fun h=>hx (.inr h)⟩
   clear hy0 hy1 hy2 hy3 hcc;have GA:=World.grownBy_alloc wr (.cells #[.int .i64 y0,.int .i64 y1,.int .i64 y2,.int .i64 y3] 139) none;have HGA:=hide GA;clear GA;by_cases h0:y0=sw<;>by_cases h1:y1=pt<;>by_cases h2:y2=sw<;>by_cases h3:y3=pt<;>go_wp2_with fail
   all_goals first
    | (have hx:(y0=sw/\y1=pt)\/(y2=sw/\y3=pt):=by first|exact .inl ⟨h0,h1⟩|exact .inr ⟨h2,h3⟩
       exact RET.out hx _ (by first|exact HGA.out|exact World.grownBy_alloc _ _ _))
    | (have hx:¬((y0=sw/\y1=pt)\/(y2=sw/\y3=pt)):=fun e=>by rcases e with e|e<;>first|exact h0 e.1|exact h1 e.2|exact h2 e.1|exact h3 e.2
       exact ⟨⟨i+1,by omega,by go_num,xje HG.out (by first|exact HGA.out|exact World.grownBy_alloc _ _ _),CON.out hx⟩,by simp [intOf];omega⟩)
    | (exfalso;simp_all)
  ·obtain rfl:ln=i:=by omega
   have YY:=hide (YES.out wr HN.out HG.out);go_wp2_with fail;exact YY.out
end Go.Proofs.YtlhkfafdioakeaaGreatDoor
