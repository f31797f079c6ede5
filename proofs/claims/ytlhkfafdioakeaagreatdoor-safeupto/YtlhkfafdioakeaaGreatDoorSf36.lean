/- Parts of the proof. -/
import Derived.Test.YtlhkfafdioakeaaGreatDoorSf35
import Derived.Deep.DeepCutAuto
import Derived.Deep.RegionHeld3
namespace Go.Proofs.YtlhkfafdioakeaaGreatDoor
set_option maxRecDepth 100000
set_option maxHeartbeats 4000000
open Go.RowKit Go.Weft
set_option linter.unusedVariables false
set_option linter.unusedSimpArgs false
theorem xns{K:Gk}(hK:K.ok){gb:Nat}{G:Gg}{fv:Value}{en:Bool}{n:Nat}{role:Nat->Role}{N:NetM}{S:Gs Rl (Nat->Int)}{sent:List (Nat->Int)}{w:World}(h:GAt K gb G fv en n role N S sent w)(hn:n<=9000000)(hln:LnR K.w0 (.slice G.la G.ln G.lc) G.ln K.ld)(kd a b:Int)(hkd:-9223372036854775808<=kd/\kd<=9223372036854775807)(ha:-9223372036854775808<=a/\a<=9223372036854775807)(hb:-9223372036854775808<=b/\b<=9223372036854775807)(hq:pickS kd 8=0):
  Calls Tryz.prog 42 #[.pointer (some ⟨gb,0,none⟩),.agg #[.int .i64 kd,.int .i64 a,.int .i64 b]] w fun e w'=>e=.returned (.tuple #[])/\MvO K gb G fv en (n+3) w':=by
 obtain ⟨P,hP⟩:∃P:Ending->World->Prop,P=fun e w'=>e=.returned (.tuple #[])/\MvO K gb G fv en (n+3) w':=⟨_,rfl⟩
 rw [<-hP];have HP:=hide hP;have hD:=hK.D;obtain ⟨D,hDD⟩:∃D,D=K.D:=⟨_,rfl⟩;obtain ⟨sw,hsw⟩:∃sw:Nat,(sw:Int)=pickS a D:=⟨(pickS a D).toNat,by have:=xrf a D (by omega);omega⟩;obtain ⟨kk,hkk⟩:∃kk:Nat,(kk:Int)=pickS kd 8:=⟨(pickS kd 8).toNat,by have:=xrf kd 8 (by omega);omega⟩;have hswD:sw<D:=by have:=xrf a D (by omega);omega
 have hkk8:kk<8:=by have:=xrf kd 8 (by omega);omega
 have hkq:kk=0:=by omega
 clear hq
 have PA:Hid (∀ww,Calls Tryz.prog 30 #[.int .i64 a,.int .i64 D] ww fun e w'=>e=.returned (.int .i64 sw)/\w'=ww):=fun ww=>by
  have:=xrg a D ww (by omega) (by omega) ha.1 ha.2;rw [<-hsw] at this;exact this
 have PK:Hid (∀ww,Calls Tryz.prog 30 #[.int .i64 kd,.int .i64 8] ww fun e w'=>e=.returned (.int .i64 kk)/\w'=ww):=fun ww=>by
  have:=xrg kd 8 ww (by omega) (by omega) hkd.1 hkd.2;rw [<-hkk] at this;exact this
 have HH:=hide h;have HK:=hide hK;have HLN:=hide hln;have HDD:=hide hDD;have g1:w.cell? ⟨gb,1,none⟩=some (.pointer (some ⟨K.nb,0,none⟩)):=by rw [<-h.nb];exact xc7 h.blk 1 _ rfl
 have g2:w.cell? ⟨gb,2,none⟩=some (.int .i64 D):=by rw [hDD,<-h.D];exact xc7 h.blk 2 _ rfl
 have hgbl:gb<w.heap.size:=World.block_lt_of_cell? w _ g2;have hD6:D<=6:=by omega
 have HB:=hide hb;clear h hK hln hP hkk hsw hDD hD hkd ha hb;go_enter Tryz.func42,Tryz.ntmps42;go_wp2_with fail;obtain ⟨W1,hW1⟩:∃W1,W1=w.alloc (.cells #[.int .i64 kd,.int .i64 a,.int .i64 b] 94):=⟨_,rfl⟩;have GW1:Hid (w.grownBy W1 none):=by show w.grownBy W1 none;rw [hW1];exact World.grownBy_alloc _ _ _
 have OB1:Hid (W1.heap[w.heap.size]?=some (.cells #[.int .i64 kd,.int .i64 a,.int .i64 b] 94 (0,0))):=by show _=_;rw [hW1];exact heap_alloc_new w _
 have o1:W1.cell? ⟨w.heap.size,1,none⟩=some (.int .i64 a):=xc7 OB1.out 1 _ rfl;have d2:W1.cell? ⟨gb,2,none⟩=some (.int .i64 D):=GW1.out.cell g2 (by simp);rw [<-hW1];clear hW1;have HS:Hid (∀wx,W1.grownBy wx none->(wx.cell? ⟨w.heap.size,1,none⟩=some (.int .i64 a)/\wx.cell? ⟨gb,2,none⟩=some (.int .i64 D))):=fun wx hx=>⟨hx.cell o1 (by simp),hx.cell d2 (by simp)⟩
 have HG0:Hid (W1.grownBy W1.drew none):=xi7 (xjb _ _)
 go_region_held3 (fun wx=>(wx.cell? ⟨w.heap.size,1,none⟩=some (.int .i64 a)/\wx.cell? ⟨gb,2,none⟩=some (.int .i64 D))) (exact HS.out _ HG0.out) ((
    go_at_call 30;refine Calls.mono (PA.out _) ?_;rintro e w' ⟨rfl,rfl⟩))
 clear HS;obtain ⟨W2,hW2⟩:∃W2,W2=W1.drew:=⟨_,rfl⟩;have GW2:Hid (w.grownBy W2 none):=by show w.grownBy W2 none;rw [hW2];exact xi7 GW1.out
 have OB2:Hid (W2.heap[w.heap.size]?=some (.cells #[.int .i64 kd,.int .i64 a,.int .i64 b] 94 (0,0))):=by show _=_;rw [hW2];exact OB1.out
 rw [<-hW2];clear hW2 o1 d2;have o0:W2.cell? ⟨w.heap.size,0,none⟩=some (.int .i64 kd):=xc7 OB2.out 0 _ rfl;go_wp2_with fail;refine (PK.out _).mono ?_;rintro e w' ⟨rfl,hw'⟩;rw [hw'];clear hw' w'
 go_upto_block 0 with fail
 have H2:=hide (HH.out.quiet GW2.out);have c1:=H2.out.cell1;have hswK:sw<K.D:=by rw [<-HDD.out];exact hswD
 have HSW:=hide hswK;clear hswK g1 g2 o0 PA PK;have FINO:Hid (∀(m:Nat) (role:Nat->Role) (N:NetM) (S:Gs Rl (Nat->Int)) (sent':List (Nat->Int)) (wx:World),m<=n+3->GAt K gb G fv en m role N S sent' wx->MvO K gb G fv en (n+3) wx):=fun m role N S sent' wx hm h=>⟨G,role,N,S,sent',h.more hm,rfl,rfl,rfl,rfl⟩
 go_cut [4] (fun _ wx=>MvO K gb G fv en (n+3) wx)
 case first=>
  have DOO:Hid (∀(m:Nat) (role:Nat->Role) (N:NetM) (S:Gs Rl (Nat->Int)) (ww:World),m<=n+2->GAt K gb G fv en m role N S sent ww->Calls Tryz.prog 71 #[.pointer (some ⟨K.nb,0,none⟩),.int .i64 sw] ww (GSt K gb G fv en (m+1) sent)):=fun m role N S ww hm h=>mDo HK.out h (by omega) HSW.out
  have CTL:Hid (∀(m:Nat) (role:Nat->Role) (N:NetM) (S:Gs Rl (Nat->Int)) (ww:World),m<=n+2->GAt K gb G fv en m role N S sent ww->Calls Tryz.prog 73 #[.pointer (some ⟨K.nb,0,none⟩),.int .i64 sw] ww (GSt K gb G fv en (m+1) sent)):=fun m role N S ww hm h=>xmn HK.out h (by omega) HSW.out
  have TAK:Hid (∀(i m:Nat) (role:Nat->Role) (N:NetM) (S:Gs Rl (Nat->Int)) (ww:World),m<=n+2->GAt K gb G fv en m role N S sent ww->Calls Tryz.prog 69 #[.pointer (some ⟨K.nb,0,none⟩),.int .i64 sw,.int .i64 i] ww (GSt K gb G fv en (m+1) sent)):=fun i m role N S ww hm h=>mTake HK.out h (by omega) HSW.out i
  subst hkq
  ·have s5:W2.cell? ⟨gb,5,none⟩=some (.slice G.sa G.sn G.sc):=xc7 H2.out.blk 5 _ rfl;by_cases h6:G.sn<6
   ·have h6I:(G.sn:Int)<6:=by omega
    have o1:W2.cell? ⟨w.heap.size,1,none⟩=some (.int .i64 a):=xc7 OB2.out 1 _ rfl;have o2:W2.cell? ⟨w.heap.size,2,none⟩=some (.int .i64 b):=xc7 OB2.out 2 _ rfl
    have PT:Hid (∃pt:Nat,pt<8/\∀ww,Calls Tryz.prog 30 #[.int .i64 (wrap64 (a.tdiv 7)),.int .i64 8] ww fun e w'=>e=.returned (.int .i64 pt)/\w'=ww):=by
     have h1:=xrf (wrap64 (a.tdiv 7)) 8 (by omega);refine ⟨(pickS (wrap64 (a.tdiv 7)) 8).toNat,by omega,fun ww=>?_⟩;have hr:-9223372036854775808<=wrap64 (a.tdiv 7)/\wrap64 (a.tdiv 7)<=9223372036854775807:=by unfold wrap64;omega
     have h2:=xrg (wrap64 (a.tdiv 7)) 8 ww (by omega) (by omega) hr.1 hr.2;rw [show ((pickS (wrap64 (a.tdiv 7)) 8).toNat:Int)=pickS (wrap64 (a.tdiv 7)) 8 by omega];exact h2
    obtain ⟨pt,hpt8,hpt⟩:=PT.out;have HPT:=hide hpt;clear hpt PT;go_wp2_with fail;refine (HPT.out _).mono ?_;rintro e w' ⟨rfl,hw'⟩;rw [hw'];clear hw' w';go_wp2_with fail;obtain ⟨W3,hW3⟩:∃W3,W3=W2.alloc (.cells #[.int .i64 0,.int .i64 0,.int .i64 b,.int .i64 (wrap64 (b.tdiv 5)),.int .i64 (wrap64 (b.tdiv 25)),.int .i64 (wrap64 (b.tdiv 125))] 3):=⟨_,rfl⟩;have GW3:Hid (W2.grownBy W3 none):=by show W2.grownBy W3 none;rw [hW3];exact World.grownBy_alloc _ _ _
    have PKT:Hid (Calls Tryz.prog 24 #[.slice (some ⟨W2.heap.size,0,none⟩) 6 6] W3 fun e w'=>∃k,e=.returned (.agg #[.int .i64 (k 0),.int .i64 (k 1),.int .i64 (k 2),.int .i64 (k 3),.int .i64 (k 4),.int .i64 (k 5)])/\Rt k/\W3.grownBy w' none):=by
     refine xqp _ 6 W3 (.inr ⟨W2.heap.size,0,6,rfl,by omega,fun j hj=>?_⟩);have hbk:W3.heap[W2.heap.size]?=some (.cells #[.int .i64 0,.int .i64 0,.int .i64 b,.int .i64 (wrap64 (b.tdiv 5)),.int .i64 (wrap64 (b.tdiv 25)),.int .i64 (wrap64 (b.tdiv 125))] 3 (0,0)):=by rw [hW3];exact heap_alloc_new W2 _
     have hbr:=HB.out;rw [Nat.zero_add];rcases (show j=0\/j=1\/j=2\/j=3\/j=4\/j=5 by omega) with rfl|rfl|rfl|rfl|rfl|rfl
     ·exact ⟨0,xc7 hbk 0 _ rfl,by omega,by omega⟩
     ·exact ⟨0,xc7 hbk 1 _ rfl,by omega,by omega⟩
     ·exact ⟨b,xc7 hbk 2 _ rfl,hbr.1,hbr.2⟩
     ·exact ⟨_,xc7 hbk 3 _ rfl,by unfold wrap64;omega,by unfold wrap64;omega⟩
     ·exact ⟨_,xc7 hbk 4 _ rfl,by unfold wrap64;omega,by unfold wrap64;omega⟩
     ·exact ⟨_,xc7 hbk 5 _ rfl,by unfold wrap64;omega,by unfold wrap64;omega⟩
    rw [<-hW3];refine PKT.out.mono ?_;rintro e w4 ⟨x,rfl,hxr,hg4⟩;have G4:=hide (xje GW3.out hg4);have HXR:=hide hxr;clear hW3 PKT hg4 hxr o1 o2 s5;obtain ⟨W5,hW5⟩:∃W5,W5=w4.alloc (.cells (pkA x) 46):=⟨_,rfl⟩;have G5:Hid (W2.grownBy W5 none):=by show W2.grownBy W5 none;rw [hW5];exact xje G4.out (World.grownBy_alloc _ _ _)
    have XB5:Hid (pkBlk W5 w4.heap.size x):=by show pkBlk W5 w4.heap.size x;rw [hW5];exact pkBlk.alloc w4 x
    have H5:=hide (H2.out.quiet G5.out);have k1:=H5.out.cell1;have p0:=XB5.out.cell 0 (by omega);have p1:=XB5.out.cell 1 (by omega);have p2:=XB5.out.cell 2 (by omega);have p3:=XB5.out.cell 3 (by omega);have p4:=XB5.out.cell 4 (by omega);have p5:=XB5.out.cell 5 (by omega);have c41:=(H2.out.quiet G4.out).cell1;have hgb4:gb<w4.heap.size:=World.block_lt_of_cell? w4 _ c41;unfold pkA at hW5
    have GP5:Hid (GP K gb G fv en n role N S sent sent w4.heap.size x W5):=by
     have h4:=H2.out.quiet G4.out;have h5:=H5.out;exact ⟨h5.net,h5.blk,h5.fr,h5.gl,h5.sn,h5.sq,h5.sf,fun b hb e=>by have:=(h4.sq.lt b hb).2;omega,h5.nb,h5.D,h5.ln,XB5.out,h4.net.at'.new (Nat.le_refl _),h4.net.old.size,h5.rt⟩
    have HSS:Hid (∀(m:Nat) (role:Nat->Role) (N:NetM) (S:Gs Rl (Nat->Int)) (sentN:List (Nat->Int)) (wx:World),GP K gb G fv en m role N S sentN sent w4.heap.size x wx->(wx.cell? ⟨gb,1,none⟩=some (.pointer (some ⟨K.nb,0,none⟩))/\wx.cell? ⟨w4.heap.size,0,none⟩=some (.int .i64 (x 0))/\wx.cell? ⟨w4.heap.size,1,none⟩=some (.int .i64 (x 1))/\wx.cell? ⟨w4.heap.size,2,none⟩=some (.int .i64 (x 2))/\wx.cell? ⟨w4.heap.size,3,none⟩=some (.int .i64 (x 3))/\wx.cell? ⟨w4.heap.size,4,none⟩=some (.int .i64 (x 4))/\wx.cell? ⟨w4.heap.size,5,none⟩=some (.int .i64 (x 5)))):=fun m role N S sentN wx h=>⟨by rw [<-h.nb];exact xc7 h.blk 1 _ rfl,h.px.cell 0 (by omega),h.px.cell 1 (by omega),h.px.cell 2 (by omega),h.px.cell 3 (by omega),h.px.cell 4 (by omega),h.px.cell 5 (by omega)⟩
    have GPD:Hid (GP K gb G fv en n role N S sent sent w4.heap.size x W5.drew):=GP5.out.quiet (xi7 (xjb _ _));have SEN:Hid (Calls Tryz.prog 67 #[.pointer (some ⟨K.nb,0,none⟩),.int .i64 sw,.int .i64 pt,.agg #[.int .i64 (x 0),.int .i64 (x 1),.int .i64 (x 2),.int .i64 (x 3),.int .i64 (x 4),.int .i64 (x 5)]] W5.drew fun e w'=>∃er role' N' S' sent',e=.returned (.int .i64 er)/\GP K gb G fv en (n+1) role' N' S' sent' sent w4.heap.size x w'/\((er=0/\hostS K.ld K.ln sw pt/\sent'=sent++[atP sw pt x])\/(er=16/\¬hostS K.ld K.ln sw pt/\sent'=sent)\/(er=7/\sent'=sent))):=mSend HK.out GPD.out HSW.out pt HXR.out;clear G4 c41 hgb4;go_wp2_with fail;rw [<-hW5];clear hW5
    go_region_held3 (fun wx=>(wx.cell? ⟨gb,1,none⟩=some (.pointer (some ⟨K.nb,0,none⟩))/\wx.cell? ⟨w4.heap.size,0,none⟩=some (.int .i64 (x 0))/\wx.cell? ⟨w4.heap.size,1,none⟩=some (.int .i64 (x 1))/\wx.cell? ⟨w4.heap.size,2,none⟩=some (.int .i64 (x 2))/\wx.cell? ⟨w4.heap.size,3,none⟩=some (.int .i64 (x 3))/\wx.cell? ⟨w4.heap.size,4,none⟩=some (.int .i64 (x 4))/\wx.cell? ⟨w4.heap.size,5,none⟩=some (.int .i64 (x 5)))) (first|exact HSS.out _ _ _ _ _ _ GPD.out|exact HSS.out _ _ _ _ _ _ H6.out) ((
       go_at_call 67;refine Calls.mono SEN.out ?_;rintro e w6 ⟨er,role6,N6,S6,sent6,rfl,h6',hout⟩;have H6:=hide h6';have HOUT:=hide hout;clear h6' hout))
    all_goals
     clear k1 p0 p1 p2 p3 p4 p5 SEN GPD HSS;have HHO:Hid (Calls Tryz.prog 76 #[.pointer (some ⟨gb,0,none⟩),.int .i64 sw,.int .i64 pt] w6 fun e w'=>e=.returned (.bool (decide (hostG K.ld G.ln sw pt)))/\w6.grownBy w' none):=xim gb G.la G.ln G.lc K.ld sw pt w6 (xc7 H6.out.blk 3 _ rfl) (HLN.out.grown H6.out.net.old);obtain ⟨hb,hhb⟩:∃hb,hb=decide (hostG K.ld G.ln sw pt):=⟨_,rfl⟩;rw [<-hhb] at HHO
     have HHB:Hid (hb=true↔hostS K.ld K.ln sw pt):=by
      show hb=true↔_;rw [hhb,decide_eq_true_iff,H6.out.ln];unfold hostG hostS;constructor
      ·rintro ⟨h1,h2⟩;exact ⟨⟨by omega,h1⟩,h2⟩
      ·rintro ⟨⟨_,h1⟩,h2⟩;exact ⟨h1,h2⟩
     clear hhb;go_wp2_with fail;refine HHO.out.mono ?_;rintro e w7 ⟨rfl,g7⟩;have H7:=hide (H6.out.quiet g7);obtain ⟨xb,hxb⟩:∃xb,xb=w4.heap.size:=⟨_,rfl⟩;rw [<-hxb] at H7;rw [<-hxb];have q0:=H7.out.px.cell 0 (by omega);have q1:=H7.out.px.cell 1 (by omega);have q2:=H7.out.px.cell 2 (by omega);have q3:=H7.out.px.cell 3 (by omega);have q4:=H7.out.px.cell 4 (by omega);have q5:=H7.out.px.cell 5 (by omega);have qf:∀o,w7.frozen? ⟨xb,o,none⟩=false:=fun o=>by have:=H7.out.px;unfold pkBlk at this;simp [World.frozen?,this]
     have g5:w7.cell? ⟨gb,5,none⟩=some (.slice G.sa G.sn G.sc):=xc7 H7.out.blk 5 _ rfl;have g10:w7.cell? ⟨gb,10,none⟩=some (.bool false):=xc7 H7.out.blk 10 _ rfl;have gf:∀o,w7.frozen? ⟨gb,o,none⟩=false:=fun o=>by simp [World.frozen?,H7.out.blk]
     have ne1:¬gb=xb:=H7.out.ne;have ne2:¬xb=gb:=fun e=>ne1 e.symm
     have H8:Hid (GP K gb G fv en (n+1) role6 N6 S6 sent6 sent xb (atP sw pt x) ((w7.setCell ⟨xb,0,none⟩ (.int .i64 sw)).setCell ⟨xb,1,none⟩ (.int .i64 pt))):=by
      have:=(H7.out.setX 0 (by omega) sw).setX 1 (by omega) pt
      have e:(fun j=>if j=1 then (pt:Int) else if j=0 then (sw:Int) else x j)=atP sw pt x:=by
       funext j;unfold atP;by_cases e0:j=0
       ·subst e0;simp
       ·simp [e0]
      rw [e] at this;exact this
     clear g7 HHO H6 hxb;rcases HOUT.out with ⟨rfl,hh,rfl⟩|⟨rfl,hh,rfl⟩|⟨rfl,rfl⟩
     ·have hbt:hb=true:=HHB.out.2 hh;subst hbt;obtain ⟨W8,hW8⟩:∃W8,W8=(w7.setCell ⟨xb,0,none⟩ (.int .i64 sw)).setCell ⟨xb,1,none⟩ (.int .i64 pt):=⟨_,rfl⟩;rw [<-hW8] at H8;have r0:W8.cell? ⟨xb,0,none⟩=some (.int .i64 sw):=H8.out.px.cell 0 (by omega);have r1:W8.cell? ⟨xb,1,none⟩=some (.int .i64 pt):=H8.out.px.cell 1 (by omega);have r2:W8.cell? ⟨xb,2,none⟩=some (.int .i64 (x 2)):=H8.out.px.cell 2 (by omega);have r3:W8.cell? ⟨xb,3,none⟩=some (.int .i64 (x 3)):=H8.out.px.cell 3 (by omega);have r4:W8.cell? ⟨xb,4,none⟩=some (.int .i64 (x 4)):=H8.out.px.cell 4 (by omega);have r5:W8.cell? ⟨xb,5,none⟩=some (.int .i64 (x 5)):=H8.out.px.cell 5 (by omega);have s5:W8.cell? ⟨gb,5,none⟩=some (.slice G.sa G.sn G.sc):=xc7 H8.out.blk 5 _ rfl;have hgb8:gb<W8.heap.size:=World.block_lt_of_cell? W8 _ s5;have hxb8:xb<W8.heap.size:=World.block_lt_of_cell? W8 _ r0;obtain ⟨i0,hi0,hz0,hz1',hz2'⟩:=info_parts Tryz.infoNPk;have HIF:Hid (Tryz.prog.info? 46=some i0/\i0.zero=some (.agg #[.int .i64 0,.int .i64 0,.int .i64 0,.int .i64 0,.int .i64 0,.int .i64 0])/\i0.size=6/\i0.bytes=48):=⟨hi0,hz0,hz1',hz2'⟩;have QR:Hid (∀ww,W8.grownBy ww none->QRow K.w0.heap.size ww 46 6 (.slice G.sa G.sn G.sc) G.sn (pksC sent)):=fun ww hg=>(H8.out.quiet hg).sq
      have hw0:Hid (K.w0.heap.size<=W8.heap.size):=H8.out.net.old.size
      have PUSH:Hid (∀w8 w9 a9 c9,W8.grownBy w8 none->QRow K.w0.heap.size w9 46 6 (.slice a9 (G.sn+1) c9) (G.sn+1) (pksC sent++[.int .i64 sw,.int .i64 pt,.int .i64 (x 2),.int .i64 (x 3),.int .i64 (x 4),.int .i64 (x 5)])->w8.grownBy w9 (Value.slice G.sa G.sn G.sc).ownBlock->((Value.slice a9 (G.sn+1) c9).ownBlock=(Value.slice G.sa G.sn G.sc).ownBlock\/∃b,(Value.slice a9 (G.sn+1) c9).ownBlock=some b/\w8.heap.size<=b)->MvO K gb G fv en (n+3) ((w9.setCell ⟨gb,5,none⟩ (.slice a9 (G.sn+1) c9)).setCell ⟨gb,10,none⟩ (.bool false))/\w9.cell? ⟨gb,5,none⟩=some (.slice G.sa G.sn G.sc)/\w9.frozen? ⟨gb,5,none⟩=false/\w9.cell? ⟨gb,10,none⟩=some (.bool false)/\w9.frozen? ⟨gb,10,none⟩=false):=fun w8 w9 a9 c9 h1 h2 h3 h4=>by
       have hx:=(xb6 HXR.out (a:=sw) (b:=pt) (by omega) (by omega)).1;have hA:=H8.out.push hx (by have:=H8.out.sn;omega) h1 (va:=a9) (vc:=c9) h2 h3 h4 rfl;have hB:=hA.write (o:=10) (v:=.bool false) (G':={ G with sa:=a9,sn:=G.sn+1,sc:=c9 }) (fv':=fv) (en':=en) rfl rfl rfl rfl rfl rfl rfl;have hbk:=xc9 (H8.out.quiet h1).blk h3 (fun e=>H8.out.sne gb e rfl);exact ⟨⟨_,role6,N6,S6,_,hB.more (by omega),rfl,rfl,rfl,rfl⟩,xc7 hbk 5 _ rfl,by simp [World.frozen?,hbk],xc7 hbk 10 _ rfl,by simp [World.frozen?,hbk]⟩
      clear hh HHB HOUT hi0 hz0 hz1' hz2';go_wp2_with fail;rw [<-hW8];clear hW8 H8 H7 q0 q1 q2 q3 q4 q5 qf g5 g10 gf
      go_region_law (
        refine xxd rfl (.tmp 77) (.tmp 79) 29 rfl K.w0.heap.size 46 i0 _ 6 48 Tryz.underlying29 HIF.out.1 HIF.out.2.1 HIF.out.2.2.1 HIF.out.2.2.2 rfl (by decide) (.slice G.sa G.sn G.sc) G.sn (pksC sent) (by simp [Act.eval,Act.put]) (QRow.drew (QR.out (W8.alloc (.cells #[.int .i64 sw,.int .i64 pt,.int .i64 (x 2),.int .i64 (x 3),.int .i64 (x 4),.int .i64 (x 5)] 46)) (World.grownBy_alloc _ _ none))) ⟨W8.heap.size,0,none⟩ 1 1 [.int .i64 sw,.int .i64 pt,.int .i64 (x 2),.int .i64 (x 3),.int .i64 (x 4),.int .i64 (x 5)] (by simp [Act.eval,Act.put]) rfl (fun j u hj=>xed W8 [.int .i64 sw,.int .i64 pt,.int .i64 (x 2),.int .i64 (x 3),.int .i64 (x 4),.int .i64 (x 5)] 46 j u hj) (by intro u hu;simp at hu;rcases hu with rfl|rfl|rfl|rfl|rfl|rfl<;>rfl) (by omega) (by unfold maxLen;omega) (by omega) (by have:=hw0.out;simp;omega) ?_;intro v' w9 q9 g9 at9;obtain ⟨a9,c9,hv9⟩:=q9.slice;subst hv9;obtain ⟨P9,e5,f5,e10,f10⟩:=PUSH.out _ _ _ _ (World.grownBy_alloc W8 (.cells #[.int .i64 sw,.int .i64 pt,.int .i64 (x 2),.int .i64 (x 3),.int .i64 (x 4),.int .i64 (x 5)] 46) none) q9 (xjf g9) at9;have HP9:=hide P9;clear q9 g9 at9 P9)
      all_goals
       go_wp2_with fail;go_meet
       exact HP9.out
     ·have hbt:hb=false:=by
       cases hb with
       | false=>rfl
       | true=>exact absurd (HHB.out.1 rfl) hh
      subst hbt;clear hh HHB HOUT;have F8:=hide (FINO.out _ _ _ _ _ _ (by omega) (H8.out.back (by have:=H8.out.sn;omega)));go_wp2_with fail;go_meet
      exact F8.out
     ·clear HHB HOUT;have F8:=hide (FINO.out _ _ _ _ _ _ (by omega) (H8.out.back (by have:=H8.out.sn;omega)));cases hb with
      | false=>
       go_wp2_with fail;go_meet
       exact F8.out
      | true=>
       go_wp2_with fail;go_meet
       exact F8.out
   ·have h6I:¬(G.sn:Int)<6:=by omega
    have F4:=hide (FINO.out _ _ _ _ _ _ (by omega) H2.out);go_wp2_with fail;go_meet
    exact F4.out
 case rest=>
  obtain ⟨G',role',N',S',sent',hG,q1,q2,q3,q4⟩:=hcut;have HG:=hide hG;have HQ:Hid (G'.pb=G.pb/\G'.la=G.la/\G'.lc=G.lc/\G'.room=G.room):=⟨q1,q2,q3,q4⟩;have hgl2:gb<wc.heap.size:=(Array.getElem?_eq_some_iff.1 hG.blk).1;clear hG q1 q2 q3 q4 c1 FINO H2;have HLEN:D<=6:=hD6;go_wp2_with fail;go_loopw [12,13] (fun s12 s13 wr=>∃(i m:Nat),i<=D/\s13=.int .i64 i/\s12=.int .i64 m/\m<=300*i/\GAt K gb G' fv en (n+3) role' N' S' sent' wr) (fun _ s13 _=>D-(intOf s13).toNat)
  case atStart=>exact ⟨0,0,Nat.zero_le _,rfl,rfl,Nat.le_refl _,HG.out⟩
  case round=>
   obtain ⟨i,m,hi,rfl,rfl,hm,hG⟩:=hrel;have g2:wr.cell? ⟨gb,2,none⟩=some (.int .i64 D):=by rw [HDD.out,<-hG.D];exact xc7 hG.blk 2 _ rfl
   have g1:=hG.cell1;have HGW:=hide hG;clear hG;by_cases hlt:i<D
   ·have hltI:(i:Int)<D:=by omega
    have WT:Hid (Calls Tryz.prog 78 #[.pointer (some ⟨K.nb,0,none⟩),.int .i64 i] wr fun e w'=>∃a l c,e=.returned (.tuple #[.slice a l c,.int .i64 0])/\l<=300/\wr.grownBy w' none):=by
     refine (x0t HGW.out.net (by rw [<-HDD.out];exact hlt)).mono ?_;rintro e w' ⟨a,l,c,rfl,_,h2,h3⟩;exact ⟨a,l,c,rfl,h2,h3⟩
    go_wp2_with fail;refine WT.out.mono ?_;rintro e w3 ⟨a3,l3,c3,rfl,hl3,hg3⟩;have h3:=HGW.out.quiet hg3;have e10:w3.cell? ⟨gb,10,none⟩=some (.bool false):=xc7 h3.blk 10 _ rfl;have ef:w3.frozen? ⟨gb,10,none⟩=false:=by simp [World.frozen?,h3.blk]
    have H4:Hid (GAt K gb G' fv en (n+3) role' N' S' sent' (w3.setCell ⟨gb,10,none⟩ (.bool false))):=h3.write (G':=G') (fv':=fv) (en':=en) rfl rfl rfl rfl rfl rfl rfl;clear h3 hg3 WT g1 g2;go_wp2_with fail;exact ⟨⟨i+1,m+l3,by omega,by go_num,by go_num,by omega,H4.out⟩,by simp [intOf];omega⟩
   ·obtain rfl:i=D:=by omega
    have e8:wr.cell? ⟨gb,8,none⟩=some (.bool G'.cr):=xc7 HGW.out.blk 8 _ rfl;have ef:wr.frozen? ⟨gb,8,none⟩=false:=by simp [World.frozen?,HGW.out.blk]
    have FIN:Hid (∀v:Bool,P (.returned (.tuple #[])) (wr.setCell ⟨gb,8,none⟩ (.bool v))):=fun v=>by
     rw [HP.out];refine ⟨rfl,{ G' with cr:=v },role',N',S',sent',HGW.out.write (G':={ G' with cr:=v }) (fv':=fv) (en':=en) rfl rfl rfl rfl rfl rfl rfl,HQ.out.1,HQ.out.2.1,HQ.out.2.2.1,HQ.out.2.2.2⟩
    obtain ⟨cr,hcr⟩:∃cr,cr=G'.cr:=⟨_,rfl⟩;rw [<-hcr] at e8;clear hcr;cases cr with
    | true=>
     go_wp2_with fail;refine bodyPost_end (results_none rfl _ _ _) rfl ?_;exact FIN.out _
    | false=>
     go_wp2_with fail;refine bodyPost_end (results_none rfl _ _ _) rfl ?_;exact FIN.out _
end Go.Proofs.YtlhkfafdioakeaaGreatDoor
