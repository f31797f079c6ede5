/- Parts of the proof. -/
import Derived.Test.YtlhkfafdioakeaaGreatDoorSf35
import Derived.Deep.DeepCutAuto
import Derived.Deep.RegionHeld3
namespace Go.Proofs.YtlhkfafdioakeaaGreatDoor
set_option maxRecDepth 100000
set_option maxHeartbeats 4000000
open Go.RowKit Go.Weft
set_option linter.unusedVariables false
set_option linter.unusedSimpArgs false
theorem xnv{K:Gk}(hK:K.ok){gb:Nat}{G:Gg}{fv:Value}{en:Bool}{n:Nat}{role:Nat->Role}{N:NetM}{S:Gs Rl (Nat->Int)}{sent:List (Nat->Int)}{w:World}(h:GAt K gb G fv en n role N S sent w)(hn:n<=9000000)(hln:LnR K.w0 (.slice G.la G.ln G.lc) G.ln K.ld)(kd a b:Int)(hkd:-9223372036854775808<=kd/\kd<=9223372036854775807)(ha:-9223372036854775808<=a/\a<=9223372036854775807)(hb:-9223372036854775808<=b/\b<=9223372036854775807)(hq:pickS kd 8=3\/pickS kd 8=4):
  Calls Tryz.prog 42 #[.pointer (some ⟨gb,0,none⟩),.agg #[.int .i64 kd,.int .i64 a,.int .i64 b]] w fun e w'=>e=.returned (.tuple #[])/\MvO K gb G fv en (n+3) w':=by
 obtain ⟨P,hP⟩:∃P:Ending->World->Prop,P=fun e w'=>e=.returned (.tuple #[])/\MvO K gb G fv en (n+3) w':=⟨_,rfl⟩
 rw [<-hP];have HP:=hide hP;have hD:=hK.D;obtain ⟨D,hDD⟩:∃D,D=K.D:=⟨_,rfl⟩;obtain ⟨sw,hsw⟩:∃sw:Nat,(sw:Int)=pickS a D:=⟨(pickS a D).toNat,by have:=xrf a D (by omega);omega⟩;obtain ⟨kk,hkk⟩:∃kk:Nat,(kk:Int)=pickS kd 8:=⟨(pickS kd 8).toNat,by have:=xrf kd 8 (by omega);omega⟩;have hswD:sw<D:=by have:=xrf a D (by omega);omega
 have hkk8:kk<8:=by have:=xrf kd 8 (by omega);omega
 have hkq:kk=3\/kk=4:=by omega
 clear hq
 have PA:Hid (∀ww,Calls Tryz.prog 30 #[.int .i64 a,.int .i64 D] ww fun e w'=>e=.returned (.int .i64 sw)/\w'=ww):=fun ww=>by
  have:=xrg a D ww (by omega) (by omega) ha.1 ha.2;rw [<-hsw] at this;exact this
 have PK:Hid (∀ww,Calls Tryz.prog 30 #[.int .i64 kd,.int .i64 8] ww fun e w'=>e=.returned (.int .i64 kk)/\w'=ww):=fun ww=>by
  have:=xrg kd 8 ww (by omega) (by omega) hkd.1 hkd.2;rw [<-hkk] at this;exact this
 have HH:=hide h;have HK:=hide hK;have HLN:=hide hln;have HDD:=hide hDD;have g1:w.cell? ⟨gb,1,none⟩=some (.pointer (some ⟨K.nb,0,none⟩)):=by rw [<-h.nb];exact xc7 h.blk 1 _ rfl
 have g2:w.cell? ⟨gb,2,none⟩=some (.int .i64 D):=by rw [hDD,<-h.D];exact xc7 h.blk 2 _ rfl
 have hgbl:gb<w.heap.size:=World.block_lt_of_cell? w _ g2;have hD6:D<=6:=by omega
 have HB:=hide hb;clear h hK hln hP hkk hsw hDD hD hkd ha hb;go_enter Tryz.func42,Tryz.ntmps42;go_wp2_with fail;obtain ⟨W1,hW1⟩:∃W1,W1=w.alloc (.cells #[.int .i64 kd,.int .i64 a,.int .i64 b] 94):=⟨_,rfl⟩;have GW1:Hid (w.grownBy W1 none):=by show w.grownBy W1 none;rw [hW1];exact World.grownBy_alloc _ _ _
 have OB1:Hid (W1.heap[w.heap.size]?=some (.cells #[.int .i64 kd,.int .i64 a,.int .i64 b] 94 (0,0))):=by show _=_;rw [hW1];exact heap_alloc_new w _
 have o1:W1.cell? ⟨w.heap.size,1,none⟩=some (.int .i64 a):=xc7 OB1.out 1 _ rfl;have d2:W1.cell? ⟨gb,2,none⟩=some (.int .i64 D):=GW1.out.cell g2 (by simp);rw [<-hW1];clear hW1;have HS:Hid (∀wx,W1.grownBy wx none->(wx.cell? ⟨w.heap.size,1,none⟩=some (.int .i64 a)/\wx.cell? ⟨gb,2,none⟩=some (.int .i64 D))):=fun wx hx=>⟨hx.cell o1 (by simp),hx.cell d2 (by simp)⟩
 have HG0:Hid (W1.grownBy W1.drew none):=xi7 (xjb _ _)
 go_region_held3 (fun wx=>(wx.cell? ⟨w.heap.size,1,none⟩=some (.int .i64 a)/\wx.cell? ⟨gb,2,none⟩=some (.int .i64 D))) (exact HS.out _ HG0.out) ((
    go_at_call 30;refine Calls.mono (PA.out _) ?_;rintro e w' ⟨rfl,rfl⟩))
 clear HS;obtain ⟨W2,hW2⟩:∃W2,W2=W1.drew:=⟨_,rfl⟩;have GW2:Hid (w.grownBy W2 none):=by show w.grownBy W2 none;rw [hW2];exact xi7 GW1.out
 have OB2:Hid (W2.heap[w.heap.size]?=some (.cells #[.int .i64 kd,.int .i64 a,.int .i64 b] 94 (0,0))):=by show _=_;rw [hW2];exact OB1.out
 rw [<-hW2];clear hW2 o1 d2;have o0:W2.cell? ⟨w.heap.size,0,none⟩=some (.int .i64 kd):=xc7 OB2.out 0 _ rfl;go_wp2_with fail;refine (PK.out _).mono ?_;rintro e w' ⟨rfl,hw'⟩;rw [hw'];clear hw' w'
 go_upto_block 0 with fail
 have H2:=hide (HH.out.quiet GW2.out);have c1:=H2.out.cell1;have hswK:sw<K.D:=by rw [<-HDD.out];exact hswD
 have HSW:=hide hswK;clear hswK g1 g2 o0 PA PK;have FINO:Hid (∀(m:Nat) (role:Nat->Role) (N:NetM) (S:Gs Rl (Nat->Int)) (sent':List (Nat->Int)) (wx:World),m<=n+3->GAt K gb G fv en m role N S sent' wx->MvO K gb G fv en (n+3) wx):=fun m role N S sent' wx hm h=>⟨G,role,N,S,sent',h.more hm,rfl,rfl,rfl,rfl⟩
 go_cut [4] (fun _ wx=>MvO K gb G fv en (n+3) wx)
 case first=>
  have DOO:Hid (∀(m:Nat) (role:Nat->Role) (N:NetM) (S:Gs Rl (Nat->Int)) (ww:World),m<=n+2->GAt K gb G fv en m role N S sent ww->Calls Tryz.prog 71 #[.pointer (some ⟨K.nb,0,none⟩),.int .i64 sw] ww (GSt K gb G fv en (m+1) sent)):=fun m role N S ww hm h=>mDo HK.out h (by omega) HSW.out
  have CTL:Hid (∀(m:Nat) (role:Nat->Role) (N:NetM) (S:Gs Rl (Nat->Int)) (ww:World),m<=n+2->GAt K gb G fv en m role N S sent ww->Calls Tryz.prog 73 #[.pointer (some ⟨K.nb,0,none⟩),.int .i64 sw] ww (GSt K gb G fv en (m+1) sent)):=fun m role N S ww hm h=>xmn HK.out h (by omega) HSW.out
  have TAK:Hid (∀(i m:Nat) (role:Nat->Role) (N:NetM) (S:Gs Rl (Nat->Int)) (ww:World),m<=n+2->GAt K gb G fv en m role N S sent ww->Calls Tryz.prog 69 #[.pointer (some ⟨K.nb,0,none⟩),.int .i64 sw,.int .i64 i] ww (GSt K gb G fv en (m+1) sent)):=fun i m role N S ww hm h=>mTake HK.out h (by omega) HSW.out i
  have hkd:=hkq
  ·rcases hkd with rfl|rfl
   all_goals
    have DWN:Hid (Calls Tryz.prog 77 #[.pointer (some ⟨K.nb,0,none⟩),.int .i64 sw] W2 fun e w'=>∃a m c,e=.returned (.tuple #[.slice a m c,.int .i64 0])/\m<=100000000/\W2.grownBy w' none):=wDown H2.out.net (by omega) HSW.out;go_wp2_with fail;refine DWN.out.mono ?_;rintro e w3 ⟨a3,l3,c3,rfl,hl3,hg3⟩;have h3:=H2.out.quiet hg3;have e10:w3.cell? ⟨gb,10,none⟩=some (.bool false):=xc7 h3.blk 10 _ rfl;have ef:w3.frozen? ⟨gb,10,none⟩=false:=by simp [World.frozen?,h3.blk]
    have h4:GAt K gb G fv en n role N S sent (w3.setCell ⟨gb,10,none⟩ (.bool false)):=h3.write (G':=G) (fv':=fv) (en':=en) rfl rfl rfl rfl rfl rfl rfl;have ob4:(w3.setCell ⟨gb,10,none⟩ (.bool false)).heap[w.heap.size]?=some (.cells #[.int .i64 kd,.int .i64 a,.int .i64 b] 94 (0,0)):=xc9 (xc9 OB2.out hg3 (by simp)) (xjc _ _ _ _) (by simp;omega);obtain ⟨w4,hw4⟩:∃w4,w4=w3.setCell ⟨gb,10,none⟩ (.bool false):=⟨_,rfl⟩;rw [<-hw4] at h4 ob4;have H4:=hide h4;have g41:=h4.cell1;have o42:w4.cell? ⟨w.heap.size,2,none⟩=some (.int .i64 b):=xc7 ob4 2 _ rfl;clear h3 h4 hg3 DWN ob4;by_cases hz:l3=0
    ·subst hz;have F4:=hide (FINO.out _ _ _ _ _ _ (by omega) H4.out);go_wp2_with fail;rw [<-hw4];go_meet
     exact F4.out
    ·have hzI:(0:Int)<l3:=by omega
     have PB:Hid (∃i:Nat,∀ww,Calls Tryz.prog 30 #[.int .i64 b,.int .i64 l3] ww fun e w'=>e=.returned (.int .i64 i)/\w'=ww):=by
      refine ⟨(pickS b l3).toNat,fun ww=>?_⟩;have h1:=xrf b l3 hzI;have h2:=xrg b l3 ww hzI (by omega) HB.out.1 HB.out.2;rw [show ((pickS b l3).toNat:Int)=pickS b l3 by omega];exact h2
     obtain ⟨ix,hix⟩:=PB.out;have HIX:=hide hix;clear hix PB hz;go_upto_region 19 with fail
     rw [<-hw4];have H4D:Hid (GAt K gb G fv en n role N S sent w4.drew):=H4.out.quiet (xi7 (xjb _ _));clear hw4 e10 ef
     go_region_with (first
      | (go_at_call 30;refine (HIX.out _).mono ?_;rintro e w' ⟨rfl,rfl⟩)
      | (go_at_call 69;refine (TAK.out ix _ _ _ _ _ (Nat.le_add_right n 2) H4D.out).mono ?_;rintro e w5 ⟨er5,role5,N5,S5,rfl,h5⟩;have F5:=hide (FINO.out _ _ _ _ _ _ (Nat.add_le_add_left (by decide) n) h5);clear h5))
     all_goals
      go_wp2_with fail;go_meet
      exact F5.out
 case rest=>
  obtain ⟨G',role',N',S',sent',hG,q1,q2,q3,q4⟩:=hcut;have HG:=hide hG;have HQ:Hid (G'.pb=G.pb/\G'.la=G.la/\G'.lc=G.lc/\G'.room=G.room):=⟨q1,q2,q3,q4⟩;have hgl2:gb<wc.heap.size:=(Array.getElem?_eq_some_iff.1 hG.blk).1;clear hG q1 q2 q3 q4 c1 FINO H2;have HLEN:D<=6:=hD6;go_wp2_with fail;go_loopw [12,13] (fun s12 s13 wr=>∃(i m:Nat),i<=D/\s13=.int .i64 i/\s12=.int .i64 m/\m<=300*i/\GAt K gb G' fv en (n+3) role' N' S' sent' wr) (fun _ s13 _=>D-(intOf s13).toNat)
  case atStart=>exact ⟨0,0,Nat.zero_le _,rfl,rfl,Nat.le_refl _,HG.out⟩
  case round=>
   obtain ⟨i,m,hi,rfl,rfl,hm,hG⟩:=hrel;have g2:wr.cell? ⟨gb,2,none⟩=some (.int .i64 D):=by rw [HDD.out,<-hG.D];exact xc7 hG.blk 2 _ rfl
   have g1:=hG.cell1;have HGW:=hide hG;clear hG;by_cases hlt:i<D
   ·have hltI:(i:Int)<D:=by omega
    have WT:Hid (Calls Tryz.prog 78 #[.pointer (some ⟨K.nb,0,none⟩),.int .i64 i] wr fun e w'=>∃a l c,e=.returned (.tuple #[.slice a l c,.int .i64 0])/\l<=300/\wr.grownBy w' none):=by
     refine (x0t HGW.out.net (by rw [<-HDD.out];exact hlt)).mono ?_;rintro e w' ⟨a,l,c,rfl,_,h2,h3⟩;exact ⟨a,l,c,rfl,h2,h3⟩
    go_wp2_with fail;refine WT.out.mono ?_;rintro e w3 ⟨a3,l3,c3,rfl,hl3,hg3⟩;have h3:=HGW.out.quiet hg3;have e10:w3.cell? ⟨gb,10,none⟩=some (.bool false):=xc7 h3.blk 10 _ rfl;have ef:w3.frozen? ⟨gb,10,none⟩=false:=by simp [World.frozen?,h3.blk]
    have H4:Hid (GAt K gb G' fv en (n+3) role' N' S' sent' (w3.setCell ⟨gb,10,none⟩ (.bool false))):=h3.write (G':=G') (fv':=fv) (en':=en) rfl rfl rfl rfl rfl rfl rfl;clear h3 hg3 WT g1 g2;go_wp2_with fail;exact ⟨⟨i+1,m+l3,by omega,by go_num,by go_num,by omega,H4.out⟩,by simp [intOf];omega⟩
   ·obtain rfl:i=D:=by omega
    have e8:wr.cell? ⟨gb,8,none⟩=some (.bool G'.cr):=xc7 HGW.out.blk 8 _ rfl;have ef:wr.frozen? ⟨gb,8,none⟩=false:=by simp [World.frozen?,HGW.out.blk]
    have FIN:Hid (∀v:Bool,P (.returned (.tuple #[])) (wr.setCell ⟨gb,8,none⟩ (.bool v))):=fun v=>by
     rw [HP.out];refine ⟨rfl,{ G' with cr:=v },role',N',S',sent',HGW.out.write (G':={ G' with cr:=v }) (fv':=fv) (en':=en) rfl rfl rfl rfl rfl rfl rfl,HQ.out.1,HQ.out.2.1,HQ.out.2.2.1,HQ.out.2.2.2⟩
    obtain ⟨cr,hcr⟩:∃cr,cr=G'.cr:=⟨_,rfl⟩;rw [<-hcr] at e8;clear hcr;cases cr with
    | true=>
     go_wp2_with fail;refine bodyPost_end (results_none rfl _ _ _) rfl ?_;exact FIN.out _
    | false=>
     go_wp2_with fail;refine bodyPost_end (results_none rfl _ _ _) rfl ?_;exact FIN.out _
end Go.Proofs.YtlhkfafdioakeaaGreatDoor
