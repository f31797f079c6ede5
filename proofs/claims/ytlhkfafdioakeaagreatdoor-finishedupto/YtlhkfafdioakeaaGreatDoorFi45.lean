/- Parts of the proof. -/
import Derived.Test.YtlhkfafdioakeaaGreatDoorFi43
import Derived.Test.YtlhkfafdioakeaaGreatDoorFi44
namespace Go.Proofs.YtlhkfafdioakeaaGreatDoor
set_option maxRecDepth 100000
set_option maxHeartbeats 4000000
open Go.RowKit Go.Weft
set_option linter.unusedVariables false
set_option linter.unusedSimpArgs false
theorem UV{gb:Nat}{w w':World}(h:Kp (fun b=>b=gb) w w'):w.grownBy w' (some gb):=⟨h.1,h.2.1,h.2.2.1,h.2.2.2.1,fun k hk hn=>h.2.2.2.2 k hk (fun e=>hn (by rw[e]))⟩
theorem GAt.ended{K:Gk}{gb:Nat}{G:Gg}{fv fv':Value}{en en':Bool}{n:Nat}{role:Nat->Role}{N:NetM}{S:Gs Rl (Nat->Int)}{sent:List (Nat->Int)}{w w':World}(h:GAt K gb G fv en n role N S sent w)(hk:Kp (fun b=>b=gb) w w')(hb:w'.heap[gb]?=some (.cells (gmA G fv' en' false) 96 (0,0))):GAt K gb G fv' en' n role N S sent w':=by
 have hg:=UV hk;exact { h with net:=h.net.grown hg (fun b e=>by cases e;exact h.fr) (AR h.net.old hg h.gl),blk:=hb,sq:=h.sq.kept hg (fun b e hb=>by cases e;exact h.sne _ hb rfl) }
theorem NOK.all{K:Gk}{n:Nat}{role:Nat->Role}{N:NetM}{S:Gs Rl (Nat->Int)}{sent:List (Nat->Int)}{w:World}(h:NOK K n role N S sent w)(he:Bm K.X sent)(hr:∀s,s<K.D->S.wl s=[]/\S.dl s=[]/\S.ul s=[])(p:(Nat->Int)->Bool):S.del.countP p=(sent.flatMap fun k=>(K.X.tot k).1).countP p:=by
 rw[LR];exact TU h.inv he (fun s hs=>(hr s hs).1) (fun s hs=>(hr s hs).2.1) (fun s hs=>(hr s hs).2.2) p
theorem Z8{K:Gk}(hK:K.ok){gb:Nat}{G:Gg}{fa:Option Addr}{fl fc:Nat}{en:Bool}{n:Nat}{role:Nat->Role}{N:NetM}{S:Gs Rl (Nat->Int)}{sent:List (Nat->Int)}{w:World}(h:GAt K gb G (.slice fa fl fc) en n role N S sent w)(hn:n<=9000003)(he:Bm K.X sent)(hrest:∀s,s<K.D->S.wl s=[]/\S.dl s=[]/\S.ul s=[]){F:List (Nat->Int)}(hF:F=sent.flatMap fun k=>(K.X.tot k).1)(hfl:fl=F.length)(hq:A9 0 w 46 6 (.slice fa fl fc) fl (AO F))(hfm:F.length<=1000000):
  Calls Tryz.prog 47 #[.pointer (some ⟨gb,0,none⟩)] w fun e w'=>e=.returned (.bool true)/\w.grownBy w' none:=by
 obtain⟨P,hP⟩:∃P:Ending->World->Prop,P=fun e w'=>e=.returned (.bool true)/\w.grownBy w' none:=⟨_,rfl⟩
 rw[<-hP];have HP:=A0 hP;have hcnt:∀p,S.del.countP p=F.countP p:=fun p=>by rw[hF];exact h.net.all he hrest p
 have hlen:S.del.length=F.length:=by
  have:=hcnt (fun _=>true);simpa using this
 obtain⟨m,hm⟩:∃m,m=S.del.length:=⟨_,rfl⟩;have hmf:fl=m:=by omega
 subst hmf;have hm1:fl<=1000000:=by omega
 have DEL:Hid (Calls Tryz.prog 79 #[.pointer (some ⟨K.nb,0,none⟩)] w fun e w'=>∃a c,e=.returned (.tuple #[.slice a fl c,.int .i64 0])/\A9 w.heap.size w' 46 6 (.slice a fl c) fl (AO S.del)/\w.grownBy w' none):=by
  rw[hm];refine(QV h.net (by omega)).mono ?_;rintro e w' ⟨a,c,rfl,h1,h2⟩;exact⟨a,c,rfl,A9.of h1,h2⟩
 have HNMD:Hid (∀x∈S.del,Nm x):=fun x hx=>(h.net.dels hK h.rt hx).1.1
 have HNMF:Hid (∀x∈F,Nm x):=by rw[hF];exact fun x hx=>(N7 hK h.rt he x hx).1
 have HGB:Hid (∀ww,w.grownBy ww none->ww.cell? ⟨gb,8,none⟩=some (.bool G.cr)/\ww.cell? ⟨gb,6,none⟩=some (.slice fa fl fc)):=fun ww hg=>by
  have hb:=(h.quiet hg).blk;exact⟨A6 hb 8 _ rfl,A6 hb 6 _ rfl⟩
 have HM:=A0 hm;have HFL:=A0 hfl;have HQF:=A0 hq;have HCN:=A0 hcnt;have c1:=h.cell1;clear hP h hm hfl hq hcnt hrest he hF hlen hfm hK;go_enter Tryz.func47,Tryz.ntmps47;go_wp2_with fail;refine DEL.o.mono ?_;rintro e w1 ⟨ga,gc,rfl,q1,g1⟩;have Q1:=A0 q1;have G1:=A0 g1;obtain⟨b8,b6⟩:=HGB.o w1 g1;obtain⟨cr,hcr⟩:∃cr,cr=G.cr:=⟨_,rfl⟩;rw[<-hcr]at b8;have FIN1:Hid (P (.returned (.bool true)) w1):=by rw[HP.o];exact⟨rfl,g1⟩
 clear q1 g1 DEL c1 hcr;cases cr with
 | true=>
  go_wp2_with fail;exact FIN1.o
 | false=>
  go_wp2_with fail;go_loopw [5] (fun s5 wr=>∃i:Nat,i<=fl/\s5=.int .i64 i/\w1.grownBy wr none) (fun s5 _=>fl-(intOf s5).toNat)
  case atStart=>exact⟨0,Nat.zero_le _,rfl,AA _ _⟩
  case round=>
   obtain⟨i2,hi2,rfl,hg2⟩:=hrel;have HG2:=A0 hg2;clear hg2 b8 b6;by_cases hlt:i2<fl
   ·have hltI:(i2:Int)<fl:=by omega
    have hq:=Q1.o.kept HG2.o (fun b e=>by cases e);obtain⟨g,off,rfl,hcap⟩:=hq.some (by omega);obtain⟨x,hx⟩:∃x,S.del[i2]?=some x:=⟨_,List.getElem?_eq_getElem (by have:=HM.o;omega)⟩;have hmem:=List.mem_of_getElem? hx;have hxr:=HNMD.o x hmem;obtain⟨c1,hc1⟩:∃c1,c1=S.del.countP (isP x):=⟨_,rfl⟩
    have CN1:Hid (∀ww,wr.grownBy ww none->Calls Tryz.prog 81 #[.slice (some ⟨g,off,none⟩) fl gc,.agg #[.int .i64 (x 0),.int .i64 (x 1),.int .i64 (x 2),.int .i64 (x 3),.int .i64 (x 4),.int .i64 (x 5)]] ww fun e w'=>e=.returned (.int .i64 c1)/\ww.grownBy w' none):=fun ww hg=>by
     rw[hc1];have:=HM.o;exact Gu _ fl (atL S.del) S.del x ww ((hq.kept hg (fun b e=>by cases e)).pkR (by omega)) (by rw[HM.o];exact II _) HNMD.o hxr
    have CN2:Hid (∀ww,wr.grownBy ww none->Calls Tryz.prog 81 #[.slice fa fl fc,.agg #[.int .i64 (x 0),.int .i64 (x 1),.int .i64 (x 2),.int .i64 (x 3),.int .i64 (x 4),.int .i64 (x 5)]] ww fun e w'=>e=.returned (.int .i64 c1)/\ww.grownBy w' none):=fun ww hg=>by
     rw[hc1,HCN.o];exact Gu _ fl (atL F) F x ww ((HQF.o.kept (A1 G1.o (A1 HG2.o hg)) (fun b e=>by cases e)).pkR (by omega)) (by rw[HFL.o];exact II _) HNMF.o hxr
    have cZ:∀j,j<6->wr.cell? ⟨g,off+i2*6+j,none⟩=some (.int .i64 (x j)):=fun j hj=>by
     rw[Nat.add_assoc];exact hq.cells (i2*6+j) _ (FI hx hj)
    have c6:wr.cell? ⟨gb,6,none⟩=some (.slice fa fl fc):=(HGB.o wr (A1 G1.o HG2.o)).2;have HS:Hid (∀wx,wr.grownBy wx none->(wx.cell? ⟨gb,6,none⟩=some (.slice fa fl fc)/\wx.cell? ⟨g,off+i2*6,none⟩=some (.int .i64 (x 0))/\wx.cell? ⟨g,off+i2*6+1,none⟩=some (.int .i64 (x 1))/\wx.cell? ⟨g,off+i2*6+2,none⟩=some (.int .i64 (x 2))/\wx.cell? ⟨g,off+i2*6+3,none⟩=some (.int .i64 (x 3))/\wx.cell? ⟨g,off+i2*6+4,none⟩=some (.int .i64 (x 4))/\wx.cell? ⟨g,off+i2*6+5,none⟩=some (.int .i64 (x 5)))):=fun wx hx=>⟨hx.cell c6 (by simp),hx.cell (cZ 0 (by omega)) (by simp),hx.cell (cZ 1 (by omega)) (by simp),hx.cell (cZ 2 (by omega)) (by simp),hx.cell (cZ 3 (by omega)) (by simp),hx.cell (cZ 4 (by omega)) (by simp),hx.cell (cZ 5 (by omega)) (by simp)⟩
    have HG0:Hid (wr.grownBy wr.drew none):=Ai (AA _ _);clear hq hx hmem hxr hc1 cZ c6;go_wp2_with fail
    go_region_held3 (fun wx=>(wx.cell? ⟨gb,6,none⟩=some (.slice fa fl fc)/\wx.cell? ⟨g,off+i2*6,none⟩=some (.int .i64 (x 0))/\wx.cell? ⟨g,off+i2*6+1,none⟩=some (.int .i64 (x 1))/\wx.cell? ⟨g,off+i2*6+2,none⟩=some (.int .i64 (x 2))/\wx.cell? ⟨g,off+i2*6+3,none⟩=some (.int .i64 (x 3))/\wx.cell? ⟨g,off+i2*6+4,none⟩=some (.int .i64 (x 4))/\wx.cell? ⟨g,off+i2*6+5,none⟩=some (.int .i64 (x 5)))) (first|exact HS.o _ GB.o|exact HS.o _ GA.o|exact HS.o _ HG0.o) ((first
      | (go_at_call 81;with_reducible refine Calls.mono (CN2.o _ GA.o) ?_;rintro e w5 ⟨rfl,g5⟩;have GB:=A0 (A1 GA.o g5);clear g5)
      | (go_at_call 81;with_reducible refine Calls.mono (CN1.o _ HG0.o) ?_;rintro e w4 ⟨rfl,g4⟩;have GA:=A0 (A1 HG0.o g4);clear g4)))
    all_goals
     have G5:=A0 (A1 HG2.o GB.o);clear GA GB CN1 CN2 HS HG0;go_wp2_with fail
     first
      | exact⟨⟨i2+1,by omega,by go_num,G5.o⟩,by simp[intOf];omega⟩
      | (refine⟨?_,by simp[intOf];omega⟩;repeat apply Exists.intro
         exact⟨⟨i2+1,by omega,by go_num,G5.o⟩,rfl⟩)
   ·obtain rfl:i2=fl:=by omega
    have FIN:Hid (P (.returned (.bool true)) wr):=by
     rw[HP.o];exact⟨rfl,A1 G1.o HG2.o⟩
    go_wp2_with fail;exact FIN.o
theorem TY(s0:ByteArray)(Sw room:Int)(la:Option Addr)(ln lc:Nat)(ld:Nat->Nat->Int)(v:Value)(n:Nat)(d:Nat->Nat->Int)(tv:Value)(tn:Nat)(w:World)(hn:Ae w)(he:Evy w)(hs:s0.size<=9223372036854775807)(hl:LnR w (.slice la ln lc) ln ld)(hlc:ln<=lc)(hla:la=none->lc=0)(hln:ln<=1000000)(hm:MvR w v n d)(ht:Dg w tv tn):
  Calls Tryz.prog 10 #[.string s0,.agg #[.int .i64 Sw,.slice la ln lc,.int .i64 room],v,tv] w fun e w'=>e=.returned (.bool true)/\w.grownBy w' none:=by
 obtain⟨P,hP⟩:∃P:Ending->World->Prop,P=fun e w'=>e=.returned (.bool true)/\w.grownBy w' none:=⟨_,rfl⟩
 rw[<-hP];have HP:=A0 hP;obtain⟨va,vc,rfl⟩:=hm.slice;have BEG:Hid (∀ww,w.grownBy ww none->Calls Tryz.prog 41 #[.string s0,.agg #[.int .i64 Sw,.slice la ln lc,.int .i64 room]] ww (JA s0 la ln lc ld ww)):=fun ww hg=>Rm s0 Sw room la ln lc ld ww (fun k hk=>hg.cell (hn k hk) (by simp)) (he.grown hg) hs (hl.grown hg) hlc hla hln
 have HMV:=A0 hm;have HTV:=A0 ht;have HEV:=A0 he;obtain⟨⟨ta,tc,rfl⟩,_⟩:=ht.slice;have hn1:=hm.1;clear hP hn he hs hl hlc hla hln hm ht;go_enter Tryz.func10,Tryz.ntmps10;go_wp2_with fail;refine(BEG.o _ (World.grownBy_alloc _ _ none)).mono ?_;rintro e w2 hbeg;rcases hbeg with⟨rfl,g2⟩|⟨K,gb,G,role,N,S,rfl,g0,hK,hW,hA,hld,hGa,hGn,hGc,hGr⟩
 ·have F2:Hid (P (.returned (.bool true)) w2):=by
   rw[HP.o];exact⟨rfl,A1 (World.grownBy_alloc _ _ none) g2⟩
  clear g2 BEG;go_wp2_with fail;exact F2.o
 ·have HK:=A0 hK;have HW:=A0 hW;have HLD:=A0 hld;have HRM:=A0 hGr;have G0:Hid (w.grownBy K.w0 none):=A1 (World.grownBy_alloc _ _ none) g0;have I0:Hid (MvO K gb G (.slice none 0 0) false (3*0) w2):=⟨G,role,N,S,[],hA,rfl,rfl,rfl,rfl⟩;have hGL:=hA.ln;have HGL:=A0 hGL;clear g0 hK hW hA hld hGa hGn hGc BEG hGL hGr;go_wp2_with fail;go_loopw [11] (fun s11 wr=>∃i:Nat,i<=n/\s11=.int .i64 i/\MvO K gb G (.slice none 0 0) false (3*i) wr) (fun s11 _=>n-(intOf s11).toNat)
  case atStart=>exact⟨0,Nat.zero_le _,rfl,I0.o⟩
  case round=>
   obtain⟨i,hi,rfl,G',role',N',S',sent',hA',q1,q2,q3,q4⟩:=hrel;have HA:=A0 hA'
   have HB:Hid (BrW K.w0 G' s0 K.t K.ld):=by
    have:=HW.o;rw[<-HLD.o]at this;exact this.cong q1 q2 (hA'.ln.trans HGL.o.symm) q3
   have HQ:Hid (G'.pb=G.pb/\G'.la=G.la/\G'.lc=G.lc/\G'.room=G.room):=⟨q1,q2,q3,q4⟩;clear q1 q2 q3 q4 hA';by_cases hlt:i<n
   ·have hltI:(i:Int)<n:=by omega
    have hmr:=HMV.o.grown (A1 G0.o HA.o.net.old);rcases hmr.2 with⟨h0,_⟩|⟨g,off,cap,hv,hcc⟩
    ·omega
    cases hv;have m0:wr.cell? ⟨g,off+i*3,none⟩=some (.int .i64 (d i 0)):=(hcc i hlt 0 (by omega)).1;have m1:wr.cell? ⟨g,off+i*3+1,none⟩=some (.int .i64 (d i 1)):=(hcc i hlt 1 (by omega)).1;have m2:wr.cell? ⟨g,off+i*3+2,none⟩=some (.int .i64 (d i 2)):=(hcc i hlt 2 (by omega)).1
    have MOV:Hid (∀ww,wr.grownBy ww none->Calls Tryz.prog 42 #[.pointer (some ⟨gb,0,none⟩),.agg #[.int .i64 (d i 0),.int .i64 (d i 1),.int .i64 (d i 2)]] ww fun e w'=>e=.returned (.tuple #[])/\MvO K gb G (.slice none 0 0) false (3*(i+1)) w'):=fun ww hg=>by
     refine(Vb HK.o (HA.o.quiet hg) (by omega) HB.o.lnk (d i 0) (d i 1) (d i 2) (hcc i hlt 0 (by omega)).2 (hcc i hlt 1 (by omega)).2 (hcc i hlt 2 (by omega)).2).mono ?_;rintro e w' ⟨rfl,G2,role2,N2,S2,sent2,h1,r1,r2,r3,r4⟩;obtain⟨p1,p2,p3,p4⟩:=HQ.o;exact⟨rfl,⟨G2,role2,N2,S2,sent2,h1.more (by omega),r1.trans p1,r2.trans p2,r3.trans p3,r4.trans p4⟩⟩
    have GWR:Hid (wr.grownBy wr none):=AA _ _;clear hmr hcc;go_wp2_with fail;refine(MOV.o wr GWR.o).mono ?_;rintro e w3 ⟨rfl,hM3⟩;have M3:=A0 hM3;clear hM3 MOV m0 m1 m2;go_wp2_with fail;exact⟨⟨i+1,by omega,by go_num,M3.o⟩,by simp[intOf];omega⟩
   ·obtain rfl:i=n:=by omega
    have hXX:Bc K.D K.ld G'.ln K.room K.t K.T=K.X:=by rw[HA.o.ln];rfl
    have ENDS:Hid (Calls Tryz.prog 44 #[.pointer (some ⟨gb,0,none⟩)] wr (Hx K.X K.w0 gb G' sent' wr)):=by
     have h1:=HA.o;rw[<-hXX];exact Mh K.D K.room K.T s0 K.t K.ld K.w0 gb G' HB.o (.slice none 0 0) false sent' wr h1.net.old h1.gl h1.blk h1.sn (h1.sq.mono (Nat.zero_le _)) h1.rt h1.six h1.sne
    clear hXX;go_wp2_with fail;refine ENDS.o.mono ?_;rintro e w3 ⟨fv3,F,en3,rfl,hb3,q3,he3,kp3,hfl⟩;obtain⟨fa,fc,rfl⟩:=q3.slice;have A3:=A0 (HA.o.ended kp3 hb3);have FREE:Hid (∀b,(Value.slice fa F.length fc).ownBlock=some b->role' b=.free/\b<w3.heap.size):=fun b hb=>⟨HA.o.net.at'.new (q3.lt b hb).1,(q3.lt b hb).2⟩
    have Q3:=A0 (q3.mono (Nat.zero_le _));have HE3:=A0 he3;have HFL:=A0 hfl;clear hb3 q3 he3 kp3 hfl ENDS HA;cases en3 with
    | true=>
     have SAF:Hid (Calls Tryz.prog 43 #[.pointer (some ⟨gb,0,none⟩)] w3 fun e w'=>e=.returned (.bool true)/\P (.returned (.bool true)) w'/\w'.cell? ⟨gb,10,none⟩=some (.bool false)):=by
      refine(U5 HK.o A3.o (by omega) HB.o).mono ?_;rintro e w' ⟨rfl,h1,fv,en,h2⟩;refine⟨rfl,?_,A6 h2 10 _ rfl⟩;rw[HP.o];exact⟨rfl,A1 G0.o h1⟩
     go_wp2_with fail;refine SAF.o.mono ?_;rintro e w4 ⟨rfl,hp,c10⟩;have HPP:=A0 hp;clear hp SAF;go_wp2_with fail;exact HPP.o
    | false=>
     obtain⟨hends,hF⟩:=HE3.o rfl;have FNS:Hid (Calls Tryz.prog 45 #[.pointer (some ⟨gb,0,none⟩),.slice ta tn tc] w3 (JD w3 role' K gb G' (.slice fa F.length fc) false sent')):=TX HK.o A3.o (by omega) HB.o (HEV.o.grown G0.o) hends (HTV.o.grown G0.o);have HEN:=A0 hends;have HF:=A0 hF;clear hends hF;go_wp2_with fail;refine FNS.o.mono ?_;rintro e w4 ⟨rfl,m4,role4,N4,S4,hA4,hk4,hm4,hr4⟩;have A4:=A0 hA4;have R4:=A0 hr4;have Q4:Hid (A9 0 w4 46 6 (.slice fa F.length fc) F.length (AO F)):=Q3.o.same (fun b hb=>(hk4.2 b (FREE.o b hb).2 (FREE.o b hb).1).2);have TBS:=A0 (Yg HK.o hA4 HB.o (HEV.o.grown G0.o) (HQ.o.2.2.2.trans HRM.o) hr4);clear hA4 hk4 hr4 FNS Q3 A3 FREE;go_wp2_with fail;refine TBS.o.mono ?_;rintro e w5 ⟨rfl,g5⟩;have A5:=A0 (A4.o.quiet g5);have WHL:=A0 (Z8 HK.o A5.o (by omega) HEN.o R4.o HF.o rfl (Q4.o.kept g5 (fun b e=>by cases e)) HFL.o);clear g5 TBS A4 Q4;go_wp2_with fail;refine WHL.o.mono ?_;rintro e w6 ⟨rfl,g6⟩;have c10:w6.cell? ⟨gb,10,none⟩=some (.bool false):=A6 (A5.o.quiet g6).blk 10 _ rfl
     have F6:Hid (P (.returned (.bool true)) w6):=by
      rw[HP.o];exact⟨rfl,A1 G0.o (A5.o.quiet g6).net.old⟩
     clear g6 WHL A5;go_wp2_with fail;exact F6.o
end Go.Proofs.YtlhkfafdioakeaaGreatDoor
