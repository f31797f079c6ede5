/- Parts of the proof. -/
import Derived.Test.YtlhkfafdioakeaaGreatDoorSf22
import Derived.Test.YtlhkfafdioakeaaGreatDoorSf35
import Derived.Test.YtlhkfafdioakeaaGreatDoorSf40
import Derived.Deep.RegionHeld3
namespace Go.Proofs.YtlhkfafdioakeaaGreatDoor
set_option maxRecDepth 100000
set_option maxHeartbeats 4000000
open Go.RowKit Go.Weft
set_option linter.unusedVariables false
set_option linter.unusedSimpArgs false
theorem Gk.ok.nxt{K:Gk}(hK:K.ok){x y:Nat->Int}{t':Nat}(hx:Rt x)(e:K.X.nxt x=some (t',y)):Rt y:=by
 unfold Gk.X netX at e;simp only at e;split at e
 ·rename_i j hj;cases e;have h1:=hK.ln j (xif hj).1;have hD:=hK.D;exact (xb6 hx (a:=K.ld j 2) (b:=K.ld j 3) (by omega) (by omega)).1
 ·cases e
theorem Reach.rt{K:Gk}(hK:K.ok){sent:List (Nat->Int)}(hs:∀k∈sent,Rt k){k:Nat->Int}(h:Reach K.X sent k):Rt k:=by
 induction h with
 | base k hk=>exact hs k hk
 | step k x t y _ hx hn ih=>exact hK.nxt (xsd hK.rd ih x hx).1 hn
theorem NOK.dels{K:Gk}(hK:K.ok){n:Nat}{role:Nat->Role}{N:NetM}{S:Gs Rl (Nat->Int)}{sent:List (Nat->Int)}{w:World}(h:NOK K n role N S sent w)(hs:∀k∈sent,Rt k){x:Nat->Int}(hx:x∈S.del):Rt x/\hostG K.ld K.ln (x 0) (x 1)/\∃k,Reach K.X sent k/\x∈K.X.pol k/\K.X.nxt x=none:=by
 obtain ⟨k,h1,h2,h3,h4⟩:=h.inv.de x hx;have hr:=(xsd hK.rd (Reach.rt hK hs h1) x h2).1;have h4:decide (hostS K.ld K.ln (x 0) (x 1))=true:=h4;have h5:=of_decide_eq_true h4;exact ⟨hr,⟨h5.1.2,h5.2⟩,k,h1,h2,h3⟩
theorem xdp{K:Gk}(hK:K.ok){Fn:(Nat->Int)->Option (List (Nat->Int)×Nat)}(hF:∀k r,Rt k->Fn k=some r->∀z∈r.1,Rt z):∀(L:List (Nat->Int)) (r:List (Nat->Int)×Nat),(∀x∈L,Rt x)->brL K.X.nxt K.X.hst Fn L=some r->∀z∈r.1,Rt z
 | [],r,_,e=>by
  unfold brL at e;cases e;exact fun z hz=>by cases hz
 | x::L,r,hL,e=>by
  have hx:=hL x (by simp);have ih:=xdp hK hF L;unfold brL at e;cases hn:K.X.nxt x with
  | some p=>
   obtain ⟨t',y⟩:=p;rw [hn] at e;simp only at e;cases hy:Fn y with
   | none=>rw [hy] at e;simp at e
   | some q=>
    cases hl:brL K.X.nxt K.X.hst Fn L with
    | none=>rw [hy,hl] at e;simp at e
    | some q2=>
     rw [hy,hl] at e;simp only [Option.some.injEq] at e;subst e;intro z hz;rcases List.mem_append.1 hz with h|h
     ·exact hF y q (hK.nxt hx hn) hy z h
     ·exact ih q2 (fun u hu=>hL u (by simp [hu])) hl z h
  | none=>
   rw [hn] at e;simp only at e;cases hl:brL K.X.nxt K.X.hst Fn L with
   | none=>rw [hl] at e;simp at e
   | some q2=>
    rw [hl] at e;simp only [Option.some.injEq] at e;subst e;intro z hz;rcases List.mem_append.1 hz with h|h
    ·split at h
     ·rw [List.mem_singleton.1 h];exact hx
     ·cases h
    ·exact ih q2 (fun u hu=>hL u (by simp [hu])) hl z h
theorem xdn{K:Gk}(hK:K.ok):∀(n:Nat) (k:Nat->Int) (r:List (Nat->Int)×Nat),Rt k->K.X.brF n k=some r->∀z∈r.1,Rt z
 | 0,k,r,_,e=>by cases e
 | n+1,k,r,hk,e=>by
  unfold Nx.brF at e;cases hL:brL K.X.nxt K.X.hst (K.X.brF n) (K.X.pol k) with
  | none=>rw [hL] at e;cases e
  | some q=>
   rw [hL] at e;simp only [Option.some.injEq] at e;subst e;exact xdp hK (fun k' r' h1 h2=>xdn hK n k' r' h1 h2) _ q (fun x hx=>(xsd hK.rd hk x hx).1) hL
theorem xib{K:Gk}(hK:K.ok){sent:List (Nat->Int)}(hs:∀k∈sent,Rt k)(he:Ends K.X sent):∀z∈sent.flatMap (fun k=>(K.X.tot k).1),Rt z:=fun z hz=>by
 obtain ⟨k,hk,hz⟩:=List.mem_flatMap.1 hz;obtain ⟨n,r,e⟩:=he.1 k hk;rw [xzy _ e] at hz;exact xdn hK n k r (hs k hk) e z hz
theorem xfl{L:List (Nat->Int)}{x:Nat->Int}(h:x∈L):0<L.countP (isP x):=by
 rw [List.countP_pos_iff];exact ⟨x,h,by simp [isP]⟩
theorem NOK.often{K:Gk}{n:Nat}{role:Nat->Role}{N:NetM}{S:Gs Rl (Nat->Int)}{sent:List (Nat->Int)}{w:World}(h:NOK K n role N S sent w)(he:Ends K.X sent)(p:(Nat->Int)->Bool):S.del.countP p<=(sent.flatMap fun k=>(K.X.tot k).1).countP p:=by
 rw [x1y];exact xhc h.inv he p
theorem BrW.cong{w0:World}{G G':Gg}{s0:ByteArray}{t:Code}{ld:Nat->Nat->Int}(h:BrW w0 G s0 t ld)(h1:G'.pb=G.pb)(h2:G'.la=G.la)(h3:G'.ln=G.ln)(h4:G'.lc=G.lc):BrW w0 G' s0 t ld:=by
 refine ⟨h.rd,by rw [h1];exact h.pol,by rw [h2,h3,h4];exact h.lnk,by rw [h3];exact h.lds⟩
def SafO(K:Gk)(gb:Nat)(G:Gg)(e:Ending)(w':World):Prop:=e=.returned (.bool true)/\K.w0.grownBy w' none/\∃fv en,w'.heap[gb]?=some (.cells (gmA G fv en false) 96 (0,0))
theorem xjg{K:Gk}(hK:K.ok){gb:Nat}{G:Gg}{fv:Value}{en:Bool}{n:Nat}{role:Nat->Role}{N:NetM}{S:Gs Rl (Nat->Int)}{sent:List (Nat->Int)}{w:World}(h:GAt K gb G fv en n role N S sent w)(hn:n<=9000003){s0:ByteArray}(hW:BrW K.w0 G s0 K.t K.ld):
  Calls Tryz.prog 43 #[.pointer (some ⟨gb,0,none⟩)] w (SafO K gb G):=by
 obtain ⟨P,hP⟩:∃P,P=SafO K gb G:=⟨_,rfl⟩;rw [<-hP];have HP:=hide hP;have hXX:netX K.D K.ld G.ln K.room K.t K.T=K.X:=by rw [h.ln];rfl
 obtain ⟨m,hm⟩:∃m,m=S.del.length:=⟨_,rfl⟩;have HM:=hide hm;have hml:m<=20000000000:=by have:=h.net.deb;omega
 have DEL:Hid (Calls Tryz.prog 79 #[.pointer (some ⟨K.nb,0,none⟩)] w fun e w'=>∃a c,e=.returned (.tuple #[.slice a m c,.int .i64 0])/\QRow w.heap.size w' 46 6 (.slice a m c) m (pksC S.del)/\w.grownBy w' none):=by
  rw [hm];refine (x0s h.net (by omega)).mono ?_;rintro e w' ⟨a,c,rfl,h1,h2⟩;exact ⟨a,c,rfl,QRow.of h1,h2⟩
 have CLO:Hid (∀w1,w.grownBy w1 none->Calls Tryz.prog 80 #[.pointer (some ⟨gb,0,none⟩)] w1 (CloO K.X sent w1)):=fun w1 g1=>by
  have h1:=h.quiet g1;rw [<-hXX];exact xek K.D K.room K.T s0 K.t K.ld K.w0 gb G hW fv en sent w1 h1.net.old h1.blk h1.sn (h1.sq.mono (Nat.zero_le _)) h1.rt h1.six
 have ENDS:Hid (∀w1,w.grownBy w1 none->Calls Tryz.prog 44 #[.pointer (some ⟨gb,0,none⟩)] w1 (EndO K.X K.w0 gb G sent w1)):=fun w1 g1=>by
  have h1:=h.quiet g1;rw [<-hXX];exact xgl K.D K.room K.T s0 K.t K.ld K.w0 gb G hW fv en sent w1 h1.net.old h1.gl h1.blk h1.sn (h1.sq.mono (Nat.zero_le _)) h1.rt h1.six h1.sne
 have HOST:Hid (∀ww x,w.grownBy ww none->x∈S.del->Calls Tryz.prog 76 #[.pointer (some ⟨gb,0,none⟩),.int .i64 (x 0),.int .i64 (x 1)] ww fun e w'=>e=.returned (.bool true)/\ww.grownBy w' none):=fun ww x hg hx=>by
  have h1:=h.quiet hg;have:=xim gb G.la G.ln G.lc K.ld (x 0) (x 1) ww (xc7 h1.blk 3 _ rfl) (hW.lnk.grown h1.net.old);rw [decide_eq_true (by rw [h.ln];exact (h.net.dels hK h.rt hx).2.1)] at this;exact this
 have HDL:Hid (∀x∈S.del,Rt x/\∃k,Reach K.X sent k/\x∈K.X.pol k/\K.X.nxt x=none):=fun x hx=>⟨(h.net.dels hK h.rt hx).1,(h.net.dels hK h.rt hx).2.2⟩
 have HOF:Hid (Ends K.X sent->∀p,S.del.countP p<=(sent.flatMap fun k=>(K.X.tot k).1).countP p):=fun he p=>h.net.often he p
 have HFR:Hid (Ends K.X sent->∀z∈sent.flatMap (fun k=>(K.X.tot k).1),Rt z):=fun he=>xib hK h.rt he
 have HH:=hide h;have c1:=h.cell1;clear hP h hm hXX hW hK;go_enter Tryz.func43,Tryz.ntmps43;go_wp2_with fail;refine DEL.out.mono ?_;rintro e w1 ⟨ga,gc,rfl,q1,g1⟩;have Q1:=hide q1;have G1:=hide g1;clear q1 g1 DEL c1;go_wp2_with fail;refine (CLO.out w1 G1.out).mono ?_;rintro e w2 ⟨va,vn,vc,ok,rfl,g2,hok⟩;have Q2:=hide (Q1.out.kept g2 (fun b e=>by cases e));have G2:=hide (xje G1.out g2);have HOK:=hide hok;clear hok g2 Q1 G1 CLO w1;have hgbw:gb<w.heap.size:=(Array.getElem?_eq_some_iff.1 HH.out.blk).1;go_wp2_with fail;go_loopw [7] (fun s7 wr=>∃i:Nat,i<=m/\s7=.int .i64 i/\w2.grownBy wr none) (fun s7 _=>m-(intOf s7).toNat)
 case atStart=>exact ⟨0,Nat.zero_le _,rfl,xjb _ _⟩
 case round=>
  obtain ⟨i,hi,rfl,hg⟩:=hrel;have HG:=hide hg;clear hg;by_cases hc:i<m/\ok=true
  ·obtain ⟨hlt,rfl⟩:=hc;have hltI:(i:Int)<m:=by omega
   have hq:=Q2.out.kept HG.out (fun b e=>by cases e);obtain ⟨g,off,rfl,hcap⟩:=hq.some (by omega);obtain ⟨x,hx⟩:∃x,S.del[i]?=some x:=⟨_,List.getElem?_eq_getElem (by have:=HM.out;omega)⟩
   have cZ:∀j,j<6->wr.cell? ⟨g,off+i*6+j,none⟩=some (.int .i64 (x j)):=fun j hj=>by
    rw [Nat.add_assoc];exact hq.cells (i*6+j) _ (xrw hx hj)
   have c0:wr.cell? ⟨g,off+i*6,none⟩=some (.int .i64 (x 0)):=cZ 0 (by omega);have c1:wr.cell? ⟨g,off+i*6+1,none⟩=some (.int .i64 (x 1)):=cZ 1 (by omega);have HCZ:=hide cZ;have hmem:=List.mem_of_getElem? hx;have HO:=hide (HOST.out wr.drew x (xi7 (xje G2.out HG.out)) hmem);obtain ⟨d,out,k1,k2,k3,k4⟩:=HOK.out rfl;obtain ⟨hxr,kk,r1,r2,r3⟩:=HDL.out x hmem;obtain ⟨cn,hcn⟩:∃cn,cn=out.countP (isP x):=⟨_,rfl⟩;have hpos:0<cn:=by rw [hcn];exact xfl (k4 kk r1 x r2 r3)
   have CNT:Hid (∀ww,wr.grownBy ww none->Calls Tryz.prog 81 #[.slice va vn vc,.agg #[.int .i64 (x 0),.int .i64 (x 1),.int .i64 (x 2),.int .i64 (x 3),.int .i64 (x 4),.int .i64 (x 5)]] ww fun e w'=>e=.returned (.int .i64 cn)/\ww.grownBy w' none):=fun ww hg=>by
    rw [hcn];exact xfk _ vn d out x ww (k1.grown (xje HG.out hg)) k2 (fun z hz=>(k3 z hz).1) hxr.1
   have hcz:¬(cn:Int)=0:=by omega
   clear hq cZ hx hmem k1 k2 k3 k4 hxr r1 r2 r3 hcn hpos;have HS:Hid (∀wx,wr.grownBy wx none->(wx.cell? ⟨g,off+i*6,none⟩=some (.int .i64 (x 0))/\wx.cell? ⟨g,off+i*6+1,none⟩=some (.int .i64 (x 1)))):=fun wx hx=>⟨hx.cell c0 (by simp),hx.cell c1 (by simp)⟩
   have HG0:Hid (wr.grownBy wr.drew none):=xi7 (xjb _ _);go_wp2_with fail
   go_region_held3 (fun wx=>(wx.cell? ⟨g,off+i*6,none⟩=some (.int .i64 (x 0))/\wx.cell? ⟨g,off+i*6+1,none⟩=some (.int .i64 (x 1)))) (first|exact HS.out _ HG0.out|exact HS.out _ g3) ((
      go_at_call 76;refine Calls.mono HO.out ?_;rintro e w3 ⟨rfl,g3'⟩;have g3:=xje HG0.out g3';clear g3'))
   all_goals
    have d0:w3.cell? ⟨g,off+i*6,none⟩=some (.int .i64 (x 0)):=g3.cell c0 (by simp);have d1:w3.cell? ⟨g,off+i*6+1,none⟩=some (.int .i64 (x 1)):=g3.cell c1 (by simp);have d2:=g3.cell (HCZ.out 2 (by omega)) (by simp);have d3:=g3.cell (HCZ.out 3 (by omega)) (by simp);have d4:=g3.cell (HCZ.out 4 (by omega)) (by simp);have d5:=g3.cell (HCZ.out 5 (by omega)) (by simp);have CN3:=hide (CNT.out w3 g3);have G3:=hide (xje HG.out g3);clear g3 HO c0 c1 CNT HS HG0;go_wp2_with fail;refine CN3.out.mono ?_;rintro e w4 ⟨rfl,g4⟩;have G4:=hide (xje G3.out g4);clear g4 CN3 d0 d1 d2 d3 d4 d5;go_wp2_with fail;exact ⟨⟨i+1,by omega,by go_num,G4.out⟩,by simp [intOf];omega⟩
  ·have hcc:(¬(i:Int)<m)\/((i:Int)<m/\ok=false):=by
    cases ok with
    | false=>by_cases e:(i:Int)<m<;>simp [e]
    | true=>exact .inl (fun e=>hc ⟨by omega,rfl⟩)
   clear hc HOST HOK;rcases hcc with hI|⟨hI,rfl⟩
   all_goals
    go_wp2_with fail;refine (ENDS.out wr (xje G2.out HG.out)).mono ?_;rintro e w3 ⟨fv3,F,en3,rfl,hb3,q3,he3,kp3,hfl⟩;obtain ⟨fa,fc,rfl⟩:=q3.slice;have hq:=(Q2.out.kept HG.out (fun b e=>by cases e)).same (w':=w3) (fun b hb=>kp3.2.2.2.2 b ((Q2.out.kept HG.out (fun b e=>by cases e)).lt b hb).2 (fun e=>by have:=(Q2.out.lt b hb).1;omega));have HQ3:=hide hq;have HB3:=hide hb3;have HQF:=hide q3;have HE3:=hide he3;have HFL:=hide hfl
    have HW03:Hid (K.w0.grownBy w3 none):=by
     have h1:=xje HH.out.net.old (xje G2.out HG.out);refine ⟨kp3.1.trans h1.os,kp3.2.1.trans h1.tape,kp3.2.2.1.trans h1.output,Nat.le_trans h1.size kp3.size,fun b hb _=>?_⟩;have hgl:=HH.out.gl;rw [kp3.2.2.2.2 b (Nat.lt_of_lt_of_le hb h1.size) (fun e=>by have e:b=gb:=e;omega)];exact h1.block b hb (by simp)
    obtain ⟨fl,hfl2⟩:∃fl,fl=F.length:=⟨_,rfl⟩;rw [<-hfl2] at HB3 HQF;have HFL2:=hide hfl2;clear hq hb3 q3 he3 kp3 hfl hfl2 ENDS;go_wp2_with fail;go_loopw [10] (fun s10 wq=>∃i:Nat,i<=m/\s10=.int .i64 i/\w3.grownBy wq none) (fun s10 _=>m-(intOf s10).toNat)
    case atStart=>exact ⟨0,Nat.zero_le _,rfl,xjb _ _⟩
    case round=>
     obtain ⟨i2,hi2,rfl,hg2⟩:=hrel;have HG2:=hide hg2;clear hg2;by_cases hc:i2<m/\en3=false
     ·obtain ⟨hlt,rfl⟩:=hc;have hltI:(i2:Int)<m:=by omega
      have hq:=HQ3.out.kept HG2.out (fun b e=>by cases e);obtain ⟨g,off,rfl,hcap⟩:=hq.some (by omega);obtain ⟨x,hx⟩:∃x,S.del[i2]?=some x:=⟨_,List.getElem?_eq_getElem (by have:=HM.out;omega)⟩;have hmem:=List.mem_of_getElem? hx;have hxr:=(HDL.out x hmem).1;obtain ⟨hends,hF⟩:=HE3.out rfl;obtain ⟨c1,hc1⟩:∃c1,c1=S.del.countP (isP x):=⟨_,rfl⟩;obtain ⟨c2,hc2⟩:∃c2,c2=F.countP (isP x):=⟨_,rfl⟩;have hle:c1<=c2:=by rw [hc1,hc2,hF];exact HOF.out hends _
      have hnI:¬(c2:Int)<c1:=by omega
      have hFr:∀z∈F,Nm z:=by rw [hF];exact fun z hz=>(HFR.out hends z hz).1
      have CN1:Hid (∀ww,wr.grownBy ww none->Calls Tryz.prog 81 #[.slice (some ⟨g,off,none⟩) m gc,.agg #[.int .i64 (x 0),.int .i64 (x 1),.int .i64 (x 2),.int .i64 (x 3),.int .i64 (x 4),.int .i64 (x 5)]] ww fun e w'=>e=.returned (.int .i64 c1)/\ww.grownBy w' none):=fun ww hg=>by
       rw [hc1];have:=HM.out;exact xfk _ m (atL S.del) S.del x ww ((hq.kept hg (fun b e=>by cases e)).pkR (by omega)) (by rw [HM.out];exact xb5 _) (fun z hz=>(HDL.out z hz).1.1) hxr.1
      have CN2:Hid (∀ww,wr.grownBy ww none->Calls Tryz.prog 81 #[.slice fa fl fc,.agg #[.int .i64 (x 0),.int .i64 (x 1),.int .i64 (x 2),.int .i64 (x 3),.int .i64 (x 4),.int .i64 (x 5)]] ww fun e w'=>e=.returned (.int .i64 c2)/\ww.grownBy w' none):=fun ww hg=>by
       rw [hc2];have h1:=HFL.out;have h2:=HFL2.out;exact xfk _ fl (atL F) F x ww ((HQF.out.kept (xje HG2.out hg) (fun b e=>by cases e)).pkR (by omega)) (by rw [HFL2.out];exact xb5 _) hFr hxr.1
      have cZ:∀j,j<6->wr.cell? ⟨g,off+i2*6+j,none⟩=some (.int .i64 (x j)):=fun j hj=>by
       rw [Nat.add_assoc];exact hq.cells (i2*6+j) _ (xrw hx hj)
      have c6:wr.cell? ⟨gb,6,none⟩=some (.slice fa fl fc):=xc7 (xc9 HB3.out HG2.out (by simp)) 6 _ rfl;have HS:Hid (∀wx,wr.grownBy wx none->(wx.cell? ⟨gb,6,none⟩=some (.slice fa fl fc)/\wx.cell? ⟨g,off+i2*6,none⟩=some (.int .i64 (x 0))/\wx.cell? ⟨g,off+i2*6+1,none⟩=some (.int .i64 (x 1))/\wx.cell? ⟨g,off+i2*6+2,none⟩=some (.int .i64 (x 2))/\wx.cell? ⟨g,off+i2*6+3,none⟩=some (.int .i64 (x 3))/\wx.cell? ⟨g,off+i2*6+4,none⟩=some (.int .i64 (x 4))/\wx.cell? ⟨g,off+i2*6+5,none⟩=some (.int .i64 (x 5)))):=fun wx hx=>⟨hx.cell c6 (by simp),hx.cell (cZ 0 (by omega)) (by simp),hx.cell (cZ 1 (by omega)) (by simp),hx.cell (cZ 2 (by omega)) (by simp),hx.cell (cZ 3 (by omega)) (by simp),hx.cell (cZ 4 (by omega)) (by simp),hx.cell (cZ 5 (by omega)) (by simp)⟩
      have HG0:Hid (wr.grownBy wr.drew none):=xi7 (xjb _ _);clear hq hx hmem hxr hends hF hc1 hc2 hle hFr cZ c6;go_wp2_with fail
      go_region_held3 (fun wx=>(wx.cell? ⟨gb,6,none⟩=some (.slice fa fl fc)/\wx.cell? ⟨g,off+i2*6,none⟩=some (.int .i64 (x 0))/\wx.cell? ⟨g,off+i2*6+1,none⟩=some (.int .i64 (x 1))/\wx.cell? ⟨g,off+i2*6+2,none⟩=some (.int .i64 (x 2))/\wx.cell? ⟨g,off+i2*6+3,none⟩=some (.int .i64 (x 3))/\wx.cell? ⟨g,off+i2*6+4,none⟩=some (.int .i64 (x 4))/\wx.cell? ⟨g,off+i2*6+5,none⟩=some (.int .i64 (x 5)))) (first|exact HS.out _ GB.out|exact HS.out _ GA.out|exact HS.out _ HG0.out) ((first
        | (go_at_call 81;with_reducible refine Calls.mono (CN2.out _ GA.out) ?_;rintro e w5 ⟨rfl,g5⟩;have GB:=hide (xje GA.out g5);clear g5)
        | (go_at_call 81;with_reducible refine Calls.mono (CN1.out _ HG0.out) ?_;rintro e w4 ⟨rfl,g4⟩;have GA:=hide (xje HG0.out g4);clear g4)))
      all_goals
       have G5:=hide (xje HG2.out GB.out);clear GA GB CN1 CN2 HS HG0;go_wp2_with fail;refine ⟨?_,by simp [intOf];omega⟩;repeat apply Exists.intro
       exact ⟨⟨i2+1,by omega,by go_num,G5.out⟩,rfl⟩
     ·have hcc:(¬(i2:Int)<m)\/((i2:Int)<m/\en3=true):=by
       cases en3 with
       | true=>by_cases e:(i2:Int)<m<;>simp [e]
       | false=>exact .inl (fun e=>hc ⟨by omega,rfl⟩)
      have c10:wr.cell? ⟨gb,10,none⟩=some (.bool false):=xc7 (xc9 HB3.out HG2.out (by simp)) 10 _ rfl
      have FIN:Hid (P (.returned (.bool true)) wr):=by
       rw [HP.out];exact ⟨rfl,xje HW03.out HG2.out,_,_,xc9 HB3.out HG2.out (by simp)⟩
      clear hc;rcases hcc with hI2|⟨hI2,rfl⟩
      all_goals
       go_wp2_with fail;exact FIN.out
end Go.Proofs.YtlhkfafdioakeaaGreatDoor
