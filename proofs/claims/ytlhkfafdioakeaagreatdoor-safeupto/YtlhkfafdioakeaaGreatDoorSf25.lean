/- Parts of the proof. -/
import Derived.Test.YtlhkfafdioakeaaGreatDoorSf05
import Derived.Test.YtlhkfafdioakeaaGreatDoorSf13
import Derived.Test.YtlhkfafdioakeaaGreatDoorSf16
import Derived.Test.YtlhkfafdioakeaaGreatDoorSf23
import Derived.Test.YtlhkfafdioakeaaGreatDoorSf24
import Derived.Deep.LoopGhost
namespace Go.Proofs.YtlhkfafdioakeaaGreatDoor
set_option maxRecDepth 100000
set_option maxHeartbeats 8000000
open Go.RowKit Go.Weft
set_option linter.unusedVariables false
set_option linter.unusedSimpArgs false
theorem xgp(va vb:Value)(na nb:Nat)(ps qs:Nat->Nat->Int)(A B:List (Nat->Int))(w:World)(ha:PkR w va na ps)(hb:PkR w vb nb qs)(hA:Is A na ps)(hB:Is B nb qs)(hnA:∀x∈A,Nm x)(hnB:∀x∈B,Nm x):
  Calls Tryz.prog 251 #[va,vb] w (Says (A=B) w):=by
 obtain ⟨a,ca,rfl⟩:=ha.slice;obtain ⟨b,cb,rfl⟩:=hb.slice;have HPA:=hide ha;have HPB:=hide hb;have hfew:=ha.few;have hfew2:=hb.few;by_cases hn:na=nb
 case neg=>
  have HNE:Hid (¬A=B):=fun e=>hn (by rw [<-hA.len,<-hB.len,e])
  have hnI:((na:Int) != nb)=true:=by rw [bne_iff_ne];omega
  clear ha hb hA hB hnA hnB;go_enter Tryz.func251,Tryz.ntmps251;go_wp2;go_ret;exact xou HNE.out (xjb _ _)
 subst hn;have HXY:Hid (∀j,j<na->Nm (ps j)/\Nm (qs j)):=fun j hj=>⟨hnA _ (hA.mem hj),hnB _ (hB.mem hj)⟩
 have HEQ:Hid (A=B↔∀j,j<na->ps j=qs j):=by
  constructor
  ·intro e j hj;have h1:=hA.get j hj;have h2:=hB.get j hj;rw [e,h2] at h1;exact (Option.some.inj h1).symm
  ·intro h;refine List.ext_getElem? (fun j=>?_);by_cases hj:j<na
   ·rw [hA.get j hj,hB.get j hj,h j hj]
   ·rw [List.getElem?_eq_none (by rw [hA.len];omega),List.getElem?_eq_none (by rw [hB.len];omega)]
 obtain ⟨P,hP⟩:∃P,P=(A=B):=⟨_,rfl⟩;rw [<-hP] at HEQ ⊢;clear ha hb hA hB hnA hnB hP;go_enter Tryz.func251,Tryz.ntmps251;go_wp2;go_loopw [13] (fun v5 wr=>∃(j:Nat),v5=.int .i64 j/\j<=na/\(∀i,i<j->ps i=qs i)/\w.grownBy wr none) (fun v5 _=>na-(intOf v5).toNat)
 case atStart=>exact ⟨0,rfl,Nat.zero_le _,fun i hi=>by omega,xjb _ _⟩
 case round=>
  obtain ⟨i,rfl,hj,hall,hg⟩:=hrel;have HG:=hide hg;have HALL:=hide hall;clear hg hall;by_cases hlt:i<na
  ·rcases HPA.out with ⟨_,_,_,h0,_⟩|⟨g,off,capg,hvg,_,hcellg⟩
   ·omega
   cases hvg;rcases HPB.out with ⟨_,_,_,h0,_⟩|⟨g2,off2,capg2,hvg2,_,hcellg2⟩
   ·omega
   cases hvg2;obtain ⟨x,hx⟩:∃x,x=ps i:=⟨_,rfl⟩;obtain ⟨y,hy⟩:∃y,y=qs i:=⟨_,rfl⟩;have CX:Hid (∀wx,w.grownBy wx none->∀t,t<6->wx.cell? ⟨g,off+i*6+t,none⟩=some (.int .i64 (x t))):=fun wx hgx t ht=>by rw [hx];exact hgx.cell (hcellg i (by omega) t ht) (by simp)
   have CY:Hid (∀wx,w.grownBy wx none->∀t,t<6->wx.cell? ⟨g2,off2+i*6+t,none⟩=some (.int .i64 (y t))):=fun wx hgx t ht=>by rw [hy];exact hgx.cell (hcellg2 i (by omega) t ht) (by simp)
   have hnm:Nm x/\Nm y:=by rw [hx,hy];exact HXY.out i hlt
   have HX:=hide hx;have HY:=hide hy;clear hcellg hcellg2 hx hy;have cZ:=CX.out wr HG.out;have c0:wr.cell? ⟨g,off+i*6,none⟩=some (.int .i64 (x 0)):=cZ 0 (by omega);have c1:wr.cell? ⟨g,off+i*6+1,none⟩=some (.int .i64 (x 1)):=cZ 1 (by omega);have c2:wr.cell? ⟨g,off+i*6+2,none⟩=some (.int .i64 (x 2)):=cZ 2 (by omega);have c3:wr.cell? ⟨g,off+i*6+3,none⟩=some (.int .i64 (x 3)):=cZ 3 (by omega);have c4:wr.cell? ⟨g,off+i*6+4,none⟩=some (.int .i64 (x 4)):=cZ 4 (by omega);have c5:wr.cell? ⟨g,off+i*6+5,none⟩=some (.int .i64 (x 5)):=cZ 5 (by omega);clear cZ;have dZ:=CY.out wr HG.out;have d0:wr.cell? ⟨g2,off2+i*6,none⟩=some (.int .i64 (y 0)):=dZ 0 (by omega);have d1:wr.cell? ⟨g2,off2+i*6+1,none⟩=some (.int .i64 (y 1)):=dZ 1 (by omega);have d2:wr.cell? ⟨g2,off2+i*6+2,none⟩=some (.int .i64 (y 2)):=dZ 2 (by omega);have d3:wr.cell? ⟨g2,off2+i*6+3,none⟩=some (.int .i64 (y 3)):=dZ 3 (by omega);have d4:wr.cell? ⟨g2,off2+i*6+4,none⟩=some (.int .i64 (y 4)):=dZ 4 (by omega);have d5:wr.cell? ⟨g2,off2+i*6+5,none⟩=some (.int .i64 (y 5)):=dZ 5 (by omega);clear dZ;have hltI:(i:Int)<na:=by omega
   by_cases hxy:x=y
   ·have he:eq6 (x 0) (x 1) (x 2) (x 3) (x 4) (x 5) (y 0) (y 1) (y 2) (y 3) (y 4) (y 5)=true:=xgo ((xet x y).2 (fun t _=>by rw [hxy]));have HE:=hide hxy;clear hxy hnm;go_wp2_with fail;go_quiet (fail)
    go_wp2_with fail
    exact ⟨⟨i+1,by go_num,by omega,fun t ht=>(by
     by_cases e:t=i
     ·subst e;rw [<-HX.out,<-HY.out];exact HE.out
     ·exact HALL.out t (by omega)),xi8 HG.out _⟩,by simp [intOf];omega⟩
   ·have he:eq6 (x 0) (x 1) (x 2) (x 3) (x 4) (x 5) (y 0) (y 1) (y 2) (y 3) (y 4) (y 5)=false:=xgm (fun h=>hxy (hnm.1.ext hnm.2 ((xet x y).1 h)));have HE:Hid (¬P):=fun hp=>hxy (by rw [HX.out,HY.out];exact HEQ.out.1 hp i hlt)
    clear hxy hnm;go_wp2_with fail;go_quiet (fail)
    go_wp2;go_ret;exact xou HE.out (xi8 HG.out _)
  ·obtain rfl:i=na:=by omega
   go_wp2;go_ret;exact x1z (HEQ.out.2 HALL.out) HG.out
theorem xf4(p q:Int)(x y:Nat->Int)(a1:Option Addr)(n1 c1:Nat)(a2:Option Addr)(n2 c2:Nat)(ps qs:Nat->Nat->Int)(A B:List (Nat->Int))(w:World)(hx:Nm x)(hy:Nm y)(ha:PkR w (.slice a1 n1 c1) n1 ps)(hb:PkR w (.slice a2 n2 c2) n2 qs)(hA:Is A n1 ps)(hB:Is B n2 qs)(hnA:∀x∈A,Nm x)(hnB:∀x∈B,Nm x):
  Calls Tryz.prog 217 #[rlV p x (.slice a1 n1 c1),rlV q y (.slice a2 n2 c2)] w (Says (x=y/\A=B) w):=by
 obtain ⟨w1,hw1⟩:∃w1,w1=w.alloc (.cells #[.int .i64 p,.int .i64 (x 0),.int .i64 (x 1),.int .i64 (x 2),.int .i64 (x 3),.int .i64 (x 4),.int .i64 (x 5),.slice a1 n1 c1] 68):=⟨_,rfl⟩;obtain ⟨w2,hw2⟩:∃w2,w2=w1.alloc (.cells #[.int .i64 q,.int .i64 (y 0),.int .i64 (y 1),.int .i64 (y 2),.int .i64 (y 3),.int .i64 (y 4),.int .i64 (y 5),.slice a2 n2 c2] 68):=⟨_,rfl⟩;have hg2:w.grownBy w2 none:=by rw [hw2,hw1];exact xje (World.grownBy_alloc _ _ _) (World.grownBy_alloc _ _ _)
 have HE:=hide (xgp _ _ n1 n2 ps qs A B w2 (ha.grown hg2) (hb.grown hg2) hA hB hnA hnB);have G2:=hide hg2;rw [hw1] at hw2;unfold rlV rlA;by_cases hxy:x=y
 ·have he:eq6 (x 0) (x 1) (x 2) (x 3) (x 4) (x 5) (y 0) (y 1) (y 2) (y 3) (y 4) (y 5)=true:=xgo ((xet x y).2 (fun t _=>by rw [hxy]));have HXY:=hide hxy;clear hxy hx hy ha hb hA hB hnA hnB hg2 hw1;go_enter Tryz.func217,Tryz.ntmps217;go_wp2_with fail;rw [<-hw2];refine HE.out.mono ?_;rintro e w3 ⟨⟨bq,rfl,hq⟩,g3⟩;have G3:=hide (xje G2.out g3);have HQ:=hide hq;clear g3 hq hw2 HE G2;go_wp2;go_ret;exact ⟨⟨bq,rfl,⟨fun h=>⟨HXY.out,HQ.out.1 h⟩,fun h=>HQ.out.2 h.2⟩⟩,G3.out⟩
 ·have he:eq6 (x 0) (x 1) (x 2) (x 3) (x 4) (x 5) (y 0) (y 1) (y 2) (y 3) (y 4) (y 5)=false:=xgm (fun h=>hxy (hx.ext hy ((xet x y).1 h)));have HXY:=hide hxy;clear hxy hx hy ha hb hA hB hnA hnB hg2 hw1 HE;go_enter Tryz.func217,Tryz.ntmps217;go_wp2;go_ret;rw [<-hw2];exact xou (fun h=>HXY.out h.1) G2.out
structure RdR(w:World)(v:Value)(n:Nat)(rs:Nat->Rl)(AL:Nat->List (Nat->Int)):Prop where
 row:RlRow w v n rs
 nm:∀j,j<n->Nm (rs j).mt
 is:∀j,j<n->Is (AL j) (rs j).na (rs j).acts
 anm:∀j,j<n->∀x∈AL j,Nm x
def prL(rs:Nat->Rl)(AL:Nat->List (Nat->Int))(n:Nat):List ((Nat->Int)×List (Nat->Int)):=(List.range n).map fun j=>((rs j).mt,AL j)
theorem xsl(rs:Nat->Rl)(AL:Nat->List (Nat->Int))(n:Nat):(prL rs AL n).length=n:=by unfold prL;simp
theorem xsk{rs ts:Nat->Rl}{AL BL:Nat->List (Nat->Int)}{n:Nat}:prL rs AL n=prL ts BL n↔∀j,j<n->(rs j).mt=(ts j).mt/\AL j=BL j:=by
 unfold prL;constructor
 ·intro h j hj;have:=congrArg (fun l=>l[j]?) h;simp [hj] at this;exact this
 ·intro h;exact List.map_congr_left (fun j hj=>by have:=h j (List.mem_range.1 hj);rw [this.1,this.2])
theorem xgr(v1 v2:Value)(n1 n2:Nat)(rs ts:Nat->Rl)(AL BL:Nat->List (Nat->Int))(w:World)(h1:RdR w v1 n1 rs AL)(h2:RdR w v2 n2 ts BL):
  Calls Tryz.prog 216 #[v1,v2,.func (.func 217) #[] #[]] w (Says (prL rs AL n1=prL ts BL n2) w):=by
 obtain ⟨a,ca,rfl⟩:=h1.row.slice;obtain ⟨b,cb,rfl⟩:=h2.row.slice;have H1:=hide h1;have H2:=hide h2
 have hf1:n1<=3000000000000:=by
  rcases h1.row with ⟨_,_,_,h0⟩|⟨_,_,_,_,h,_⟩<;>omega
 have hf2:n2<=3000000000000:=by
  rcases h2.row with ⟨_,_,_,h0⟩|⟨_,_,_,_,h,_⟩<;>omega
 by_cases hn:n1=n2
 case neg=>
  have HNE:Hid (¬prL rs AL n1=prL ts BL n2):=fun e=>hn (by rw [<-xsl rs AL n1,e,xsl])
  have hnI:((n1:Int) != n2)=true:=by rw [bne_iff_ne];omega
  clear h1 h2;go_enter Tryz.func216,Tryz.ntmps216;go_wp2;go_ret;exact xou HNE.out (xjb _ _)
 subst hn;have HEQ:=hide (xsk (rs:=rs) (ts:=ts) (AL:=AL) (BL:=BL) (n:=n1));obtain ⟨P,hP⟩:∃P,P=(prL rs AL n1=prL ts BL n1):=⟨_,rfl⟩;rw [<-hP] at HEQ ⊢;clear h1 h2 hP;go_enter Tryz.func216,Tryz.ntmps216;go_wp2_with fail;go_loopw [17] (fun s17 wr=>∃i:Nat,i<=n1/\s17=.int .i64 i/\(∀j,j<i->(rs j).mt=(ts j).mt/\AL j=BL j)/\w.grownBy wr none) (fun s17 _=>n1-(intOf s17).toNat)
 case atStart=>exact ⟨0,by omega,rfl,fun j hj=>by omega,xjb _ _⟩
 case round=>
  obtain ⟨i,hi,rfl,hall,hg⟩:=hrel;have HALL:=hide hall;have HG:=hide hg;clear hall hg;by_cases hlt:i<n1
  ·rcases H1.out.row with ⟨_,_,_,h0⟩|⟨g,off,cap,hv,_,hc⟩
   ·omega
   cases hv;rcases H2.out.row with ⟨_,_,_,h0⟩|⟨g2,off2,cap2,hv2,_,hc2⟩
   ·omega
   cases hv2;obtain ⟨c1,c2,c3,c4⟩:=hc i hlt;obtain ⟨d1,d2,d3,d4⟩:=hc2 i hlt;obtain ⟨p,hp⟩:∃p,p=(rs i).prio:=⟨_,rfl⟩;obtain ⟨q,hq⟩:∃q,q=(ts i).prio:=⟨_,rfl⟩;obtain ⟨x,hx⟩:∃x,x=(rs i).mt:=⟨_,rfl⟩;obtain ⟨y,hy⟩:∃y,y=(ts i).mt:=⟨_,rfl⟩;obtain ⟨a1,q1,e1⟩:=c4.slice;obtain ⟨a2,q2,e2⟩:=d4.slice;obtain ⟨l1,hl1⟩:∃l1,l1=(rs i).na:=⟨_,rfl⟩;obtain ⟨l2,hl2⟩:∃l2,l2=(ts i).na:=⟨_,rfl⟩;rw [e1,<-hl1] at c3 c4;rw [e2,<-hl2] at d3 d4;have nx:Nm x:=by rw [hx];exact H1.out.nm i hlt
   have ny:Nm y:=by rw [hy];exact H2.out.nm i hlt
   obtain ⟨W,hW⟩:∃W,W=(wr.alloc (.cells #[.int .i64 p,.int .i64 (x 0),.int .i64 (x 1),.int .i64 (x 2),.int .i64 (x 3),.int .i64 (x 4),.int .i64 (x 5),.slice a1 l1 q1] 68)).alloc (.cells #[.int .i64 q,.int .i64 (y 0),.int .i64 (y 1),.int .i64 (y 2),.int .i64 (y 3),.int .i64 (y 4),.int .i64 (y 5),.slice a2 l2 q2] 68):=⟨_,rfl⟩;have hgW:wr.grownBy W none:=by rw [hW];exact xje (World.grownBy_alloc _ _ _) (World.grownBy_alloc _ _ _)
   have hG:=xje HG.out hgW;have i1:=H1.out.is i hlt;have i2:=H2.out.is i hlt;rw [<-hl1] at i1;rw [<-hl2] at i2;have HD:=hide (xf4 p q x y a1 l1 q1 a2 l2 q2 _ _ (AL i) (BL i) W nx ny (c4.grown hG) (d4.grown hG) i1 i2 (H1.out.anm i hlt) (H2.out.anm i hlt));unfold rlV rlA at HD;have GW:=hide hG;have b0:wr.cell? ⟨g,off+i*8,none⟩=some (.int .i64 p):=by rw [hp];exact HG.out.cell c1 (by simp)
   have bm:∀t,t<6->wr.cell? ⟨g,off+i*8+(1+t),none⟩=some (.int .i64 (x t)):=fun t ht=>by rw [hx];exact HG.out.cell (c2 t ht) (by simp)
   have b1:wr.cell? ⟨g,off+i*8+1,none⟩=some (.int .i64 (x 0)):=bm 0 (by omega);have b2:wr.cell? ⟨g,off+i*8+2,none⟩=some (.int .i64 (x 1)):=bm 1 (by omega);have b3:wr.cell? ⟨g,off+i*8+3,none⟩=some (.int .i64 (x 2)):=bm 2 (by omega);have b4:wr.cell? ⟨g,off+i*8+4,none⟩=some (.int .i64 (x 3)):=bm 3 (by omega);have b5:wr.cell? ⟨g,off+i*8+5,none⟩=some (.int .i64 (x 4)):=bm 4 (by omega);have b6:wr.cell? ⟨g,off+i*8+6,none⟩=some (.int .i64 (x 5)):=bm 5 (by omega);have b7:wr.cell? ⟨g,off+i*8+7,none⟩=some (.slice a1 l1 q1):=HG.out.cell c3 (by simp);have f0:wr.cell? ⟨g2,off2+i*8,none⟩=some (.int .i64 q):=by rw [hq];exact HG.out.cell d1 (by simp)
   have fm:∀t,t<6->wr.cell? ⟨g2,off2+i*8+(1+t),none⟩=some (.int .i64 (y t)):=fun t ht=>by rw [hy];exact HG.out.cell (d2 t ht) (by simp)
   have f1:wr.cell? ⟨g2,off2+i*8+1,none⟩=some (.int .i64 (y 0)):=fm 0 (by omega);have f2:wr.cell? ⟨g2,off2+i*8+2,none⟩=some (.int .i64 (y 1)):=fm 1 (by omega);have f3:wr.cell? ⟨g2,off2+i*8+3,none⟩=some (.int .i64 (y 2)):=fm 2 (by omega);have f4:wr.cell? ⟨g2,off2+i*8+4,none⟩=some (.int .i64 (y 3)):=fm 3 (by omega);have f5:wr.cell? ⟨g2,off2+i*8+5,none⟩=some (.int .i64 (y 4)):=fm 4 (by omega);have f6:wr.cell? ⟨g2,off2+i*8+6,none⟩=some (.int .i64 (y 5)):=fm 5 (by omega);have f7:wr.cell? ⟨g2,off2+i*8+7,none⟩=some (.slice a2 l2 q2):=HG.out.cell d3 (by simp);have hg2l:g2<wr.heap.size:=World.block_lt_of_cell? wr _ f0;have hltI:(i:Int)<n1:=by omega
   have HXY:Hid (x=(rs i).mt/\y=(ts i).mt):=⟨hx,hy⟩;clear hc hc2 c1 c2 c3 c4 d1 d2 d3 d4 hp hq hx hy e1 e2 hl1 hl2 nx ny hgW hG i1 i2 bm fm;go_wp2_with fail;rw [<-hW];refine HD.out.mono ?_;rintro e w3 ⟨⟨bq,rfl,hbq⟩,g3⟩;have G3:=hide (xje GW.out g3);have HBQ:=hide hbq;clear g3 hbq HD GW hW b0 b1 b2 b3 b4 b5 b6 b7 f0 f1 f2 f3 f4 f5 f6 f7 hg2l;cases bq
   ·have HNP:Hid (¬P):=fun hp=>by
     have h:=HEQ.out.1 hp i hlt;have:=HBQ.out.2 ⟨by rw [HXY.out.1,HXY.out.2];exact h.1,h.2⟩;cases this
    go_wp2;go_ret;exact xou HNP.out G3.out
   ·have HYS:=hide (HBQ.out.1 rfl);go_wp2_with fail
    exact ⟨⟨i+1,by omega,by go_num,fun j hj=>(by
     by_cases e:j=i
     ·subst e;exact ⟨by rw [<-HXY.out.1,<-HXY.out.2];exact HYS.out.1,HYS.out.2⟩
     ·exact HALL.out j (by omega)),G3.out⟩,by simp [intOf];omega⟩
  ·obtain rfl:i=n1:=by omega
   go_wp2;go_ret;exact x1z (HEQ.out.2 HALL.out) HG.out
theorem xqh{w:World}{B:Nat}{T:TypeId}{size:Nat}{v:Value}{n:Nat}{xs:List Value}(h:w.ownsRow B T size v n xs):∃a c,v=.slice a n c:=by
 rcases h.2 with ⟨rfl,rfl⟩|⟨g,cap,cur,rfl,_⟩
 ·exact ⟨_,_,rfl⟩
 ·exact ⟨_,_,rfl⟩
theorem xhj(rs ts:Nat->Rl):∀n,(∀j,j<n->(rs j).prio=(ts j).prio/\(rs j).mt=(ts j).mt/\(rs j).av=(ts j).av)->flR rs n=flR ts n
 | 0,_=>rfl
 | n+1,h=>by rw [flR,flR,xhj rs ts n (fun j hj=>h j (by omega)),(h n (by omega)).1,(h n (by omega)).2.1,(h n (by omega)).2.2]
def catR{α:Type}(n:Nat)(rs ts:Nat->α):Nat->α:=fun j=>if j<n then rs j else ts (j-n)
theorem xea{α:Type}{n:Nat}{rs ts:Nat->α}{j:Nat}(h:j<n):catR n rs ts j=rs j:=by unfold catR;rw [if_pos h]
theorem xeb{α:Type}{n:Nat}{rs ts:Nat->α}{j:Nat}(h:n<=j):catR n rs ts j=ts (j-n):=by unfold catR;rw [if_neg (by omega)]
theorem xhi(n:Nat)(rs ts:Nat->Rl):∀m,flR (catR n rs ts) (n+m)=flR rs n++flR ts m
 | 0=>by
  rw [Nat.add_zero,xhj (catR n rs ts) rs n (fun j hj=>by rw [xea hj];exact ⟨rfl,rfl,rfl⟩)];simp [flR]
 | m+1=>by
  rw [<-Nat.add_assoc,flR,xhi n rs ts m,xeb (by omega),show n+m-n=m by omega,flR,List.append_assoc]
theorem xsj(n m:Nat)(rs ts:Nat->Rl)(AL BL:Nat->List (Nat->Int)):prL (catR n rs ts) (catR n AL BL) (n+m)=prL rs AL n++prL ts BL m:=by
 unfold prL;rw [List.range_add,List.map_append,List.map_map];congr 1
 ·exact List.map_congr_left (fun j hj=>by rw [xea (List.mem_range.1 hj),xea (List.mem_range.1 hj)])
 ·refine List.map_congr_left (fun j hj=>?_);show ((catR n rs ts (n+j)).mt,catR n AL BL (n+j))=_;rw [xeb (by omega),xeb (by omega),show n+j-n=j by omega]
theorem xqk{w:World}{base base':Nat}{e:TypeId}{size:Nat}{v:Value}{n:Nat}{xs:List Value}(h:w.ownsRow base e size v n xs)(hb:base'<=base):w.ownsRow base' e size v n xs:=by
 obtain ⟨h1,h2⟩:=h;refine ⟨h1,h2.imp id ?_⟩;rintro ⟨g,cap,cur,e,h0,h3⟩;exact ⟨g,cap,cur,e,by omega,h3⟩
structure RlO(B:Nat)(w:World)(v:Value)(N:Nat)(rs:Nat->Rl)(AL:Nat->List (Nat->Int)):Prop where
 row:w.ownsRow B 68 8 v N (flR rs N)
 own:∀j,j<N->OwnV B w (rs j).av (rs j).na (rs j).acts
 is:∀j,j<N->Is (AL j) (rs j).na (rs j).acts
 anm:∀j,j<N->∀x∈AL j,Nm x
 nm:∀j,j<N->Nm (rs j).mt
 prio:∀j,j<N->(rs j).prio=0
 apart:∀i j,i<j->j<N->∀b,(rs i).av.ownBlock=some b->(rs j).av.ownBlock≠some b
theorem RlO.nil(B:Nat)(w:World)(rs:Nat->Rl)(AL:Nat->List (Nat->Int)):RlO B w (.slice none 0 0) 0 rs AL:=
 ⟨⟨rfl,.inl ⟨rfl,rfl⟩⟩,fun _ h=>by omega,fun _ h=>by omega,fun _ h=>by omega,fun _ h=>by omega,fun _ h=>by omega,fun _ _ _ h=>by omega⟩
theorem RlO.mono{B C:Nat}{w:World}{v:Value}{N:Nat}{rs:Nat->Rl}{AL:Nat->List (Nat->Int)}(h:RlO B w v N rs AL)(hc:C<=B):RlO C w v N rs AL:=
 ⟨xqk h.row hc,fun j hj=>(h.own j hj).mono hc,h.is,h.anm,h.nm,h.prio,h.apart⟩
theorem RlO.kept{B:Nat}{w w':World}{v:Value}{N:Nat}{rs:Nat->Rl}{AL:Nat->List (Nat->Int)}{row:Option Nat}(h:RlO B w v N rs AL)(hg:w.grownBy w' row)(hr:∀b,row=some b->v.ownBlock≠some b/\∀j,j<N->(rs j).av.ownBlock≠some b):RlO B w' v N rs AL:=by
 refine ⟨h.row.kept hg ?_,fun j hj=>(h.own j hj).grown hg (fun b e=>(hr b e).2 j hj),h.is,h.anm,h.nm,h.prio,h.apart⟩;cases hv:v.ownBlock with
 | none=>exact .inl rfl
 | some b=>exact .inr (fun e=>(hr b e.symm).1 hv)
theorem RlO.lt{B:Nat}{w:World}{v:Value}{N:Nat}{rs:Nat->Rl}{AL:Nat->List (Nat->Int)}(h:RlO B w v N rs AL):(∀b,v.ownBlock=some b->B<=b/\b<w.heap.size)/\∀j,j<N->∀b,(rs j).av.ownBlock=some b->B<=b/\b<w.heap.size:=
 ⟨h.row.lt,fun j hj=>(h.own j hj).lt⟩
theorem RlO.low{B:Nat}{w w':World}{v:Value}{N:Nat}{rs:Nat->Rl}{AL:Nat->List (Nat->Int)}{row:Option Nat}(h:RlO B w v N rs AL)(hg:w.grownBy w' row)(hr:∀b,row=some b->b<B):RlO B w' v N rs AL:=
 h.kept hg (fun b e=>⟨fun k=>by have:=(h.lt.1 b k).1;have:=hr b e;omega,fun j hj k=>by have:=(h.lt.2 j hj b k).1;have:=hr b e;omega⟩)
def RlU(C:Nat)(v:Value)(N:Nat)(rs:Nat->Rl):Prop:=(∀b,v.ownBlock=some b->b<C)/\∀j,j<N->∀b,(rs j).av.ownBlock=some b->b<C
theorem RlO.under{B:Nat}{w:World}{v:Value}{N:Nat}{rs:Nat->Rl}{AL:Nat->List (Nat->Int)}(h:RlO B w v N rs AL):RlU w.heap.size v N rs:=⟨fun b e=>(h.lt.1 b e).2,fun j hj b e=>(h.lt.2 j hj b e).2⟩
theorem RlO.high{B C:Nat}{w w':World}{v:Value}{N:Nat}{rs:Nat->Rl}{AL:Nat->List (Nat->Int)}{row:Option Nat}(h:RlO B w v N rs AL)(hu:RlU C v N rs)(hg:w.grownBy w' row)(hr:∀b,row=some b->C<=b):RlO B w' v N rs AL:=
 h.kept hg (fun b e=>⟨fun k=>by have:=hu.1 b k;have:=hr b e;omega,fun j hj k=>by have:=hu.2 j hj b k;have:=hr b e;omega⟩)
theorem RlO.slice{B:Nat}{w:World}{v:Value}{N:Nat}{rs:Nat->Rl}{AL:Nat->List (Nat->Int)}(h:RlO B w v N rs AL):∃a c,v=.slice a N c:=xqh h.row
theorem RlO.cellAt{B:Nat}{w:World}{g N c:Nat}{rs:Nat->Rl}{AL:Nat->List (Nat->Int)}(h:RlO B w (.slice (some ⟨g,0,none⟩) N c) N rs AL):∀j u,(flR rs N)[j]?=some u->w.cell? ((⟨g,0,none⟩:Addr).add j)=some u:=by
 intro j u hj;obtain ⟨_,hr⟩:=h.row;rcases hr with ⟨e,_⟩|⟨g',cap,cur,e,_,h1,_,_,_,h5⟩
 ·cases e
 ·cases e;rw [show (⟨g,0,none⟩:Addr).add j=⟨g,j,none⟩ by unfold Addr.add;split<;>simp_all];simp only [World.cell?,h1];rw [<-h5] at hj
  have hl:j<N*8:=by
   rcases Nat.lt_or_ge j (N*8) with e|e
   ·exact e
   ·rw [List.getElem?_eq_none (by simp;omega)] at hj;cases hj
  rw [List.getElem?_take_of_lt hl] at hj;simpa using hj
theorem RlO.rd{B:Nat}{w:World}{v:Value}{N:Nat}{rs:Nat->Rl}{AL:Nat->List (Nat->Int)}(h:RlO B w v N rs AL)(hn:N<=3000000000000):RdR w v N rs AL:=by
 refine ⟨?_,h.nm,h.is,h.anm⟩;obtain ⟨_,hr⟩:=h.row;rcases hr with ⟨rfl,rfl⟩|⟨g,cap,cur,rfl,_,h1,h2,h3,h4,h5⟩
 ·exact .inl ⟨_,_,rfl,rfl⟩
 ·have cc:∀j,j<N->∀i,i<8->w.cell? ⟨g,j*8+i,none⟩=some (rlC (rs j).prio (rs j).mt (rs j).av i):=fun j hj i hi=>by
   have:=xhk rs N j i hj hi;rw [<-h5,List.getElem?_take_of_lt (by omega)] at this;simp only [World.cell?,h1];simpa using this
  refine .inr ⟨g,0,cap,rfl,hn,fun j hj=>⟨?_,fun i hi=>?_,?_,(h.own j hj).row.any⟩⟩
  ·rw [Nat.zero_add];exact cc j hj 0 (by omega)
  ·have:=cc j hj (1+i) (by omega);rw [Nat.zero_add,this];unfold rlC;rw [if_neg (by omega),if_pos (by omega),show 1+i-1=i by omega]
  ·rw [Nat.zero_add];exact cc j hj 7 (by omega)
def tagR(f:Nat)(z:Int)(i:Nat)(rs:Nat->Rl):Nat->Rl:=fun j=>if j<i then ⟨(rs j).prio,putF (rs j).mt f z,(rs j).na,(rs j).acts,(rs j).av⟩ else rs j
theorem xy3{f:Nat}{z:Int}{i:Nat}{rs:Nat->Rl}(j:Nat):(tagR f z i rs j).na=(rs j).na/\(tagR f z i rs j).acts=(rs j).acts/\(tagR f z i rs j).av=(rs j).av/\(tagR f z i rs j).prio=(rs j).prio:=by
 unfold tagR;split<;>exact ⟨rfl,rfl,rfl,rfl⟩
theorem xy4(f:Nat)(z:Int)(rs:Nat->Rl):tagR f z 0 rs=rs:=by funext j;unfold tagR;rw [if_neg (by omega)]
theorem xhp(f:Nat)(hf:f<6)(z:Int)(rs:Nat->Rl)(i N:Nat)(hi:i<N):(flR (tagR f z i rs) N).set (i*8+(1+f)) (.int .i64 z)=flR (tagR f z (i+1) rs) N:=by
 refine List.ext_getElem? (fun t=>?_);by_cases ht:t<N*8
 ·have h1:=xhk (tagR f z i rs) N (t/8) (t%8) (by omega) (by omega);have h2:=xhk (tagR f z (i+1) rs) N (t/8) (t%8) (by omega) (by omega);rw [show t/8*8+t%8=t by omega] at h1 h2;rw [List.getElem?_set,h1,h2,xhl];obtain ⟨_,_,e1,e2⟩:=xy3 (f:=f) (z:=z) (i:=i) (rs:=rs) (t/8);obtain ⟨_,_,e3,e4⟩:=xy3 (f:=f) (z:=z) (i:=i+1) (rs:=rs) (t/8);rw [e1,e2,e3,e4];by_cases e:i*8+(1+f)=t
  ·rw [if_pos e,if_pos (by omega)];have ed:t/8=i:=by omega
   have em:t%8=1+f:=by omega
   rw [em,ed];unfold rlC tagR putF;rw [if_neg (by omega),if_pos (by omega),if_pos (by omega)];simp
  ·rw [if_neg e];congr 1;unfold rlC;split
   ·rfl
   ·split
    ·rename_i h0 h7;congr 1;unfold tagR;by_cases a:t/8<i
     ·rw [if_pos a,if_pos (by omega)]
     ·rw [if_neg a];by_cases b:t/8=i
      ·rw [if_pos (by omega)];show (rs (t/8)).mt (t%8-1)=putF (rs (t/8)).mt f z (t%8-1);unfold putF;rw [if_neg (by omega)]
      ·rw [if_neg (by omega)]
    ·rfl
 ·rw [List.getElem?_eq_none (by simp [xhl];omega),List.getElem?_eq_none (by rw [xhl];omega)]
theorem RlO.tag{B:Nat}{w:World}{g N c:Nat}{rs:Nat->Rl}{AL:Nat->List (Nat->Int)}{f:Nat}(hf:f<6){z:Int}{i:Nat}(hi:i<N)(h:RlO B w (.slice (some ⟨g,0,none⟩) N c) N (tagR f z i rs) AL):RlO B (w.setCell ⟨g,i*8+(1+f),none⟩ (.int .i64 z)) (.slice (some ⟨g,0,none⟩) N c) N (tagR f z (i+1) rs) AL:=by
 have hg:=xjc w g (i*8+(1+f)) (.int .i64 z);have ht:=xqn h.row;have e1:=fun j=>xy3 (f:=f) (z:=z) (i:=i) (rs:=rs) j
 have e2:=fun j=>xy3 (f:=f) (z:=z) (i:=i+1) (rs:=rs) j
 refine ⟨?_,fun j hj=>?_,fun j hj=>?_,h.anm,fun j hj=>?_,fun j hj=>?_,fun a b hab hb=>?_⟩
 ·obtain ⟨hl,hr⟩:=h.row;rcases hr with ⟨e,_⟩|⟨g',cap,cur,e,h0,h1,h2,h3,h4,h5⟩
  ·cases e
  ·cases e;refine ⟨by rw [xhl],.inr ⟨g,c,_,rfl,h0,xjh h1 _ _,h2,h3,by simp [h4],?_⟩⟩;rw [<-xhp f hf z rs i N hi,<-h5];simp [List.take_set]
 ·have:=h.own j hj;rw [(e1 j).1,(e1 j).2.1,(e1 j).2.2.1] at this;rw [(e2 j).1,(e2 j).2.1,(e2 j).2.2.1];exact xqa this hg (fun b e=>by cases e;exact ht _ rfl) (by decide)
 ·have:=h.is j hj;rw [(e1 j).1,(e1 j).2.1] at this;rw [(e2 j).1,(e2 j).2.1];exact this
 ·have:=h.nm j hj;unfold tagR at this ⊢;by_cases a:j<i
  ·rw [if_pos a] at this;rw [if_pos (by omega)];exact this
  ·rw [if_neg a] at this;split
   ·intro q hq;show putF (rs j).mt f z q=0;unfold putF;rw [if_neg (by omega)];exact this q hq
   ·exact this
 ·rw [(e2 j).2.2.2,<-(e1 j).2.2.2];exact h.prio j hj
 ·rw [(e2 a).2.2.1,(e2 b).2.2.1,<-(e1 a).2.2.1,<-(e1 b).2.2.1];exact h.apart a b hab hb
theorem RlO.cat{B C:Nat}{w w':World}{v u v':Value}{N M:Nat}{rs ts:Nat->Rl}{AL BL:Nat->List (Nat->Int)}(h:RlO B w v N rs AL)(k:RlO C w u M ts BL)(hCB:C<=B\/B<=C)
  (hne:∀i j,i<N->j<M->∀b,(rs i).av.ownBlock=some b->(ts j).av.ownBlock≠some b) (D:Nat) (hD:D<=B/\D<=C) (hv:w'.ownsRow D 68 8 v' (N+M) (flR rs N++flR ts M)) (hg:w.grownBy w' v.ownBlock):RlO D w' v' (N+M) (catR N rs ts) (catR N AL BL):=by
 have ht:∀b,v.ownBlock=some b->blkT w b 68:=fun b hb=>xqn h.row b hb
 refine ⟨by rw [xhi];exact hv,fun j hj=>?_,fun j hj=>?_,fun j hj=>?_,fun j hj=>?_,fun j hj=>?_,fun i j hij hj=>?_⟩
 ·by_cases e:j<N
  ·rw [xea e];exact xqa ((h.own j e).mono hD.1) hg ht (by decide)
  ·rw [xeb (by omega)];exact xqa ((k.own (j-N) (by omega)).mono hD.2) hg ht (by decide)
 ·by_cases e:j<N
  ·rw [xea e,xea e];exact h.is j e
  ·rw [xeb (by omega),xeb (by omega)];exact k.is _ (by omega)
 ·by_cases e:j<N
  ·rw [xea e];exact h.anm j e
  ·rw [xeb (by omega)];exact k.anm _ (by omega)
 ·by_cases e:j<N
  ·rw [xea e];exact h.nm j e
  ·rw [xeb (by omega)];exact k.nm _ (by omega)
 ·by_cases e:j<N
  ·rw [xea e];exact h.prio j e
  ·rw [xeb (by omega)];exact k.prio _ (by omega)
 ·by_cases e:j<N
  ·rw [xea e,xea (show i<N by omega)];exact h.apart i j hij e
  ·rw [xeb (show N<=j by omega)];by_cases e2:i<N
   ·rw [xea e2];exact hne i (j-N) e2 (by omega)
   ·rw [xeb (show N<=i by omega)];exact k.apart _ _ (by omega) (by omega)
theorem xsn(f:Nat)(z:Int)(rs:Nat->Rl)(AL:Nat->List (Nat->Int))(N:Nat):prL (tagR f z N rs) AL N=(prL rs AL N).map fun r=>(putF r.1 f z,r.2):=by
 unfold prL;rw [List.map_map];refine List.map_congr_left (fun j hj=>?_);unfold tagR;rw [if_pos (List.mem_range.1 hj)];rfl
theorem xuq{T:Nat->List Int}{o:Nat->Int}{ac:(Nat->Int)->List (Nat->Int)}:∀(n:Nat) (k:Nat->Int),xuj T o ac n k≠[]
 | 0,k=>by rw [xuj];simp
 | n+1,k=>by
  rw [xuj];intro h;exact xuq n _ (List.append_eq_nil_iff.1 h).2
structure MkF(T:Nat->List Int)(o:Nat->Int)(ac:(Nat->Int)->List (Nat->Int))(Rt:(Nat->Int)->Prop)(pa:Option Addr)(pn pc:Nat)(st:Int)(ra:Nat->Option Addr)(rn rc:Nat->Nat)(t:Code)(w:World):Prop where
 run:∀k,Rt k->RunC pa pn pc st t k w
 tst:∀f,f<6->rn f=(T f).length/\∃B,w.ownsRow B 3 1 (.slice (ra f) (rn f) (rc f)) (rn f) (intZ (T f))
 ev:∀i,i<6->w.cell? ⟨0,i,none⟩=some (.int .i64 (-1))
 acs:∀k A,Rt k->SetOf A (D t k)->acS A k=ac k
 acn:∀k,Rt k->∀x∈ac k,Nm x
 few:∀n k,n<=5->(xuj T o ac n k).length<=100000
 put:∀k f v,Rt k->f<6->(v∈T f\/v=o f)->Rt (putF k f v)
theorem MkF.grown{T:Nat->List Int}{o:Nat->Int}{ac:(Nat->Int)->List (Nat->Int)}{Rt:(Nat->Int)->Prop}{pa:Option Addr}{pn pc:Nat}{st:Int}{ra:Nat->Option Addr}{rn rc:Nat->Nat}{t:Code}{w w':World}(h:MkF T o ac Rt pa pn pc st ra rn rc t w)(hg:w.grownBy w' none):MkF T o ac Rt pa pn pc st ra rn rc t w':=
 ⟨fun k hk ww hw=>h.run k hk ww (xje hg hw),fun f hf=>⟨(h.tst f hf).1,(h.tst f hf).2.imp fun B hB=>hB.kept hg (by cases ra f with|none=>exact .inl rfl|some a=>exact .inr (by simp [Value.ownBlock]))⟩,fun i hi=>hg.cell (h.ev i hi) (by simp),h.acs,h.acn,h.few,h.put⟩
theorem RlO.one{B:Nat}{w:World}{a:Option Addr}{n c:Nat}{d:Nat->Nat->Int}{L:List (Nat->Int)}(h:OwnV B w (.slice a n c) n d)(hB:B<=w.heap.size)(hI:Is L n d)(hL:∀x∈L,Nm x):
  RlO B (w.alloc (.cells #[.int .i64 0,.int .i64 (-1),.int .i64 (-1),.int .i64 (-1),.int .i64 (-1),.int .i64 (-1),.int .i64 (-1),.slice a n c] 68)) (.slice (some ⟨w.heap.size,0,none⟩) 1 1) 1 (fun _=>⟨0,evry,n,d,.slice a n c⟩) (fun _=>L):=by
 refine ⟨⟨rfl,.inr ⟨_,_,_,rfl,hB,heap_alloc_new w _,Nat.le_refl _,by unfold maxLen;omega,rfl,rfl⟩⟩,fun j hj=>h.grown (World.grownBy_alloc w _ none) (fun b e=>by cases e),fun _ _=>hI,fun _ _=>hL,fun _ _ i hi=>?_,fun _ _=>rfl,fun i j hij hj=>by omega⟩;show evry i=0;unfold evry;rw [if_neg (by omega)]
def RlsO(T:Nat->List Int)(o:Nat->Int)(ac:(Nat->Int)->List (Nat->Int))(n:Nat)(k:Nat->Int)(w:World)(e:Ending)(w':World):Prop:=
 ∃v N rs AL,e=.returned v/\RlO w.heap.size w' v N rs AL/\prL rs AL N=xuj T o ac n k/\w.grownBy w' none
theorem xum{T:Nat->List Int}{o:Nat->Int}{ac:(Nat->Int)->List (Nat->Int)}{Rt:(Nat->Int)->Prop}{pa:Option Addr}{pn pc:Nat}{st:Int}{ra:Nat->Option Addr}{rn rc:Nat->Nat}{t:Code}(k:Nat->Int)(hk:Rt k)(w:World)(F:MkF T o ac Rt pa pn pc st ra rn rc t w):
  Calls Tryz.prog 154 #[.agg (mkC pa pn pc st ra rn rc o),.agg #[.int .i64 (k 0),.int .i64 (k 1),.int .i64 (k 2),.int .i64 (k 3),.int .i64 (k 4),.int .i64 (k 5)],.int .i64 6] w (RlsO T o ac 0 k w):=by
 have HA:Hid (∀ww,w.grownBy ww none->Calls Tryz.prog 215 #[.agg (mkC pa pn pc st ra rn rc o),.agg #[.int .i64 (k 0),.int .i64 (k 1),.int .i64 (k 2),.int .i64 (k 3),.int .i64 (k 4),.int .i64 (k 5)]] ww fun e w'=>∃a c n d A,e=.returned (.slice a n c)/\OwnV ww.heap.size w' (.slice a n c) n d/\Is (acS A k) n d/\SetOf A (D t k)/\ww.grownBy w' none):=fun ww hg=>xbg pa pn pc st ra rn rc o t k ww ((F.grown hg).run k hk)
 obtain ⟨w1,hw1⟩:∃w1,w1=w.alloc (.cells (mkC pa pn pc st ra rn rc o) 112):=⟨_,rfl⟩;obtain ⟨w2,hw2⟩:∃w2,w2=w1.alloc (.cells (pkA k) 46):=⟨_,rfl⟩;have z1:w1.heap.size=w.heap.size+1:=by rw [hw1];simp
 have hB:pkBlk w2 (w.heap.size+1) k:=by rw [hw2,<-z1];exact pkBlk.alloc w1 k
 have hg2:w.grownBy w2 none:=by rw [hw2,hw1];exact xje (World.grownBy_alloc _ _ _) (World.grownBy_alloc _ _ _)
 have hmh:w2.heap[w.heap.size]?=some (.cells (mkC pa pn pc st ra rn rc o) 112 (0,0)):=by
  have h1:w1.heap[w.heap.size]?=some (.cells (mkC pa pn pc st ra rn rc o) 112 (0,0)):=by rw [hw1];exact heap_alloc_new w _
  rw [hw2,(World.grownBy_alloc w1 _ none).block w.heap.size (by omega) (by simp),h1]
 have mm:∀j u,(mkC pa pn pc st ra rn rc o)[j]?=some u->w2.cell? ⟨w.heap.size,j,none⟩=some u:=fun j u h=>by simp only [World.cell?,hmh];simpa using h
 have m0:=mm 0 _ rfl;have m1:=mm 1 _ rfl;have m2:=mm 2 _ rfl;have m3:=mm 3 _ rfl;have m4:=mm 4 _ rfl;have m5:=mm 5 _ rfl;have m6:=mm 6 _ rfl;have m7:=mm 7 _ rfl;have m8:=mm 8 _ rfl;have m9:=mm 9 _ rfl;have m10:=mm 10 _ rfl;have m11:=mm 11 _ rfl;have m12:=mm 12 _ rfl;have m13:=mm 13 _ rfl;have HF:=hide (F.grown hg2);have HK:=hide hk;have G2:=hide hg2;obtain ⟨p0,p1,p2,p3,p4,p5⟩:=xtq hB;have v0:=HF.out.ev 0 (by omega);have v1:=HF.out.ev 1 (by omega);have v2:=HF.out.ev 2 (by omega);have v3:=HF.out.ev 3 (by omega);have v4:=HF.out.ev 4 (by omega);have v5:=HF.out.ev 5 (by omega);have hz:w.heap.size+1<w2.heap.size:=World.block_lt_of_cell? w2 _ p0;rw [hw1] at hw2;unfold mkC pkA at hw2;unfold mkC at HA ⊢;clear hB hg2 hw1 z1 F hk mm hmh;go_enter Tryz.func154,Tryz.ntmps154;go_upto_region 2 with fail
 rw [<-hw2];clear hw2
 go_region_with (go_at_call 215;refine (HA.out _ (by first|exact xi7 G2.out|exact G2.out)).mono ?_;rintro x w3 ⟨a,c,n,d,A,rfl,h1,h2,h3,h4⟩;have K1:=hide (show OwnV w2.heap.size w3 (.slice a n c) n d from h1);have K2:=hide h2;have K3:=hide h3;have K4:=hide (show w2.grownBy w3 none by first|exact xjf h4|exact h4);have x0:=K4.out.cell v0 (by simp);have x1:=K4.out.cell v1 (by simp);have x2:=K4.out.cell v2 (by simp);have x3:=K4.out.cell v3 (by simp);have x4:=K4.out.cell v4 (by simp);have x5:=K4.out.cell v5 (by simp);clear h1 h2 h3 h4)
 all_goals
  go_wp2;go_ret;refine ⟨_,1,fun _=>⟨0,evry,n,d,.slice a n c⟩,fun _=>ac k,rfl,?_,?_,?_⟩
  ·have e:acS A k=ac k:=HF.out.acs k A HK.out K3.out;have K2':=K2.out;rw [e] at K2';have hR:=RlO.one (K1.out.mono (show w.heap.size<=w2.heap.size by omega)) (by have:=K4.out.size;omega) K2' (HF.out.acn k HK.out)
   first
    | exact hR
    | exact hR.drew
    | exact hR.drew.drew
  ·rw [xuj];rfl
  ·first
    | exact xje G2.out (xje K4.out (World.grownBy_alloc _ _ _))
    | exact xje G2.out (xje K4.out (xi3 _ _ _))
open Go.RowKit Go.Weft Classical
theorem xcd:∀l:List Code,xcc (chain l)=xch l
 | []=>rfl
 | t::l=>by show xcc t++xcc (chain l)=xcc t++xch l;rw [xcd l]
theorem xcf(k:Nat):∀l:List Code,(xcc (joinC k l)).length<=(xch l).length
 | []=>by simp [joinC,xcc,xch,chain]
 | [t]=>by simp [joinC,xch]
 | t::u::l=>by
  show (xcc (chain (t::u::l))).length<=_;rw [xcd];exact Nat.le_refl _
theorem xlg{ys:List Sym}{n a:Nat}(h:xae ys n a):(xcc (.exit n)).length<=a:=by
 unfold xcc;rcases h with ⟨_,rfl,rfl⟩|⟨_,rfl,rfl⟩|⟨_,_,_,_,_,_,_,_,_,_,_,_,rfl⟩
 ·simp
 ·simp
 ·split<;>simp
theorem xct:∀c:Ct,okC c->(xcc (trees c).1).length<=atsC c/\(xch (trees c).2.1).length<=atsC c/\(xch (trees c).2.2).length<=atsC c
 | .leaf ys n a,h=>by
  have:=xlg h;exact ⟨this,by simpa [trees,xch,atsC] using this,by simpa [trees,xch,atsC] using this⟩
 | .neg a,h=>by
  have:=(xct a h.2.1).1;exact ⟨this,by simpa [trees,xch,atsC,xcc] using this,by simpa [trees,xch,atsC,xcc] using this⟩
 | .brk a,h=>by
  have:=(xct a h).1;exact ⟨this,by simpa [trees,xch,atsC] using this,by simpa [trees,xch,atsC] using this⟩
 | .star a,h=>by
  have:=(xct a h.2).1;exact ⟨this,by simpa [trees,xch,atsC,xcc] using this,by simpa [trees,xch,atsC,xcc] using this⟩
 | .sq a b,h=>by
  have h1:=(xct a h.2.2.1).1;have h2:=(xct b h.2.2.2).2.1;have h3:(xch ((trees a).1::(trees b).2.1)).length<=atsC a+atsC b:=by rw [xch,List.length_append];omega
  have h4:=Nat.le_trans (xcf 1 ((trees a).1::(trees b).2.1)) h3;exact ⟨h4,h3,by simpa [trees,xch,atsC] using h4⟩
 | .sm a b,h=>by
  have h1:=(xct a h.2.2.1).1;have h2:=(xct b h.2.2.2).2.2;have h3:(xch ((trees a).1::(trees b).2.2)).length<=atsC a+atsC b:=by rw [xch,List.length_append];omega
  have h4:=Nat.le_trans (xcf 0 ((trees a).1::(trees b).2.2)) h3;exact ⟨h4,by simpa [trees,xch,atsC] using h4,h3⟩
theorem xcl{s:ByteArray}{t:Code}(h:readS s=.ok t):(xcc t).length<=16:=by
 obtain ⟨c,rfl,hok,_,_,ha,_⟩:=xtn s h;exact Nat.le_trans (xct c hok).1 ha
theorem xo6(A:List Nat)(hA:∀n∈A,fOf n<6)(f:Nat)(hf:f<6)(v:Int):(v∈xo4 A f↔∃n∈A,n%2=0/\fOf n=f/\v=(vOf n:Int))/\(v∈xo4 A (6+f)↔∃n∈A,fOf n=f/\v=(vOf n:Int)):=by
 have key:∀(A:List Nat) (C:Nat->List Int),(∀n∈A,fOf n<6)->(v∈A.foldl noteA C f↔v∈C f\/∃n∈A,n%2=0/\fOf n=f/\v=(vOf n:Int))/\(v∈A.foldl noteA C (6+f)↔v∈C (6+f)\/∃n∈A,fOf n=f/\v=(vOf n:Int)):=by
  intro A;induction A with
  | nil=>intro C _;simp
  | cons a A ih=>
   intro C h;obtain ⟨h1,h2⟩:=ih (noteA C a) (fun n hn=>h n (by simp [hn]));have ha:=h a (by simp);rw [List.foldl_cons,h1,h2]
   have e1:v∈noteA C a f↔v∈C f\/(a%2=0/\fOf a=f/\v=(vOf a:Int)):=by
    unfold noteA updF;by_cases hpar:a%2=0
    ·rw [if_pos hpar];by_cases e:f=fOf a
     ·subst e;simp [hpar,show ¬fOf a=6+fOf a by omega]
     ·simp [hpar,e,show ¬f=6+fOf a by omega,Ne.symm e]
    ·rw [if_neg hpar];simp [hpar,show ¬f=6+fOf a by omega]
   have e2:v∈noteA C a (6+f)↔v∈C (6+f)\/(fOf a=f/\v=(vOf a:Int)):=by
    unfold noteA updF;by_cases hpar:a%2=0
    ·rw [if_pos hpar];by_cases e:f=fOf a
     ·subst e;simp
     ·simp [e,Ne.symm e,show ¬6+f=fOf a by omega]
    ·rw [if_neg hpar];by_cases e:f=fOf a
     ·subst e;simp
     ·simp [e,Ne.symm e]
   rw [e1,e2];constructor
   ·constructor
    ·rintro ((q|q)|⟨n,hn,q⟩)
     ·exact .inl q
     ·exact .inr ⟨a,by simp,q⟩
     ·exact .inr ⟨n,by simp [hn],q⟩
    ·rintro (q|⟨n,hn,q⟩)
     ·exact .inl (.inl q)
     ·rcases List.mem_cons.1 hn with rfl|hn
      ·exact .inl (.inr q)
      ·exact .inr ⟨n,hn,q⟩
   ·constructor
    ·rintro ((q|q)|⟨n,hn,q⟩)
     ·exact .inl q
     ·exact .inr ⟨a,by simp,q⟩
     ·exact .inr ⟨n,by simp [hn],q⟩
    ·rintro (q|⟨n,hn,q⟩)
     ·exact .inl (.inl q)
     ·rcases List.mem_cons.1 hn with rfl|hn
      ·exact .inl (.inr q)
      ·exact .inr ⟨n,hn,q⟩
 have:=key A (fun _=>[]) hA;simpa [xo4] using this
theorem xo8(A:List Nat)(hA:∀n∈A,fOf n<6):(xo4 A 0).length+(xo4 A 1).length+(xo4 A 2).length+(xo4 A 3).length+(xo4 A 4).length+(xo4 A 5).length<=A.length:=by
 have key:∀(A:List Nat) (C:Nat->List Int),(∀n∈A,fOf n<6)->(A.foldl noteA C 0).length+(A.foldl noteA C 1).length+(A.foldl noteA C 2).length+(A.foldl noteA C 3).length+(A.foldl noteA C 4).length+(A.foldl noteA C 5).length<=(C 0).length+(C 1).length+(C 2).length+(C 3).length+(C 4).length+(C 5).length+A.length:=by
  intro A;induction A with
  | nil=>intro C _;simp
  | cons a A ih=>
   intro C h;have h1:=ih (noteA C a) (fun n hn=>h n (by simp [hn]));have ha:=h a (by simp)
   have h2:(noteA C a 0).length+(noteA C a 1).length+(noteA C a 2).length+(noteA C a 3).length+(noteA C a 4).length+(noteA C a 5).length<=(C 0).length+(C 1).length+(C 2).length+(C 3).length+(C 4).length+(C 5).length+1:=by
    unfold noteA updF;rcases (show fOf a=0\/fOf a=1\/fOf a=2\/fOf a=3\/fOf a=4\/fOf a=5 by omega) with e|e|e|e|e|e<;>rw [e]<;>split<;>simp<;>omega
   rw [List.foldl_cons,List.length_cons];omega
 have:=key A (fun _=>[]) hA;simpa [xo4] using this
theorem xe7(d:Array Int)(hs:∀i j,i<=j->j<d.size->d[i]! <= d[j]!):∀m,m<=d.size->(∀j,j<m->d[j]! ∈ Lib.compactUpTo d m)/\(∀x∈Lib.compactUpTo d m,∃j,j<m/\x=d[j]!)/\(Lib.compactUpTo d m).Pairwise (·<·)
 | 0,_=>by simp [Lib.compactUpTo]
 | m+1,hm=>by
  obtain ⟨h1,h2,h3⟩:=xe7 d hs m (by omega);rw [Lib.compactUpTo_succ];by_cases hk:Lib.keeps d m=true
  ·rw [if_pos hk];refine ⟨fun j hj=>?_,fun x hx=>?_,?_⟩
   ·by_cases e:j=m
    ·subst e;simp
    ·exact List.mem_append.2 (.inl (h1 j (by omega)))
   ·rcases List.mem_append.1 hx with hx|hx
    ·obtain ⟨j,hj,e⟩:=h2 x hx;exact ⟨j,by omega,e⟩
    ·exact ⟨m,by omega,by simpa using hx⟩
   ·rw [List.pairwise_append];refine ⟨h3,List.pairwise_singleton _ _,fun x hx y hy=>?_⟩;obtain ⟨j,hj,rfl⟩:=h2 x hx;obtain rfl:y=d[m]! := by simpa using hy
    have hne:d[m]! ≠ d[m-1]! :=by
     unfold Lib.keeps at hk;rw [decide_eq_true_eq] at hk;rcases hk with e|e
     ·omega
     ·exact e
    have a1:=hs j (m-1) (by omega) (by omega);have a2:=hs (m-1) m (by omega) (by omega);omega
  ·rw [if_neg hk,List.append_nil];refine ⟨fun j hj=>?_,fun x hx=>?_,h3⟩
   ·by_cases e:j=m
    ·subst e;unfold Lib.keeps at hk;rw [decide_eq_true_eq] at hk;have h0:¬j=0:=fun e=>hk (.inl e)
     have he:d[j]! = d[j-1]! := Classical.byContradiction fun e=>hk (.inr e)
     rw [he];exact h1 (j-1) (by omega)
    ·exact h1 j (by omega)
   ·obtain ⟨j,hj,e⟩:=h2 x hx;exact ⟨j,by omega,e⟩
theorem xz3(A:List Nat)(f:Nat):(∀v,v∈tstd A f↔v∈xo4 A f)/\(tstd A f).Nodup/\(tstd A f).length<=(xo4 A f).length:=by
 have hp:(sortZ (xo4 A f)).Perm (xo4 A f):=List.mergeSort_perm _ _
 have hso:(sortZ (xo4 A f)).Pairwise (fun x y=>x<=y):=by
  have:=List.pairwise_mergeSort (le:=fun x y:Int=>decide (x<=y)) (fun a b c h1 h2=>by simp at *;omega) (fun a b=>by simp;omega) (xo4 A f);exact this.imp (fun h=>by simpa using h)
 obtain ⟨zs,hz⟩:∃zs,zs=sortZ (xo4 A f):=⟨_,rfl⟩;have hz':tstd A f=Lib.compactUpTo zs.toArray zs.length:=by rw [hz];rfl
 rw [<-hz] at hp hso
 have hs:∀i j,i<=j->j<zs.toArray.size->zs.toArray[i]! <= zs.toArray[j]! :=by
  intro i j hij hj;simp only [List.size_toArray] at hj;rw [getElem!_pos zs.toArray i (by simp;omega),getElem!_pos zs.toArray j (by simpa using hj)];rcases Nat.eq_or_lt_of_le hij with e|e
  ·subst e;exact Int.le_refl _
  ·exact List.pairwise_iff_getElem.1 hso i j (by omega) hj e
 obtain ⟨h1,h2,h3⟩:=xe7 zs.toArray hs zs.length (by simp);rw [hz'];refine ⟨fun v=>⟨fun hv=>?_,fun hv=>?_⟩,h3.imp (fun h=>by omega),?_⟩
 ·obtain ⟨j,hj,rfl⟩:=h2 v hv;rw [getElem!_pos zs.toArray j (by simpa using hj)];exact hp.mem_iff.1 (List.getElem_mem _)
 ·obtain ⟨j,hj,e⟩:=List.mem_iff_getElem.1 (hp.mem_iff.2 hv);have:=h1 j hj;rw [getElem!_pos zs.toArray j (by simpa using hj)] at this;rw [<-e];exact this
 ·have h4:(Lib.compactUpTo zs.toArray zs.length).length<=zs.length:=by
   unfold Lib.compactUpTo;rw [List.length_map];exact Nat.le_trans (List.length_filter_le _ _) (by simp)
  exact Nat.le_trans h4 (by rw [hp.length_eq];exact Nat.le_refl _)
theorem lm_le{zs:List Int}{m:Nat}(h:LM zs m):m<=zs.length:=by
 have h1:=xox ((List.range m).map fun i:Nat=>(i:Int)) zs (by
  refine List.Pairwise.map _ (fun a b hab=>?_) List.nodup_range;intro e
  exact hab (by omega)) (fun x hx=>by
   obtain ⟨i,hi,rfl⟩:=List.mem_map.1 hx;exact h.1 i (List.mem_range.1 hi))
 simpa using h1
def Pol(w:World)(b:Nat)(t:Code):Prop:=PolAt w b t/\okT t/\cn t<=1900
theorem Pol.grown{w w':World}{b:Nat}{t:Code}(h:Pol w b t)(hg:w.grownBy w' none):Pol w' b t:=⟨h.1.grown hg,h.2⟩
theorem Rt.right{k:Nat->Int}(h:Rt k):xtx k:=(xty h.1).2 h
theorem xkp(b:Nat)(t:Code)(k:Nat->Int)(w:World)(h:Pol w b t)(hk:Rt k):
  Calls Tryz.prog 25 #[.pointer (some ⟨b,0,none⟩),.agg #[.int .i64 (k 0),.int .i64 (k 1),.int .i64 (k 2),.int .i64 (k 3),.int .i64 (k 4),.int .i64 (k 5)]] w fun e w'=>∃a c n d A,e=.returned (.tuple #[.slice a n c,.bool true])/\OwnV w.heap.size w' (.slice a n c) n d/\Is A n d/\SetOf A (D t k)/\w.grownBy w' none:=by
 obtain ⟨w1,hw1⟩:∃w1,w1=w.alloc (.cells (pkA k) 46):=⟨_,rfl⟩;have B1:pkBlk w1 w.heap.size k:=by rw [hw1];exact pkBlk.alloc w k
 have hg1:w.grownBy w1 none:=by rw [hw1];exact World.grownBy_alloc _ _ _
 have G1:=hide hg1;obtain ⟨p0,p1,p2,p3,p4,p5⟩:=xtq B1;have hz1:w.heap.size<w1.heap.size:=World.block_lt_of_cell? w1 _ p0
 have HE:Hid (Calls Tryz.prog 16 #[.pointer (some ⟨b,0,none⟩),.agg #[.int .i64 (k 0),.int .i64 (k 1),.int .i64 (k 2),.int .i64 (k 3),.int .i64 (k 4),.int .i64 (k 5)]] w1 fun e w'=>∃a c n d A,e=.returned (.tuple #[.slice a n c,.int .i64 0])/\OwnV w.heap.size w' (.slice a n c) n d/\Is A n d/\SetOf A (D t k)/\w1.grownBy w' none):=by
  refine (xg1 b t k w1 (h.1.grown hg1) hk.1 h.2.2 h.2.1.1 h.2.1.2.1 h.2.1.2.2).mono ?_;rintro e w' ⟨v,n,d,A,h1,h2,h3,h4⟩;obtain ⟨a,c,rfl⟩:=h2.slice;rcases h1 with ⟨_,rfl,hs⟩|⟨hx,_⟩
  ·exact ⟨a,c,n,d,A,rfl,h2.mono hg1.size,h3,hs,h4⟩
  ·exact absurd hk.right hx
 clear h hk B1 hg1;unfold pkA at hw1;go_enter Tryz.func25,Tryz.ntmps25;go_wp2_with fail;rw [<-hw1];refine HE.out.mono ?_;rintro x w2 ⟨a,c,n,d,A,rfl,ho,hi,hs,g2⟩;have HR:=hide (xt3 _ n d A w2 ho.row.any hi hs.srt);have O2:=hide ho;have I2:=hide hi;have S2:=hide hs;have G2:=hide (xje G1.out g2);clear hw1 p0 p1 p2 p3 p4 p5 ho hi hs g2 HE G1;go_wp2_with fail;refine HR.out.mono ?_;rintro x w3 ⟨rfl,g3⟩;have G3:=hide (xje G2.out g3);have O3:=hide (O2.out.grown g3 (fun b e=>by cases e));clear g3 HR G2 O2;go_wp2;go_ret2;exact ⟨a,c,n,d,A,rfl,O3.out,I2.out,S2.out,G3.out⟩
def exK:ByteArray:=⟨#[40,112,116,61,51,59,116,97,103,58,61,49,32,43,32,112,116,61,52,41,42,59,33,112,116,61,53,59,100,115,116,58,61,50]⟩
def tK:Code:=.block 1 (chain [.loop (.block 0 (chain [.block 1 (chain [.exit 72,.exit 325]),.exit 74])),.scope (.exit 76),.exit 263])
theorem xtj:readS exK=.ok tK:=by kernel_rfl
def RK(x y:Nat->Int):Prop:=(x 1=3/\y=putF x 5 1)\/(x 1=4/\y=x)
theorem D_exK(k y:Nat->Int):D tK k y↔∃z,Many RK k z/\¬z 1=5/\y=putF z 4 2:=by
 have l72:∀x y,D (.exit 72) x y↔x 1=3/\y=x:=fun x y=>by show leafD 72 x y↔_;simp [leafD,fOf,vOf]
 have l325:∀x y,D (.exit 325) x y↔y=putF x 5 1:=fun x y=>by show leafD 325 x y↔_;simp [leafD,fOf,vOf]
 have l74:∀x y,D (.exit 74) x y↔x 1=4/\y=x:=fun x y=>by show leafD 74 x y↔_;simp [leafD,fOf,vOf]
 have l76:∀x y,D (.exit 76) x y↔x 1=5/\y=x:=fun x y=>by show leafD 76 x y↔_;simp [leafD,fOf,vOf]
 have l263:∀x y,D (.exit 263) x y↔y=putF x 4 2:=fun x y=>by show leafD 263 x y↔_;simp [leafD,fOf,vOf]
 have lR:∀x y,D (.block 0 (chain [.block 1 (chain [.exit 72,.exit 325]),.exit 74])) x y↔RK x y:=fun x y=>by
  rw [D_sum,xgf];simp only [List.mem_cons,List.not_mem_nil,or_false];constructor
  ·rintro ⟨t,rfl|rfl,h⟩
   ·rw [D_seq,xgf] at h;obtain ⟨z,h1,u,h2,h3⟩:=h;rw [l72] at h1;rw [l325] at h2;have h3:y=u:=h3;exact .inl ⟨h1.1,by rw [h3,h2,h1.2]⟩
   ·exact .inr ((l74 x y).1 h)
  ·rintro (⟨h1,h2⟩|h)
   ·refine ⟨_,.inl rfl,?_⟩;rw [D_seq,xgf];exact ⟨x,(l72 x x).2 ⟨h1,rfl⟩,y,(l325 x y).2 h2,rfl⟩
   ·exact ⟨_,.inr rfl,(l74 x y).2 h⟩
 unfold tK;rw [D_seq,xgf];constructor
 ·rintro ⟨z,h1,u,h2,v,h3,h4⟩;have h1:Many (D (.block 0 (chain [.block 1 (chain [.exit 72,.exit 325]),.exit 74]))) k z:=h1;have h2:(¬∃q,D (.exit 76) z q)/\u=z:=h2;rw [l263] at h3;have h4:y=v:=h4;refine ⟨z,h1.mono (fun a b=>(lR a b).1),fun e=>h2.1 ⟨z,(l76 z z).2 ⟨e,rfl⟩⟩,by rw [h4,h3,h2.2]⟩
 ·rintro ⟨z,h1,h2,h3⟩;refine ⟨z,h1.mono (fun a b=>(lR a b).2),z,⟨fun ⟨q,hq⟩=>h2 ((l76 z q).1 hq).1,rfl⟩,y,(l263 z y).2 h3,rfl⟩
def kK(a e f:Int):Nat->Int:=fun i=>if i=0 then 1 else if i=1 then a else if i=4 then e else if i=5 then f else 0
theorem kK_nm(a e f:Int):Nm (kK a e f):=fun i hi=>by unfold kK;rw [if_neg (by omega),if_neg (by omega),if_neg (by omega),if_neg (by omega)]
theorem kK_rt(a e f:Int)(ha:0<=a/\a<32)(he:0<=e/\e<32)(hf:0<=f/\f<32):Rt (kK a e f):=⟨kK_nm a e f,fun i hi=>by
 unfold kK;repeat' split
 all_goals omega⟩
theorem xtb(a e f g:Int):putF (kK a e f) 5 g=kK a e g:=by
 funext i;unfold putF kK;by_cases h0:i=0
 ·simp [h0]
 ·by_cases h1:i=1
  ·simp [h1]
  ·by_cases h4:i=4
   ·simp [h4]
   ·by_cases h5:i=5<;>simp [h0,h1,h4,h5]
theorem xs9(a e f g:Int):putF (kK a e f) 4 g=kK a g f:=by
 funext i;unfold putF kK;by_cases h0:i=0
 ·simp [h0]
 ·by_cases h1:i=1
  ·simp [h1]
  ·by_cases h4:i=4
   ·simp [h4]
   ·simp [h0,h1,h4]
theorem xms(z:Nat->Int):Many RK (kK 3 0 0) z↔z=kK 3 0 0\/z=kK 3 0 1:=by
 constructor
 ·intro h
  have key:∀x z,Many RK x z->(x=kK 3 0 0\/x=kK 3 0 1)->(z=kK 3 0 0\/z=kK 3 0 1):=by
   intro x z hm;induction hm with
   | refl a=>exact id
   | step h1 _ ih=>
    intro hx;apply ih;rcases h1 with ⟨_,rfl⟩|⟨_,rfl⟩
    ·rcases hx with rfl|rfl
     ·exact .inr (xtb 3 0 0 1)
     ·exact .inr (xtb 3 0 1 1)
    ·exact hx
  exact key _ _ h (.inl rfl)
 ·rintro (rfl|rfl)
  ·exact .refl _
  ·exact .one (.inl ⟨rfl,(xtb 3 0 0 1).symm⟩)
theorem xmt(z:Nat->Int)(h:Many RK (kK 5 0 0) z):z=kK 5 0 0:=by
 cases h with
 | refl=>rfl
 | step h1 _=>
  exfalso;rcases h1 with ⟨h,_⟩|⟨h,_⟩
  ·exact absurd h (by show ¬(5:Int)=3;decide)
  ·exact absurd h (by show ¬(5:Int)=4;decide)
theorem setK3:SetOf [kK 3 2 0,kK 3 2 1] (D tK (kK 3 0 0)):=by
 refine ⟨List.pairwise_cons.2 ⟨fun x hx=>?_,List.pairwise_singleton _ _⟩,fun x hx=>?_,fun y=>?_⟩
 ·rw [List.mem_singleton] at hx;rw [hx];refine ⟨5,by omega,fun t ht=>?_,by show (0:Int)<1;decide⟩;unfold kK;rw [if_neg (show ¬t=5 by omega),if_neg (show ¬t=5 by omega)]
 ·simp only [List.mem_cons,List.not_mem_nil,or_false] at hx;rcases hx with rfl|rfl<;>exact kK_nm _ _ _
 ·rw [D_exK];simp only [List.mem_cons,List.not_mem_nil,or_false,xms];constructor
  ·rintro (rfl|rfl)
   ·exact ⟨_,.inl rfl,by show ¬(3:Int)=5;decide,(xs9 3 0 0 2).symm⟩
   ·exact ⟨_,.inr rfl,by show ¬(3:Int)=5;decide,(xs9 3 0 1 2).symm⟩
  ·rintro ⟨z,rfl|rfl,_,rfl⟩
   ·exact .inl (xs9 3 0 0 2)
   ·exact .inr (xs9 3 0 1 2)
theorem setK5:SetOf [] (D tK (kK 5 0 0)):=by
 refine ⟨List.Pairwise.nil,fun x hx=>(by cases hx),fun y=>?_⟩;rw [D_exK];refine ⟨fun h=>(by cases h),fun ⟨z,h1,h2,_⟩=>absurd (show z 1=5 by rw [xmt z h1];rfl) h2⟩
theorem xkx(w:World)(hn:Names w):Calls Tryz.prog 22 #[] w fun e w'=>∃b,e=.returned (.pointer (some ⟨b,0,none⟩))/\w.grownBy w' none:=by
 obtain ⟨ok,_,_,hcn⟩:=xtk xtj;have P1:=hide (xfa exK w hn (by decide) tK xtj)
 have EV:Hid (∀b a ww,Rt (kK a 0 0)->PolAt ww b tK->Calls Tryz.prog 16 #[.pointer (some ⟨b,0,none⟩),.agg #[.int .i64 1,.int .i64 a,.int .i64 0,.int .i64 0,.int .i64 0,.int .i64 0]] ww fun e w'=>∃ad c n d A,e=.returned (.tuple #[.slice ad n c,.int .i64 0])/\PkR w' (.slice ad n c) n d/\Is A n d/\SetOf A (D tK (kK a 0 0))/\PolAt w' b tK/\ww.grownBy w' none):=by
  intro b a ww hr hp;refine (xg1 b tK (kK a 0 0) ww hp (kK_nm _ _ _) hcn ok.1 ok.2.1 ok.2.2).mono ?_;rintro e w' ⟨v,n,d,A,h1,h2,h3,h4⟩;rcases h1 with ⟨_,rfl,hs⟩|⟨hx,_⟩
  ·obtain ⟨ad,c,rfl⟩:=h2.slice;exact ⟨ad,c,n,d,A,rfl,h2.row.any,h3,hs,hp.grown h4,h4⟩
  ·exact absurd hr.right hx
 clear hn ok hcn;unfold exK at P1;go_enter Tryz.func22,Tryz.ntmps22;go_wp2_with fail;refine P1.out.mono ?_;rintro x w1 ⟨b,rfl,hp,_,g1⟩;have E1:=hide (EV.out b 3 w1 (kK_rt _ _ _ (by omega) (by omega) (by omega)) hp);have G1:=hide g1;clear hp g1 P1;go_wp2_with fail;refine E1.out.mono ?_;rintro x w2 ⟨a2,c2,n2,d2,A2,rfl,p2,i2,s2,hp2,g2⟩;obtain rfl:=s2.one setK3;have hn2:n2=2:=i2.len.symm;subst hn2;have P2:=hide p2;have I2:=hide i2;have E2:=hide (EV.out b 5 w2 (kK_rt _ _ _ (by omega) (by omega) (by omega)) hp2);have G2:=hide (xje G1.out g2);clear p2 i2 s2 hp2 g2 E1 EV;go_wp2_with fail;refine E2.out.mono ?_;rintro x w3 ⟨a3,c3,n3,d3,A3,rfl,p3,i3,s3,hp3,g3⟩;obtain rfl:=s3.one setK5;have hn3:n3=0:=i3.len.symm;subst hn3;have G3:=hide (xje G2.out g3);have P3:=hide (P2.out.grown g3);clear p3 i3 s3 hp3 g3 E2 P2
 have HS:Hid (Calls Tryz.prog 26 #[.slice a2 2 c2,.slice (some ⟨w3.heap.size,0,none⟩) 2 2] (w3.alloc (.cells #[.int .i64 1,.int .i64 3,.int .i64 0,.int .i64 0,.int .i64 2,.int .i64 0,.int .i64 1,.int .i64 3,.int .i64 0,.int .i64 0,.int .i64 2,.int .i64 1] 46)) fun e w'=>e=.returned (.bool true)/\w.grownBy w' none):=by
  refine (xgs _ _ 2 2 d2 (fun j=>if j=0 then kK 3 2 0 else kK 3 2 1) [kK 3 2 0,kK 3 2 1] [kK 3 2 0,kK 3 2 1] (w3.alloc (.cells (pkA (kK 3 2 0)++pkA (kK 3 2 1)) 46)) (P3.out.grown (World.grownBy_alloc _ _ _)) (xz9 w3 _ _) I2.out ⟨rfl,fun j hj=>?_⟩ setK3.nm setK3.nm).mono ?_
  ·rcases (show j=0\/j=1 by omega) with rfl|rfl<;>rfl
  ·rintro e w' ⟨⟨bq,rfl,hb⟩,hg⟩;exact ⟨by rw [hb.2 rfl],xje G3.out (xje (World.grownBy_alloc _ _ _) hg)⟩
 clear P3 I2 G2 G1;go_wp2_with fail;refine HS.out.mono ?_;rintro e w4 ⟨rfl,g4⟩;have G4:=hide g4;clear g4 HS G3;go_wp2;go_ret;exact ⟨b,rfl,G4.out⟩
end Go.Proofs.YtlhkfafdioakeaaGreatDoor
