/- Parts of the proof. -/
import Derived.Test.YtlhkfafdioakeaaGreatDoorSf03
import Derived.Test.YtlhkfafdioakeaaGreatDoorSf14
import Derived.Test.YtlhkfafdioakeaaGreatDoorSf15
namespace Go.Proofs.YtlhkfafdioakeaaGreatDoor
set_option maxRecDepth 100000
set_option maxHeartbeats 8000000
open Go.RowKit Go.Weft
set_option linter.unusedVariables false
set_option linter.unusedSimpArgs false
theorem xkw(m k:Nat->Int)(w:World):Calls Tryz.prog 61 #[pkV m,pkV k] w (Says (ltP m k) w):=by
 obtain ⟨w1,hw1⟩:∃w1,w1=w.alloc (.cells (pkA m) 46):=⟨_,rfl⟩;obtain ⟨w2,hw2⟩:∃w2,w2=w1.alloc (.cells (pkA k) 46):=⟨_,rfl⟩;have B1:Hid (pkBlk w2 w.heap.size m):=by rw [hw2,hw1];exact (pkBlk.alloc w m).grown (World.grownBy_alloc _ _ none) (by simp)
 have B2:Hid (pkBlk w2 (w.heap.size+1) k):=by
  have z:w1.heap.size=w.heap.size+1:=by rw [hw1];simp
  rw [hw2,<-z];exact pkBlk.alloc w1 k
 have G2:Hid (w.grownBy w2 none):=by rw [hw2,hw1];exact xje (World.grownBy_alloc _ _ _) (World.grownBy_alloc _ _ _)
 rw [hw1] at hw2;clear hw1;unfold pkA at hw2;unfold pkV pkA;go_enter Tryz.func61,Tryz.ntmps61;go_wp2;rw [<-hw2];clear hw2;go_loopw [5] (fun i wr=>∃j:Nat,j<=6/\i=.int .i64 j/\(∀i,i<j->m i=k i)/\pkBlk wr w.heap.size m/\pkBlk wr (w.heap.size+1) k/\w.grownBy wr none) (fun i _=>6-(intOf i).toNat)
 case atStart=>exact ⟨0,by omega,rfl,fun i h2=>by omega,B1.out,B2.out,G2.out⟩
 case round=>
  obtain ⟨j,hj,rfl,hok,b1,b2,hg⟩:=hrel;have HOK:=hide hok;clear hok B1 B2 G2;have B1:=hide b1;have B2:=hide b2;have G2:=hide hg;clear b1 b2 hg;by_cases hlt:j<6
  ·obtain ⟨x,hx⟩:∃x,x=m j:=⟨_,rfl⟩;obtain ⟨y,hy⟩:∃y,y=k j:=⟨_,rfl⟩;have c1:wr.cell? ⟨w.heap.size,j,none⟩=some (.int .i64 x):=by rw [hx];exact B1.out.cell j hlt
   have c2:wr.cell? ⟨w.heap.size+1,j,none⟩=some (.int .i64 y):=by rw [hy];exact B2.out.cell j hlt
   have HX:=hide hx;have HY:=hide hy;clear hx hy;have hltI:(j:Int)<6:=by omega
   by_cases h2:x=y
   ·subst h2;go_wp2_with fail;go_quiet (fail)
    go_wp2;go_roundw
    case rel=>exact ⟨j+1,by omega,by go_num,fun i h2=>by
     by_cases e:i=j
     ·subst e;rw [<-HX.out,<-HY.out]
     ·exact HOK.out i (by omega),B1.out,B2.out,xi8 G2.out _⟩
    case measure=>simp [intOf];omega
   ·have hn3:(x != y)=true:=by rw [bne_iff_ne];exact h2
    have hat:Hid (ltP m k↔x<y):=by rw [HX.out,HY.out];exact xml hlt HOK.out (by rw [<-HX.out,<-HY.out];exact h2)
    go_wp2_with fail;go_quiet (fail)
    go_wp2_with fail;go_quiet (fail)
    go_wp2;go_ret;exact ⟨⟨decide (x<y),rfl,by rw [hat.out];simp⟩,xi8 (xi8 G2.out _) _⟩
  ·go_wp2;go_ret
   exact ⟨⟨false,rfl,by
    simp only [Bool.false_eq_true,false_iff];rintro ⟨i,h1,_,h3⟩;rw [HOK.out i (by omega)] at h3;omega⟩,G2.out⟩
theorem xt3(va:Value)(n:Nat)(ps:Nat->Nat->Int)(A:List (Nat->Int))(w:World)(ha:PkR w va n ps)(hA:Is A n ps)(hs:Srt A):
  Calls Tryz.prog 33 #[va] w fun e w'=>e=.returned (.bool true)/\w.grownBy w' none:=by
 obtain ⟨a,ca,rfl⟩:=ha.slice;have HPA:=hide ha;have hfew:=ha.few
 have HLT:Hid (∀j,0<j->j<n->ltP (ps (j-1)) (ps j)):=fun j h0 h1=>by
  have hl:=hA.len;have:=hs.get (show j-1<j by omega) (show j<A.length by omega);have e1:=hA.get j h1;have e2:=hA.get (j-1) (by omega);rw [List.getElem?_eq_getElem (by omega)] at e1 e2;rw [Option.some.inj e1,Option.some.inj e2] at this;exact this
 clear ha hA hs;go_enter Tryz.func33,Tryz.ntmps33;go_wp2_with fail;go_loopw [3] (fun s3 wr=>∃i:Nat,i<=n/\s3=.int .i64 ((i:Int)+1)/\w.grownBy wr none) (fun s3 _=>n+1-(intOf s3).toNat)
 case atStart=>exact ⟨0,by omega,rfl,xjb _ _⟩
 case round=>
  obtain ⟨i,hj,rfl,hg⟩:=hrel;have HG:=hide hg;clear hg;by_cases hlt:i+1<n
  ·rcases HPA.out with ⟨_,_,_,h0,_⟩|⟨g,off,cap',hv,_,hcell⟩
   ·omega
   cases hv;obtain ⟨x,hx⟩:∃x,x=ps i:=⟨_,rfl⟩;obtain ⟨y,hy⟩:∃y,y=ps (i+1):=⟨_,rfl⟩;have CX:Hid (∀wx,w.grownBy wx none->∀t,t<6->wx.cell? ⟨g,off+i*6+t,none⟩=some (.int .i64 (x t))):=fun wx hgx t ht=>by rw [hx];exact hgx.cell (hcell i (by omega) t ht) (by simp)
   have CY:Hid (∀wx,w.grownBy wx none->∀t,t<6->wx.cell? ⟨g,off+(i+1)*6+t,none⟩=some (.int .i64 (y t))):=fun wx hgx t ht=>by rw [hy];exact hgx.cell (hcell (i+1) (by omega) t ht) (by simp)
   have LESS:Hid (∀ww,Calls Tryz.prog 61 #[.agg #[.int .i64 (x 0),.int .i64 (x 1),.int .i64 (x 2),.int .i64 (x 3),.int .i64 (x 4),.int .i64 (x 5)],.agg #[.int .i64 (y 0),.int .i64 (y 1),.int .i64 (y 2),.int .i64 (y 3),.int .i64 (y 4),.int .i64 (y 5)]] ww fun e w'=>e=.returned (.bool true)/\ww.grownBy w' none):=fun ww=>
    (xkw x y ww).mono (fun e w' ⟨⟨b,h1,h2⟩,h3⟩=>⟨by rw [h1,h2.2 (by rw [hx,hy];exact HLT.out (i+1) (by omega) hlt)],h3⟩)
   clear hcell hx hy;have cZ:=CX.out wr HG.out;have c0:wr.cell? ⟨g,off+i*6,none⟩=some (.int .i64 (x 0)):=cZ 0 (by omega);have c1:wr.cell? ⟨g,off+i*6+1,none⟩=some (.int .i64 (x 1)):=cZ 1 (by omega);have c2:wr.cell? ⟨g,off+i*6+2,none⟩=some (.int .i64 (x 2)):=cZ 2 (by omega);have c3:wr.cell? ⟨g,off+i*6+3,none⟩=some (.int .i64 (x 3)):=cZ 3 (by omega);have c4:wr.cell? ⟨g,off+i*6+4,none⟩=some (.int .i64 (x 4)):=cZ 4 (by omega);have c5:wr.cell? ⟨g,off+i*6+5,none⟩=some (.int .i64 (x 5)):=cZ 5 (by omega);clear cZ;have dZ:=CY.out wr HG.out;have d0:wr.cell? ⟨g,off+(i+1)*6,none⟩=some (.int .i64 (y 0)):=dZ 0 (by omega);have d1:wr.cell? ⟨g,off+(i+1)*6+1,none⟩=some (.int .i64 (y 1)):=dZ 1 (by omega);have d2:wr.cell? ⟨g,off+(i+1)*6+2,none⟩=some (.int .i64 (y 2)):=dZ 2 (by omega);have d3:wr.cell? ⟨g,off+(i+1)*6+3,none⟩=some (.int .i64 (y 3)):=dZ 3 (by omega);have d4:wr.cell? ⟨g,off+(i+1)*6+4,none⟩=some (.int .i64 (y 4)):=dZ 4 (by omega);have d5:wr.cell? ⟨g,off+(i+1)*6+5,none⟩=some (.int .i64 (y 5)):=dZ 5 (by omega);clear dZ;have hltI:(i:Int)+1<n:=by omega
   have hiI:(i:Int)<n:=by omega
   have hwr:IntKind.i64.wrap (i:Int)=(i:Int):=by
    simp [IntKind.wrap,IntKind.bits,IntKind.signed];omega
   go_upto_region 4 with fail
   go_region_with (go_at_call 61;refine (LESS.out _).mono ?_;rintro e w2 ⟨rfl,g2'⟩;have G2:=hide (xje HG.out (show wr.grownBy w2 none by first|exact xjf g2'|exact g2'));clear g2')
   all_goals
    go_wp2_with fail;exact ⟨⟨i+1,by omega,by go_num,G2.out⟩,by simp [intOf];omega⟩
  ·have hltI:¬(i:Int)+1<n:=by omega
   go_wp2;go_ret;exact ⟨rfl,HG.out⟩
theorem xgs(va vb:Value)(na nb:Nat)(ps qs:Nat->Nat->Int)(A B:List (Nat->Int))(w:World)(ha:PkR w va na ps)(hb:PkR w vb nb qs)(hA:Is A na ps)(hB:Is B nb qs)(hnA:∀x∈A,Nm x)(hnB:∀x∈B,Nm x):
  Calls Tryz.prog 26 #[va,vb] w (Says (A=B) w):=by
 obtain ⟨a,ca,rfl⟩:=ha.slice;obtain ⟨b,cb,rfl⟩:=hb.slice;have HPA:=hide ha;have HPB:=hide hb;have hfew:=ha.few;have hfew2:=hb.few;by_cases hn:na=nb
 case neg=>
  have HNE:Hid (¬A=B):=fun e=>hn (by rw [<-hA.len,<-hB.len,e])
  have hnI:((na:Int) != nb)=true:=by rw [bne_iff_ne];omega
  clear ha hb hA hB hnA hnB;go_enter Tryz.func26,Tryz.ntmps26;go_wp2;go_ret;exact xou HNE.out (xjb _ _)
 subst hn;have HXY:Hid (∀j,j<na->Nm (ps j)/\Nm (qs j)):=fun j hj=>⟨hnA _ (hA.mem hj),hnB _ (hB.mem hj)⟩
 have HEQ:Hid (A=B↔∀j,j<na->ps j=qs j):=by
  constructor
  ·intro e j hj;have h1:=hA.get j hj;have h2:=hB.get j hj;rw [e,h2] at h1;exact (Option.some.inj h1).symm
  ·intro h;refine List.ext_getElem? (fun j=>?_);by_cases hj:j<na
   ·rw [hA.get j hj,hB.get j hj,h j hj]
   ·rw [List.getElem?_eq_none (by rw [hA.len];omega),List.getElem?_eq_none (by rw [hB.len];omega)]
 obtain ⟨P,hP⟩:∃P,P=(A=B):=⟨_,rfl⟩;rw [<-hP] at HEQ ⊢;clear ha hb hA hB hnA hnB hP;go_enter Tryz.func26,Tryz.ntmps26;go_wp2;go_loopw [5] (fun v5 wr=>∃(j:Nat),v5=.int .i64 j/\j<=na/\(∀i,i<j->ps i=qs i)/\w.grownBy wr none) (fun v5 _=>na-(intOf v5).toNat)
 case atStart=>exact ⟨0,rfl,Nat.zero_le _,fun i hi=>by omega,xjb _ _⟩
 case round=>
  obtain ⟨i,rfl,hj,hall,hg⟩:=hrel;have HG:=hide hg;have HALL:=hide hall;clear hg hall;by_cases hlt:i<na
  ·rcases HPA.out with ⟨_,_,_,h0,_⟩|⟨g,off,capg,hvg,_,hcellg⟩
   ·omega
   cases hvg;rcases HPB.out with ⟨_,_,_,h0,_⟩|⟨g2,off2,capg2,hvg2,_,hcellg2⟩
   ·omega
   cases hvg2;obtain ⟨x,hx⟩:∃x,x=ps i:=⟨_,rfl⟩;obtain ⟨y,hy⟩:∃y,y=qs i:=⟨_,rfl⟩;have CX:Hid (∀wx,w.grownBy wx none->∀t,t<6->wx.cell? ⟨g,off+i*6+t,none⟩=some (.int .i64 (x t))):=fun wx hgx t ht=>by rw [hx];exact hgx.cell (hcellg i (by omega) t ht) (by simp)
   have CY:Hid (∀wx,w.grownBy wx none->∀t,t<6->wx.cell? ⟨g2,off2+i*6+t,none⟩=some (.int .i64 (y t))):=fun wx hgx t ht=>by rw [hy];exact hgx.cell (hcellg2 i (by omega) t ht) (by simp)
   have hnm:Nm x/\Nm y:=by rw [hx,hy];exact HXY.out i hlt
   have HX:=hide hx;have HY:=hide hy;clear hcellg hcellg2 hx hy;have cZ:=CX.out wr HG.out;have c0:wr.cell? ⟨g,off+i*6,none⟩=some (.int .i64 (x 0)):=cZ 0 (by omega);have c1:wr.cell? ⟨g,off+i*6+1,none⟩=some (.int .i64 (x 1)):=cZ 1 (by omega);have c2:wr.cell? ⟨g,off+i*6+2,none⟩=some (.int .i64 (x 2)):=cZ 2 (by omega);have c3:wr.cell? ⟨g,off+i*6+3,none⟩=some (.int .i64 (x 3)):=cZ 3 (by omega);have c4:wr.cell? ⟨g,off+i*6+4,none⟩=some (.int .i64 (x 4)):=cZ 4 (by omega);have c5:wr.cell? ⟨g,off+i*6+5,none⟩=some (.int .i64 (x 5)):=cZ 5 (by omega);clear cZ;have dZ:=CY.out wr HG.out;have d0:wr.cell? ⟨g2,off2+i*6,none⟩=some (.int .i64 (y 0)):=dZ 0 (by omega);have d1:wr.cell? ⟨g2,off2+i*6+1,none⟩=some (.int .i64 (y 1)):=dZ 1 (by omega);have d2:wr.cell? ⟨g2,off2+i*6+2,none⟩=some (.int .i64 (y 2)):=dZ 2 (by omega);have d3:wr.cell? ⟨g2,off2+i*6+3,none⟩=some (.int .i64 (y 3)):=dZ 3 (by omega);have d4:wr.cell? ⟨g2,off2+i*6+4,none⟩=some (.int .i64 (y 4)):=dZ 4 (by omega);have d5:wr.cell? ⟨g2,off2+i*6+5,none⟩=some (.int .i64 (y 5)):=dZ 5 (by omega);clear dZ;have hltI:(i:Int)<na:=by omega
   by_cases hxy:x=y
   ·have he:eq6 (x 0) (x 1) (x 2) (x 3) (x 4) (x 5) (y 0) (y 1) (y 2) (y 3) (y 4) (y 5)=true:=xgo ((xet x y).2 (fun t _=>by rw [hxy]));have HE:=hide hxy;clear hxy hnm;go_wp2_with fail;go_quiet (fail)
    go_wp2_with fail
    exact ⟨⟨i+1,by go_num,by omega,fun t ht=>(by
     by_cases e:t=i
     ·subst e;rw [<-HX.out,<-HY.out];exact HE.out
     ·exact HALL.out t (by omega)),xi8 HG.out _⟩,by simp [intOf];omega⟩
   ·have he:eq6 (x 0) (x 1) (x 2) (x 3) (x 4) (x 5) (y 0) (y 1) (y 2) (y 3) (y 4) (y 5)=false:=xgm (fun h=>hxy (hnm.1.ext hnm.2 ((xet x y).1 h)));have HE:Hid (¬P):=fun hp=>hxy (by rw [HX.out,HY.out];exact HEQ.out.1 hp i hlt)
    clear hxy hnm;go_wp2_with fail;go_quiet (fail)
    go_wp2;go_ret;exact xou HE.out (xi8 HG.out _)
  ·obtain rfl:i=na:=by omega
   go_wp2;go_ret;exact x1z (HEQ.out.2 HALL.out) HG.out
theorem x0d(va vb:Value)(na nb:Nat)(ps qs:Nat->Nat->Int)(A B:List (Nat->Int))(w:World)(ha:PkR w va na ps)(hb:PkR w vb nb qs)(hA:Is A na ps)(hB:Is B nb qs)(hnA:∀x∈A,Nm x)(hnB:∀x∈B,Nm x)(hl:na+nb<=1000000000000):
  Calls Tryz.prog 27 #[va,vb] w (SetO (xnd A B) w):=by
 obtain ⟨a,ca,rfl⟩:=ha.slice;obtain ⟨b,cb,rfl⟩:=hb.slice;have HPA:=hide ha;have HPB:=hide hb;have HIA:=hide hA;have HIB:=hide hB;have HNA:=hide hnA;have HNB:=hide hnB;have HQ:Hid (∀e w',SetO (xnd A B) w e w'↔∃v n d,e=.returned v/\OwnV w.heap.size w' v n d/\Is (xnd A B) n d/\w.grownBy w' none):=fun _ _=>Iff.rfl
 clear ha hb hA hB hnA hnB;generalize SetO (xnd A B) w=Q at HQ ⊢;go_enter Tryz.func27,Tryz.ntmps27;go_wp2_with fail;go_loopw [5,6,7] (fun s5 s6 s7 wr=>∃(i k n:Nat) (d:Nat->Nat->Int) (O:List (Nat->Int)),i<=na/\k<=nb/\s6=.int .i64 i/\s7=.int .i64 k/\n<=i+k/\OwnV w.heap.size wr s5 n d/\Is O n d/\O++xnd (A.drop i) (B.drop k)=xnd A B/\w.grownBy wr none) (fun _ s6 s7 _=>(na-(intOf s6).toNat)+(nb-(intOf s7).toNat))
 case atStart=>exact ⟨0,0,0,fun _ _=>0,[],by omega,by omega,rfl,rfl,by omega,OwnV.nil _ _ _,Is.none _,rfl,xjb _ _⟩
 case round=>
  obtain ⟨i,k,n,d,O,hi,hk,rfl,rfl,hn,ho,hO,hm,hg⟩:=hrel;obtain ⟨oa,oc,rfl⟩:=ho.slice;have HOW:=hide ho;have HO:=hide hO;have HM:=hide hm;have HG:=hide hg;have hsz:=hg.size;clear ho hO hm hg;by_cases hlt:i<na
  ·by_cases hlt2:k<nb
   case neg=>
    obtain rfl:k=nb:=by omega
    have DB:Hid (B.drop k=[]):=HIB.out.past hlt2;rcases HPA.out with ⟨_,_,_,h0,_⟩|⟨g,off,capg,hvg,_,hcellg⟩
    ·omega
    cases hvg;obtain ⟨x,hx⟩:∃x,x=ps i:=⟨_,rfl⟩;have CX:Hid (∀wx,w.grownBy wx none->∀t,t<6->wx.cell? ⟨g,off+i*6+t,none⟩=some (.int .i64 (x t))):=fun wx hgx t ht=>by rw [hx];exact hgx.cell (hcellg i (by omega) t ht) (by simp)
    clear hcellg;have DA:Hid (A.drop i=x::A.drop (i+1)):=by rw [hx];exact HIA.out.drop hlt
    have NX:Nm x:=by rw [hx];exact HNA.out _ (HIA.out.mem hlt)
    clear hx;have hltI:(i:Int)<na:=by omega
    have hneI:¬(i:Int)=na:=by omega
    have hZ:=CX.out wr HG.out;have h0:wr.cell? ⟨g,off+i*6,none⟩=some (.int .i64 (x 0)):=hZ 0 (by omega);have h1:wr.cell? ⟨g,off+i*6+1,none⟩=some (.int .i64 (x 1)):=hZ 1 (by omega);have h2:wr.cell? ⟨g,off+i*6+2,none⟩=some (.int .i64 (x 2)):=hZ 2 (by omega);have h3:wr.cell? ⟨g,off+i*6+3,none⟩=some (.int .i64 (x 3)):=hZ 3 (by omega);have h4:wr.cell? ⟨g,off+i*6+4,none⟩=some (.int .i64 (x 4)):=hZ 4 (by omega);have h5:wr.cell? ⟨g,off+i*6+5,none⟩=some (.int .i64 (x 5)):=hZ 5 (by omega);clear hZ;have HR:=hide (xpp wr x);unfold pkA at HR;go_wp2_with (at_builtin;refine x1d _ rfl _ _ rfl w.heap.size (.slice oa n oc) n d rfl (HOW.out.grown (World.grownBy_alloc _ _ none) (fun b e=>by cases e)) _ 1 (fun _=>x) rfl HR.out (by omega) (by have:=HG.out.size;simp;omega) ?_);intro v5 w5 o5 g5 _;obtain ⟨a5,q5,rfl⟩:=o5.slice;have G5:=hide (xi1 (v':=.slice a5 (n+1) q5) HG.out HOW.out (World.grownBy_alloc _ _ none) g5);have O5:=hide o5;clear o5 g5;go_wp2_with fail;exact ⟨⟨i+1,k,n+1,_,O++[x],by omega,by omega,by go_num,by go_num,by omega,O5.out,HO.out.more x,by rw [<-HM.out,List.append_assoc];congr 1;rw [DA.out,DB.out,xnj,xnj];rfl,G5.out⟩,by simp [intOf];omega⟩
   rcases HPA.out with ⟨_,_,_,h0,_⟩|⟨g,off,capg,hvg,_,hcellg⟩
   ·omega
   cases hvg;obtain ⟨x,hx⟩:∃x,x=ps i:=⟨_,rfl⟩;have CX:Hid (∀wx,w.grownBy wx none->∀t,t<6->wx.cell? ⟨g,off+i*6+t,none⟩=some (.int .i64 (x t))):=fun wx hgx t ht=>by rw [hx];exact hgx.cell (hcellg i (by omega) t ht) (by simp)
   clear hcellg;have DA:Hid (A.drop i=x::A.drop (i+1)):=by rw [hx];exact HIA.out.drop hlt
   have NX:Nm x:=by rw [hx];exact HNA.out _ (HIA.out.mem hlt)
   clear hx;have hltI:(i:Int)<na:=by omega
   have hneI:¬(i:Int)=na:=by omega
   rcases HPB.out with ⟨_,_,_,h0,_⟩|⟨g2,off2,capg2,hvg2,_,hcellg2⟩
   ·omega
   cases hvg2;obtain ⟨y,hy⟩:∃y,y=qs k:=⟨_,rfl⟩;have CY:Hid (∀wx,w.grownBy wx none->∀t,t<6->wx.cell? ⟨g2,off2+k*6+t,none⟩=some (.int .i64 (y t))):=fun wx hgx t ht=>by rw [hy];exact hgx.cell (hcellg2 k (by omega) t ht) (by simp)
   clear hcellg2;have DB:Hid (B.drop k=y::B.drop (k+1)):=by rw [hy];exact HIB.out.drop hlt2
   have NY:Nm y:=by rw [hy];exact HNB.out _ (HIB.out.mem hlt2)
   clear hy;have hlt2I:(k:Int)<nb:=by omega
   have hne2I:¬(k:Int)=nb:=by omega
   have cZ:=CX.out wr HG.out;have c0:wr.cell? ⟨g,off+i*6,none⟩=some (.int .i64 (x 0)):=cZ 0 (by omega);have c1:wr.cell? ⟨g,off+i*6+1,none⟩=some (.int .i64 (x 1)):=cZ 1 (by omega);have c2:wr.cell? ⟨g,off+i*6+2,none⟩=some (.int .i64 (x 2)):=cZ 2 (by omega);have c3:wr.cell? ⟨g,off+i*6+3,none⟩=some (.int .i64 (x 3)):=cZ 3 (by omega);have c4:wr.cell? ⟨g,off+i*6+4,none⟩=some (.int .i64 (x 4)):=cZ 4 (by omega);have c5:wr.cell? ⟨g,off+i*6+5,none⟩=some (.int .i64 (x 5)):=cZ 5 (by omega);clear cZ;have dZ:=CY.out wr HG.out;have d0:wr.cell? ⟨g2,off2+k*6,none⟩=some (.int .i64 (y 0)):=dZ 0 (by omega);have d1:wr.cell? ⟨g2,off2+k*6+1,none⟩=some (.int .i64 (y 1)):=dZ 1 (by omega);have d2:wr.cell? ⟨g2,off2+k*6+2,none⟩=some (.int .i64 (y 2)):=dZ 2 (by omega);have d3:wr.cell? ⟨g2,off2+k*6+3,none⟩=some (.int .i64 (y 3)):=dZ 3 (by omega);have d4:wr.cell? ⟨g2,off2+k*6+4,none⟩=some (.int .i64 (y 4)):=dZ 4 (by omega);have d5:wr.cell? ⟨g2,off2+k*6+5,none⟩=some (.int .i64 (y 5)):=dZ 5 (by omega);clear dZ;by_cases hxy:x=y
   ·have he:eq6 (x 0) (x 1) (x 2) (x 3) (x 4) (x 5) (y 0) (y 1) (y 2) (y 3) (y 4) (y 5)=true:=xgo ((xet x y).2 (fun t _=>by rw [hxy]));have HXY:=hide hxy;clear hxy NX NY;go_wp2_with fail;go_quiet (fail)
    have GW:=hide (xi8 HG.out nq);have OW:=hide (HOW.out.grown (xi8 (xjb wr none) nq) (fun b e=>by cases e));clear c0 c1 c2 c3 c4 c5 d0 d1 d2 d3 d4 d5;obtain ⟨w3,hw3⟩:∃w3,w3=wr.drewN nq:=⟨_,rfl⟩;rw [<-hw3] at GW OW;rw [<-hw3];clear hw3;have hZ:=CX.out w3 GW.out;have h0:w3.cell? ⟨g,off+i*6,none⟩=some (.int .i64 (x 0)):=hZ 0 (by omega);have h1:w3.cell? ⟨g,off+i*6+1,none⟩=some (.int .i64 (x 1)):=hZ 1 (by omega);have h2:w3.cell? ⟨g,off+i*6+2,none⟩=some (.int .i64 (x 2)):=hZ 2 (by omega);have h3:w3.cell? ⟨g,off+i*6+3,none⟩=some (.int .i64 (x 3)):=hZ 3 (by omega);have h4:w3.cell? ⟨g,off+i*6+4,none⟩=some (.int .i64 (x 4)):=hZ 4 (by omega);have h5:w3.cell? ⟨g,off+i*6+5,none⟩=some (.int .i64 (x 5)):=hZ 5 (by omega);clear hZ;have HR:=hide (xpp w3 x);unfold pkA at HR;go_wp2_with (at_builtin;refine x1d _ rfl _ _ rfl w.heap.size (.slice oa n oc) n d rfl (OW.out.grown (World.grownBy_alloc _ _ none) (fun b e=>by cases e)) _ 1 (fun _=>x) rfl HR.out (by omega) (by have:=GW.out.size;simp;omega) ?_);intro v5 w5 o5 g5 _;obtain ⟨a5,q5,rfl⟩:=o5.slice;have G5:=hide (xi1 (v':=.slice a5 (n+1) q5) GW.out OW.out (World.grownBy_alloc _ _ none) g5);have O5:=hide o5;clear o5 g5;go_wp2_with fail;exact ⟨⟨i+1,k+1,n+1,_,O++[x],by omega,by omega,by go_num,by go_num,by omega,O5.out,HO.out.more x,by rw [<-HM.out,List.append_assoc];congr 1;rw [DA.out,DB.out,<-HXY.out,xne];rfl,G5.out⟩,by simp [intOf];omega⟩
   ·have he:eq6 (x 0) (x 1) (x 2) (x 3) (x 4) (x 5) (y 0) (y 1) (y 2) (y 3) (y 4) (y 5)=false:=xgm (fun h=>hxy (NX.ext NY ((xet x y).1 h)));have HXY:=hide hxy;have LESS:Hid (∀ww,Calls Tryz.prog 61 #[.agg #[.int .i64 (x 0),.int .i64 (x 1),.int .i64 (x 2),.int .i64 (x 3),.int .i64 (x 4),.int .i64 (x 5)],.agg #[.int .i64 (y 0),.int .i64 (y 1),.int .i64 (y 2),.int .i64 (y 3),.int .i64 (y 4),.int .i64 (y 5)]] ww (Says (ltP x y) ww)):=fun ww=>xkw x y ww
    clear hxy NX NY;go_wp2_with fail;go_quiet (fail)
    have GW:=hide (xi8 HG.out nq);have OW:=hide (HOW.out.grown (xi8 (xjb wr none) nq) (fun b e=>by cases e));clear c0 c1 c2 c3 c4 c5 d0 d1 d2 d3 d4 d5;obtain ⟨w3,hw3⟩:∃w3,w3=wr.drewN nq:=⟨_,rfl⟩;rw [<-hw3] at GW OW;rw [<-hw3];clear hw3;have cZ:=CX.out w3 GW.out;have c0:w3.cell? ⟨g,off+i*6,none⟩=some (.int .i64 (x 0)):=cZ 0 (by omega);have c1:w3.cell? ⟨g,off+i*6+1,none⟩=some (.int .i64 (x 1)):=cZ 1 (by omega);have c2:w3.cell? ⟨g,off+i*6+2,none⟩=some (.int .i64 (x 2)):=cZ 2 (by omega);have c3:w3.cell? ⟨g,off+i*6+3,none⟩=some (.int .i64 (x 3)):=cZ 3 (by omega);have c4:w3.cell? ⟨g,off+i*6+4,none⟩=some (.int .i64 (x 4)):=cZ 4 (by omega);have c5:w3.cell? ⟨g,off+i*6+5,none⟩=some (.int .i64 (x 5)):=cZ 5 (by omega);clear cZ;have dZ:=CY.out w3 GW.out;have d0:w3.cell? ⟨g2,off2+k*6,none⟩=some (.int .i64 (y 0)):=dZ 0 (by omega);have d1:w3.cell? ⟨g2,off2+k*6+1,none⟩=some (.int .i64 (y 1)):=dZ 1 (by omega);have d2:w3.cell? ⟨g2,off2+k*6+2,none⟩=some (.int .i64 (y 2)):=dZ 2 (by omega);have d3:w3.cell? ⟨g2,off2+k*6+3,none⟩=some (.int .i64 (y 3)):=dZ 3 (by omega);have d4:w3.cell? ⟨g2,off2+k*6+4,none⟩=some (.int .i64 (y 4)):=dZ 4 (by omega);have d5:w3.cell? ⟨g2,off2+k*6+5,none⟩=some (.int .i64 (y 5)):=dZ 5 (by omega);clear dZ;go_upto_region 5 with fail
    go_region_with (go_at_call 61;refine (LESS.out _).mono ?_;rintro e w4 ⟨⟨bb,rfl,hbb⟩,g4⟩;have G4:=hide (xje GW.out (show w3.grownBy w4 none by first|exact xjf g4|exact g4));have O4:=hide (OW.out.grown (show w3.grownBy w4 none by first|exact xjf g4|exact g4) (fun b e=>by cases e));have HBB:=hide hbb;clear g4 hbb)
    all_goals
     clear c0 c1 c2 c3 c4 c5 d0 d1 d2 d3 d4 d5;cases bb
     ·have HNL:Hid (¬ltP x y):=fun h=>(by have:=HBB.out.2 h;cases this)
      clear HBB;have hZ:=CY.out w4 G4.out;have h0:w4.cell? ⟨g2,off2+k*6,none⟩=some (.int .i64 (y 0)):=hZ 0 (by omega);have h1:w4.cell? ⟨g2,off2+k*6+1,none⟩=some (.int .i64 (y 1)):=hZ 1 (by omega);have h2:w4.cell? ⟨g2,off2+k*6+2,none⟩=some (.int .i64 (y 2)):=hZ 2 (by omega);have h3:w4.cell? ⟨g2,off2+k*6+3,none⟩=some (.int .i64 (y 3)):=hZ 3 (by omega);have h4:w4.cell? ⟨g2,off2+k*6+4,none⟩=some (.int .i64 (y 4)):=hZ 4 (by omega);have h5:w4.cell? ⟨g2,off2+k*6+5,none⟩=some (.int .i64 (y 5)):=hZ 5 (by omega);clear hZ;have HR:=hide (xpp w4 y);unfold pkA at HR;go_wp2_with (at_builtin;refine x1d _ rfl _ _ rfl w.heap.size (.slice oa n oc) n d rfl (O4.out.grown (World.grownBy_alloc _ _ none) (fun b e=>by cases e)) _ 1 (fun _=>y) rfl HR.out (by omega) (by have:=G4.out.size;simp;omega) ?_);intro v5 w5 o5 g5 _;obtain ⟨a5,q5,rfl⟩:=o5.slice;have G5:=hide (xi1 (v':=.slice a5 (n+1) q5) G4.out O4.out (World.grownBy_alloc _ _ none) g5);have O5:=hide o5;clear o5 g5;go_wp2_with fail;exact ⟨⟨i,k+1,n+1,_,O++[y],by omega,by omega,by go_num,by go_num,by omega,O5.out,HO.out.more y,by rw [<-HM.out,List.append_assoc];congr 1;rw [DA.out,DB.out,xnf HXY.out HNL.out];rfl,G5.out⟩,by simp [intOf];omega⟩
     ·have HLT:=hide (HBB.out.1 rfl);clear HBB;have hZ:=CX.out w4 G4.out;have h0:w4.cell? ⟨g,off+i*6,none⟩=some (.int .i64 (x 0)):=hZ 0 (by omega);have h1:w4.cell? ⟨g,off+i*6+1,none⟩=some (.int .i64 (x 1)):=hZ 1 (by omega);have h2:w4.cell? ⟨g,off+i*6+2,none⟩=some (.int .i64 (x 2)):=hZ 2 (by omega);have h3:w4.cell? ⟨g,off+i*6+3,none⟩=some (.int .i64 (x 3)):=hZ 3 (by omega);have h4:w4.cell? ⟨g,off+i*6+4,none⟩=some (.int .i64 (x 4)):=hZ 4 (by omega);have h5:w4.cell? ⟨g,off+i*6+5,none⟩=some (.int .i64 (x 5)):=hZ 5 (by omega);clear hZ;have HR:=hide (xpp w4 x);unfold pkA at HR;go_wp2_with (at_builtin;refine x1d _ rfl _ _ rfl w.heap.size (.slice oa n oc) n d rfl (O4.out.grown (World.grownBy_alloc _ _ none) (fun b e=>by cases e)) _ 1 (fun _=>x) rfl HR.out (by omega) (by have:=G4.out.size;simp;omega) ?_);intro v5 w5 o5 g5 _;obtain ⟨a5,q5,rfl⟩:=o5.slice;have G5:=hide (xi1 (v':=.slice a5 (n+1) q5) G4.out O4.out (World.grownBy_alloc _ _ none) g5);have O5:=hide o5;clear o5 g5;go_wp2_with fail;exact ⟨⟨i+1,k,n+1,_,O++[x],by omega,by omega,by go_num,by go_num,by omega,O5.out,HO.out.more x,by rw [<-HM.out,List.append_assoc];congr 1;rw [DA.out,DB.out,xnh HLT.out];rfl,G5.out⟩,by simp [intOf];omega⟩
  ·obtain rfl:i=na:=by omega
   have DA:Hid (A.drop i=[]):=HIA.out.past hlt;by_cases hlt2:k<nb
   case neg=>
    obtain rfl:k=nb:=by omega
    have DB:Hid (B.drop k=[]):=HIB.out.past hlt2;go_wp2;refine (HQ.out _ _).2 ⟨_,n,d,rfl,HOW.out,?_,HG.out⟩;have:=HM.out;rw [DA.out,DB.out,xol,List.append_nil] at this;rw [<-this];exact HO.out
   rcases HPB.out with ⟨_,_,_,h0,_⟩|⟨g2,off2,capg2,hvg2,_,hcellg2⟩
   ·omega
   cases hvg2;obtain ⟨y,hy⟩:∃y,y=qs k:=⟨_,rfl⟩;have CY:Hid (∀wx,w.grownBy wx none->∀t,t<6->wx.cell? ⟨g2,off2+k*6+t,none⟩=some (.int .i64 (y t))):=fun wx hgx t ht=>by rw [hy];exact hgx.cell (hcellg2 k (by omega) t ht) (by simp)
   clear hcellg2;have DB:Hid (B.drop k=y::B.drop (k+1)):=by rw [hy];exact HIB.out.drop hlt2
   have NY:Nm y:=by rw [hy];exact HNB.out _ (HIB.out.mem hlt2)
   clear hy;have hlt2I:(k:Int)<nb:=by omega
   have hne2I:¬(k:Int)=nb:=by omega
   have hZ:=CY.out wr HG.out;have h0:wr.cell? ⟨g2,off2+k*6,none⟩=some (.int .i64 (y 0)):=hZ 0 (by omega);have h1:wr.cell? ⟨g2,off2+k*6+1,none⟩=some (.int .i64 (y 1)):=hZ 1 (by omega);have h2:wr.cell? ⟨g2,off2+k*6+2,none⟩=some (.int .i64 (y 2)):=hZ 2 (by omega);have h3:wr.cell? ⟨g2,off2+k*6+3,none⟩=some (.int .i64 (y 3)):=hZ 3 (by omega);have h4:wr.cell? ⟨g2,off2+k*6+4,none⟩=some (.int .i64 (y 4)):=hZ 4 (by omega);have h5:wr.cell? ⟨g2,off2+k*6+5,none⟩=some (.int .i64 (y 5)):=hZ 5 (by omega);clear hZ;have HR:=hide (xpp wr y);unfold pkA at HR;go_wp2_with (at_builtin;refine x1d _ rfl _ _ rfl w.heap.size (.slice oa n oc) n d rfl (HOW.out.grown (World.grownBy_alloc _ _ none) (fun b e=>by cases e)) _ 1 (fun _=>y) rfl HR.out (by omega) (by have:=HG.out.size;simp;omega) ?_);intro v5 w5 o5 g5 _;obtain ⟨a5,q5,rfl⟩:=o5.slice;have G5:=hide (xi1 (v':=.slice a5 (n+1) q5) HG.out HOW.out (World.grownBy_alloc _ _ none) g5);have O5:=hide o5;clear o5 g5;go_wp2_with fail;exact ⟨⟨i,k+1,n+1,_,O++[y],by omega,by omega,by go_num,by go_num,by omega,O5.out,HO.out.more y,by rw [<-HM.out,List.append_assoc];congr 1;rw [DA.out,DB.out,xol,xol];rfl,G5.out⟩,by simp [intOf];omega⟩
def put6p(w:World)(b:Nat)(k:Nat->Int):World:=
 (((((w.setCell ⟨b,0,none⟩ (.int .i64 (k 0))).setCell ⟨b,1,none⟩ (.int .i64 (k 1))).setCell ⟨b,2,none⟩ (.int .i64 (k 2))).setCell ⟨b,3,none⟩ (.int .i64 (k 3))).setCell ⟨b,4,none⟩ (.int .i64 (k 4))).setCell ⟨b,5,none⟩ (.int .i64 (k 5))
theorem xs1{w:World}{b:Nat}{k0:Nat->Int}(h:pkBlk w b k0)(k:Nat->Int):pkBlk (put6p w b k) b k:=by
 unfold put6p;unfold pkBlk at h;unfold pkBlk;rw [xjh (xjh (xjh (xjh (xjh (xjh h 0 _) 1 _) 2 _) 3 _) 4 _) 5 _];rfl
theorem xs2(w:World)(b:Nat)(k:Nat->Int):w.grownBy (put6p w b k) (some b):=
 xje (xje (xje (xje (xje (xjc _ _ _ _) (xjc _ _ _ _)) (xjc _ _ _ _)) (xjc _ _ _ _)) (xjc _ _ _ _)) (xjc _ _ _ _)
def pickS(c n:Int):Int:=(if c<0 then -(c+1) else c)%n
theorem xrf(c n:Int)(hn:0<n):0<=pickS c n/\pickS c n<n:=by
 unfold pickS;exact ⟨Int.emod_nonneg _ (by omega),Int.emod_lt_of_pos _ hn⟩
theorem xrh(c n:Int)(hc:c<0):-(c+1).tmod n=-(c+1)%n:=by
 rw [<-Int.neg_tmod];exact Int.tmod_eq_emod_of_nonneg (by omega)
theorem xrg(c n:Int)(w:World)(hn:0<n)(hn2:n<=9223372036854775807)(h1:-9223372036854775808<=c)(h2:c<=9223372036854775807):
  Calls Tryz.prog 30 #[.int .i64 c,.int .i64 n] w fun e w'=>e=.returned (.int .i64 (pickS c n))/\w'=w:=by
 have hn0:n≠0:=by omega
 by_cases hc:c<0
 ·unfold pickS;rw [if_pos hc,<-xrh c n hc];go_enter Tryz.func30,Tryz.ntmps30;go_wp2;go_ret;exact ⟨rfl,rfl⟩
 ·unfold pickS;rw [if_neg hc];go_enter Tryz.func30,Tryz.ntmps30;go_wp2;go_ret;exact ⟨rfl,rfl⟩
def IRow(w:World)(v:Value)(n:Nat):Prop:=
 (∃a cap,v=.slice a n cap/\n=0)\/∃g off cap,v=.slice (some ⟨g,off,none⟩) n cap/\n<=9223372036854775807/\∀j,j<n->∃z:Int,w.cell? ⟨g,off+j,none⟩=some (.int .i64 z)/\-9223372036854775808<=z/\z<=9223372036854775807
theorem IRow.slice{w:World}{v:Value}{n:Nat}(h:IRow w v n):(∃a cap,v=.slice a n cap)/\n<=9223372036854775807:=by
 rcases h with ⟨a,cap,rfl,h⟩|⟨g,off,cap,rfl,h,_⟩
 ·exact ⟨⟨_,_,rfl⟩,by omega⟩
 ·exact ⟨⟨_,_,rfl⟩,h⟩
theorem xt2{k:Nat->Int}(h:xtx k)(j:Nat)(x:Int)(hx:okF x):xtx (fun i=>if i=j then x else k i):=by
 intro i hi;show okF (if i=j then x else k i);split
 ·exact hx
 ·exact h i hi
theorem xqo(v:Value)(n:Nat)(w:World)(h:IRow w v n):
  Calls Tryz.prog 24 #[v] w fun e w'=>∃k,e=.returned (pkV k)/\xtx k/\w.grownBy w' none:=by
 obtain ⟨⟨a,cap,rfl⟩,hn⟩:=h.slice;have HI:=hide h;clear h;have T1:=hide (pkBlk.alloc w (fun _=>0));have T2:=hide (pkBlk.alloc (w.alloc (.cells (pkA (fun _=>0)) 46)) (fun _=>0));unfold pkA at T1 T2;go_enter Tryz.func24,Tryz.ntmps24;go_wp2;go_loopw [4] (fun v4 wr=>∃(j:Nat) (k:Nat->Int),v4=.int .i64 j/\j<=6/\xtx k/\pkBlk wr (w.heap.size+1) k/\pkBlk wr w.heap.size (fun _=>0)/\w.grownBy wr none) (fun v4 _=>6-(intOf v4).toNat)
 case atStart=>
  refine ⟨0,fun _=>0,rfl,by omega,fun i hi=>⟨Int.le_refl 0,by show (0:Int)<=31;omega⟩,?_,T1.out.grown (World.grownBy_alloc _ _ none) (by simp),xje (World.grownBy_alloc _ _ _) (World.grownBy_alloc _ _ _)⟩;have:=T2.out;simpa using this
 case round=>
  obtain ⟨j,k,rfl,hj,hk,hb,hb0,hg⟩:=hrel;have HK:=hide hk;have HB:=hide hb;have HB0:=hide hb0;have HG:=hide hg;clear hk hb hb0 hg;by_cases h6:j<6
  ·by_cases hlt:j<n
   ·rcases HI.out with ⟨_,_,_,h0⟩|⟨g,off,cap',hv,_,hcell⟩
    ·omega
    cases hv;obtain ⟨z,hz,hz1,hz2⟩:=hcell j hlt;have cz:wr.cell? ⟨g,off+j,none⟩=some (.int .i64 z):=HG.out.cell hz (by simp);clear hcell hz;have HPK:=hide (xrg z 320 wr (by omega) (by omega) hz1 hz2);obtain ⟨q,hq⟩:∃q,q=pickS z 320:=⟨_,rfl⟩;have hqr:=xrf z 320 (by omega);rw [<-hq] at HPK hqr;obtain ⟨hq1,hq2⟩:=hqr;clear hq;have c1:=HB.out.cell j h6;have f1:=HB.out.frozen;have hm5:0<=q%5/\q%5<5:=⟨Int.emod_nonneg _ (by omega),Int.emod_lt_of_pos _ (by omega)⟩;have hm32:0<=q%32/\q%32<32:=⟨Int.emod_nonneg _ (by omega),Int.emod_lt_of_pos _ (by omega)⟩;have B2:=hide (HB.out.set j h6 (q%5));have R2:=hide (xt2 HK.out j (q%5) ⟨by omega,by omega⟩);have B02:=hide (HB0.out.grown (xjc wr (w.heap.size+1) j (.int .i64 (q%5))) (by simp));have G2:=hide (xi9 HG.out (xjc wr (w.heap.size+1) j (.int .i64 (q%5))) (by omega));by_cases h280:280<q
    ·go_wp2_with fail;refine HPK.out.mono ?_;rintro e w2 ⟨rfl,hw2⟩;rw [hw2];clear hw2;have B3:=hide (B2.out.set j h6 (q%32));have R3:=hide (xt2 R2.out j (q%32) ⟨by omega,by omega⟩);go_wp2;go_roundw
     case rel=>exact ⟨j+1,_,by go_num,by omega,R3.out,B3.out,B02.out.grown (xjc _ _ _ _) (by simp),xi9 G2.out (xjc _ _ _ _) (by omega)⟩
     case measure=>simp [intOf];omega
    ·go_wp2_with fail;refine HPK.out.mono ?_;rintro e w2 ⟨rfl,hw2⟩;rw [hw2];clear hw2;go_wp2;go_roundw
     case rel=>exact ⟨j+1,_,by go_num,by omega,R2.out,B2.out,B02.out,G2.out⟩
     case measure=>simp [intOf];omega
   ·skip
    obtain ⟨c0,c1,c2,c3,c4,c5⟩:_/\_/\_/\_/\_/\_:=⟨HB.out.cell 0 (by omega),HB.out.cell 1 (by omega),HB.out.cell 2 (by omega),HB.out.cell 3 (by omega),HB.out.cell 4 (by omega),HB.out.cell 5 (by omega)⟩;obtain ⟨d0,d1,d2,d3,d4,d5⟩:_/\_/\_/\_/\_/\_:=⟨HB0.out.cell 0 (by omega),HB0.out.cell 1 (by omega),HB0.out.cell 2 (by omega),HB0.out.cell 3 (by omega),HB0.out.cell 4 (by omega),HB0.out.cell 5 (by omega)⟩;have f0:=HB0.out.frozen;go_wp2;change bodyPost _ _ _ _ _ (put6p wr w.heap.size k);have hp:=xs1 HB0.out k;have e0:=hp.cell 0 (by omega);have e1:=hp.cell 1 (by omega);have e2:=hp.cell 2 (by omega);have e3:=hp.cell 3 (by omega);have e4:=hp.cell 4 (by omega);have e5:=hp.cell 5 (by omega);refine bodyPost_ret (v:=.agg #[.int .i64 (k 0),.int .i64 (k 1),.int .i64 (k 2),.int .i64 (k 3),.int .i64 (k 4),.int .i64 (k 5)]) (by simp [results,Tryz.results24,go_sem,e0,e1,e2,e3,e4,e5]) rfl ?_;exact ⟨k,rfl,HK.out,xi9 HG.out (xs2 _ _ _) (Nat.le_refl _)⟩
  ·skip
   obtain ⟨c0,c1,c2,c3,c4,c5⟩:_/\_/\_/\_/\_/\_:=⟨HB.out.cell 0 (by omega),HB.out.cell 1 (by omega),HB.out.cell 2 (by omega),HB.out.cell 3 (by omega),HB.out.cell 4 (by omega),HB.out.cell 5 (by omega)⟩;obtain ⟨d0,d1,d2,d3,d4,d5⟩:_/\_/\_/\_/\_/\_:=⟨HB0.out.cell 0 (by omega),HB0.out.cell 1 (by omega),HB0.out.cell 2 (by omega),HB0.out.cell 3 (by omega),HB0.out.cell 4 (by omega),HB0.out.cell 5 (by omega)⟩;have f0:=HB0.out.frozen;go_wp2;change bodyPost _ _ _ _ _ (put6p wr w.heap.size k);have hp:=xs1 HB0.out k;have e0:=hp.cell 0 (by omega);have e1:=hp.cell 1 (by omega);have e2:=hp.cell 2 (by omega);have e3:=hp.cell 3 (by omega);have e4:=hp.cell 4 (by omega);have e5:=hp.cell 5 (by omega);refine bodyPost_ret (v:=.agg #[.int .i64 (k 0),.int .i64 (k 1),.int .i64 (k 2),.int .i64 (k 3),.int .i64 (k 4),.int .i64 (k 5)]) (by simp [results,Tryz.results24,go_sem,e0,e1,e2,e3,e4,e5]) rfl ?_;exact ⟨k,rfl,HK.out,xi9 HG.out (xs2 _ _ _) (Nat.le_refl _)⟩
theorem xqp(v:Value)(n:Nat)(w:World)(h:IRow w v n):Calls Tryz.prog 24 #[v] w fun e w'=>∃k,e=.returned (.agg #[.int .i64 (k 0),.int .i64 (k 1),.int .i64 (k 2),.int .i64 (k 3),.int .i64 (k 4),.int .i64 (k 5)])/\Rt k/\w.grownBy w' none:=by
 refine (xqo v n w h).mono ?_;rintro e w' ⟨k,rfl,hr,hg⟩;refine ⟨fun i=>if i<6 then k i else 0,rfl,⟨fun i hi=>?_,fun i hi=>?_⟩,hg⟩
 ·show (if i<6 then k i else 0)=0;rw [if_neg (by omega)]
 ·show 0<=(if i<6 then k i else 0)/\(if i<6 then k i else 0)<32;rw [if_pos hi];have:=hr i hi;unfold okF at this;omega
end Go.Proofs.YtlhkfafdioakeaaGreatDoor
