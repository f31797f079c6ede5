/- Parts of the proof. -/
import Derived.Test.YtlhkfafdioakeaaGreatDoorFi42
namespace Go.Proofs.YtlhkfafdioakeaaGreatDoor
set_option maxRecDepth 100000
set_option maxHeartbeats 4000000
open Go.RowKit Go.Weft
set_option linter.unusedVariables false
set_option linter.unusedSimpArgs false
def JD(w:World)(role:Nat->Role)(K:Gk)(gb:Nat)(G:Gg)(fv:Value)(en:Bool)(sent:List (Nat->Int))(e:Ending)(w':World):Prop:=
 e=.returned (.bool true)/\∃m role' N S,GAt K gb G fv en m role' N S sent w'/\Kps w role w' role'/\m<=9000000/\∀s,s<K.D->S.wl s=[]/\S.dl s=[]/\S.ul s=[]
structure RnI(w0:World)(role0:Nat->Role)(K:Gk)(gb:Nat)(G:Gg)(fv:Value)(en:Bool)(n:Nat)(sent:List (Nat->Int))(S:Gs Rl (Nat->Int))(f k:Nat)(any:Bool)(wr:World):Prop where
 ex:∃m role N S',GAt K gb G fv en m role N S' sent wr/\Kps w0 role0 wr role/\m<=n+3*k/\(any=false->S'=S/\∀j,j<k->S.wl ((f+j)%K.D)=[]/\S.dl ((f+j)%K.D)=[]/\S.ul ((f+j)%K.D)=[])/\(any=true->K.X.M.all K.D S'<K.X.M.all K.D S)
theorem Sk{D f:Nat}(hf:f<D){P:Nat->Prop}(h:∀j,j<D->P ((f+j)%D)):∀s,s<D->P s:=fun s hs=>by
 by_cases e:f<=s
 ·have:=h (s-f) (by omega);rwa [show f+(s-f)=s by omega,Nat.mod_eq_of_lt hs]at this
 ·have:=h (s+D-f) (by omega);rwa [show f+(s+D-f)=s+D by omega,Nat.add_mod_right,Nat.mod_eq_of_lt hs]at this
theorem RnI.quiet{w0:World}{role0:Nat->Role}{K:Gk}{gb:Nat}{G:Gg}{fv:Value}{en:Bool}{n:Nat}{sent:List (Nat->Int)}{S:Gs Rl (Nat->Int)}{f k:Nat}{any:Bool}{wr w':World}(h:RnI w0 role0 K gb G fv en n sent S f k any wr)(hg:wr.grownBy w' none):RnI w0 role0 K gb G fv en n sent S f k any w':=by
 obtain⟨m,role,N,S',h1,h2,h3⟩:=h.ex;exact⟨m,role,N,S',h1.quiet hg,h2.quiet hg,h3⟩
theorem RnI.next{w0:World}{role0:Nat->Role}{K:Gk}{gb:Nat}{G:Gg}{fv:Value}{en:Bool}{n m:Nat}{sent:List (Nat->Int)}{S S1 S2 S3:Gs Rl (Nat->Int)}{f k sw:Nat}{role:Nat->Role}{N:NetM}{wr:World}(he:Bm K.X sent)(hsw:sw=(f+k)%K.D)(hold:∀j,j<k->S.wl ((f+j)%K.D)=[]/\S.dl ((f+j)%K.D)=[]/\S.ul ((f+j)%K.D)=[])(hm:m<=n+3*k){a b c:Int}(h1:(a=0/\(Bm K.X sent->K.X.M.all K.D S1<K.X.M.all K.D S))\/(a=15/\S1=S/\S.dl sw=[]))(h2:(b=0/\(Bm K.X sent->K.X.M.all K.D S2<K.X.M.all K.D S1))\/(b=15/\S2=S1/\S1.ul sw=[]))(h3:(c=0/\(Bm K.X sent->K.X.M.all K.D S3<K.X.M.all K.D S2))\/(c=15/\S3=S2/\S2.wl sw=[]))(hA:GAt K gb G fv en (m+1+1+1) role N S3 sent wr)(hkp:Kps w0 role0 wr role):
  RnI w0 role0 K gb G fv en n sent S f (k+1) (decide (a=0\/b=0\/c=0)) wr:=by
 refine⟨_,role,N,S3,hA,hkp,by omega,fun e=>?_,fun e=>?_⟩
 ·have e:=of_decide_eq_false e;rcases h1 with⟨rfl,_⟩|⟨rfl,rfl,q1⟩
  ·exact absurd (.inl rfl) e
  rcases h2 with⟨rfl,_⟩|⟨rfl,rfl,q2⟩
  ·exact absurd (.inr (.inl rfl)) e
  rcases h3 with⟨rfl,_⟩|⟨rfl,rfl,q3⟩
  ·exact absurd (.inr (.inr rfl)) e
  refine⟨rfl,fun j hj=>?_⟩;by_cases e2:j=k
  ·subst e2;rw[<-hsw];exact⟨q3,q1,q2⟩
  ·exact hold j (by omega)
 ·have e:=of_decide_eq_true e
  have l1:K.X.M.all K.D S1<=K.X.M.all K.D S:=by
   rcases h1 with⟨_,h⟩|⟨_,h,_⟩
   ·exact Nat.le_of_lt (h he)
   ·rw[h];exact Nat.le_refl _
  have l2:K.X.M.all K.D S2<=K.X.M.all K.D S1:=by
   rcases h2 with⟨_,h⟩|⟨_,h,_⟩
   ·exact Nat.le_of_lt (h he)
   ·rw[h];exact Nat.le_refl _
  have l3:K.X.M.all K.D S3<=K.X.M.all K.D S2:=by
   rcases h3 with⟨_,h⟩|⟨_,h,_⟩
   ·exact Nat.le_of_lt (h he)
   ·rw[h];exact Nat.le_refl _
  rcases e with rfl|rfl|rfl
  ·rcases h1 with⟨_,h⟩|⟨h,_⟩
   ·have:=h he;omega
   ·cases h
  ·rcases h2 with⟨_,h⟩|⟨h,_⟩
   ·have:=h he;omega
   ·cases h
  ·rcases h3 with⟨_,h⟩|⟨h,_⟩
   ·have:=h he;omega
   ·cases h
theorem TX{K:Gk}(hK:K.ok){gb:Nat}{G:Gg}{fv:Value}{en:Bool}{n:Nat}{role:Nat->Role}{N:NetM}{S:Gs Rl (Nat->Int)}{sent:List (Nat->Int)}{w:World}(h:GAt K gb G fv en n role N S sent w)(hn:n<=4000000){s0:ByteArray}(hW:BrW K.w0 G s0 K.t K.ld)(hev:Evy K.w0)(he:Bm K.X sent){tv:Value}{tn:Nat}(ht:Dg K.w0 tv tn):
  Calls Tryz.prog 45 #[.pointer (some ⟨gb,0,none⟩),tv] w (JD w role K gb G fv en sent):=by
 obtain⟨⟨ta,tc,rfl⟩,htn⟩:=ht.slice;obtain⟨P,hP⟩:∃P,P=JD w role K gb G fv en sent:=⟨_,rfl⟩;rw[<-hP];have HP:=A0 hP;have hD:=hK.D;have HDD:Hid (∃D,D=K.D):=⟨_,rfl⟩;obtain⟨D,hDD⟩:=HDD.o;have hD6:D<=6:=by omega
 have hD1:1<=D:=by omega
 have HD:=A0 hDD;have HK:=A0 hK
 have HT:Hid (∀ww s,w.grownBy ww none->s<D->Calls Tryz.prog 62 #[.pointer (some ⟨G.pb,0,none⟩),.int .i64 s] ww fun e w'=>∃a c,e=.returned (.tuple #[.slice a (K.T s).length c,.int .i64 0])/\ww.grownBy w' none):=fun ww s hg hs=>by
  have hold:=A1 h.net.old hg;refine(hK.table (by omega) (hW.pol.1.grown hold) (hev.grown hold)).mono ?_;rintro e w' ⟨v,rs,AL,ALT,rfl,h1,_,h2,_⟩;obtain⟨a,c,rfl⟩:=He h1.row;exact⟨a,c,rfl,h2⟩
 have HTL:Hid (∀s,s<D->(K.T s).length<=1660):=fun s hs=>((hK.tb s (by omega)).can hK.rd (by omega)).1
 have hM:=Qo h.net.inv he;have HH:=A0 h;have HE:=A0 he;have HIR:=A0 ht;have hgbl:gb<w.heap.size:=(Array.getElem?_eq_some_iff.1 h.blk).1;obtain⟨M0,hM0⟩:∃M0,M0=K.X.M.all K.D S:=⟨_,rfl⟩;have HM0:=A0 hM0;have HML:Hid (M0<=750+AW (fun s=>4*(K.T s).length+5) D):=by show M0<=_;rw[hM0,hDD];exact hM
 have HGB:Hid (∀ww,w.grownBy ww none->ww.cell? ⟨gb,0,none⟩=some (.pointer (some ⟨G.pb,0,none⟩))/\ww.cell? ⟨gb,2,none⟩=some (.int .i64 D)):=fun ww hg=>by
  have hb:=(h.quiet hg).blk;exact⟨A6 hb 0 _ rfl,by rw[hDD,<-h.D];exact A6 hb 2 _ rfl⟩
 clear hP hK h hev hW he ht hM hM0 hDD HDD hD;go_enter Tryz.func45,Tryz.ntmps45;go_wp2_with fail;go_loopw [5,6] (fun s5 s6 wr=>∃s:Nat,s<=D/\s6=.int .i64 s/\s5=.int .i64 ((10000+10*AW (fun j=>(K.T j).length) s:Nat):Int)/\AW (fun j=>(K.T j).length) s<=1660*s/\w.grownBy wr none) (fun _ s6 _=>D-(intOf s6).toNat)
 case atStart=>exact⟨0,Nat.zero_le _,rfl,rfl,Nat.le_refl _,AA _ _⟩
 case round=>
  obtain⟨s,hs,rfl,rfl,hsl,hg⟩:=hrel;have HG:=A0 hg;obtain⟨g0,g2⟩:=HGB.o wr hg;obtain⟨q,hq⟩:∃q,q=AW (fun j=>(K.T j).length) s:=⟨_,rfl⟩;rw[<-hq]at hsl;rw[<-hq];have HQ:=A0 hq;clear hg hq;by_cases hlt:s<D
  ·have hltI:(s:Int)<D:=by omega
   have TB:=A0 (HT.o wr s HG.o hlt);obtain⟨tl,htl⟩:∃tl,tl=(K.T s).length:=⟨_,rfl⟩;have htl2:tl<=1660:=by rw[htl];exact HTL.o s hlt
   rw[<-htl]at TB;have HTl:=A0 htl;clear htl;go_wp2_with fail;refine TB.o.mono ?_;rintro e w2 ⟨a2,c2,rfl,g2'⟩;have G2:=A0 (A1 HG.o g2');clear g2' TB g0 g2;go_wp2_with fail;refine⟨⟨s+1,by omega,by go_num,?_,?_,G2.o⟩,by simp[intOf];omega⟩
   ·show _=Value.int .i64 ((10000+10*(AW (fun j=>(K.T j).length) s+(K.T s).length):Nat):Int);rw[<-HQ.o,<-HTl.o];go_num
   ·show AW (fun j=>(K.T j).length) s+(K.T s).length<=_;rw[<-HQ.o,<-HTl.o];omega
  ·obtain rfl:s=D:=by omega
   have HMq:Hid (M0<10000+10*q):=by
    have h1:=HML.o;have e1:AW (fun j=>4*(K.T j).length+5) s=4*q+AW (fun _=>5) s:=by rw[Kx,Kz,HQ.o]
    have e2:AW (fun _=>5) s<=30:=by
     have:∀m,m<=6->AW (fun _=>5) m<=5*m:=fun m _=>by
      induction m with
      | zero=>exact Nat.le_refl _
      | succ m ih=>have:=ih (by omega);rw[AW];omega
     have:=this s hD6;omega
    show M0<_;rw[e1]at h1;omega
   have hq2:q<=9960:=by omega
   have hMq:=HMq.o;have I0:Hid (GAt K gb G fv en n role N S sent wr):=HH.o.quiet HG.o;clear g0;go_wp2_with fail;clear g2;go_loopw [9] (fun s9 wq=>∃(i m:Nat) (role':Nat->Role) (N':NetM) (S':Gs Rl (Nat->Int)),s9=.int .i64 i/\GAt K gb G fv en m role' N' S' sent wq/\Kps w role wq role'/\m<=n+18*i/\K.X.M.all K.D S'+i<=M0) (fun s9 _=>(10000+10*q)-(intOf s9).toNat)
   case atStart=>exact⟨0,n,role,N,S,rfl,I0.o,(Kps.refl _ _).quiet HG.o,by omega,by rw[HM0.o];exact Nat.le_refl _⟩
   case round=>
    obtain⟨i,m,role1,N1,S1,rfl,hA,hkp1,hm,hMi⟩:=hrel;have HKP1:=A0 hkp1;clear hkp1;have hiI:(i:Int)<((10000+10*q:Nat):Int):=by omega
    have HA:=A0 hA;have HMI:=A0 hMi;have g2:wr.cell? ⟨gb,2,none⟩=some (.int .i64 s):=by rw[HD.o,<-hA.D];exact A6 hA.blk 2 _ rfl
    have GO:Hid (∀f:Nat,f<s->RnI w role K gb G fv en m sent S1 f 0 false wr):=fun f hf=>⟨m,role1,N1,S1,HA.o,HKP1.o,Nat.le_refl _,fun _=>⟨rfl,fun j hj=>by omega⟩,fun e=>by cases e⟩
    have hib:i<=110000:=by omega
    clear hA hMi
    obtain⟨f,hf,hcut⟩:∃f:Nat,f<s/\((tn=0/\f=0)\/(0<tn/\∃z:Int,(∃g off,ta=some ⟨g,off,none⟩/\wr.cell? ⟨g,off+i%tn,none⟩=some (.int .i64 z))/\∀ww,Calls Tryz.prog 30 #[.int .i64 z,.int .i64 s] ww fun e w'=>e=.returned (.int .i64 f)/\w'=ww)):=by
     by_cases e0:tn=0
     ·exact⟨0,by omega,.inl ⟨e0,rfl⟩⟩
     ·have hI:=HIR.o.grown HA.o.net.old;rcases hI with⟨a,c,_,e⟩|⟨g,off,cap,e,_,hz⟩
      ·omega
      ·cases e;obtain⟨z,z1,z2,z3⟩:=hz (i%tn) (Nat.mod_lt _ (by omega));have h1:=CO z s (by omega);refine⟨(Ay z s).toNat,by omega,.inr ⟨by omega,z,⟨g,off,rfl,z1⟩,fun ww=>?_⟩⟩;rw[show(((Ay z s).toNat:Nat):Int)=Ay z s by omega];exact Ds z s ww (by omega) (by omega) z2 z3
    have HIN:Hid (RnI w role K gb G fv en m sent S1 f 0 false wr):=GO.o f hf;clear GO;have HCUT:=A0 hcut;clear hcut
    go_upto_if 47 with fail
    go_cut [10] (fun s10 wx=>s10=.int .i64 f/\wr.grownBy wx none)
    case first=>
     rcases HCUT.o with⟨rfl,rfl⟩|⟨htp,z,⟨g,off,rfl,hz⟩,hpk⟩
     ·go_wp2_with fail;go_meet
      exact⟨rfl,AA _ _⟩
     ·have HPK:=A0 hpk;have htI:(0:Int)<tn:=by omega
      have htne:¬(tn:Int)=0:=by omega
      have htne2:¬tn=0:=by omega
      have hrm:(i:Int).tmod (tn:Int)=((i%tn:Nat):Int):=by rw[Int.ofNat_tmod]
      obtain⟨ix,hix⟩:∃ix,ix=i%tn:=⟨_,rfl⟩;have hixl:(ix:Int)<tn:=by have:=Nat.mod_lt i htp;omega
      rw[<-hix]at hz hrm;have HS:Hid (∀wx,wr.grownBy wx none->(wx.cell? ⟨gb,2,none⟩=some (.int .i64 s)/\wx.cell? ⟨g,off+ix,none⟩=some (.int .i64 z))):=fun wx hx=>⟨hx.cell g2 (by simp),hx.cell hz (by simp)⟩
      have HG0:Hid (wr.grownBy wr.drew none):=Ai (AA _ _);clear hpk hix;go_wp2_with fail
      go_region_held3 (fun wx=>(wx.cell? ⟨gb,2,none⟩=some (.int .i64 s)/\wx.cell? ⟨g,off+ix,none⟩=some (.int .i64 z))) (exact HS.o _ HG0.o) ((
         go_at_call 30;refine Calls.mono (HPK.o _) ?_;rintro e w' ⟨rfl,rfl⟩))
      all_goals
       go_wp2_with fail;go_meet
       exact⟨rfl,HG0.o⟩
    case rest=>
     obtain⟨rfl,hgc⟩:=hcut;have HIC:=A0 (HIN.o.quiet hgc);clear hgc HIN HCUT g2 HA;have hmb:m<=6000000:=by omega
     go_wp2_with fail;go_loopw [11,12] (fun s11 s12 wq=>∃(k:Nat) (any:Bool),k<=s/\s12=.int .i64 k/\s11=.bool any/\RnI w role K gb G fv en m sent S1 f k any wq) (fun _ s12 _=>s-(intOf s12).toNat)
     case atStart=>exact⟨0,false,Nat.zero_le _,rfl,rfl,HIC.o⟩
     case round=>
      obtain⟨k,any,hk,rfl,rfl,hR⟩:=hrel;obtain⟨m2,role2,N2,S2,hA2,hkp2,hm2,hf2,ht2⟩:=hR.ex;have HKP2:=A0 hkp2;clear hkp2;have g2:wr.cell? ⟨gb,2,none⟩=some (.int .i64 s):=by rw[HD.o,<-hA2.D];exact A6 hA2.blk 2 _ rfl
      have g1:=hA2.cell1;have HA2:=A0 hA2;by_cases hc:k<s/\any=false
      ·obtain⟨hlt,rfl⟩:=hc;have hltI:(k:Int)<s:=by omega
       obtain⟨rfl,hold⟩:=hf2 rfl;have HOLD:=A0 hold;obtain⟨sw,hsw⟩:∃sw,sw=(f+k)%s:=⟨_,rfl⟩;have hswl:sw<s:=by rw[hsw];exact Nat.mod_lt _ (by omega)
       have hne:¬(s:Int)=0:=by omega
       have hne2:¬s=0:=by omega
       have hrm:((f:Int)+(k:Int)).tmod (s:Int)=(sw:Int):=by rw[hsw,<-Int.natCast_add,Int.ofNat_tmod]
       have HSW:Hid (sw=(f+k)%K.D):=by show sw=_;rw[<-HD.o];exact hsw
       have hswK:Hid (sw<K.D):=by show sw<_;rw[<-HD.o];exact hswl
       have TK:=A0 (Ya HK.o HA2.o (by omega) hswK.o);clear hR hA2 hf2 ht2 hold hsw;go_wp2_with fail;refine TK.o.mono ?_;rintro e w3 ⟨e1,role3,N3,S3,rfl,hA3,kp3,ho1⟩;have KP3:=A0 (HKP2.o.trans kp3);clear kp3;have CT:=A0 (YW HK.o hA3 (by omega) hswK.o);have c1:=hA3.cell1;have HO1:=A0 ho1;clear hA3 ho1 TK g1 g2;go_wp2_with fail;refine CT.o.mono ?_;rintro e w4 ⟨e2,role4,N4,S4,rfl,hA4,kp4,ho2⟩;have KP4:=A0 (KP3.o.trans kp4);clear kp4;have DO:=A0 (tDo HK.o hA4 (by omega) hswK.o);have d1:=hA4.cell1;have HO2:=A0 ho2;clear hA4 ho2 CT c1;go_wp2_with fail;refine DO.o.mono ?_;rintro e w5 ⟨e3,role5,N5,S5,rfl,hA5,kp5,ho3⟩;have R5:=A0 (RnI.next HE.o HSW.o HOLD.o hm2 HO1.o HO2.o ho3 hA5 (KP4.o.trans kp5));have hv1:e1=0\/e1=15:=by rcases HO1.o with h|h;exact .inl h.1;exact .inr h.1
       have hv2:e2=0\/e2=15:=by rcases HO2.o with h|h;exact .inl h.1;exact .inr h.1
       have hv3:e3=0\/e3=15:=by rcases ho3 with h|h;exact .inl h.1;exact .inr h.1
       clear hA5 ho3 DO d1 HO1 HO2 kp5 KP3 KP4;rcases hv1 with rfl|rfl<;>rcases hv2 with rfl|rfl<;>rcases hv3 with rfl|rfl
       all_goals
        go_wp2_with fail;refine⟨?_,by simp[intOf];omega⟩;repeat apply Exists.intro
        first|exact⟨k+1,_,by omega,by go_num,rfl,R5.o⟩|exact⟨⟨k+1,_,by omega,by go_num,rfl,R5.o⟩,rfl⟩
      ·have hcc:(¬(k:Int)<s/\any=false)\/any=true:=by
        cases any with
        | true=>exact .inr rfl
        | false=>exact .inl ⟨fun e=>hc ⟨by omega,rfl⟩,rfl⟩
       rcases hcc with⟨hI,rfl⟩|rfl
       ·have FIN:Hid (P (.returned (.bool true)) wr):=by
         rw[HP.o];obtain⟨rfl,hall⟩:=hf2 rfl;refine⟨rfl,m2,role2,N2,S2,HA2.o,HKP2.o,by omega,?_⟩;rw[<-HD.o];rw[<-HD.o]at hall;exact Sk hf (fun j hj=>hall j (by omega))
        clear hR hA2 hf2 ht2 hc;go_wp2_with fail;exact FIN.o
       ·have hlt:=ht2 rfl;have hMi:=HMI.o;have NX:Hid (m2<=n+18*(i+1)/\K.X.M.all K.D S2+(i+1)<=M0):=⟨by omega,by omega⟩;clear hR hA2 hf2 ht2 hc hlt hMi;by_cases hI:(k:Int)<s
        ·go_wp2_with fail;exact⟨⟨i+1,m2,role2,N2,S2,by go_num,HA2.o,HKP2.o,NX.o.1,NX.o.2⟩,by simp[intOf];omega⟩
        ·go_wp2_with fail;exact⟨⟨i+1,m2,role2,N2,S2,by go_num,HA2.o,HKP2.o,NX.o.1,NX.o.2⟩,by simp[intOf];omega⟩
end Go.Proofs.YtlhkfafdioakeaaGreatDoor
