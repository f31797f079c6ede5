/- Parts of the proof. -/
import Derived.Test.YtlhkfafdioakeaaGreatDoorFi07
import Derived.Test.YtlhkfafdioakeaaGreatDoorFi26
namespace Go.Proofs.YtlhkfafdioakeaaGreatDoor
set_option maxRecDepth 100000
set_option maxHeartbeats 4000000
open Go.RowKit Go.Weft Classical
set_option linter.unusedVariables false
set_option linter.unusedSimpArgs false
theorem Pa{T:Nat->List Int}{o:Nat->Int}{ac:(Nat->Int)->List (Nat->Int)}{Rt:(Nat->Int)->Prop}{pa:Option Addr}{pn pc:Nat}{st:Int}{ra:Nat->Option Addr}{rn rc:Nat->Nat}{t:Code}:∀(n f:Nat),n<=5->f=6-n->∀(k:Nat->Int) (w:World),Rt k->MkF T o ac Rt pa pn pc st ra rn rc t w->
  Calls Tryz.prog 154 #[.agg (mkC pa pn pc st ra rn rc o),.agg #[.int .i64 (k 0),.int .i64 (k 1),.int .i64 (k 2),.int .i64 (k 3),.int .i64 (k 4),.int .i64 (k 5)],.int .i64 (f:Int)] w (Gi T o ac n k w)
 | 0,f,_,hf,k,w,hk,F=>by
  subst hf;exact XR k hk w F
 | n+1,f,hn,hf,k,w,hk,F=>by
  refine XU n f hn (by omega) (fun k w hk F=>?_) k hk w F;have:=Pa n (f+1) (by omega) (by omega) k w hk F;rw[show((f+1:Nat):Int)=(f:Int)+1 by omega]at this;exact this
structure RlQ(B:Nat)(w:World)(v:Value)(N:Nat)(rs:Nat->Rl)(AL:Nat->List (Nat->Int)):Prop where
 row:w.ownsRow B 68 8 v N (flR rs N)
 own:∀j,j<N->AH B w (rs j).av (rs j).na (rs j).acts
 is:∀j,j<N->Is (AL j) (rs j).na (rs j).acts
 anm:∀j,j<N->∀x∈AL j,Nm x
 nm:∀j,j<N->Nm (rs j).mt
 apart:∀i j,i<j->j<N->∀b,(rs i).av.ownBlock=some b->(rs j).av.ownBlock≠some b
theorem RlO.q{B:Nat}{w:World}{v:Value}{N:Nat}{rs:Nat->Rl}{AL:Nat->List (Nat->Int)}(h:RlO B w v N rs AL):RlQ B w v N rs AL:=⟨h.row,h.own,h.is,h.anm,h.nm,h.apart⟩
def CG(N i:Nat)(rs:Nat->Rl):Nat->Rl:=fun j=>if j<i then⟨(N:Int)-1-(j:Int),(rs j).mt,(rs j).na,(rs j).acts,(rs j).av⟩ else rs j
theorem Hg{N i:Nat}{rs:Nat->Rl}(j:Nat):(CG N i rs j).na=(rs j).na/\(CG N i rs j).acts=(rs j).acts/\(CG N i rs j).av=(rs j).av/\(CG N i rs j).mt=(rs j).mt:=by
 unfold CG;split<;>exact⟨rfl,rfl,rfl,rfl⟩
theorem Ww(N:Nat)(rs:Nat->Rl):CG N 0 rs=rs:=by funext j;unfold CG;rw[if_neg (by omega)]
theorem Ti(rs:Nat->Rl)(i N:Nat)(hi:i<N):(flR (CG N i rs) N).set (i*8) (.int .i64 ((N:Int)-1-(i:Int)))=flR (CG N (i+1) rs) N:=by
 refine List.ext_getElem? (fun t=>?_);by_cases ht:t<N*8
 ·have h1:=D7 (CG N i rs) N (t/8) (t%8) (by omega) (by omega);have h2:=D7 (CG N (i+1) rs) N (t/8) (t%8) (by omega) (by omega);rw[show t/8*8+t%8=t by omega]at h1 h2;rw[List.getElem?_set,h1,h2,CB];obtain⟨_,_,e1,e2⟩:=Hg (N:=N) (i:=i) (rs:=rs) (t/8);obtain⟨_,_,e3,e4⟩:=Hg (N:=N) (i:=i+1) (rs:=rs) (t/8);rw[e1,e2,e3,e4];by_cases e:i*8=t
  ·rw[if_pos e,if_pos (by omega)];have ed:t/8=i:=by omega
   have em:t%8=0:=by omega
   rw[em,ed];unfold rlC CG;rw[if_pos rfl,if_pos (by omega)]
  ·rw[if_neg e];congr 1;unfold rlC;split
   ·rename_i h0;congr 1;unfold CG;by_cases a:t/8<i
    ·rw[if_pos a,if_pos (by omega)]
    ·rw[if_neg a,if_neg (by omega)]
   ·rfl
 ·rw[List.getElem?_eq_none (by simp[CB];omega),List.getElem?_eq_none (by rw[CB];omega)]
theorem RlQ.pri{B:Nat}{w:World}{g N c:Nat}{rs:Nat->Rl}{AL:Nat->List (Nat->Int)}{i:Nat}(hi:i<N)(h:RlQ B w (.slice (some ⟨g,0,none⟩) N c) N (CG N i rs) AL):RlQ B (w.setCell ⟨g,i*8,none⟩ (.int .i64 ((N:Int)-1-(i:Int)))) (.slice (some ⟨g,0,none⟩) N c) N (CG N (i+1) rs) AL:=by
 have hg:=A7 w g (i*8) (.int .i64 ((N:Int)-1-(i:Int)));have ht:=FH h.row;have e1:=fun j=>Hg (N:=N) (i:=i) (rs:=rs) j
 have e2:=fun j=>Hg (N:=N) (i:=i+1) (rs:=rs) j
 refine⟨?_,fun j hj=>?_,fun j hj=>?_,h.anm,fun j hj=>?_,fun a b hab hb=>?_⟩
 ·obtain⟨hl,hr⟩:=h.row;rcases hr with⟨e,_⟩|⟨g',cap,cur,e,h0,h1,h2,h3,h4,h5⟩
  ·cases e
  ·cases e;refine⟨by rw[CB],.inr ⟨g,c,_,rfl,h0,AI h1 _ _,h2,h3,by simp[h4],?_⟩⟩;rw[<-Ti rs i N hi,<-h5];simp[List.take_set]
 ·have:=h.own j hj;rw[(e1 j).1,(e1 j).2.1,(e1 j).2.2.1]at this;rw[(e2 j).1,(e2 j).2.1,(e2 j).2.2.1];exact FG this hg (fun b e=>by cases e;exact ht _ rfl) (by decide)
 ·have:=h.is j hj;rw[(e1 j).1,(e1 j).2.1]at this;rw[(e2 j).1,(e2 j).2.1];exact this
 ·have:=h.nm j hj;rw[(e1 j).2.2.2]at this;rw[(e2 j).2.2.2];exact this
 ·rw[(e2 a).2.2.1,(e2 b).2.2.1,<-(e1 a).2.2.1,<-(e1 b).2.2.1];exact h.apart a b hab hb
theorem RlQ.cell0{B:Nat}{w:World}{g N c:Nat}{rs:Nat->Rl}{AL:Nat->List (Nat->Int)}(h:RlQ B w (.slice (some ⟨g,0,none⟩) N c) N rs AL)(j:Nat)(hj:j<N):w.cell? ⟨g,j*8,none⟩=some (.int .i64 (rs j).prio)/\w.frozen? ⟨g,j*8,none⟩=false:=by
 obtain⟨_,hr⟩:=h.row;rcases hr with⟨e,_⟩|⟨g',cap,cur,e,_,h1,_,_,_,h5⟩
 ·cases e
 ·cases e;have:=D7 rs N j 0 hj (by omega);rw[<-h5,List.getElem?_take_of_lt (by omega)]at this;refine⟨?_,by simp[World.frozen?,h1]⟩;simp only[World.cell?,h1];simpa[rlC] using this
theorem Wu(N:Nat)(rs:Nat->Rl)(AL:Nat->List (Nat->Int)):prL (CG N N rs) AL N=prL rs AL N:=by
 rw[KN];exact fun j _=>⟨(Hg j).2.2.2,rfl⟩
def Lg(T:Nat->List Int)(o:Nat->Int)(ac:(Nat->Int)->List (Nat->Int))(k:Nat->Int)(B:Nat)(w':World)(v:Value):Prop:=
 ∃N rs AL,0<N/\N<=100000/\RlQ B w' v N rs AL/\(∀j,j<N->(rs j).prio=(N:Int)-1-(j:Int))/\prL rs AL N=AJ T o ac 5 k
def swK(z:Int):Nat->Int:=fun i=>if i=0 then z else 0
theorem Nw{T:Nat->List Int}{o:Nat->Int}{ac:(Nat->Int)->List (Nat->Int)}{Rt:(Nat->Int)->Prop}{pa:Option Addr}{pn pc:Nat}{st:Int}{ra:Nat->Option Addr}{rn rc:Nat->Nat}{t:Code}(z:Int)(hk:Rt (swK z))(w:World)(F:MkF T o ac Rt pa pn pc st ra rn rc t w):
  Calls Tryz.prog 103 #[.agg (mkC pa pn pc st ra rn rc o),.int .i64 z] w fun e w'=>∃v,e=.returned v/\Lg T o ac (swK z) w.heap.size w' v/\w.grownBy w' none:=by
 obtain⟨w1,hw1⟩:∃w1,w1=w.alloc (.cells (mkC pa pn pc st ra rn rc o) 112):=⟨_,rfl⟩;have hg1:w.grownBy w1 none:=by rw[hw1];exact World.grownBy_alloc _ _ _
 have HC:=A0 (Pa (T:=T) (o:=o) (ac:=ac) (Rt:=Rt) 5 1 (by omega) rfl (swK z) w1 hk (F.grown hg1))
 have HL:Hid (∀N rs AL,prL rs AL N=AJ T o ac 5 (swK z)->0<N/\N<=100000):=fun N rs AL h=>by
  have h1:=F.few 5 (swK z) (by omega);have h2:=Kb (T:=T) (o:=o) (ac:=ac) 5 (swK z);rw[<-h]at h1 h2;rw[DE]at h1;refine⟨?_,h1⟩;rcases Nat.eq_zero_or_pos N with e|e
  ·subst e;exact absurd rfl h2
  ·exact e
 have G1:=A0 hg1;have m:∀j u,(mkC pa pn pc st ra rn rc o)[j]?=some u->w1.cell? ⟨w.heap.size,j,none⟩=some u:=fun j u h=>K6 (by rw[hw1];exact heap_alloc_new w _) j u h
 have m0:=m 0 _ rfl;have m1:=m 1 _ rfl;have m2:=m 2 _ rfl;have m3:=m 3 _ rfl;have m4:=m 4 _ rfl;have m5:=m 5 _ rfl;have m6:=m 6 _ rfl;have m7:=m 7 _ rfl;have m8:=m 8 _ rfl;have m9:=m 9 _ rfl;have m10:=m 10 _ rfl;have m11:=m 11 _ rfl;have m12:=m 12 _ rfl;have m13:=m 13 _ rfl;have hz1:w.heap.size<=w1.heap.size:=hg1.size;unfold mkC at hw1 HC ⊢;clear F hk hg1 m;go_enter Tryz.func103,Tryz.ntmps103;go_upto_region 1 with fail
 rw[<-hw1];clear hw1;go_wp2_with fail;refine HC.o.mono ?_;rintro e w2 ⟨v,N,rs,AL,rfl,hO,hP,g2⟩;obtain⟨a,c,rfl⟩:=hO.slice;obtain⟨hN0,hNf⟩:=HL.o N rs AL hP;obtain⟨g,rfl,hg,_⟩:=hO.some hN0;have OQ0:=A0 (hO.mono hz1).q;have HP:=A0 hP;have G2:=A0 (A1 G1.o g2);clear hO hP g2 HC G1 HL m0 m1 m2 m3 m4 m5 m6 m7 m8 m9 m10 m11 m12 m13;go_wp2_with fail;go_loopw [13] (fun s13 wq=>∃i:Nat,i<=N/\s13=.int .i64 i/\RlQ w.heap.size wq (.slice (some ⟨g,0,none⟩) N c) N (CG N i rs) AL/\w.grownBy wq none) (fun s13 _=>N-(intOf s13).toNat)
 case atStart=>exact⟨0,by omega,rfl,by rw[Ww];exact OQ0.o,G2.o⟩
 case round=>
  obtain⟨i,hi,rfl,hQ,hG⟩:=hrel;have OQ:=A0 hQ;have GR:=A0 hG;clear hQ hG OQ0 G2;by_cases hlt:i<N
  ·obtain⟨c0,f0⟩:=OQ.o.cell0 i hlt;have OQ2:=A0 (OQ.o.pri hlt);have GR2:=A0 (AR GR.o (A7 wr g (i*8) (.int .i64 ((N:Int)-1-(i:Int)))) (by omega));have hltI:(i:Int)<N:=by omega
   clear OQ GR;go_wp2_with fail;go_roundw
   case measure=>simp[intOf];omega
   case rel=>exact⟨i+1,by omega,by first|rfl|go_num,OQ2.o,GR2.o⟩
  ·obtain rfl:i=N:=by omega
   go_wp2;go_ret;refine⟨_,rfl,⟨i,_,AL,hN0,hNf,OQ.o,fun j hj=>?_,by rw[Wu];exact HP.o⟩,GR.o⟩;unfold CG;rw[if_pos hj]
open Go.RowKit Go.Weft
def Ci(R:Nat->Rl)(xs:Nat->Value)(i:Nat):Nat->Rl:=fun j=>⟨(R j).prio,(R j).mt,(R j).na,(R j).acts,if j<i then xs j else(R j).av⟩
def Ce(xs:Nat->Value)(i:Nat)(v:Value):Nat->Value:=fun j=>if j=i then v else xs j
theorem Tg(R:Nat->Rl)(xs:Nat->Value)(v:Value)(i N:Nat)(hi:i<N):(flR (Ci R xs i) N).set (i*8+7) v=flR (Ci R (Ce xs i v) (i+1)) N:=by
 refine List.ext_getElem? (fun t=>?_);by_cases ht:t<N*8
 ·have h1:=D7 (Ci R xs i) N (t/8) (t%8) (by omega) (by omega);have h2:=D7 (Ci R (Ce xs i v) (i+1)) N (t/8) (t%8) (by omega) (by omega);rw[show t/8*8+t%8=t by omega]at h1 h2;rw[List.getElem?_set,h1,h2,CB];by_cases e:i*8+7=t
  ·rw[if_pos e,if_pos (by omega)];have ed:t/8=i:=by omega
   have em:t%8=7:=by omega
   rw[em,ed];unfold rlC Ci Ce;simp
  ·rw[if_neg e];congr 1;unfold rlC Ci;simp only;split
   ·rfl
   ·split
    ·rfl
    ·have hne:t/8≠i:=by omega
     by_cases a:t/8<i
     ·rw[if_pos a,if_pos (by omega)];unfold Ce;rw[if_neg hne]
     ·rw[if_neg a,if_neg (by omega)]
 ·rw[List.getElem?_eq_none (by simp[CB];omega),List.getElem?_eq_none (by rw[CB];omega)]
theorem PU(L:List Rl):Ba L=flR (rlF L) L.length:=by
 refine List.ext_getElem? (fun t=>?_);by_cases ht:t<L.length*8
 ·have h1:=KZ L (t/8) (t%8) (by omega) (by omega);have h2:=D7 (rlF L) L.length (t/8) (t%8) (by omega) (by omega);rw[show t/8*8+t%8=t by omega]at h1 h2;rw[h1,h2];have hm:t%8<8:=by omega
  generalize t%8=m at hm;rcases(show m=0\/m=1\/m=2\/m=3\/m=4\/m=5\/m=6\/m=7 by omega) with rfl|rfl|rfl|rfl|rfl|rfl|rfl|rfl<;>rfl
 ·rw[List.getElem?_eq_none (by rw[XM];omega),List.getElem?_eq_none (by rw[CB];omega)]
structure RuI(w:World)(L:List Rl)(g c:Nat)(i:Nat)(xs:Nat->Value)(wr:World):Prop where
 row:wr.ownsRow w.heap.size 68 8 (.slice (some ⟨g,0,none⟩) L.length c) L.length (flR (Ci (rlF L) xs i) L.length)
 own:∀j,j<i->AH w.heap.size wr (xs j) (rlF L j).na (rlF L j).acts
 apart:∀a b,a<b->b<i->∀k,(xs a).ownBlock=some k->(xs b).ownBlock≠some k
 gr:w.grownBy wr none
theorem RuI.next{w:World}{L:List Rl}{g c i:Nat}{xs:Nat->Value}{wr w2:World}(h:RuI w L g c i xs wr)(hi:i<L.length){v:Value}(hg:wr.grownBy w2 none)(ho:AH wr.heap.size w2 v (rlF L i).na (rlF L i).acts):RuI w L g c (i+1) (Ce xs i v) (w2.setCell ⟨g,i*8+7,none⟩ v):=by
 have hr2:=h.row.kept hg (.inr (fun e=>by cases e));have gs:=A7 w2 g (i*8+7) v;have ht:=FH hr2;have hgw:w.heap.size<=g:=(h.row.lt g rfl).1;refine⟨?_,fun j hj=>?_,fun a b hab hb k hk=>?_,Bk (A1 h.gr hg) gs (fun b e=>by cases e;exact hgw)⟩
 ·obtain⟨hl,hr⟩:=hr2;rcases hr with⟨e,_⟩|⟨g',cap,cur,e,h0,h1,h2,h3,h4,h5⟩
  ·cases e
  ·cases e;refine⟨by rw[CB],.inr ⟨g,c,_,rfl,h0,AI h1 _ _,h2,h3,by simp[h4],?_⟩⟩;rw[<-Tg (rlF L) xs v i L.length hi,<-h5];simp[List.take_set]
 ·by_cases e:j=i
  ·subst e;have:Ce xs j v j=v:=by unfold Ce;rw[if_pos rfl]
   rw[this];exact FG (ho.mono h.gr.size) gs (fun b e=>by cases e;exact ht _ rfl) (by decide)
  ·have:Ce xs i v j=xs j:=by unfold Ce;rw[if_neg e]
   rw[this];exact FG ((h.own j (by omega)).grown hg (fun b e=>by cases e)) gs (fun b e=>by cases e;exact ht _ rfl) (by decide)
 ·have ha:Ce xs i v a=xs a:=by unfold Ce;rw[if_neg (by omega)]
  rw[ha]at hk;by_cases e:b=i
  ·have:Ce xs i v b=v:=by unfold Ce;rw[if_pos e]
   rw[this];intro hv;have h1:=((h.own a (by omega)).lt k hk).2;have h2:=(ho.lt k hv).1;omega
  ·have:Ce xs i v b=xs b:=by unfold Ce;rw[if_neg e]
   rw[this];exact h.apart a b hab (by omega) k hk
theorem Xz{w:World}{v:Value}{n:Nat}{ps:Nat->Nat->Int}(h:AG w v n ps):Src w v n 6 (fl ps n):=by
 refine⟨Dj ps n,Mu ps n,?_⟩;rcases h with⟨h1,h2⟩|⟨g,off,cap,rfl,h2,h3⟩
 ·exact .inl ⟨h1,h2⟩
 ·refine .inr ⟨_,_,rfl,fun j u hj=>?_⟩;have hj6:j<n*6:=by rw[<-Dj ps n];exact(List.getElem?_eq_some_iff.1 hj).1
  have e:=Gw ps n (j/6) (j%6) (by omega) (by omega);rw[show j/6*6+j%6=j by omega,hj]at e;cases e;rw[show(⟨g,off,none⟩:Addr).add j=⟨g,off+j/6*6+j%6,none⟩ by rw[show off+j/6*6+j%6=off+j by omega];unfold Addr.add;split<;>simp_all];exact h3 (j/6) (by omega) (j%6) (by omega)
def RuO(L:List Rl)(w:World)(v:Value)(w':World):Prop:=∃xs,w'.ownsRow w.heap.size 68 8 v L.length (flR (Ci (rlF L) xs L.length) L.length)/\(∀j,j<L.length->AH w.heap.size w' (xs j) (rlF L j).na (rlF L j).acts)/\(∀a b,a<b->b<L.length->∀k,(xs a).ownBlock=some k->(xs b).ownBlock≠some k)/\w.grownBy w' none
theorem Vy(w:World){B nb:Nat}{role:Nat->Role}{N:NetM}(h:NetAt w B nb role N){s:Nat}(hs:s<N.D)(hl:(N.dv s).rl.length<=1000000)(hna:∀j,j<(N.dv s).rl.length->(rlF (N.dv s).rl j).na<=1000000):
  Calls Tryz.prog 134 #[.pointer (some ⟨nb,0,none⟩),.int .i64 s] w fun e w'=>∃v,e=.returned v/\RuO (N.dv s).rl w v w':=by
 obtain⟨L,hL⟩:∃L,L=(N.dv s).rl:=⟨_,rfl⟩;obtain⟨P,hP⟩:∃P:Ending->World->Prop,P=fun e w'=>∃v,e=.returned v/\RuO L w v w':=⟨_,rfl⟩
 rw[<-hL,<-hP];rw[<-hL]at hl hna;have HP:=A0 hP;have hnb:w.cell? ⟨nb,4,none⟩=some (.slice (some ⟨N.db,0,none⟩) N.D N.D):=A6 h.net 4 _ rfl;have hds:=h.dsz;have hsI:(s:Int)<N.D:=by omega
 obtain⟨cur,c1,c2,c3⟩:=h.dev;have d0:w.cell? ⟨N.db,s*5,none⟩=some ((N.dv s).vs 0):=A6 c1 (s*5+0) _ (c3 s hs 0 (by omega));have hq:A9 0 w 68 8 ((N.dv s).vs 0) (N.dv s).rl.length (Ba (N.dv s).rl):=((h.dvs s hs).row 0 (by omega)).q;rw[<-hL]at hq;obtain⟨va,vc,hv⟩:=hq.slice;rw[hv]at d0 hq
 have hone:∀u∈Ba L,u.oneCell'=true:=by
  rw[PU];refine Mr (rlF L) L.length (fun j hj=>?_)
  have hm:rlF L j∈(N.dv s).rl:=by
   rw[<-hL];unfold rlF;rw[List.getElem?_eq_getElem hj];exact List.getElem_mem hj
  rcases((h.dvs s hs).ru (rlF L j) (.inl hm)).pk with⟨e,_⟩|⟨g,off,cap,e,_⟩
  ·exact⟨_,_,_,e⟩
  ·exact⟨_,_,_,e⟩
 have HRU:Hid (∀j,j<L.length->AG w (rlF L j).av (rlF L j).na (rlF L j).acts):=fun j hj=>by
  have hm:rlF L j∈(N.dv s).rl:=by
   rw[<-hL];unfold rlF;rw[List.getElem?_eq_getElem hj];exact List.getElem_mem hj
  exact((h.dvs s hs).ru (rlF L j) (.inl hm)).pk
 obtain⟨n,hn⟩:∃n,n=L.length:=⟨_,rfl⟩
 have CL:Hid (Calls Tryz.prog 185 #[.slice va n vc] w fun e w'=>∃v,e=.returned v/\w'.ownsRow w.heap.size 68 8 v n (Ba L)/\w.grownBy w' none):=by
  rw[hn];exact SK _ _ _ w (hq.src hone) (by omega)
 rw[<-hn]at d0 hl;have HN:=A0 hn;have HNA:=A0 hna;clear h hP c1 c2 c3 hv hq hone hL hn hna;go_enter Tryz.func134,Tryz.ntmps134;go_wp2_with fail;refine CL.o.mono ?_;rintro e w1 ⟨v,rfl,ho,g1⟩;rcases ho.2 with⟨rfl,h0⟩|⟨g,cap,cur1,rfl,hB,hb1,hcap,hmx,hsz,htk⟩
 ·subst h0
  have F0:Hid (P (.returned (.slice none 0 0)) w1):=by
   rw[HP.o];have h0:=HN.o;have e0:L=[]:=List.length_eq_zero_iff.1 h0.symm;subst e0;exact⟨_,rfl,fun _=>.slice none 0 0,⟨rfl,.inl ⟨rfl,rfl⟩⟩,(fun j hj=>by cases hj),(fun a b _ hb=>by cases hb),g1⟩
  clear ho g1 CL;go_wp2_with fail;go_loopw [18] (fun s18 wq=>s18=.int .i64 0/\wq=w1) (fun _ _=>0)
  case atStart=>exact⟨rfl,rfl⟩
  case round=>
   obtain⟨rfl,rfl⟩:=hrel;go_wp2_with fail;exact F0.o
 ·have I0:Hid (RuI w L g cap 0 (fun _=>.slice none 0 0) w1):=by
   refine⟨?_,(fun j hj=>by cases hj),(fun a b _ hb=>by cases hb),g1⟩;have e:Ci (rlF L) (fun _=>.slice none 0 0) 0=rlF L:=by funext j;unfold Ci;rw[if_neg (by omega)]
   rw[e,<-PU,<-HN.o];exact ho
  clear ho g1 CL hB hb1 hcap hmx hsz htk;go_wp2_with fail;go_loopw [18] (fun s18 wq=>∃(i:Nat) (xs:Nat->Value),i<=n/\s18=.int .i64 i/\RuI w L g cap i xs wq) (fun s18 _=>n-(intOf s18).toNat)
  case atStart=>exact⟨0,_,Nat.zero_le _,rfl,I0.o⟩
  case round=>
   obtain⟨i,xs,hi,rfl,hI⟩:=hrel;have HI:=A0 hI;by_cases hlt:i<n
   ·have hltI:(i:Int)<n:=by omega
    have hlL:i<L.length:=by have:=HN.o;omega
    obtain⟨av,hav⟩:∃av,av=(rlF L i).av:=⟨_,rfl⟩
    have hcell:∀t,t<8->wr.cell? ⟨g,i*8+t,none⟩=some (rlC (rlF L i).prio (rlF L i).mt (rlF L i).av t):=fun t ht=>by
     obtain⟨_,hr⟩:=hI.row;rcases hr with⟨e,_⟩|⟨g',cap',cur,e,_,h1,_,_,_,h5⟩
     ·cases e
     ·cases e;have:=D7 (Ci (rlF L) xs i) L.length i t hlL ht;rw[<-h5,List.getElem?_take_of_lt (by omega)]at this;simp only[World.cell?,h1];have e:(Ci (rlF L) xs i i).av=(rlF L i).av:=by unfold Ci;simp
      rw[e]at this;have this:_=some (rlC (rlF L i).prio (rlF L i).mt (rlF L i).av t):=this;simpa using this
    have c7:wr.cell? ⟨g,i*8+7,none⟩=some av:=by rw[hav];exact hcell 7 (by omega)
    have hfz:wr.frozen? ⟨g,i*8+7,none⟩=false:=by
     obtain⟨_,hr⟩:=hI.row;rcases hr with⟨e,_⟩|⟨g',cap',cur,e,_,h1,_,_,_,h5⟩
     ·cases e
     ·cases e;simp[World.frozen?,h1]
    obtain⟨sa,sn,sc,hsv⟩:∃a l c,av=.slice a l c:=by
     rw[hav];rcases HRU.o i hlL with⟨e,_⟩|⟨g,off,cap,e,_⟩
     ·exact⟨_,_,_,e⟩
     ·exact⟨_,_,_,e⟩
    have CP:Hid (∀ww,wr.grownBy ww none->Calls Tryz.prog 184 #[.slice sa sn sc] ww fun e w'=>∃a l c,e=.returned (.slice a l c)/\wr.grownBy w' none/\RuI w L g cap (i+1) (Ce xs i (.slice a l c)) (w'.setCell ⟨g,i*8+7,none⟩ (.slice a l c))/\w'.cell? ⟨g,i*8+7,none⟩=some (.slice sa sn sc)/\w'.frozen? ⟨g,i*8+7,none⟩=false):=fun ww hg=>by
     have hpk:=HRU.o i hlL;rw[<-hav,hsv]at hpk;have hpk2:AG ww (.slice sa sn sc) (rlF L i).na (rlF L i).acts:=hpk.grown (A1 hI.gr hg);refine(JW _ _ _ ww (Xz hpk2) (by have:=HNA.o i hlL;omega)).mono ?_;rintro e w' ⟨v,rfl,h1,h2⟩;have hg2:=A1 hg h2;obtain⟨a,c,rfl⟩:=He h1;exact⟨a,_,c,rfl,hg2,hI.next hlL hg2 (AH.of (Ii h1 hg.size) (by have:=HNA.o i hlL;omega)),by rw[<-hsv];exact hg2.cell c7 (by simp),by rw[World.frozen?_of_block (hg2.block g (World.block_lt_of_cell? wr _ c7) (by simp))];exact hfz⟩
    rw[hsv]at c7;have GWR:Hid (wr.grownBy wr none):=AA _ _;clear hI hcell hav;go_wp2_with fail;refine(CP.o wr GWR.o).mono ?_;rintro e w2 ⟨a2,l2,k2,rfl,g2,hI2,c2,f2⟩;have HI2:=A0 hI2;clear hI2 g2 CP c7 hfz;go_wp2_with fail;exact⟨⟨i+1,_,by omega,by go_num,HI2.o⟩,by simp[intOf];omega⟩
   ·obtain rfl:i=n:=by omega
    have F0:Hid (P (.returned (.slice (some ⟨g,0,none⟩) i cap)) wr):=by
     rw[HP.o];have h1:=hI.row;have hn:=HN.o;subst hn;exact⟨_,rfl,xs,h1,hI.own,hI.apart,hI.gr⟩
    clear hI;go_wp2_with fail;exact F0.o
end Go.Proofs.YtlhkfafdioakeaaGreatDoor
