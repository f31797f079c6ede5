/- Parts of the proof. -/
import Derived.Test.YtlhkfafdioakeaaGreatDoorSf26
namespace Go.Proofs.YtlhkfafdioakeaaGreatDoor
set_option maxRecDepth 100000
set_option maxHeartbeats 4000000
open Go.RowKit Go.Weft Classical
set_option linter.unusedVariables false
set_option linter.unusedSimpArgs false
theorem xul{T:Nat->List Int}{o:Nat->Int}{ac:(Nat->Int)->List (Nat->Int)}{Rt:(Nat->Int)->Prop}{pa:Option Addr}{pn pc:Nat}{st:Int}{ra:Nat->Option Addr}{rn rc:Nat->Nat}{t:Code}:∀(n f:Nat),n<=5->f=6-n->∀(k:Nat->Int) (w:World),Rt k->MkF T o ac Rt pa pn pc st ra rn rc t w->
  Calls Tryz.prog 154 #[.agg (mkC pa pn pc st ra rn rc o),.agg #[.int .i64 (k 0),.int .i64 (k 1),.int .i64 (k 2),.int .i64 (k 3),.int .i64 (k 4),.int .i64 (k 5)],.int .i64 (f:Int)] w (RlsO T o ac n k w)
 | 0,f,_,hf,k,w,hk,F=>by
  subst hf;exact xum k hk w F
 | n+1,f,hn,hf,k,w,hk,F=>by
  refine xuw n f hn (by omega) (fun k w hk F=>?_) k hk w F;have:=xul n (f+1) (by omega) (by omega) k w hk F;rw [show ((f+1:Nat):Int)=(f:Int)+1 by omega] at this;exact this
structure RlQ(B:Nat)(w:World)(v:Value)(N:Nat)(rs:Nat->Rl)(AL:Nat->List (Nat->Int)):Prop where
 row:w.ownsRow B 68 8 v N (flR rs N)
 own:∀j,j<N->OwnV B w (rs j).av (rs j).na (rs j).acts
 is:∀j,j<N->Is (AL j) (rs j).na (rs j).acts
 anm:∀j,j<N->∀x∈AL j,Nm x
 nm:∀j,j<N->Nm (rs j).mt
 apart:∀i j,i<j->j<N->∀b,(rs i).av.ownBlock=some b->(rs j).av.ownBlock≠some b
theorem RlO.q{B:Nat}{w:World}{v:Value}{N:Nat}{rs:Nat->Rl}{AL:Nat->List (Nat->Int)}(h:RlO B w v N rs AL):RlQ B w v N rs AL:=⟨h.row,h.own,h.is,h.anm,h.nm,h.apart⟩
def priR(N i:Nat)(rs:Nat->Rl):Nat->Rl:=fun j=>if j<i then ⟨(N:Int)-1-(j:Int),(rs j).mt,(rs j).na,(rs j).acts,(rs j).av⟩ else rs j
theorem xsq{N i:Nat}{rs:Nat->Rl}(j:Nat):(priR N i rs j).na=(rs j).na/\(priR N i rs j).acts=(rs j).acts/\(priR N i rs j).av=(rs j).av/\(priR N i rs j).mt=(rs j).mt:=by
 unfold priR;split<;>exact ⟨rfl,rfl,rfl,rfl⟩
theorem xsr(N:Nat)(rs:Nat->Rl):priR N 0 rs=rs:=by funext j;unfold priR;rw [if_neg (by omega)]
theorem xho(rs:Nat->Rl)(i N:Nat)(hi:i<N):(flR (priR N i rs) N).set (i*8) (.int .i64 ((N:Int)-1-(i:Int)))=flR (priR N (i+1) rs) N:=by
 refine List.ext_getElem? (fun t=>?_);by_cases ht:t<N*8
 ·have h1:=xhk (priR N i rs) N (t/8) (t%8) (by omega) (by omega);have h2:=xhk (priR N (i+1) rs) N (t/8) (t%8) (by omega) (by omega);rw [show t/8*8+t%8=t by omega] at h1 h2;rw [List.getElem?_set,h1,h2,xhl];obtain ⟨_,_,e1,e2⟩:=xsq (N:=N) (i:=i) (rs:=rs) (t/8);obtain ⟨_,_,e3,e4⟩:=xsq (N:=N) (i:=i+1) (rs:=rs) (t/8);rw [e1,e2,e3,e4];by_cases e:i*8=t
  ·rw [if_pos e,if_pos (by omega)];have ed:t/8=i:=by omega
   have em:t%8=0:=by omega
   rw [em,ed];unfold rlC priR;rw [if_pos rfl,if_pos (by omega)]
  ·rw [if_neg e];congr 1;unfold rlC;split
   ·rename_i h0;congr 1;unfold priR;by_cases a:t/8<i
    ·rw [if_pos a,if_pos (by omega)]
    ·rw [if_neg a,if_neg (by omega)]
   ·rfl
 ·rw [List.getElem?_eq_none (by simp [xhl];omega),List.getElem?_eq_none (by rw [xhl];omega)]
theorem RlQ.pri{B:Nat}{w:World}{g N c:Nat}{rs:Nat->Rl}{AL:Nat->List (Nat->Int)}{i:Nat}(hi:i<N)(h:RlQ B w (.slice (some ⟨g,0,none⟩) N c) N (priR N i rs) AL):RlQ B (w.setCell ⟨g,i*8,none⟩ (.int .i64 ((N:Int)-1-(i:Int)))) (.slice (some ⟨g,0,none⟩) N c) N (priR N (i+1) rs) AL:=by
 have hg:=xjc w g (i*8) (.int .i64 ((N:Int)-1-(i:Int)));have ht:=xqn h.row;have e1:=fun j=>xsq (N:=N) (i:=i) (rs:=rs) j
 have e2:=fun j=>xsq (N:=N) (i:=i+1) (rs:=rs) j
 refine ⟨?_,fun j hj=>?_,fun j hj=>?_,h.anm,fun j hj=>?_,fun a b hab hb=>?_⟩
 ·obtain ⟨hl,hr⟩:=h.row;rcases hr with ⟨e,_⟩|⟨g',cap,cur,e,h0,h1,h2,h3,h4,h5⟩
  ·cases e
  ·cases e;refine ⟨by rw [xhl],.inr ⟨g,c,_,rfl,h0,xjh h1 _ _,h2,h3,by simp [h4],?_⟩⟩;rw [<-xho rs i N hi,<-h5];simp [List.take_set]
 ·have:=h.own j hj;rw [(e1 j).1,(e1 j).2.1,(e1 j).2.2.1] at this;rw [(e2 j).1,(e2 j).2.1,(e2 j).2.2.1];exact xqa this hg (fun b e=>by cases e;exact ht _ rfl) (by decide)
 ·have:=h.is j hj;rw [(e1 j).1,(e1 j).2.1] at this;rw [(e2 j).1,(e2 j).2.1];exact this
 ·have:=h.nm j hj;rw [(e1 j).2.2.2] at this;rw [(e2 j).2.2.2];exact this
 ·rw [(e2 a).2.2.1,(e2 b).2.2.1,<-(e1 a).2.2.1,<-(e1 b).2.2.1];exact h.apart a b hab hb
theorem RlQ.cell0{B:Nat}{w:World}{g N c:Nat}{rs:Nat->Rl}{AL:Nat->List (Nat->Int)}(h:RlQ B w (.slice (some ⟨g,0,none⟩) N c) N rs AL)(j:Nat)(hj:j<N):w.cell? ⟨g,j*8,none⟩=some (.int .i64 (rs j).prio)/\w.frozen? ⟨g,j*8,none⟩=false:=by
 obtain ⟨_,hr⟩:=h.row;rcases hr with ⟨e,_⟩|⟨g',cap,cur,e,_,h1,_,_,_,h5⟩
 ·cases e
 ·cases e;have:=xhk rs N j 0 hj (by omega);rw [<-h5,List.getElem?_take_of_lt (by omega)] at this;refine ⟨?_,by simp [World.frozen?,h1]⟩;simp only [World.cell?,h1];simpa [rlC] using this
theorem xsm(N:Nat)(rs:Nat->Rl)(AL:Nat->List (Nat->Int)):prL (priR N N rs) AL N=prL rs AL N:=by
 rw [xsk];exact fun j _=>⟨(xsq j).2.2.2,rfl⟩
def TblO(T:Nat->List Int)(o:Nat->Int)(ac:(Nat->Int)->List (Nat->Int))(k:Nat->Int)(B:Nat)(w':World)(v:Value):Prop:=
 ∃N rs AL,0<N/\N<=100000/\RlQ B w' v N rs AL/\(∀j,j<N->(rs j).prio=(N:Int)-1-(j:Int))/\prL rs AL N=xuj T o ac 5 k
def swK(z:Int):Nat->Int:=fun i=>if i=0 then z else 0
theorem xny{T:Nat->List Int}{o:Nat->Int}{ac:(Nat->Int)->List (Nat->Int)}{Rt:(Nat->Int)->Prop}{pa:Option Addr}{pn pc:Nat}{st:Int}{ra:Nat->Option Addr}{rn rc:Nat->Nat}{t:Code}(z:Int)(hk:Rt (swK z))(w:World)(F:MkF T o ac Rt pa pn pc st ra rn rc t w):
  Calls Tryz.prog 103 #[.agg (mkC pa pn pc st ra rn rc o),.int .i64 z] w fun e w'=>∃v,e=.returned v/\TblO T o ac (swK z) w.heap.size w' v/\w.grownBy w' none:=by
 obtain ⟨w1,hw1⟩:∃w1,w1=w.alloc (.cells (mkC pa pn pc st ra rn rc o) 112):=⟨_,rfl⟩;have hg1:w.grownBy w1 none:=by rw [hw1];exact World.grownBy_alloc _ _ _
 have HC:=hide (xul (T:=T) (o:=o) (ac:=ac) (Rt:=Rt) 5 1 (by omega) rfl (swK z) w1 hk (F.grown hg1))
 have HL:Hid (∀N rs AL,prL rs AL N=xuj T o ac 5 (swK z)->0<N/\N<=100000):=fun N rs AL h=>by
  have h1:=F.few 5 (swK z) (by omega);have h2:=xuq (T:=T) (o:=o) (ac:=ac) 5 (swK z);rw [<-h] at h1 h2;rw [xsl] at h1;refine ⟨?_,h1⟩;rcases Nat.eq_zero_or_pos N with e|e
  ·subst e;exact absurd rfl h2
  ·exact e
 have G1:=hide hg1;have m:∀j u,(mkC pa pn pc st ra rn rc o)[j]?=some u->w1.cell? ⟨w.heap.size,j,none⟩=some u:=fun j u h=>xm9 (by rw [hw1];exact heap_alloc_new w _) j u h
 have m0:=m 0 _ rfl;have m1:=m 1 _ rfl;have m2:=m 2 _ rfl;have m3:=m 3 _ rfl;have m4:=m 4 _ rfl;have m5:=m 5 _ rfl;have m6:=m 6 _ rfl;have m7:=m 7 _ rfl;have m8:=m 8 _ rfl;have m9:=m 9 _ rfl;have m10:=m 10 _ rfl;have m11:=m 11 _ rfl;have m12:=m 12 _ rfl;have m13:=m 13 _ rfl;have hz1:w.heap.size<=w1.heap.size:=hg1.size;unfold mkC at hw1 HC ⊢;clear F hk hg1 m;go_enter Tryz.func103,Tryz.ntmps103;go_upto_region 1 with fail
 rw [<-hw1];clear hw1;go_wp2_with fail;refine HC.out.mono ?_;rintro e w2 ⟨v,N,rs,AL,rfl,hO,hP,g2⟩;obtain ⟨a,c,rfl⟩:=hO.slice;obtain ⟨hN0,hNf⟩:=HL.out N rs AL hP;obtain ⟨g,rfl,hg,_⟩:=hO.some hN0;have OQ0:=hide (hO.mono hz1).q;have HP:=hide hP;have G2:=hide (xje G1.out g2);clear hO hP g2 HC G1 HL m0 m1 m2 m3 m4 m5 m6 m7 m8 m9 m10 m11 m12 m13;go_wp2_with fail;go_loopw [13] (fun s13 wq=>∃i:Nat,i<=N/\s13=.int .i64 i/\RlQ w.heap.size wq (.slice (some ⟨g,0,none⟩) N c) N (priR N i rs) AL/\w.grownBy wq none) (fun s13 _=>N-(intOf s13).toNat)
 case atStart=>exact ⟨0,by omega,rfl,by rw [xsr];exact OQ0.out,G2.out⟩
 case round=>
  obtain ⟨i,hi,rfl,hQ,hG⟩:=hrel;have OQ:=hide hQ;have GR:=hide hG;clear hQ hG OQ0 G2;by_cases hlt:i<N
  ·obtain ⟨c0,f0⟩:=OQ.out.cell0 i hlt;have OQ2:=hide (OQ.out.pri hlt);have GR2:=hide (xi9 GR.out (xjc wr g (i*8) (.int .i64 ((N:Int)-1-(i:Int)))) (by omega));have hltI:(i:Int)<N:=by omega
   clear OQ GR;go_wp2_with fail;go_roundw
   case measure=>simp [intOf];omega
   case rel=>exact ⟨i+1,by omega,by first|rfl|go_num,OQ2.out,GR2.out⟩
  ·obtain rfl:i=N:=by omega
   go_wp2;go_ret;refine ⟨_,rfl,⟨i,_,AL,hN0,hNf,OQ.out,fun j hj=>?_,by rw [xsm];exact HP.out⟩,GR.out⟩;unfold priR;rw [if_pos hj]
end Go.Proofs.YtlhkfafdioakeaaGreatDoor
