/- Parts of the proof. -/
import Derived.Test.YtlhkfafdioakeaaGreatDoorFi25
namespace Go.Proofs.YtlhkfafdioakeaaGreatDoor
set_option maxRecDepth 100000
set_option maxHeartbeats 8000000
open Go.RowKit Go.Weft Classical
set_option linter.unusedVariables false
set_option linter.unusedSimpArgs false
theorem Ns(pa:Option Addr)(pn pc:Nat)(st:Int)(ra:Nat->Option Addr)(rn rc:Nat->Nat)(o:Nat->Int)(f:Nat)(hf:f<6):(mkC pa pn pc st ra rn rc o)[2+f]?=some (.slice (ra f) (rn f) (rc f))/\(mkC pa pn pc st ra rn rc o)[8+f]?=some (.int .i64 (o f)):=by
 rcases(show f=0\/f=1\/f=2\/f=3\/f=4\/f=5 by omega) with rfl|rfl|rfl|rfl|rfl|rfl<;>exact⟨rfl,rfl⟩
theorem K6{w:World}{b:Nat}{cs:Array Value}{T:TypeId}(h:w.heap[b]?=some (.cells cs T (0,0)))(j:Nat)(u:Value)(hu:cs[j]?=some u):w.cell? ⟨b,j,none⟩=some u:=by simp only[World.cell?,h];simpa using hu
theorem Ez{w w':World}{b:Nat}{ob:Obj}{row:Option Nat}(h:w.heap[b]?=some ob)(hg:w.grownBy w' row)(hr:row≠some b):w'.heap[b]?=some ob:=by
 rw[hg.block b (Array.getElem?_eq_some_iff.1 h).1 hr.symm,h]
theorem X0{k x:Nat->Int}{f:Nat}(h:∀j,j≠f->x j=k j)(v:Int):AB x f v=AB k f v:=by
 funext j;unfold AB;by_cases e:j=f
 ·rw[if_pos e,if_pos e]
 ·rw[if_neg e,if_neg e,h j e]
theorem AD.put{w:World}{b:Nat}{k:Nat->Int}(h:AD w b k)(i:Nat)(hi:i<6)(x:Int):AD (w.setCell ⟨b,i,none⟩ (.int .i64 x)) b (AB k i x):=h.set i hi x
theorem Tl{α β:Type}(g:α->List β)(l:List α)(i:Nat)(v:α)(h:l[i]?=some v):(l.take (i+1)).flatMap g=(l.take i).flatMap g++g v:=by
 rw[List.take_add_one,h];simp[List.flatMap_append]
theorem Th{B:Nat}{w:World}{v:Value}{N:Nat}{rs:Nat->Rl}{AL:Nat->List (Nat->Int)}(h:RlO B w v N rs AL):∀u∈flR rs N,u.oneCell'=true:=
 Mr rs N (fun j hj=>by obtain⟨a,c,e⟩:=(h.own j hj).slice;exact⟨a,_,c,e⟩)
theorem RlO.some{B:Nat}{w:World}{a:Option Addr}{c N:Nat}{rs:Nat->Rl}{AL:Nat->List (Nat->Int)}(h:RlO B w (.slice a N c) N rs AL)(hN:0<N):∃g,a=some ⟨g,0,none⟩/\B<=g/\g<w.heap.size:=by
 obtain⟨_,hr⟩:=h.row;rcases hr with⟨_,e⟩|⟨g,cap,cur,e,h0,h1,_⟩
 ·omega
 ·cases e;exact⟨g,rfl,h0,(Array.getElem?_eq_some_iff.1 h1).1⟩
theorem Qg{ops:Array Oper}{rest:List Oper}{o:Oper}{a:Act}{Q:Exit->Act->World->Prop}(w:World)(hgd:o.guard=none)(s x:Operand)
  (ho:o.op=.call { callee:=.builtin .append,args:=#[s,x],argTypes:=#[36,36] })
  (B C D:Nat) (v:Value) (N:Nat) (rs:Nat->Rl) (AL:Nat->List (Nat->Int)) (hs:a.eval s=v) (hown:RlO B w v N rs AL) (b:Option Addr) (M c:Nat) (ts:Nat->Rl) (BL:Nat->List (Nat->Int)) (hx:a.eval x=.slice b M c) (hsrc:RlO C w (.slice b M c) M ts BL) (hM:0<M) (hb:N+M<=1000000)
  (hne:∀i j,i<N->j<M->∀b,(rs i).av.ownBlock=some b->(ts j).av.ownBlock≠some b) (hDB:D<=B) (hDC:D<=C) (hD:D<=w.heap.size)
  (h:∀v' w',RlO D w' v' (N+M) (Cp N rs ts) (Cp N AL BL)->w.grownBy w' v.ownBlock->wpList Tryz.prog ops Q rest (a.put o.dst v') w'):
  wpList Tryz.prog ops Q (o::rest) a w:=by
 obtain⟨i0,hi,hz0,hz1,hz2⟩:=info_parts Tryz.infoRl;obtain⟨g,rfl,_,_⟩:=hsrc.some hM;refine wpList_append_own w hgd s x 36 ho D 68 i0 _ 8 80 Tryz.underlying36 hi hz0 hz1 hz2 rfl (by decide) v N (flR rs N) hs (Of hown.row hDB) ⟨g,0,none⟩ M c (flR ts M) hx (CB ts M) hsrc.cellAt (Th hsrc) (by unfold maxLen;omega) (by omega) hD ?_;intro v' w' h1 h2 _;exact h v' w' (hown.cat hsrc (Nat.le_total _ _) hne D ⟨hDB,hDC⟩ h1 h2) h2
theorem XU{T:Nat->List Int}{o:Nat->Int}{ac:(Nat->Int)->List (Nat->Int)}{Rt:(Nat->Int)->Prop}{pa:Option Addr}{pn pc:Nat}{st:Int}{ra:Nat->Option Addr}{rn rc:Nat->Nat}{t:Code}(n f:Nat)(hn:n+1<=5)(hfn:f=5-n)
  (ih:∀(k:Nat->Int) (w:World),Rt k->MkF T o ac Rt pa pn pc st ra rn rc t w->Calls Tryz.prog 154 #[.agg (mkC pa pn pc st ra rn rc o),.agg #[.int .i64 (k 0),.int .i64 (k 1),.int .i64 (k 2),.int .i64 (k 3),.int .i64 (k 4),.int .i64 (k 5)],.int .i64 ((f:Int)+1)] w (Gi T o ac n k w))
  (k:Nat->Int) (hk:Rt k) (w:World) (F:MkF T o ac Rt pa pn pc st ra rn rc t w):
  Calls Tryz.prog 154 #[.agg (mkC pa pn pc st ra rn rc o),.agg #[.int .i64 (k 0),.int .i64 (k 1),.int .i64 (k 2),.int .i64 (k 3),.int .i64 (k 4),.int .i64 (k 5)],.int .i64 (f:Int)] w (Gi T o ac (n+1) k w):=by
 obtain⟨MK,hMK⟩:∃MK,MK=mkC pa pn pc st ra rn rc o:=⟨_,rfl⟩;have hf:f<6:=by omega
 have hf1:1<=f:=by omega
 have hf6:((f:Int) == 6)=false:=by rw[beq_eq_false_iff_ne];omega
 obtain⟨w1,hw1⟩:∃w1,w1=w.alloc (.cells MK 112):=⟨_,rfl⟩;obtain⟨w2,hw2⟩:∃w2,w2=w1.alloc (.cells (pkA k) 46):=⟨_,rfl⟩;have z1:w1.heap.size=w.heap.size+1:=by rw[hw1];simp
 have hB:AD w2 (w.heap.size+1) k:=by rw[hw2,<-z1];exact AD.alloc w1 k
 have hg2:w.grownBy w2 none:=by rw[hw2,hw1];exact A1 (World.grownBy_alloc _ _ _) (World.grownBy_alloc _ _ _)
 have hmh:w2.heap[w.heap.size]?=some (.cells MK 112 (0,0)):=by
  have h1:w1.heap[w.heap.size]?=some (.cells MK 112 (0,0)):=by rw[hw1];exact heap_alloc_new w _
  rw[hw2,(World.grownBy_alloc w1 _ none).block w.heap.size (by omega) (by simp),h1]
 -- all cells of the maker
 have MM:Hid (∀(W:World),W.heap[w.heap.size]?=some (.cells MK 112 (0,0))->∀j u,MK[j]?=some u->W.cell? ⟨w.heap.size,j,none⟩=some u):=fun W h j u hu=>K6 h j u hu
 obtain⟨qa,hqa⟩:∃qa,qa=ra f:=⟨_,rfl⟩;obtain⟨qn,hqn⟩:∃qn,qn=rn f:=⟨_,rfl⟩;obtain⟨qc,hqc⟩:∃qc,qc=rc f:=⟨_,rfl⟩;obtain⟨of,hof⟩:∃of,of=o f:=⟨_,rfl⟩;have hrow:MK[2+f]?=some (.slice qa qn qc):=by rw[hMK,hqa,hqn,hqc];exact(Ns pa pn pc st ra rn rc o f hf).1
 have hoth:MK[8+f]?=some (.int .i64 of):=by rw[hMK,hof];exact(Ns pa pn pc st ra rn rc o f hf).2
 have e0:MK[0]?=some (.slice pa pn pc):=by rw[hMK];rfl
 have e1:MK[1]?=some (.int .i64 st):=by rw[hMK];rfl
 have e2:MK[2]?=some (.slice (ra 0) (rn 0) (rc 0)):=by rw[hMK];rfl
 have e3:MK[3]?=some (.slice (ra 1) (rn 1) (rc 1)):=by rw[hMK];rfl
 have e4:MK[4]?=some (.slice (ra 2) (rn 2) (rc 2)):=by rw[hMK];rfl
 have e5:MK[5]?=some (.slice (ra 3) (rn 3) (rc 3)):=by rw[hMK];rfl
 have e6:MK[6]?=some (.slice (ra 4) (rn 4) (rc 4)):=by rw[hMK];rfl
 have e7:MK[7]?=some (.slice (ra 5) (rn 5) (rc 5)):=by rw[hMK];rfl
 have e8:MK[8]?=some (.int .i64 (o 0)):=by rw[hMK];rfl
 have e9:MK[9]?=some (.int .i64 (o 1)):=by rw[hMK];rfl
 have e10:MK[10]?=some (.int .i64 (o 2)):=by rw[hMK];rfl
 have e11:MK[11]?=some (.int .i64 (o 3)):=by rw[hMK];rfl
 have e12:MK[12]?=some (.int .i64 (o 4)):=by rw[hMK];rfl
 have e13:MK[13]?=some (.int .i64 (o 5)):=by rw[hMK];rfl
 have E:Hid (MK[0]?=some (.slice pa pn pc)/\MK[1]?=some (.int .i64 st)/\MK[2]?=some (.slice (ra 0) (rn 0) (rc 0))/\MK[3]?=some (.slice (ra 1) (rn 1) (rc 1))/\MK[4]?=some (.slice (ra 2) (rn 2) (rc 2))/\MK[5]?=some (.slice (ra 3) (rn 3) (rc 3))/\MK[6]?=some (.slice (ra 4) (rn 4) (rc 4))/\MK[7]?=some (.slice (ra 5) (rn 5) (rc 5))/\MK[8]?=some (.int .i64 (o 0))/\MK[9]?=some (.int .i64 (o 1))/\MK[10]?=some (.int .i64 (o 2))/\MK[11]?=some (.int .i64 (o 3))/\MK[12]?=some (.int .i64 (o 4))/\MK[13]?=some (.int .i64 (o 5))):=⟨e0,e1,e2,e3,e4,e5,e6,e7,e8,e9,e10,e11,e12,e13⟩;have HROW:=A0 hrow
 -- what is asked of the fields behind
 have IH:Hid (∀(v:Int),(v∈T f\/v=of)->∀(y:Nat->Int),y=AB k f v->∀ww,w.grownBy ww none->Calls Tryz.prog 154 #[.agg #[.slice pa pn pc,.int .i64 st,.slice (ra 0) (rn 0) (rc 0),.slice (ra 1) (rn 1) (rc 1),.slice (ra 2) (rn 2) (rc 2),.slice (ra 3) (rn 3) (rc 3),.slice (ra 4) (rn 4) (rc 4),.slice (ra 5) (rn 5) (rc 5),.int .i64 (o 0),.int .i64 (o 1),.int .i64 (o 2),.int .i64 (o 3),.int .i64 (o 4),.int .i64 (o 5)],.agg #[.int .i64 (y 0),.int .i64 (y 1),.int .i64 (y 2),.int .i64 (y 3),.int .i64 (y 4),.int .i64 (y 5)],.int .i64 ((f:Int)+1)] ww (Gi T o ac n y ww)):=fun v hv y hy ww hg=>ih y ww (by rw[hy];exact F.put k f v hk hf (by rw[<-hof];exact hv)) (F.grown hg)
 have HF:=A0 F;obtain⟨R,hR⟩:∃R:Int->List ((Nat->Int)×List (Nat->Int)),R=fun v=>AJ T o ac n (AB k f v):=⟨_,rfl⟩
 obtain⟨TG,hTG⟩:∃TG:Int->List ((Nat->Int)×List (Nat->Int)),TG=fun v=>if R v=R of then[] else(R v).map fun r=>(AB r.1 f v,r.2):=⟨_,rfl⟩
 have HFIN:Hid (AJ T o ac (n+1) k=(T f).flatMap TG++R of):=by
  show _=_;rw[AJ,hTG,hR,hof,hfn]
 have HRN:Hid (∀v,R v≠[]/\(R v).length<=100000):=fun v=>by rw[hR];exact⟨Kb _ _,F.few n _ (by omega)⟩
 have HLN:Hid (((T f).flatMap TG++R of).length<=100000):=by
  show _<=_;rw[<-HFIN.o];exact F.few (n+1) k (by omega)
 have HR:=A0 hR;have HTG:=A0 hTG;have HQ:Hid (qn=(T f).length/\∃B,w.ownsRow B 3 1 (.slice qa qn qc) qn (Ao (T f))):=by rw[hqa,hqn,hqc];exact F.tst f hf
 have hqf:qn<=9223372036854775807:=by
  obtain⟨_,B,_,h⟩:=HQ.o;rcases h with⟨_,h⟩|⟨_,_,_,e,_,_,h1,h2,_⟩
  ·omega
  ·cases e;unfold maxLen at h2;omega
 have G2:=A0 hg2;have HB2:=A0 hB;have HM2:=A0 hmh;have m8:w2.cell? ⟨w.heap.size,8+f,none⟩=some (.int .i64 of):=MM.o w2 hmh _ _ hoth;have pf:w2.cell? ⟨w.heap.size+1,f,none⟩=some (.int .i64 (k f)):=hB.cell f hf;have fz:w2.frozen? ⟨w.heap.size+1,f,none⟩=false:=hB.frozen f;have hz:w.heap.size+1<w2.heap.size:=World.block_lt_of_cell? w2 _ pf;rw[hw1,hMK]at hw2;unfold mkC pkA at hw2;unfold mkC;clear hB hg2 hw1 z1 F hk hmh hMK ih e0 e1 e2 e3 e4 e5 e6 e7 e8 e9 e10 e11 e12 e13 hrow hoth hR hTG hqa hqn hqc hof hfn hn;go_enter Tryz.func154,Tryz.ntmps154;go_upto_region 3 with fail
 rw[<-hw2];clear hw2;go_upto_region 4 with fail
 obtain⟨w3,hw3⟩:∃w3,w3=w2.setCell ⟨w.heap.size+1,f,none⟩ (.int .i64 of):=⟨_,rfl⟩;obtain⟨y,hy⟩:∃y,y=AB k f of:=⟨_,rfl⟩;have hgs:w2.grownBy w3 (some (w.heap.size+1)):=by rw[hw3];exact A7 _ _ _ _
 have HB3:Hid (AD w3 (w.heap.size+1) y):=by
  show AD _ _ _;rw[hw3,hy];exact HB2.o.put f hf of
 have HM3:=A0 (Ez HM2.o hgs (by simp));have G3:=A0 (AR G2.o hgs (by omega));rw[<-hw3];have hz3:w.heap.size+2<=w3.heap.size:=by have:=hgs.size;omega
 have n0:=MM.o w3 HM3.o 0 _ E.o.1;have n1:=MM.o w3 HM3.o 1 _ E.o.2.1;have n2:=MM.o w3 HM3.o 2 _ E.o.2.2.1;have n3:=MM.o w3 HM3.o 3 _ E.o.2.2.2.1;have n4:=MM.o w3 HM3.o 4 _ E.o.2.2.2.2.1;have n5:=MM.o w3 HM3.o 5 _ E.o.2.2.2.2.2.1;have n6:=MM.o w3 HM3.o 6 _ E.o.2.2.2.2.2.2.1;have n7:=MM.o w3 HM3.o 7 _ E.o.2.2.2.2.2.2.2.1;have n8:=MM.o w3 HM3.o 8 _ E.o.2.2.2.2.2.2.2.2.1;have n9:=MM.o w3 HM3.o 9 _ E.o.2.2.2.2.2.2.2.2.2.1;have n10:=MM.o w3 HM3.o 10 _ E.o.2.2.2.2.2.2.2.2.2.2.1;have n11:=MM.o w3 HM3.o 11 _ E.o.2.2.2.2.2.2.2.2.2.2.2.1;have n12:=MM.o w3 HM3.o 12 _ E.o.2.2.2.2.2.2.2.2.2.2.2.2.1;have n13:=MM.o w3 HM3.o 13 _ E.o.2.2.2.2.2.2.2.2.2.2.2.2.2;obtain⟨p0,p1,p2,p3,p4,p5⟩:=DS HB3.o;have HC:=A0 (IH.o of (.inr rfl) y hy w3 G3.o);have HYE:=A0 hy;clear hy hw3 hgs m8 pf fz G2 HB2 HM2 hz;go_wp2_with fail;refine HC.o.mono ?_;rintro e w4 ⟨v0,N0,ts,BL,rfl,hO0,hP0,g4⟩;obtain⟨a0,c0,rfl⟩:=hO0.slice;have OT0:=A0 (hO0.mono (show w.heap.size+2<=w3.heap.size by omega));have OU0:=A0 hO0.under
 have PT0:Hid (prL ts BL N0=R of):=by
  show _=_;rw[hP0,HR.o,HYE.o]
 have HM4:=A0 (Ez HM3.o g4 (by simp));have HB4:=A0 (HB3.o.grown g4 (by simp));have G4:=A0 (A1 G3.o g4);have hz4:w.heap.size+2<=w4.heap.size:=by have:=g4.size;omega
 have HN0:0<N0/\N0<=100000:=by
  have h1:=HRN.o of;rw[<-PT0.o]at h1;have h2:=DE ts BL N0;refine⟨?_,by omega⟩;rcases Nat.eq_zero_or_pos N0 with e|e
  ·exact absurd (List.eq_nil_of_length_eq_zero (by omega)) h1.1
  ·exact e
 have mt:=MM.o w4 HM4.o _ _ HROW.o;have HY:Hid (∀j,j≠f->y j=k j):=fun j hj=>by rw[HYE.o];unfold AB;rw[if_neg hj]
 clear hO0 hP0 g4 HC HM3 HB3 G3 hz3 n0 n1 n2 n3 n4 n5 n6 n7 n8 n9 n10 n11 n12 n13 p0 p1 p2 p3 p4 p5 HYE;go_wp2_with fail;clear mt;go_loopw [8,37] (fun s8 s37 wr=>∃(i N:Nat) (rs:Nat->Rl) (AL:Nat->List (Nat->Int)) (x:Nat->Int) (la:Option Addr) (lc:Nat),i<=qn/\s37=.int .i64 i/\s8=.slice la N lc/\RlO w4.heap.size wr (.slice la N lc) N rs AL/\prL rs AL N=((T f).take i).flatMap TG/\RlO (w.heap.size+2) wr (.slice a0 N0 c0) N0 ts BL/\wr.heap[w.heap.size]?=some (.cells MK 112 (0,0))/\AD wr (w.heap.size+1) x/\(∀j,j≠f->x j=k j)/\w.grownBy wr none/\w4.heap.size<=wr.heap.size) (fun _ s37 _=>qn-(intOf s37).toNat)
 case atStart=>exact⟨0,0,fun _=>⟨0,Bw,0,fun _ _=>0,.slice none 0 0⟩,fun _=>[],y,none,0,by omega,rfl,rfl,RlO.nil _ _ _ _,rfl,OT0.o,HM4.o,HB4.o,HY.o,G4.o,Nat.le_refl _⟩
 case round=>
  obtain⟨i,N,rs,AL,x,la,lc,hi,rfl,rfl,hLs,hPl,hOt,hMb,hPk,hX,hG,hSz⟩:=hrel;have LS:=A0 hLs;have PL:=A0 hPl;have OT:=A0 hOt;have MB:=A0 hMb;have PK:=A0 hPk;have HX:=A0 hX;have GR:=A0 hG;clear hLs hPl hOt hMb hPk hX hG OT0 HM4 HB4 G4;by_cases hlt:i<qn
  ·obtain⟨zv,hzv⟩:∃zv,(T f)[i]?=some zv:=⟨_,List.getElem?_eq_getElem (by have:=HQ.o.1;omega)⟩;have HMEM:=A0 (List.mem_of_getElem? hzv);have HZV:=A0 hzv
   obtain⟨gT,hqa,cT⟩:∃gT,qa=some ⟨gT,0,none⟩/\wr.cell? ⟨gT,i,none⟩=some (.int .i64 zv):=by
    obtain⟨hql,B,hl,hr⟩:=HQ.o;rcases hr with⟨_,e⟩|⟨g,cap,cur,e,_,h1,_,_,h4,h5⟩
    ·omega
    ·injection e with e1 e2 e3
     refine⟨g,e1,GR.o.cell ?_ (by simp)⟩;simp only[World.cell?,h1];have:(Ao (T f))[i]?=some (.int .i64 zv):=by unfold Ao;rw[List.getElem?_map,hzv];rfl
     rw[<-h5,List.getElem?_take_of_lt (by omega)]at this;simpa using this
   have HQ2:=A0 HQ.o.1;clear HQ HROW hzv;subst hqa;have pf:wr.cell? ⟨w.heap.size+1,f,none⟩=some (.int .i64 (x f)):=PK.o.cell f hf;have fz:=PK.o.frozen f;have hltI:(i:Int)<qn:=by omega
   go_upto_region 10 with fail
   obtain⟨w5,hw5⟩:∃w5,w5=wr.setCell ⟨w.heap.size+1,f,none⟩ (.int .i64 zv):=⟨_,rfl⟩;obtain⟨y5,hy5⟩:∃y5,y5=AB k f zv:=⟨_,rfl⟩;have hgs:wr.grownBy w5 (some (w.heap.size+1)):=by rw[hw5];exact A7 _ _ _ _
   have PK5:Hid (AD w5 (w.heap.size+1) y5):=by
    show AD _ _ _;rw[hw5,hy5,<-X0 HX.o];exact PK.o.put f hf zv
   have MB5:=A0 (Ez MB.o hgs (by simp));have GR5:=A0 (AR GR.o hgs (by omega));have LS5:=A0 (LS.o.low hgs (fun b e=>by cases e;omega));have OT5:=A0 (OT.o.low hgs (fun b e=>by cases e;omega));have hz5:w4.heap.size<=w5.heap.size:=by have:=hgs.size;omega
   have LU5:=A0 LS5.o.under;rw[<-hw5];have n0:=MM.o w5 MB5.o 0 _ E.o.1;have n1:=MM.o w5 MB5.o 1 _ E.o.2.1;have n2:=MM.o w5 MB5.o 2 _ E.o.2.2.1;have n3:=MM.o w5 MB5.o 3 _ E.o.2.2.2.1;have n4:=MM.o w5 MB5.o 4 _ E.o.2.2.2.2.1;have n5:=MM.o w5 MB5.o 5 _ E.o.2.2.2.2.2.1;have n6:=MM.o w5 MB5.o 6 _ E.o.2.2.2.2.2.2.1;have n7:=MM.o w5 MB5.o 7 _ E.o.2.2.2.2.2.2.2.1;have n8:=MM.o w5 MB5.o 8 _ E.o.2.2.2.2.2.2.2.2.1;have n9:=MM.o w5 MB5.o 9 _ E.o.2.2.2.2.2.2.2.2.2.1;have n10:=MM.o w5 MB5.o 10 _ E.o.2.2.2.2.2.2.2.2.2.2.1;have n11:=MM.o w5 MB5.o 11 _ E.o.2.2.2.2.2.2.2.2.2.2.2.1;have n12:=MM.o w5 MB5.o 12 _ E.o.2.2.2.2.2.2.2.2.2.2.2.2.1;have n13:=MM.o w5 MB5.o 13 _ E.o.2.2.2.2.2.2.2.2.2.2.2.2.2;obtain⟨p0,p1,p2,p3,p4,p5⟩:=DS PK5.o;have HC:=A0 (IH.o zv (.inl HMEM.o) y5 hy5 w5 GR5.o);have HYE:=A0 hy5;clear hy5 hw5 hgs pf fz cT LS OT MB PK HX GR hSz;go_wp2_with fail;refine HC.o.mono ?_;rintro e w6 ⟨v6,M,us,CL,rfl,hO6,hP6,g6⟩;obtain⟨a6,c6,rfl⟩:=hO6.slice;have OW6:=A0 hO6
   have PW6:Hid (prL us CL M=R zv):=by
    show _=_;rw[hP6,HR.o,HYE.o]
   have HM:0<M/\M<=100000:=by
    have h1:=HRN.o zv;rw[<-PW6.o]at h1;have h2:=DE us CL M;refine⟨?_,by omega⟩;rcases Nat.eq_zero_or_pos M with e|e
    ·exact absurd (List.eq_nil_of_length_eq_zero (by omega)) h1.1
    ·exact e
   have LS6:=A0 (LS5.o.kept g6 (fun b e=>by cases e));have OT6:=A0 (OT5.o.kept g6 (fun b e=>by cases e));have MB6:=A0 (Ez MB5.o g6 (by simp));have PK6:=A0 (PK5.o.grown g6 (by simp));have GR6:=A0 (A1 GR5.o g6);have HY5:Hid (∀j,j≠f->y5 j=k j):=fun j hj=>by rw[HYE.o];unfold AB;rw[if_neg hj]
   have hz6:w5.heap.size<=w6.heap.size:=g6.size;have HE:=A0 (TI (.slice a6 M c6) (.slice a0 N0 c0) M N0 us ts CL BL w6 (OW6.o.rd (by omega)) (OT6.o.rd (by omega)));clear hO6 hP6 g6 LS5 OT5 MB5 PK5 GR5 HC HYE n0 n1 n2 n3 n4 n5 n6 n7 n8 n9 n10 n11 n12 n13 p0 p1 p2 p3 p4 p5;go_wp2_with fail;refine HE.o.mono ?_;rintro e w7 ⟨⟨bq,rfl,hbq⟩,g7⟩
   have HBQ:Hid (bq=true↔R zv=R of):=by
    show _↔_;rw[<-PW6.o,<-PT0.o];exact hbq
   have OW7:=A0 (OW6.o.kept g7 (fun b e=>by cases e));have LS7:=A0 (LS6.o.kept g7 (fun b e=>by cases e));have OT7:=A0 (OT6.o.kept g7 (fun b e=>by cases e));have MB7:=A0 (Ez MB6.o g7 (by simp));have PK7:=A0 (PK6.o.grown g7 (by simp));have GR7:=A0 (A1 GR6.o g7);have hz7:w6.heap.size<=w7.heap.size:=g7.size;have HTK:=A0 (Tl TG (T f) i zv HZV.o)
   have hNb:N<=100000:=by
    have h1:=HLN.o;have h2:=congrArg List.length PL.o;rw[DE]at h2;have h3:(T f).flatMap TG=((T f).take i).flatMap TG++((T f).drop i).flatMap TG:=by rw[<-List.flatMap_append,List.take_append_drop]
    rw[h3,List.length_append,List.length_append]at h1;omega
   clear hbq g7 OW6 LS6 OT6 MB6 PK6 GR6 HE;cases bq
   ·have HTV:Hid (TG zv=(R zv).map fun r=>(AB r.1 f zv,r.2)):=by
     show _=_;rw[HTG.o];exact if_neg (fun h=>by have:=HBQ.o.2 h;cases this)
    obtain⟨gO,rfl,hgO,hgO2⟩:=OW7.o.some HM.1;clear HBQ;go_wp2_with fail;go_loopw [54] (fun s54 wq=>∃j:Nat,j<=M/\s54=.int .i64 j/\RlO w5.heap.size wq (.slice (some ⟨gO,0,none⟩) M c6) M (Bu f zv j us) CL/\RlO w4.heap.size wq (.slice la N lc) N rs AL/\RlO (w.heap.size+2) wq (.slice a0 N0 c0) N0 ts BL/\wq.heap[w.heap.size]?=some (.cells MK 112 (0,0))/\AD wq (w.heap.size+1) y5/\w.grownBy wq none/\w7.heap.size<=wq.heap.size) (fun s54 _=>M-(intOf s54).toNat)
    case atStart=>exact⟨0,by omega,rfl,by rw[Yh];exact OW7.o,LS7.o,OT7.o,MB7.o,PK7.o,GR7.o,Nat.le_refl _⟩
    case round=>
     obtain⟨j,hj,rfl,hOW,hLS,hOT,hMB,hPK,hGR,hszq⟩:=hrel;have OW:=A0 hOW;have LS:=A0 hLS;have OT:=A0 hOT;have MB:=A0 hMB;have PK:=A0 hPK;have GR:=A0 hGR;clear hOW hLS hOT hMB hPK hGR OW7 LS7 OT7 MB7 PK7 GR7;by_cases hjM:j<M
     ·have c0':wr.cell? ⟨gO,j*8+1+f,none⟩=some (.int .i64 ((Bu f zv j us j).mt f)):=by
       have h1:=OW.o.cellAt (j*8+(1+f)) _ (D7 _ M j (1+f) hjM (by omega));rw[show(⟨gO,0,none⟩:Addr).add (j*8+(1+f))=⟨gO,j*8+1+f,none⟩ by unfold Addr.add;simp;omega]at h1;rw[h1];unfold rlC;rw[if_neg (by omega),if_pos (by omega),show 1+f-1=f by omega]
      have fz':wr.frozen? ⟨gO,j*8+1+f,none⟩=false:=by
       obtain⟨cur,h1⟩:=FH OW.o.row gO rfl;simp[World.frozen?,h1]
      have hjI:(j:Int)<M:=by omega
      have hg9:=A7 wr gO (j*8+1+f) (.int .i64 zv);have OW9:=OW.o.tag hf hjM;rw[<-Nat.add_assoc]at OW9;have OW9':=A0 OW9;have LS9:=A0 (LS.o.high LU5.o hg9 (fun b e=>by cases e;exact hgO));have OT9:=A0 (OT.o.high OU0.o hg9 (fun b e=>by cases e;omega));have MB9:=A0 (Ez MB.o hg9 (by simp;omega));have PK9:=A0 (PK.o.grown hg9 (by simp;omega));have GR9:=A0 (AR GR.o hg9 (by omega));have hz9:wr.heap.size<=(wr.setCell ⟨gO,j*8+1+f,none⟩ (.int .i64 zv)).heap.size:=hg9.size;clear OW9 hg9 OW LS OT MB PK GR;go_wp2_with fail;go_roundw
      case measure=>simp[intOf];omega
      case rel=>exact⟨j+1,by omega,by first|rfl|go_num,OW9'.o,LS9.o,OT9.o,MB9.o,PK9.o,GR9.o,by omega⟩
     ·obtain rfl:j=M:=by omega
      have hsz:=GR.o.size;go_wp2_with (at_builtin;refine Qg _ rfl _ _ rfl w4.heap.size w5.heap.size w4.heap.size (.slice la N lc) N rs AL rfl LS.o (some ⟨gO,0,none⟩) j c6 (Bu f zv j us) CL rfl OW.o HM.1 (by omega) ?_ (by omega) (by omega) (by omega) ?_)
      ·intro a b ha hb q e1 e2;have:=LU5.o.2 a ha q e1;have:=(OW.o.lt.2 b hb q e2).1;omega
      ·intro v' w' o' g';obtain⟨a9,c9,rfl⟩:=o'.slice;have hrow:∀b,(Value.slice la N lc).ownBlock=some b->w4.heap.size<=b:=fun b e=>(LS.o.lt.1 b e).1
       have O9:=A0 o';have OT9:=A0 (OT.o.high OU0.o g' hrow);have MB9:=A0 (Ez MB.o g' (fun e=>by have:=hrow _ e;omega));have PK9:=A0 (PK.o.grown g' (fun e=>by have:=hrow _ e;omega));have GR9:=A0 (Bk GR.o g' (fun b e=>by have:=hrow b e;omega));have hz9:w4.heap.size<=w'.heap.size:=by have:=g'.size;omega
       clear o' g' hrow OW LS OT MB PK GR;go_wp2_with fail;refine⟨⟨i+1,N+j,_,_,y5,a9,c9,by omega,by go_num,rfl,O9.o,?_,OT9.o,MB9.o,PK9.o,HY5.o,GR9.o,hz9⟩,by simp[intOf];omega⟩;rw[P7,Wv,PL.o,HTK.o,HTV.o,PW6.o]
   ·have HTV:Hid (TG zv=[]):=by
     show _=_;rw[HTG.o];exact if_pos (HBQ.o.1 rfl)
    go_wp2_with fail;exact⟨⟨i+1,N,rs,AL,y5,la,lc,by omega,by go_num,rfl,LS7.o,by rw[PL.o,HTK.o,HTV.o,List.append_nil],OT7.o,MB7.o,PK7.o,HY5.o,GR7.o,by omega⟩,by simp[intOf];omega⟩
  ·obtain rfl:i=qn:=by omega
   have HLE:Hid (prL rs AL N=(T f).flatMap TG):=by
    show _=_;rw[PL.o,HQ.o.1,List.take_length]
   have hNN:N+N0<=100000:=by
    have h1:=HLN.o;rw[<-HLE.o,<-PT0.o,List.length_append,DE,DE]at h1;exact h1
   have hsz:=GR.o.size;go_wp2_with (at_builtin;refine Qg _ rfl _ _ rfl w4.heap.size (w.heap.size+2) w.heap.size (.slice la N lc) N rs AL rfl LS.o a0 N0 c0 ts BL rfl OT.o HN0.1 (by omega) ?_ (by omega) (by omega) hsz ?_)
   ·intro a b ha hb q e1 e2;have:=(LS.o.lt.2 a ha q e1).1;have:=OU0.o.2 b hb q e2;omega
   ·intro v' w' o' g';obtain⟨a9,c9,rfl⟩:=o'.slice;have O9:=A0 o';have G9:=A0 (Bk GR.o g' (fun b e=>by have:=(LS.o.lt.1 b e).1;omega));clear o' g';go_wp2;go_ret;exact⟨_,_,_,_,rfl,O9.o,by rw[P7,HLE.o,PT0.o,HFIN.o],G9.o⟩
end Go.Proofs.YtlhkfafdioakeaaGreatDoor
