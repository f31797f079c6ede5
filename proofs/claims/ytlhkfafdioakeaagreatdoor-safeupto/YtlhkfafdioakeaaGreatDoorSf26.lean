/- Parts of the proof. -/
import Derived.Test.YtlhkfafdioakeaaGreatDoorSf25
namespace Go.Proofs.YtlhkfafdioakeaaGreatDoor
set_option maxRecDepth 100000
set_option maxHeartbeats 8000000
open Go.RowKit Go.Weft Classical
set_option linter.unusedVariables false
set_option linter.unusedSimpArgs false
theorem xnn(pa:Option Addr)(pn pc:Nat)(st:Int)(ra:Nat->Option Addr)(rn rc:Nat->Nat)(o:Nat->Int)(f:Nat)(hf:f<6):(mkC pa pn pc st ra rn rc o)[2+f]?=some (.slice (ra f) (rn f) (rc f))/\(mkC pa pn pc st ra rn rc o)[8+f]?=some (.int .i64 (o f)):=by
 rcases (show f=0\/f=1\/f=2\/f=3\/f=4\/f=5 by omega) with rfl|rfl|rfl|rfl|rfl|rfl<;>exact ⟨rfl,rfl⟩
theorem xm9{w:World}{b:Nat}{cs:Array Value}{T:TypeId}(h:w.heap[b]?=some (.cells cs T (0,0)))(j:Nat)(u:Value)(hu:cs[j]?=some u):w.cell? ⟨b,j,none⟩=some u:=by simp only [World.cell?,h];simpa using hu
theorem xna{w w':World}{b:Nat}{ob:Obj}{row:Option Nat}(h:w.heap[b]?=some ob)(hg:w.grownBy w' row)(hr:row≠some b):w'.heap[b]?=some ob:=by
 rw [hg.block b (Array.getElem?_eq_some_iff.1 h).1 hr.symm,h]
theorem xs3{k x:Nat->Int}{f:Nat}(h:∀j,j≠f->x j=k j)(v:Int):putF x f v=putF k f v:=by
 funext j;unfold putF;by_cases e:j=f
 ·rw [if_pos e,if_pos e]
 ·rw [if_neg e,if_neg e,h j e]
theorem pkBlk.put{w:World}{b:Nat}{k:Nat->Int}(h:pkBlk w b k)(i:Nat)(hi:i<6)(x:Int):pkBlk (w.setCell ⟨b,i,none⟩ (.int .i64 x)) b (putF k i x):=h.set i hi x
theorem xhx{α β:Type}(g:α->List β)(l:List α)(i:Nat)(v:α)(h:l[i]?=some v):(l.take (i+1)).flatMap g=(l.take i).flatMap g++g v:=by
 rw [List.take_add_one,h];simp [List.flatMap_append]
theorem xhn{B:Nat}{w:World}{v:Value}{N:Nat}{rs:Nat->Rl}{AL:Nat->List (Nat->Int)}(h:RlO B w v N rs AL):∀u∈flR rs N,u.oneCell'=true:=
 xhm rs N (fun j hj=>by obtain ⟨a,c,e⟩:=(h.own j hj).slice;exact ⟨a,_,c,e⟩)
theorem RlO.some{B:Nat}{w:World}{a:Option Addr}{c N:Nat}{rs:Nat->Rl}{AL:Nat->List (Nat->Int)}(h:RlO B w (.slice a N c) N rs AL)(hN:0<N):∃g,a=some ⟨g,0,none⟩/\B<=g/\g<w.heap.size:=by
 obtain ⟨_,hr⟩:=h.row;rcases hr with ⟨_,e⟩|⟨g,cap,cur,e,h0,h1,_⟩
 ·omega
 ·cases e;exact ⟨g,rfl,h0,(Array.getElem?_eq_some_iff.1 h1).1⟩
theorem x1f{ops:Array Oper}{rest:List Oper}{o:Oper}{a:Act}{Q:Exit->Act->World->Prop}(w:World)(hgd:o.guard=none)(s x:Operand)
  (ho:o.op=.call { callee:=.builtin .append,args:=#[s,x],argTypes:=#[36,36] })
  (B C D:Nat) (v:Value) (N:Nat) (rs:Nat->Rl) (AL:Nat->List (Nat->Int)) (hs:a.eval s=v) (hown:RlO B w v N rs AL) (b:Option Addr) (M c:Nat) (ts:Nat->Rl) (BL:Nat->List (Nat->Int)) (hx:a.eval x=.slice b M c) (hsrc:RlO C w (.slice b M c) M ts BL) (hM:0<M) (hb:N+M<=1000000)
  (hne:∀i j,i<N->j<M->∀b,(rs i).av.ownBlock=some b->(ts j).av.ownBlock≠some b) (hDB:D<=B) (hDC:D<=C) (hD:D<=w.heap.size)
  (h:∀v' w',RlO D w' v' (N+M) (catR N rs ts) (catR N AL BL)->w.grownBy w' v.ownBlock->wpList Tryz.prog ops Q rest (a.put o.dst v') w'):
  wpList Tryz.prog ops Q (o::rest) a w:=by
 obtain ⟨i0,hi,hz0,hz1,hz2⟩:=info_parts Tryz.infoRl;obtain ⟨g,rfl,_,_⟩:=hsrc.some hM;refine wpList_append_own w hgd s x 36 ho D 68 i0 _ 8 80 Tryz.underlying36 hi hz0 hz1 hz2 rfl (by decide) v N (flR rs N) hs (xqk hown.row hDB) ⟨g,0,none⟩ M c (flR ts M) hx (xhl ts M) hsrc.cellAt (xhn hsrc) (by unfold maxLen;omega) (by omega) hD ?_;intro v' w' h1 h2 _;exact h v' w' (hown.cat hsrc (Nat.le_total _ _) hne D ⟨hDB,hDC⟩ h1 h2) h2
theorem xuw{T:Nat->List Int}{o:Nat->Int}{ac:(Nat->Int)->List (Nat->Int)}{Rt:(Nat->Int)->Prop}{pa:Option Addr}{pn pc:Nat}{st:Int}{ra:Nat->Option Addr}{rn rc:Nat->Nat}{t:Code}(n f:Nat)(hn:n+1<=5)(hfn:f=5-n)
  (ih:∀(k:Nat->Int) (w:World),Rt k->MkF T o ac Rt pa pn pc st ra rn rc t w->Calls Tryz.prog 154 #[.agg (mkC pa pn pc st ra rn rc o),.agg #[.int .i64 (k 0),.int .i64 (k 1),.int .i64 (k 2),.int .i64 (k 3),.int .i64 (k 4),.int .i64 (k 5)],.int .i64 ((f:Int)+1)] w (RlsO T o ac n k w))
  (k:Nat->Int) (hk:Rt k) (w:World) (F:MkF T o ac Rt pa pn pc st ra rn rc t w):
  Calls Tryz.prog 154 #[.agg (mkC pa pn pc st ra rn rc o),.agg #[.int .i64 (k 0),.int .i64 (k 1),.int .i64 (k 2),.int .i64 (k 3),.int .i64 (k 4),.int .i64 (k 5)],.int .i64 (f:Int)] w (RlsO T o ac (n+1) k w):=by
 obtain ⟨MK,hMK⟩:∃MK,MK=mkC pa pn pc st ra rn rc o:=⟨_,rfl⟩;have hf:f<6:=by omega
 have hf1:1<=f:=by omega
 have hf6:((f:Int) == 6)=false:=by rw [beq_eq_false_iff_ne];omega
 obtain ⟨w1,hw1⟩:∃w1,w1=w.alloc (.cells MK 112):=⟨_,rfl⟩;obtain ⟨w2,hw2⟩:∃w2,w2=w1.alloc (.cells (pkA k) 46):=⟨_,rfl⟩;have z1:w1.heap.size=w.heap.size+1:=by rw [hw1];simp
 have hB:pkBlk w2 (w.heap.size+1) k:=by rw [hw2,<-z1];exact pkBlk.alloc w1 k
 have hg2:w.grownBy w2 none:=by rw [hw2,hw1];exact xje (World.grownBy_alloc _ _ _) (World.grownBy_alloc _ _ _)
 have hmh:w2.heap[w.heap.size]?=some (.cells MK 112 (0,0)):=by
  have h1:w1.heap[w.heap.size]?=some (.cells MK 112 (0,0)):=by rw [hw1];exact heap_alloc_new w _
  rw [hw2,(World.grownBy_alloc w1 _ none).block w.heap.size (by omega) (by simp),h1]
 -- all cells of the maker
 have MM:Hid (∀(W:World),W.heap[w.heap.size]?=some (.cells MK 112 (0,0))->∀j u,MK[j]?=some u->W.cell? ⟨w.heap.size,j,none⟩=some u):=fun W h j u hu=>xm9 h j u hu
 obtain ⟨qa,hqa⟩:∃qa,qa=ra f:=⟨_,rfl⟩;obtain ⟨qn,hqn⟩:∃qn,qn=rn f:=⟨_,rfl⟩;obtain ⟨qc,hqc⟩:∃qc,qc=rc f:=⟨_,rfl⟩;obtain ⟨of,hof⟩:∃of,of=o f:=⟨_,rfl⟩;have hrow:MK[2+f]?=some (.slice qa qn qc):=by rw [hMK,hqa,hqn,hqc];exact (xnn pa pn pc st ra rn rc o f hf).1
 have hoth:MK[8+f]?=some (.int .i64 of):=by rw [hMK,hof];exact (xnn pa pn pc st ra rn rc o f hf).2
 have e0:MK[0]?=some (.slice pa pn pc):=by rw [hMK];rfl
 have e1:MK[1]?=some (.int .i64 st):=by rw [hMK];rfl
 have e2:MK[2]?=some (.slice (ra 0) (rn 0) (rc 0)):=by rw [hMK];rfl
 have e3:MK[3]?=some (.slice (ra 1) (rn 1) (rc 1)):=by rw [hMK];rfl
 have e4:MK[4]?=some (.slice (ra 2) (rn 2) (rc 2)):=by rw [hMK];rfl
 have e5:MK[5]?=some (.slice (ra 3) (rn 3) (rc 3)):=by rw [hMK];rfl
 have e6:MK[6]?=some (.slice (ra 4) (rn 4) (rc 4)):=by rw [hMK];rfl
 have e7:MK[7]?=some (.slice (ra 5) (rn 5) (rc 5)):=by rw [hMK];rfl
 have e8:MK[8]?=some (.int .i64 (o 0)):=by rw [hMK];rfl
 have e9:MK[9]?=some (.int .i64 (o 1)):=by rw [hMK];rfl
 have e10:MK[10]?=some (.int .i64 (o 2)):=by rw [hMK];rfl
 have e11:MK[11]?=some (.int .i64 (o 3)):=by rw [hMK];rfl
 have e12:MK[12]?=some (.int .i64 (o 4)):=by rw [hMK];rfl
 have e13:MK[13]?=some (.int .i64 (o 5)):=by rw [hMK];rfl
 have E:Hid (MK[0]?=some (.slice pa pn pc)/\MK[1]?=some (.int .i64 st)/\MK[2]?=some (.slice (ra 0) (rn 0) (rc 0))/\MK[3]?=some (.slice (ra 1) (rn 1) (rc 1))/\MK[4]?=some (.slice (ra 2) (rn 2) (rc 2))/\MK[5]?=some (.slice (ra 3) (rn 3) (rc 3))/\MK[6]?=some (.slice (ra 4) (rn 4) (rc 4))/\MK[7]?=some (.slice (ra 5) (rn 5) (rc 5))/\MK[8]?=some (.int .i64 (o 0))/\MK[9]?=some (.int .i64 (o 1))/\MK[10]?=some (.int .i64 (o 2))/\MK[11]?=some (.int .i64 (o 3))/\MK[12]?=some (.int .i64 (o 4))/\MK[13]?=some (.int .i64 (o 5))):=⟨e0,e1,e2,e3,e4,e5,e6,e7,e8,e9,e10,e11,e12,e13⟩;have HROW:=hide hrow
 -- what is asked of the fields behind
 have IH:Hid (∀(v:Int),(v∈T f\/v=of)->∀(y:Nat->Int),y=putF k f v->∀ww,w.grownBy ww none->Calls Tryz.prog 154 #[.agg #[.slice pa pn pc,.int .i64 st,.slice (ra 0) (rn 0) (rc 0),.slice (ra 1) (rn 1) (rc 1),.slice (ra 2) (rn 2) (rc 2),.slice (ra 3) (rn 3) (rc 3),.slice (ra 4) (rn 4) (rc 4),.slice (ra 5) (rn 5) (rc 5),.int .i64 (o 0),.int .i64 (o 1),.int .i64 (o 2),.int .i64 (o 3),.int .i64 (o 4),.int .i64 (o 5)],.agg #[.int .i64 (y 0),.int .i64 (y 1),.int .i64 (y 2),.int .i64 (y 3),.int .i64 (y 4),.int .i64 (y 5)],.int .i64 ((f:Int)+1)] ww (RlsO T o ac n y ww)):=fun v hv y hy ww hg=>ih y ww (by rw [hy];exact F.put k f v hk hf (by rw [<-hof];exact hv)) (F.grown hg)
 have HF:=hide F;obtain ⟨R,hR⟩:∃R:Int->List ((Nat->Int)×List (Nat->Int)),R=fun v=>xuj T o ac n (putF k f v):=⟨_,rfl⟩
 obtain ⟨TG,hTG⟩:∃TG:Int->List ((Nat->Int)×List (Nat->Int)),TG=fun v=>if R v=R of then [] else (R v).map fun r=>(putF r.1 f v,r.2):=⟨_,rfl⟩
 have HFIN:Hid (xuj T o ac (n+1) k=(T f).flatMap TG++R of):=by
  show _=_;rw [xuj,hTG,hR,hof,hfn]
 have HRN:Hid (∀v,R v≠[]/\(R v).length<=100000):=fun v=>by rw [hR];exact ⟨xuq _ _,F.few n _ (by omega)⟩
 have HLN:Hid (((T f).flatMap TG++R of).length<=100000):=by
  show _<=_;rw [<-HFIN.out];exact F.few (n+1) k (by omega)
 have HR:=hide hR;have HTG:=hide hTG;have HQ:Hid (qn=(T f).length/\∃B,w.ownsRow B 3 1 (.slice qa qn qc) qn (intZ (T f))):=by rw [hqa,hqn,hqc];exact F.tst f hf
 have hqf:qn<=9223372036854775807:=by
  obtain ⟨_,B,_,h⟩:=HQ.out;rcases h with ⟨_,h⟩|⟨_,_,_,e,_,_,h1,h2,_⟩
  ·omega
  ·cases e;unfold maxLen at h2;omega
 have G2:=hide hg2;have HB2:=hide hB;have HM2:=hide hmh;have m8:w2.cell? ⟨w.heap.size,8+f,none⟩=some (.int .i64 of):=MM.out w2 hmh _ _ hoth;have pf:w2.cell? ⟨w.heap.size+1,f,none⟩=some (.int .i64 (k f)):=hB.cell f hf;have fz:w2.frozen? ⟨w.heap.size+1,f,none⟩=false:=hB.frozen f;have hz:w.heap.size+1<w2.heap.size:=World.block_lt_of_cell? w2 _ pf;rw [hw1,hMK] at hw2;unfold mkC pkA at hw2;unfold mkC;clear hB hg2 hw1 z1 F hk hmh hMK ih e0 e1 e2 e3 e4 e5 e6 e7 e8 e9 e10 e11 e12 e13 hrow hoth hR hTG hqa hqn hqc hof hfn hn;go_enter Tryz.func154,Tryz.ntmps154;go_upto_region 3 with fail
 rw [<-hw2];clear hw2;go_upto_region 4 with fail
 obtain ⟨w3,hw3⟩:∃w3,w3=w2.setCell ⟨w.heap.size+1,f,none⟩ (.int .i64 of):=⟨_,rfl⟩;obtain ⟨y,hy⟩:∃y,y=putF k f of:=⟨_,rfl⟩;have hgs:w2.grownBy w3 (some (w.heap.size+1)):=by rw [hw3];exact xjc _ _ _ _
 have HB3:Hid (pkBlk w3 (w.heap.size+1) y):=by
  show pkBlk _ _ _;rw [hw3,hy];exact HB2.out.put f hf of
 have HM3:=hide (xna HM2.out hgs (by simp));have G3:=hide (xi9 G2.out hgs (by omega));rw [<-hw3];have hz3:w.heap.size+2<=w3.heap.size:=by have:=hgs.size;omega
 have n0:=MM.out w3 HM3.out 0 _ E.out.1;have n1:=MM.out w3 HM3.out 1 _ E.out.2.1;have n2:=MM.out w3 HM3.out 2 _ E.out.2.2.1;have n3:=MM.out w3 HM3.out 3 _ E.out.2.2.2.1;have n4:=MM.out w3 HM3.out 4 _ E.out.2.2.2.2.1;have n5:=MM.out w3 HM3.out 5 _ E.out.2.2.2.2.2.1;have n6:=MM.out w3 HM3.out 6 _ E.out.2.2.2.2.2.2.1;have n7:=MM.out w3 HM3.out 7 _ E.out.2.2.2.2.2.2.2.1;have n8:=MM.out w3 HM3.out 8 _ E.out.2.2.2.2.2.2.2.2.1;have n9:=MM.out w3 HM3.out 9 _ E.out.2.2.2.2.2.2.2.2.2.1;have n10:=MM.out w3 HM3.out 10 _ E.out.2.2.2.2.2.2.2.2.2.2.1;have n11:=MM.out w3 HM3.out 11 _ E.out.2.2.2.2.2.2.2.2.2.2.2.1;have n12:=MM.out w3 HM3.out 12 _ E.out.2.2.2.2.2.2.2.2.2.2.2.2.1;have n13:=MM.out w3 HM3.out 13 _ E.out.2.2.2.2.2.2.2.2.2.2.2.2.2;obtain ⟨p0,p1,p2,p3,p4,p5⟩:=xtq HB3.out;have HC:=hide (IH.out of (.inr rfl) y hy w3 G3.out);have HYE:=hide hy;clear hy hw3 hgs m8 pf fz G2 HB2 HM2 hz;go_wp2_with fail;refine HC.out.mono ?_;rintro e w4 ⟨v0,N0,ts,BL,rfl,hO0,hP0,g4⟩;obtain ⟨a0,c0,rfl⟩:=hO0.slice;have OT0:=hide (hO0.mono (show w.heap.size+2<=w3.heap.size by omega));have OU0:=hide hO0.under
 have PT0:Hid (prL ts BL N0=R of):=by
  show _=_;rw [hP0,HR.out,HYE.out]
 have HM4:=hide (xna HM3.out g4 (by simp));have HB4:=hide (HB3.out.grown g4 (by simp));have G4:=hide (xje G3.out g4);have hz4:w.heap.size+2<=w4.heap.size:=by have:=g4.size;omega
 have HN0:0<N0/\N0<=100000:=by
  have h1:=HRN.out of;rw [<-PT0.out] at h1;have h2:=xsl ts BL N0;refine ⟨?_,by omega⟩;rcases Nat.eq_zero_or_pos N0 with e|e
  ·exact absurd (List.eq_nil_of_length_eq_zero (by omega)) h1.1
  ·exact e
 have mt:=MM.out w4 HM4.out _ _ HROW.out;have HY:Hid (∀j,j≠f->y j=k j):=fun j hj=>by rw [HYE.out];unfold putF;rw [if_neg hj]
 clear hO0 hP0 g4 HC HM3 HB3 G3 hz3 n0 n1 n2 n3 n4 n5 n6 n7 n8 n9 n10 n11 n12 n13 p0 p1 p2 p3 p4 p5 HYE;go_wp2_with fail;clear mt;go_loopw [8,37] (fun s8 s37 wr=>∃(i N:Nat) (rs:Nat->Rl) (AL:Nat->List (Nat->Int)) (x:Nat->Int) (la:Option Addr) (lc:Nat),i<=qn/\s37=.int .i64 i/\s8=.slice la N lc/\RlO w4.heap.size wr (.slice la N lc) N rs AL/\prL rs AL N=((T f).take i).flatMap TG/\RlO (w.heap.size+2) wr (.slice a0 N0 c0) N0 ts BL/\wr.heap[w.heap.size]?=some (.cells MK 112 (0,0))/\pkBlk wr (w.heap.size+1) x/\(∀j,j≠f->x j=k j)/\w.grownBy wr none/\w4.heap.size<=wr.heap.size) (fun _ s37 _=>qn-(intOf s37).toNat)
 case atStart=>exact ⟨0,0,fun _=>⟨0,evry,0,fun _ _=>0,.slice none 0 0⟩,fun _=>[],y,none,0,by omega,rfl,rfl,RlO.nil _ _ _ _,rfl,OT0.out,HM4.out,HB4.out,HY.out,G4.out,Nat.le_refl _⟩
 case round=>
  obtain ⟨i,N,rs,AL,x,la,lc,hi,rfl,rfl,hLs,hPl,hOt,hMb,hPk,hX,hG,hSz⟩:=hrel;have LS:=hide hLs;have PL:=hide hPl;have OT:=hide hOt;have MB:=hide hMb;have PK:=hide hPk;have HX:=hide hX;have GR:=hide hG;clear hLs hPl hOt hMb hPk hX hG OT0 HM4 HB4 G4;by_cases hlt:i<qn
  ·obtain ⟨zv,hzv⟩:∃zv,(T f)[i]?=some zv:=⟨_,List.getElem?_eq_getElem (by have:=HQ.out.1;omega)⟩;have HMEM:=hide (List.mem_of_getElem? hzv);have HZV:=hide hzv
   obtain ⟨gT,hqa,cT⟩:∃gT,qa=some ⟨gT,0,none⟩/\wr.cell? ⟨gT,i,none⟩=some (.int .i64 zv):=by
    obtain ⟨hql,B,hl,hr⟩:=HQ.out;rcases hr with ⟨_,e⟩|⟨g,cap,cur,e,_,h1,_,_,h4,h5⟩
    ·omega
    ·injection e with e1 e2 e3
     refine ⟨g,e1,GR.out.cell ?_ (by simp)⟩;simp only [World.cell?,h1];have:(intZ (T f))[i]?=some (.int .i64 zv):=by unfold intZ;rw [List.getElem?_map,hzv];rfl
     rw [<-h5,List.getElem?_take_of_lt (by omega)] at this;simpa using this
   have HQ2:=hide HQ.out.1;clear HQ HROW hzv;subst hqa;have pf:wr.cell? ⟨w.heap.size+1,f,none⟩=some (.int .i64 (x f)):=PK.out.cell f hf;have fz:=PK.out.frozen f;have hltI:(i:Int)<qn:=by omega
   go_upto_region 10 with fail
   obtain ⟨w5,hw5⟩:∃w5,w5=wr.setCell ⟨w.heap.size+1,f,none⟩ (.int .i64 zv):=⟨_,rfl⟩;obtain ⟨y5,hy5⟩:∃y5,y5=putF k f zv:=⟨_,rfl⟩;have hgs:wr.grownBy w5 (some (w.heap.size+1)):=by rw [hw5];exact xjc _ _ _ _
   have PK5:Hid (pkBlk w5 (w.heap.size+1) y5):=by
    show pkBlk _ _ _;rw [hw5,hy5,<-xs3 HX.out];exact PK.out.put f hf zv
   have MB5:=hide (xna MB.out hgs (by simp));have GR5:=hide (xi9 GR.out hgs (by omega));have LS5:=hide (LS.out.low hgs (fun b e=>by cases e;omega));have OT5:=hide (OT.out.low hgs (fun b e=>by cases e;omega));have hz5:w4.heap.size<=w5.heap.size:=by have:=hgs.size;omega
   have LU5:=hide LS5.out.under;rw [<-hw5];have n0:=MM.out w5 MB5.out 0 _ E.out.1;have n1:=MM.out w5 MB5.out 1 _ E.out.2.1;have n2:=MM.out w5 MB5.out 2 _ E.out.2.2.1;have n3:=MM.out w5 MB5.out 3 _ E.out.2.2.2.1;have n4:=MM.out w5 MB5.out 4 _ E.out.2.2.2.2.1;have n5:=MM.out w5 MB5.out 5 _ E.out.2.2.2.2.2.1;have n6:=MM.out w5 MB5.out 6 _ E.out.2.2.2.2.2.2.1;have n7:=MM.out w5 MB5.out 7 _ E.out.2.2.2.2.2.2.2.1;have n8:=MM.out w5 MB5.out 8 _ E.out.2.2.2.2.2.2.2.2.1;have n9:=MM.out w5 MB5.out 9 _ E.out.2.2.2.2.2.2.2.2.2.1;have n10:=MM.out w5 MB5.out 10 _ E.out.2.2.2.2.2.2.2.2.2.2.1;have n11:=MM.out w5 MB5.out 11 _ E.out.2.2.2.2.2.2.2.2.2.2.2.1;have n12:=MM.out w5 MB5.out 12 _ E.out.2.2.2.2.2.2.2.2.2.2.2.2.1;have n13:=MM.out w5 MB5.out 13 _ E.out.2.2.2.2.2.2.2.2.2.2.2.2.2;obtain ⟨p0,p1,p2,p3,p4,p5⟩:=xtq PK5.out;have HC:=hide (IH.out zv (.inl HMEM.out) y5 hy5 w5 GR5.out);have HYE:=hide hy5;clear hy5 hw5 hgs pf fz cT LS OT MB PK HX GR hSz;go_wp2_with fail;refine HC.out.mono ?_;rintro e w6 ⟨v6,M,us,CL,rfl,hO6,hP6,g6⟩;obtain ⟨a6,c6,rfl⟩:=hO6.slice;have OW6:=hide hO6
   have PW6:Hid (prL us CL M=R zv):=by
    show _=_;rw [hP6,HR.out,HYE.out]
   have HM:0<M/\M<=100000:=by
    have h1:=HRN.out zv;rw [<-PW6.out] at h1;have h2:=xsl us CL M;refine ⟨?_,by omega⟩;rcases Nat.eq_zero_or_pos M with e|e
    ·exact absurd (List.eq_nil_of_length_eq_zero (by omega)) h1.1
    ·exact e
   have LS6:=hide (LS5.out.kept g6 (fun b e=>by cases e));have OT6:=hide (OT5.out.kept g6 (fun b e=>by cases e));have MB6:=hide (xna MB5.out g6 (by simp));have PK6:=hide (PK5.out.grown g6 (by simp));have GR6:=hide (xje GR5.out g6);have HY5:Hid (∀j,j≠f->y5 j=k j):=fun j hj=>by rw [HYE.out];unfold putF;rw [if_neg hj]
   have hz6:w5.heap.size<=w6.heap.size:=g6.size;have HE:=hide (xgr (.slice a6 M c6) (.slice a0 N0 c0) M N0 us ts CL BL w6 (OW6.out.rd (by omega)) (OT6.out.rd (by omega)));clear hO6 hP6 g6 LS5 OT5 MB5 PK5 GR5 HC HYE n0 n1 n2 n3 n4 n5 n6 n7 n8 n9 n10 n11 n12 n13 p0 p1 p2 p3 p4 p5;go_wp2_with fail;refine HE.out.mono ?_;rintro e w7 ⟨⟨bq,rfl,hbq⟩,g7⟩
   have HBQ:Hid (bq=true↔R zv=R of):=by
    show _↔_;rw [<-PW6.out,<-PT0.out];exact hbq
   have OW7:=hide (OW6.out.kept g7 (fun b e=>by cases e));have LS7:=hide (LS6.out.kept g7 (fun b e=>by cases e));have OT7:=hide (OT6.out.kept g7 (fun b e=>by cases e));have MB7:=hide (xna MB6.out g7 (by simp));have PK7:=hide (PK6.out.grown g7 (by simp));have GR7:=hide (xje GR6.out g7);have hz7:w6.heap.size<=w7.heap.size:=g7.size;have HTK:=hide (xhx TG (T f) i zv HZV.out)
   have hNb:N<=100000:=by
    have h1:=HLN.out;have h2:=congrArg List.length PL.out;rw [xsl] at h2;have h3:(T f).flatMap TG=((T f).take i).flatMap TG++((T f).drop i).flatMap TG:=by rw [<-List.flatMap_append,List.take_append_drop]
    rw [h3,List.length_append,List.length_append] at h1;omega
   clear hbq g7 OW6 LS6 OT6 MB6 PK6 GR6 HE;cases bq
   ·have HTV:Hid (TG zv=(R zv).map fun r=>(putF r.1 f zv,r.2)):=by
     show _=_;rw [HTG.out];exact if_neg (fun h=>by have:=HBQ.out.2 h;cases this)
    obtain ⟨gO,rfl,hgO,hgO2⟩:=OW7.out.some HM.1;clear HBQ;go_wp2_with fail;go_loopw [54] (fun s54 wq=>∃j:Nat,j<=M/\s54=.int .i64 j/\RlO w5.heap.size wq (.slice (some ⟨gO,0,none⟩) M c6) M (tagR f zv j us) CL/\RlO w4.heap.size wq (.slice la N lc) N rs AL/\RlO (w.heap.size+2) wq (.slice a0 N0 c0) N0 ts BL/\wq.heap[w.heap.size]?=some (.cells MK 112 (0,0))/\pkBlk wq (w.heap.size+1) y5/\w.grownBy wq none/\w7.heap.size<=wq.heap.size) (fun s54 _=>M-(intOf s54).toNat)
    case atStart=>exact ⟨0,by omega,rfl,by rw [xy4];exact OW7.out,LS7.out,OT7.out,MB7.out,PK7.out,GR7.out,Nat.le_refl _⟩
    case round=>
     obtain ⟨j,hj,rfl,hOW,hLS,hOT,hMB,hPK,hGR,hszq⟩:=hrel;have OW:=hide hOW;have LS:=hide hLS;have OT:=hide hOT;have MB:=hide hMB;have PK:=hide hPK;have GR:=hide hGR;clear hOW hLS hOT hMB hPK hGR OW7 LS7 OT7 MB7 PK7 GR7;by_cases hjM:j<M
     ·have c0':wr.cell? ⟨gO,j*8+1+f,none⟩=some (.int .i64 ((tagR f zv j us j).mt f)):=by
       have h1:=OW.out.cellAt (j*8+(1+f)) _ (xhk _ M j (1+f) hjM (by omega));rw [show (⟨gO,0,none⟩:Addr).add (j*8+(1+f))=⟨gO,j*8+1+f,none⟩ by unfold Addr.add;simp;omega] at h1;rw [h1];unfold rlC;rw [if_neg (by omega),if_pos (by omega),show 1+f-1=f by omega]
      have fz':wr.frozen? ⟨gO,j*8+1+f,none⟩=false:=by
       obtain ⟨cur,h1⟩:=xqn OW.out.row gO rfl;simp [World.frozen?,h1]
      have hjI:(j:Int)<M:=by omega
      have hg9:=xjc wr gO (j*8+1+f) (.int .i64 zv);have OW9:=OW.out.tag hf hjM;rw [<-Nat.add_assoc] at OW9;have OW9':=hide OW9;have LS9:=hide (LS.out.high LU5.out hg9 (fun b e=>by cases e;exact hgO));have OT9:=hide (OT.out.high OU0.out hg9 (fun b e=>by cases e;omega));have MB9:=hide (xna MB.out hg9 (by simp;omega));have PK9:=hide (PK.out.grown hg9 (by simp;omega));have GR9:=hide (xi9 GR.out hg9 (by omega));have hz9:wr.heap.size<=(wr.setCell ⟨gO,j*8+1+f,none⟩ (.int .i64 zv)).heap.size:=hg9.size;clear OW9 hg9 OW LS OT MB PK GR;go_wp2_with fail;go_roundw
      case measure=>simp [intOf];omega
      case rel=>exact ⟨j+1,by omega,by first|rfl|go_num,OW9'.out,LS9.out,OT9.out,MB9.out,PK9.out,GR9.out,by omega⟩
     ·obtain rfl:j=M:=by omega
      have hsz:=GR.out.size;go_wp2_with (at_builtin;refine x1f _ rfl _ _ rfl w4.heap.size w5.heap.size w4.heap.size (.slice la N lc) N rs AL rfl LS.out (some ⟨gO,0,none⟩) j c6 (tagR f zv j us) CL rfl OW.out HM.1 (by omega) ?_ (by omega) (by omega) (by omega) ?_)
      ·intro a b ha hb q e1 e2;have:=LU5.out.2 a ha q e1;have:=(OW.out.lt.2 b hb q e2).1;omega
      ·intro v' w' o' g';obtain ⟨a9,c9,rfl⟩:=o'.slice;have hrow:∀b,(Value.slice la N lc).ownBlock=some b->w4.heap.size<=b:=fun b e=>(LS.out.lt.1 b e).1
       have O9:=hide o';have OT9:=hide (OT.out.high OU0.out g' hrow);have MB9:=hide (xna MB.out g' (fun e=>by have:=hrow _ e;omega));have PK9:=hide (PK.out.grown g' (fun e=>by have:=hrow _ e;omega));have GR9:=hide (xja GR.out g' (fun b e=>by have:=hrow b e;omega));have hz9:w4.heap.size<=w'.heap.size:=by have:=g'.size;omega
       clear o' g' hrow OW LS OT MB PK GR;go_wp2_with fail;refine ⟨⟨i+1,N+j,_,_,y5,a9,c9,by omega,by go_num,rfl,O9.out,?_,OT9.out,MB9.out,PK9.out,HY5.out,GR9.out,hz9⟩,by simp [intOf];omega⟩;rw [xsj,xsn,PL.out,HTK.out,HTV.out,PW6.out]
   ·have HTV:Hid (TG zv=[]):=by
     show _=_;rw [HTG.out];exact if_pos (HBQ.out.1 rfl)
    go_wp2_with fail;exact ⟨⟨i+1,N,rs,AL,y5,la,lc,by omega,by go_num,rfl,LS7.out,by rw [PL.out,HTK.out,HTV.out,List.append_nil],OT7.out,MB7.out,PK7.out,HY5.out,GR7.out,by omega⟩,by simp [intOf];omega⟩
  ·obtain rfl:i=qn:=by omega
   have HLE:Hid (prL rs AL N=(T f).flatMap TG):=by
    show _=_;rw [PL.out,HQ.out.1,List.take_length]
   have hNN:N+N0<=100000:=by
    have h1:=HLN.out;rw [<-HLE.out,<-PT0.out,List.length_append,xsl,xsl] at h1;exact h1
   have hsz:=GR.out.size;go_wp2_with (at_builtin;refine x1f _ rfl _ _ rfl w4.heap.size (w.heap.size+2) w.heap.size (.slice la N lc) N rs AL rfl LS.out a0 N0 c0 ts BL rfl OT.out HN0.1 (by omega) ?_ (by omega) (by omega) hsz ?_)
   ·intro a b ha hb q e1 e2;have:=(LS.out.lt.2 a ha q e1).1;have:=OU0.out.2 b hb q e2;omega
   ·intro v' w' o' g';obtain ⟨a9,c9,rfl⟩:=o'.slice;have O9:=hide o';have G9:=hide (xja GR.out g' (fun b e=>by have:=(LS.out.lt.1 b e).1;omega));clear o' g';go_wp2;go_ret;exact ⟨_,_,_,_,rfl,O9.out,by rw [xsj,HLE.out,PT0.out,HFIN.out],G9.out⟩
end Go.Proofs.YtlhkfafdioakeaaGreatDoor
