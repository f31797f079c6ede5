/- Parts of the proof. -/
import Derived.Test.YtlhkfafdioakeaaGreatDoorSf11
import Derived.Test.YtlhkfafdioakeaaGreatDoorSf13
import Derived.Test.YtlhkfafdioakeaaGreatDoorSf16
import Derived.Test.YtlhkfafdioakeaaGreatDoorSf19
import Derived.Test.YtlhkfafdioakeaaGreatDoorSf20
import Derived.Test.YtlhkfafdioakeaaGreatDoorSf21
namespace Go.Proofs.YtlhkfafdioakeaaGreatDoor
set_option maxRecDepth 100000
set_option maxHeartbeats 2000000
open Go.RowKit Go.Weft
set_option linter.unusedVariables false
set_option linter.unusedSimpArgs false
theorem xmr(ok:Nat->Prop)(t:Code)(v:Value)(st:Int)(pa:Option Addr)(pn pc:Nat)(w:World)(h:(TV ok w t).1 v)(ha:(xcc t).length<=1000):
  Calls Tryz.prog 51 #[v,.agg #[.slice pa pn pc,.int .i64 st]] w fun x w'=>∃r o,x=.returned (mkV (.slice pa pn pc) st r o)/\MkO (w.heap.size+4) w' (xcc t) r o/\w.grownBy w' none:=by
 obtain ⟨i0,hi0,hz0,hz1,hz2⟩:=info_parts Tryz.infoIntF;have CA:=hide (fun ww (hg:w.grownBy ww none)=>xcm ok (szC t) t v ww (Nat.le_refl _) (xan h hg) (by omega));have HLT:Hid (∀n,n∈xcc t->1<n/\n<386):=(xcs t).1 v h;obtain ⟨T,u,rfl⟩:=xam h;exact xno.2.2.2 (fun _=>mkP1) (fun _=>mkP2) (fun _=>mkP3) ok st pa pn pc w i0 hi0 hz0 hz1 hz2 T u (xcc t) ha HLT CA
def PolAt(w:World)(b:Nat)(t:Code):Prop:=
 ∃n0 B pv r o,w.heap[b]?=some (.cells #[pv,.int .i64 ((xh4 t).1:Int),pv,.int .i64 ((xh4 t).1:Int),r 0,r 1,r 2,r 3,r 4,r 5,.int .i64 (o 0),.int .i64 (o 1),.int .i64 (o 2),.int .i64 (o 3),.int .i64 (o 4),.int .i64 (o 5)] 115 (0,0))/\
  FlV n0 w pv (xh4 t).2/\MkO B w (xcc t) r o
theorem MkO.grown{B:Nat}{w w':World}{A:List Nat}{r:Nat->Value}{o:Nat->Int}(h:MkO B w A r o)(hg:w.grownBy w' none):MkO B w' A r o:=fun f hf=>
 ⟨xql (h f hf).1 (fun g cs hv hb=>hg.block g (Array.getElem?_eq_some_iff.1 hb).1 (by simp)),(h f hf).2⟩
def sA:Value->Option Addr
 | .slice a _ _=>a
 | _=>none
def sN:Value->Nat
 | .slice _ n _=>n
 | _=>0
def sC:Value->Nat
 | .slice _ _ c=>c
 | _=>0
theorem cn_wt:∀t:Code,((niceP t).1=true->cn t<=wt t/\szC t<=wt t/\(xcc t).length*12<=wt t)/\((niceP t).2=true->cn t+6*(elems t).length<=wt t/\szC t+5*(elems t).length<=wt t/\(xcc t).length*12<=wt t):=by
 intro t;induction t with
 | exit n=>
  refine ⟨fun _=>⟨by simp [cn,wt],by simp [szC,wt],?_⟩,fun h=>by cases h⟩;simp only [xcc,wt];split<;>simp
 | skip=>exact ⟨fun h=>(by cases h),fun _=>⟨by simp [cn,wt,elems],by simp [szC,wt,elems],by simp [xcc]⟩⟩
 | loop t ih=>
  refine ⟨fun h=>?_,fun h=>by cases h⟩;have:=ih.1 h;simp only [cn,wt,szC,xcc];omega
 | scope t ih=>
  refine ⟨fun h=>?_,fun h=>by cases h⟩;have h':(isT t&&(niceP t).1)=true:=h;rw [Bool.and_eq_true] at h';have:=ih.1 h'.2;simp only [cn,wt,szC,xcc];omega
 | block k l ih=>
  refine ⟨fun h=>?_,fun h=>by cases h⟩;have h':(decide (k<=1)&&(decide (2<=(elems l).length)&&(niceP l).2))=true:=h;rw [Bool.and_eq_true,Bool.and_eq_true,decide_eq_true_eq,decide_eq_true_eq] at h';have:=ih.2 h'.2.2;simp only [cn,wt,szC,xcc];omega
 | seq a b iha ihb=>
  refine ⟨fun h=>(by cases h),fun h=>?_⟩;have h':((niceP a).1&&(niceP b).2)=true:=h;rw [Bool.and_eq_true] at h';have h1:=iha.1 h'.1;have h2:=ihb.2 h'.2;simp only [cn,wt,szC,xcc,elems,List.length_cons,List.length_append];omega
 | _=>exact ⟨fun h=>(by cases h),fun h=>by cases h⟩
theorem xe9(s:ByteArray)(w:World)(hn:Names w)(hs:s.size<=9223372036854775807)(en:Int)(pl:Nat)(hr:readS s=.error (en,pl)):
  Calls Tryz.prog 13 #[.string s] w fun x w'=>x=.returned (.tuple #[.pointer none,.int .i64 en,.int .i64 pl])/\w.grownBy w' none:=by
 have hne:=xti hr;have H:=xsg s w hn hs;rw [hr] at H;have HH:=hide H;clear H hr hn;go_enter Tryz.func13,Tryz.ntmps13;go_wp2_with fail;refine HH.out.mono ?_;rintro x w1 ⟨hg,rfl⟩;have G:=hide hg;clear hg;go_wp2
 go_ret3
 exact ⟨rfl,G.out⟩
theorem xfa(s:ByteArray)(w:World)(hn:Names w)(hs:s.size<=9223372036854775807)(t:Code)(hr:readS s=.ok t):
  Calls Tryz.prog 13 #[.string s] w fun x w'=>∃b,x=.returned (.tuple #[.pointer (some ⟨b,0,none⟩),.int .i64 0,.int .i64 0])/\PolAt w' b t/\w.heap.size<=b/\w.grownBy w' none:=by
 obtain ⟨hni,hw⟩:=xth hr;obtain ⟨hcn,hsz,hat⟩:=(cn_wt t).1 hni;have H:=xsg s w hn hs;rw [hr] at H;have HH:=hide H;clear H hr hn;go_enter Tryz.func13,Tryz.ntmps13;go_wp2_with fail;refine HH.out.mono ?_;rintro x w1 ⟨hg,v,rfl,ht⟩;have CN:=hide (xn4 _ t v w1 ht (by omega) (by omega));have HT:=hide ht;obtain ⟨T,u,rfl⟩:=xam ht;have G:=hide hg;clear hg ht;go_wp2_with fail;refine CN.out.mono ?_;clear CN;rintro x w2 ⟨pv,rfl,fv,g2⟩;obtain ⟨dv,sv,hrow,_⟩:=id fv;obtain ⟨pa,pc,rfl⟩:=xqm hrow;have FV:=hide fv;have G2:=hide (xje G.out g2);have HT2:=hide (xan HT.out g2);clear hrow fv g2;obtain ⟨L,hL⟩:∃L,L=(xh4 t).2.length:=⟨_,rfl⟩;obtain ⟨q,hq⟩:∃q:Int,q=((xh4 t).1:Int):=⟨_,rfl⟩
 have CM:Hid (∀ww,w2.grownBy ww none->Calls Tryz.prog 51 #[.iface T u,.agg #[.slice pa L pc,.int .i64 q]] ww fun x w'=>∃r o,x=.returned (.agg #[.slice pa L pc,.int .i64 q,.slice (sA (r 0)) (sN (r 0)) (sC (r 0)),.slice (sA (r 1)) (sN (r 1)) (sC (r 1)),.slice (sA (r 2)) (sN (r 2)) (sC (r 2)),.slice (sA (r 3)) (sN (r 3)) (sC (r 3)),.slice (sA (r 4)) (sN (r 4)) (sC (r 4)),.slice (sA (r 5)) (sN (r 5)) (sC (r 5)),.int .i64 (o 0),.int .i64 (o 1),.int .i64 (o 2),.int .i64 (o 3),.int .i64 (o 4),.int .i64 (o 5)])/\(MkO (ww.heap.size+4) w' (xcc t) r o/\(∀f,f<6->r f=.slice (sA (r f)) (sN (r f)) (sC (r f))))/\w2.grownBy w' none/\ww.grownBy w' none):=fun ww hg=>by
  rw [hL,hq];refine (xmr _ t _ _ pa _ pc ww (xan HT2.out hg) (by omega)).mono ?_;rintro x w' ⟨r,o,rfl,mo,g6⟩
  have hr:∀f,f<6->r f=.slice (sA (r f)) (sN (r f)) (sC (r f)):=fun f hf=>by
   obtain ⟨a,c,e⟩:=xqm (mo f hf).1;rw [e];rfl
  refine ⟨r,o,?_,⟨mo,hr⟩,xje hg g6,g6⟩;unfold mkV;rw [<-hr 0 (by decide),<-hr 1 (by decide),<-hr 2 (by decide),<-hr 3 (by decide),<-hr 4 (by decide),<-hr 5 (by decide)]
 have HLQ:Hid (L=(xh4 t).2.length/\q=((xh4 t).1:Int)):=⟨hL,hq⟩;rw [<-hL] at FV;rw [<-hL,<-hq];clear hL hq;go_upto_region 5 with fail
 obtain ⟨w5,hw5⟩:∃w5,w5=w2.alloc (.cells #[.slice pa L pc,.int .i64 q] 108):=⟨_,rfl⟩;have hg5:w2.grownBy w5 none:=by rw [hw5];exact World.grownBy_alloc _ _ _
 have x0:w5.cell? ⟨w2.heap.size,0,none⟩=some (.slice pa L pc):=by rw [hw5];simp
 have x1:w5.cell? ⟨w2.heap.size,1,none⟩=some (.int .i64 q):=by rw [hw5];simp
 rw [<-hw5];clear hw5
 go_region_with (go_at_call 51;refine (CM.out _ (by first|exact xi7 hg5|exact hg5)).mono ?_;rintro x w6 ⟨r,o,rfl,mo,g6,g7⟩;have e0:w6.cell? ⟨w2.heap.size,0,none⟩=some (.slice pa L pc):=g7.cell x0 (by simp);have e1:w6.cell? ⟨w2.heap.size,1,none⟩=some (.int .i64 q):=g7.cell x1 (by simp);have MO:=hide mo;have G6:=hide g6;clear mo g6 g7)
 all_goals
  go_wp2
  go_ret3
  refine ⟨w6.heap.size,rfl,⟨_,_,_,r,o,?_,FV.out.grown (xje G6.out (World.grownBy_alloc _ _ _)),MO.out.1.grown (World.grownBy_alloc _ _ _)⟩,?_,xje (xje G2.out G6.out) (World.grownBy_alloc _ _ _)⟩
  ·rw [<-HLQ.out.2,MO.out.2 0 (by decide),MO.out.2 1 (by decide),MO.out.2 2 (by decide),MO.out.2 3 (by decide),MO.out.2 4 (by decide),MO.out.2 5 (by decide)];exact heap_alloc_new _ _
  ·have h1:=G2.out.size;have h2:=G6.out.size;omega
open Classical in
noncomputable def isP(k:Nat->Int):(Nat->Int)->Bool:=fun y=>decide (y=k)
theorem xfi{L:List (Nat->Int)}{p:(Nat->Int)->Bool}{i:Nat}{x:Nat->Int}(h:L[i]?=some x):(L.take (i+1)).countP p=(L.take i).countP p+(if p x then 1 else 0):=by
 rw [List.take_add_one,h];simp [List.countP_append]
theorem xfk(v:Value)(n:Nat)(ps:Nat->Nat->Int)(L:List (Nat->Int))(k:Nat->Int)(w:World)(h:PkR w v n ps)(hL:Is L n ps)(hnm:∀x∈L,Nm x)(hk:Nm k):
  Calls Tryz.prog 81 #[v,.agg #[.int .i64 (k 0),.int .i64 (k 1),.int .i64 (k 2),.int .i64 (k 3),.int .i64 (k 4),.int .i64 (k 5)]] w fun e w'=>e=.returned (.int .i64 (L.countP (isP k):Nat))/\w.grownBy w' none:=by
 obtain ⟨a,ca,rfl⟩:=h.slice;have hfew:=h.few;have HP:=hide h;have HI:=hide hL;have HNM:=hide hnm;have HK:=hide hk;obtain ⟨R,hR⟩:∃R:Nat,R=L.countP (isP k):=⟨_,rfl⟩;rw [<-hR];have HR:=hide hR;have HB:Hid (∀ww,(w.alloc (.cells (pkA k) 46)).grownBy ww none->w.grownBy ww none/\pkBlk ww w.heap.size k):=fun ww hg=>⟨xje (World.grownBy_alloc _ _ _) hg,(pkBlk.alloc w k).grown hg (by simp)⟩
 clear h hL hnm hk hR;obtain ⟨w1,hw1⟩:∃w1,w1=w.alloc (.cells (pkA k) 46):=⟨_,rfl⟩;rw [<-hw1] at HB;unfold pkA at hw1;go_enter Tryz.func81,Tryz.ntmps81;go_wp2_with fail;rw [<-hw1];clear hw1;go_loopw [5,6] (fun s5 s6 wr=>∃i:Nat,i<=n/\s6=.int .i64 i/\s5=.int .i64 ((L.take i).countP (isP k):Nat)/\w1.grownBy wr none) (fun _ s6 _=>n-(intOf s6).toNat)
 case atStart=>exact ⟨0,Nat.zero_le _,rfl,rfl,xjb _ _⟩
 case round=>
  obtain ⟨i,hi,rfl,rfl,hg⟩:=hrel;obtain ⟨G0,KB⟩:=HB.out wr hg;have HG1:=hide hg;have HG:=hide G0;have d0:wr.cell? ⟨w.heap.size,0,none⟩=_:=KB.cell 0 (by omega);have d1:=KB.cell 1 (by omega);have d2:=KB.cell 2 (by omega);have d3:=KB.cell 3 (by omega);have d4:=KB.cell 4 (by omega);have d5:=KB.cell 5 (by omega)
  have hcl:(L.take i).countP (isP k)<=3000000000000:=by
   have h1:=List.countP_le_length (p:=isP k) (l:=L.take i);have h2:=List.length_take_le i L;omega
  obtain ⟨cn,hcn⟩:∃cn:Nat,cn=(L.take i).countP (isP k):=⟨_,rfl⟩;rw [<-hcn] at hcl ⊢;have HCN:=hide hcn;clear hg G0 KB hcn;by_cases hlt:i<n
  ·rcases HP.out with ⟨_,_,_,h0,_⟩|⟨g,off,capg,hvg,_,hcellg⟩
   ·omega
   cases hvg;obtain ⟨x,hx⟩:∃x,x=ps i:=⟨_,rfl⟩;have cZ:∀t,t<6->wr.cell? ⟨g,off+i*6+t,none⟩=some (.int .i64 (x t)):=fun t ht=>by rw [hx];exact HG.out.cell (hcellg i (by omega) t ht) (by simp)
   have HX:=hide hx;have hget:L[i]?=some x:=by rw [hx];exact HI.out.get i hlt
   have HGET:=hide hget;have NX:Nm x:=HNM.out x (List.mem_of_getElem? hget);clear hcellg hx hget;have c0:wr.cell? ⟨g,off+i*6,none⟩=some (.int .i64 (x 0)):=cZ 0 (by omega);have c1:wr.cell? ⟨g,off+i*6+1,none⟩=some (.int .i64 (x 1)):=cZ 1 (by omega);have c2:wr.cell? ⟨g,off+i*6+2,none⟩=some (.int .i64 (x 2)):=cZ 2 (by omega);have c3:wr.cell? ⟨g,off+i*6+3,none⟩=some (.int .i64 (x 3)):=cZ 3 (by omega);have c4:wr.cell? ⟨g,off+i*6+4,none⟩=some (.int .i64 (x 4)):=cZ 4 (by omega);have c5:wr.cell? ⟨g,off+i*6+5,none⟩=some (.int .i64 (x 5)):=cZ 5 (by omega);clear cZ;have hltI:(i:Int)<n:=by omega
   by_cases hxy:x=k
   ·have he:eq6 (x 0) (x 1) (x 2) (x 3) (x 4) (x 5) (k 0) (k 1) (k 2) (k 3) (k 4) (k 5)=true:=xgo ((xet x k).2 (fun t _=>by rw [hxy]))
    have HE:Hid (cn+1=(L.take (i+1)).countP (isP k)):=by
     show _=_;rw [xfi HGET.out,HCN.out,hxy];simp [isP]
    clear hxy NX;go_wp2_with fail;go_quiet (fail)
    go_wp2_with fail;exact ⟨⟨i+1,by omega,by go_num,by rw [<-HE.out];go_num,xi8 HG1.out _⟩,by simp [intOf];omega⟩
   ·have he:eq6 (x 0) (x 1) (x 2) (x 3) (x 4) (x 5) (k 0) (k 1) (k 2) (k 3) (k 4) (k 5)=false:=xgm (fun h=>hxy (NX.ext HK.out ((xet x k).1 h)))
    have HE:Hid (cn=(L.take (i+1)).countP (isP k)):=by
     show _=_;rw [xfi HGET.out,HCN.out];simp [isP,hxy]
    clear hxy NX;go_wp2_with fail;go_quiet (fail)
    go_wp2_with fail;exact ⟨⟨i+1,by omega,by go_num,by rw [<-HE.out],xi8 HG1.out _⟩,by simp [intOf];omega⟩
  ·obtain rfl:i=n:=by omega
   go_wp2_with fail;go_ret;refine ⟨?_,HG.out⟩;have e1:cn=R:=by rw [HCN.out,HR.out,List.take_of_length_le (by rw [HI.out.len];exact Nat.le_refl _)]
   rw [<-e1];rfl
end Go.Proofs.YtlhkfafdioakeaaGreatDoor
