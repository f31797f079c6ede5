/- Parts of the proof. -/
import Derived.Test.YtlhkfafdioakeaaGreatDoorSf06
namespace Go.Proofs.YtlhkfafdioakeaaGreatDoor
set_option maxRecDepth 100000
set_option maxHeartbeats 16000000
open Go.RowKit
set_option linter.unusedVariables false
set_option linter.unusedSimpArgs false
theorem QRow.less{B:Nat}{w:World}{T:TypeId}{size:Nat}{a:Option Addr}{c n k:Nat}{xs:List Value}(h:QRow B w T size (.slice a n c) n xs)(hk:k<=n)(h0:0<k):QRow B w T size (.slice a k c) k (xs.take (k*size)):=by
 have hl:=h.1;have hm:k*size<=n*size:=Nat.mul_le_mul_right size hk;refine ⟨by rw [List.length_take,hl];omega,?_⟩;rcases h.2 with ⟨_,e⟩|⟨g,off,cap,cur,e,h2,h3,h4,h5,h6,h7⟩
 ·omega
 ·cases e;exact .inr ⟨g,off,c,cur,rfl,h2,h3,by omega,h5,h6,fun j hj=>by rw [h7 j (by omega),List.getElem?_take_of_lt hj]⟩
theorem xwc(g off n c:Nat)(L:List ByteArray)(S:ByteArray)(w:World)(h:QRow 0 w 9 1 (.slice (some ⟨g,off,none⟩) n c) n (stC L))(hn:n<=1000000000000):Calls Tryz.prog 254 #[.slice (some ⟨g,off,none⟩) n c,.string S] w fun e w'=>(∃z:Int,e=.returned (.int .i64 z)/\(0<=z↔S∈L))/\w.grownBy w' none:=by
 have hL:L.length=n:=by have:=h.1;simp [stC] at this;exact this
 have HL:=hide hL
 have HS:Hid (∀i:Nat,i<n->∃x,L[i]?=some x/\w.cell? ⟨g,off+i,none⟩=some (.string x)):=fun i hi=>by
  refine ⟨L[i]'(by omega),List.getElem?_eq_getElem _,?_⟩;rw [h.cell i (by omega)];simp [stC,List.getElem?_map,List.getElem?_eq_getElem (show i<L.length by omega)]
 clear h hL;go_enter Tryz.func254,Tryz.ntmps254;go_wp2_with fail;go_loopw [8] (fun s8 wq=>∃i:Nat,i<=n/\s8=.int .i64 i/\w.grownBy wq none/\∀j:Nat,j<i->L[j]?≠some S) (fun s8 _=>n-(intOf s8).toNat)
 case atStart=>exact ⟨0,by omega,rfl,xjb _ _,fun j hj=>by omega⟩
 case round=>
  obtain ⟨i,hi,rfl,hg,hno⟩:=hrel;have HG:=hide hg;have HN:=hide hno;clear hg hno;by_cases hlt:i<n
  ·obtain ⟨x,hx,hc⟩:=HS.out i hlt;have m0:=HG.out.cell hc (by simp);have HX:=hide hx;have hltI:(i:Int)<n:=by omega
   clear hx hc;by_cases hh:S=x
   ·subst hh;go_wp2_with fail;go_ret;exact ⟨⟨i,rfl,⟨fun _=>List.mem_of_getElem? HX.out,fun _=>by omega⟩⟩,HG.out⟩
   ·have hne:=xn2 hh;have HH:=hide hh;clear hh;go_wp2_with fail;refine ⟨⟨i+1,by omega,by go_num,HG.out,fun j hj=>?_⟩,by simp [intOf];omega⟩;rcases Nat.lt_or_ge j i with e|e
    ·exact HN.out j e
    ·obtain rfl:j=i:=by omega
     rw [HX.out];exact fun e=>HH.out (Option.some.inj e).symm
  ·obtain rfl:n=i:=by omega
   go_wp2_with fail;go_ret;refine ⟨⟨-1,rfl,⟨fun h=>by omega,fun hm=>?_⟩⟩,HG.out⟩;obtain ⟨j,hj⟩:=List.mem_iff_getElem?.1 hm
   have:j<n:=by
    rcases Nat.lt_or_ge j n with e|e
    ·exact e
    ·rw [List.getElem?_eq_none (by rw [HL.out];exact e)] at hj;cases hj
   exact absurd hj (HN.out j this)
theorem xvo(g off n c:Nat)(L:List ByteArray)(S:ByteArray)(w:World)(h:QRow 0 w 9 1 (.slice (some ⟨g,off,none⟩) n c) n (stC L))(hn:n<=1000000000000):Calls Tryz.prog 224 #[.slice (some ⟨g,off,none⟩) n c,.string S] w fun e w'=>(∃b:Bool,e=.returned (.bool b)/\(b=true↔S∈L))/\w.grownBy w' none:=by
 have HC:=hide (xwc g off n c L S w h hn);clear h;go_enter Tryz.func224,Tryz.ntmps224;go_wp2_with fail;refine HC.out.mono ?_;rintro e w2 ⟨⟨z,rfl,hz⟩,g2⟩;have HZ:=hide hz;have G2:=hide g2;clear hz g2 HC;go_wp2_with fail;go_ret;exact ⟨⟨decide (0<=z),rfl,by rw [decide_eq_true_iff];exact HZ.out⟩,G2.out⟩
def mayS(L:List ByteArray)(i:Int):Prop:=0<=i/\i<L.length/\(i=0\/enK 2∉L.take (i.toNat+1))
theorem xm8(w:World){B nb:Nat}{role:Nat->Role}{N:NetM}(h:NetAt w B nb role N){s:Nat}(hs:s<N.D)(i:Int)(hlen:(N.dv s).dl.length<=100000000000):
  Calls Tryz.prog 167 #[.pointer (some ⟨N.db,s*5,none⟩),.int .i64 i] w (Says (mayS (N.dv s).dl i) w):=by
 obtain ⟨L,hL⟩:∃L,L=(N.dv s).dl:=⟨_,rfl⟩;rw [<-hL] at hlen ⊢;obtain ⟨va,vc,hv⟩:=((h.dvs s hs).row 2 (by omega)).q.slice;have hv2:(N.dv s).vs 2=.slice va L.length vc:=by rw [hL];exact hv
 have hq:QRow 0 w 9 1 (.slice va L.length vc) L.length (stC L):=by
  have:=((h.dvs s hs).row 2 (by omega)).q;rw [hv2] at this;rw [hL];rw [hL] at this;exact this
 obtain ⟨cur,c1,c2,c3⟩:=h.dev;have d0:=xc7 c1 (s*5+2) _ (c3 s hs 2 (by omega));rw [hv2] at d0;have HQ:=hide hq;have HW:Hid (∀ww,w.grownBy ww none->Calls Tryz.prog 225 #[.agg #[.int .i64 2,.int .i64 0,.int .i64 0,.int .i64 0,.int .i64 0,.int .i64 0,.int .i64 0,.int .i64 0,.slice none 0 0,.slice none 0 0]] ww fun e w'=>e=.returned (.string (enK 2))/\ww.grownBy w' none):=fun ww hg=>x1m (kindM 2) none none 0 0 ww (xks (.inl rfl)) (PkRow.none _ _) (PkRow.none _ _) (RowIn.none _ _ _) (RowIn.none _ _ _)
 obtain ⟨M,hM⟩:∃M,M=mayS L i:=⟨_,rfl⟩;rw [<-hM];have HM:=hide hM;have HDC:Hid (∀ww,w.grownBy ww none->ww.cell? ⟨N.db,s*5+2,none⟩=some (.slice va L.length vc)):=fun ww hg=>hg.cell d0 (by simp)
 generalize N.db=db at *;obtain ⟨n,hn⟩:∃n,n=L.length:=⟨_,rfl⟩;rw [<-hn] at hlen HQ d0 HDC;have HNL:=hide hn;have hb:db<w.heap.size:=World.block_lt_of_cell? w _ d0;clear h hL hv hv2 hq c1 c2 c3 hM hn;go_enter Tryz.func167,Tryz.ntmps167;by_cases h0:0<=i
 ·by_cases h1:i<n
  ·by_cases h2:i=0
   ·have H1:Hid (M↔True):=by
     show _↔_;rw [HM.out];exact ⟨fun _=>trivial,fun _=>⟨h0,by rw [<-HNL.out];exact h1,.inl h2⟩⟩
    clear HM;subst h2;go_wp2_with fail;go_quiet (fail)
    all_goals
     go_wp2_with fail;go_ret;exact ⟨⟨true,rfl,by simp;exact H1.out.2 trivial⟩,by first|exact xjb _ _|exact xi7 (xjb _ _)|exact xi8 (xjb _ _) _⟩
   ·obtain ⟨k,rfl⟩:∃k:Nat,i=(k:Int)+1:=⟨(i-1).toNat,by omega⟩;obtain ⟨g,off,rfl,hcap⟩:=HQ.out.some (by omega);have hk1:(k:Int)+1+1<=vc:=by omega
    have hk2:k+1+1<=vc:=by omega
    have hk3:(k:Int)+2<=vc:=by omega
    have hk4:k+2<=vc:=by omega
    have hwr:IntKind.i64.wrap ((k:Int)+1+1)=(k:Int)+1+1:=by rw [IntKind.wrap_i64];omega
    have hwr2:IntKind.i64.wrap ((k:Int)+2)=(k:Int)+2:=by rw [IntKind.wrap_i64];omega
    have hk5:(0:Int)<=(k:Int)+1+1:=by omega
    have hk6:(0:Int)<=(k:Int)+2:=by omega
    have HK:Hid (∀ww,w.grownBy ww none->Calls Tryz.prog 224 #[.slice (some ⟨g,off,none⟩) (k+1+1) vc,.string (enK 2)] ww fun e w'=>(∃b:Bool,e=.returned (.bool b)/\(b=true↔enK 2∈L.take (k+1+1)))/\ww.grownBy w' none):=fun ww hg=>by
     have hq:=(HQ.out.kept hg (fun b e=>by cases e)).less (k:=k+1+1) (by omega) (by omega);have e:(stC L).take ((k+1+1)*1)=stC (L.take (k+1+1)):=by rw [Nat.mul_one,stC,stC,List.map_take]
     rw [e] at hq;exact xvo g off (k+1+1) vc (L.take (k+1+1)) (enK 2) ww hq (by omega)
    have H1:Hid (M↔enK 2∉L.take (k+1+1)):=by
     show _↔_;rw [HM.out];unfold mayS;rw [show ((k:Int)+1).toNat=k+1 by omega];exact ⟨fun hm=>hm.2.2.resolve_left h2,fun hm=>⟨h0,by rw [<-HNL.out];exact h1,.inr hm⟩⟩
    clear HM;go_upto_region 3 with fail
    first|(go_region_with (first|(go_at_call 225;refine (HW.out _ (by first|exact xi7 (xjb _ _)|exact xjb _ _)).mono ?_;rintro e w2 ⟨rfl,g2⟩;have G2:=hide (show w.grownBy w2 none by first|exact xjf g2|exact g2);have e2:=HDC.out w2 G2.out;have hb2:db<w2.heap.size:=Nat.lt_of_lt_of_le hb G2.out.size;clear g2)|(go_at_call 224;refine (HK.out _ (by first|exact xi7 G2.out|exact G2.out)).mono ?_;rintro e w3 ⟨⟨bq,rfl,hbq⟩,g3⟩;have G3:=hide (xje G2.out (show w2.grownBy w3 none by first|exact xjf g3|exact g3));have HBQ:=hide hbq;clear g3 hbq)))|fail
    all_goals
     go_wp2_with fail;go_ret;refine ⟨⟨!bq,rfl,?_⟩,G3.out⟩;rw [H1.out,<-HBQ.out];cases bq<;>simp
  ·have H0:Hid (¬M):=fun hm=>by rw [HM.out] at hm;have:=hm.2.1;rw [<-HNL.out] at this;exact h1 this
   clear HM;go_wp2_with fail;go_ret;exact ⟨⟨false,rfl,by simp;exact H0.out⟩,by first|exact xjb _ _|exact xi7 (xjb _ _)|exact xi8 (xjb _ _) _⟩
 ·have H0:Hid (¬M):=fun hm=>by rw [HM.out] at hm;exact h0 hm.1
  clear HM;go_wp2_with fail;go_ret;exact ⟨⟨false,rfl,by simp;exact H0.out⟩,by first|exact xjb _ _|exact xi7 (xjb _ _)|exact xi8 (xjb _ _) _⟩
end Go.Proofs.YtlhkfafdioakeaaGreatDoor
