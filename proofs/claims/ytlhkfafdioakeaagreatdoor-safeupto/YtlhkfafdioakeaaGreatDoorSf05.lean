/- Parts of the proof. -/
import Derived.Test.YtlhkfafdioakeaaGreatDoorSf04
import Derived.Deep.DeepCutAuto
import Derived.Deep.RegionWith
import Derived.Lib.Strings
import Derived.Deep.RegionLaw
import Derived.Deep.CutBlock
namespace Go.Proofs.YtlhkfafdioakeaaGreatDoor
set_option maxRecDepth 100000
set_option maxHeartbeats 8000000
open Go.RowKit
set_option linter.unusedVariables false
set_option linter.unusedSimpArgs false
theorem Tryz.infoPk:(Tryz.prog.info? 46).map (fun i=>(i.zero,i.size,i.bytes))=some (some (.agg #[.int .i64 0,.int .i64 0,.int .i64 0,.int .i64 0,.int .i64 0,.int .i64 0]),6,48):=by kernel_rfl
def pkL(k:Nat->Int):List Value:=[.int .i64 (k 0),.int .i64 (k 1),.int .i64 (k 2),.int .i64 (k 3),.int .i64 (k 4),.int .i64 (k 5)]
def xrb(n:Nat)(ps:Nat->Nat->Int):List Value:=(List.range n).flatMap fun j=>pkL (ps j)
theorem xre(n:Nat)(ps:Nat->Nat->Int):xrb (n+1) ps=xrb n ps++pkL (ps n):=by simp [xrb,List.range_succ]
theorem xrd(n:Nat)(ps:Nat->Nat->Int):(xrb n ps).length=n*6:=by
 induction n with
 | zero=>rfl
 | succ n ih=>rw [xre,List.length_append,ih];simp [pkL];omega
theorem xrc(n:Nat)(ps:Nat->Nat->Int)(j:Nat)(hj:j<n)(i:Nat)(hi:i<6):(xrb n ps)[j*6+i]?=some (.int .i64 (ps j i)):=by
 induction n with
 | zero=>omega
 | succ n ih=>
  rw [xre];by_cases e:j<n
  ·rw [List.getElem?_append_left (by rw [xrd];omega)];exact ih e
  ·obtain rfl:j=n:=by omega
   rw [List.getElem?_append_right (by rw [xrd];omega),xrd,Nat.add_sub_cancel_left];rcases (show i=0\/i=1\/i=2\/i=3\/i=4\/i=5 by omega) with rfl|rfl|rfl|rfl|rfl|rfl<;>rfl
def PRow(base:Nat)(w:World)(v:Value)(n:Nat)(ps:Nat->Nat->Int):Prop:=w.ownsRow base 46 6 v n (xrb n ps)
theorem PRow.row{base:Nat}{w:World}{v:Value}{n:Nat}{ps:Nat->Nat->Int}(h:PRow base w v n ps)(hn:n<=3000000000000):PkRow w v n ps:=by
 rcases h.2 with ⟨h2,h3⟩|⟨g,cap,cur,hv,_⟩
 ·exact .inl ⟨h2,h3⟩
 ·refine .inr ⟨g,0,cap,hv,hn,fun j hj i hi=>?_⟩;have:=World.ownsRow.cells h (g:=g) (by rw [hv];rfl) (j*6+i) _ (xrc n ps j hj i hi);rw [xbl] at this;simpa using this
theorem PRow.rowIn{base:Nat}{w:World}{v:Value}{n:Nat}{ps:Nat->Nat->Int}(h:PRow base w v n ps):RowIn w.heap.size v:=by
 intro g off m cap e;exact (World.ownsRow.lt h g (by rw [e];rfl)).2
theorem xd0(s:ByteArray)(a b i:Nat)(hi:a+i<b)(hb:b<=s.size):bytM (s.extract a b) i=bytM s (a+i):=by
 have h1:i<(s.extract a b).size:=by rw [ByteArray.size_extract];omega
 rw [xdx _ _ h1,xdx s (a+i) (by omega)];rw [ByteArray.getElem_extract]
theorem xg3(s:ByteArray)(a b:Nat):(s.extract a s.size).extract b (s.extract a s.size).size=s.extract (a+b) s.size:=by
 apply ByteArray.ext;rw [ByteArray.data_extract,ByteArray.data_extract,ByteArray.data_extract,Array.extract_extract];congr 1;rw [ByteArray.size_extract];omega
theorem xeg(w:World)(k:Nat->Int)(t:TypeId):∀j u,(pkL k)[j]?=some u->(w.alloc (.cells #[.int .i64 (k 0),.int .i64 (k 1),.int .i64 (k 2),.int .i64 (k 3),.int .i64 (k 4),.int .i64 (k 5)] t)).cell? ((⟨w.heap.size,0,none⟩:Addr).add j)=some u:=by
 intro j u h;have hj:j<6:=by have:=(List.getElem?_eq_some_iff.1 h).1;simpa [pkL] using this
 rw [xbl];rcases (show j=0\/j=1\/j=2\/j=3\/j=4\/j=5 by omega) with rfl|rfl|rfl|rfl|rfl|rfl<;>(simp [pkL] at h;subst h;simp)
def xxt(v:Value):Nat:=match v with | .string s=>s.size|_=>0
def pkS(s:ByteArray)(j i:Nat):Int:=sg (bytM s (6*j+i))
theorem xv7(s:ByteArray)(w:World)(hs:s.size<=1000000):
  Calls Tryz.prog 271 #[.string s] w fun e w'=>∃v,e=.returned v/\PRow w.heap.size w' v (s.size/6) (pkS s)/\w.grownBy w' none:=by
 obtain ⟨i0,hi0,hz0,hz1,hz2⟩:=info_parts Tryz.infoPk;go_enter Tryz.func271,Tryz.ntmps271;go_wp2;go_loopw [0,3] (fun sv v wr=>∃j:Nat,6*j<=s.size/\sv=.string (s.extract (6*j) s.size)/\PRow w.heap.size wr v j (pkS s)/\w.grownBy wr none) (fun sv _ _=>xxt sv)
 case atStart=>exact ⟨0,by omega,by simp,World.ownsRow_nil _ _ _ _,xjb _ _⟩
 case round=>
  obtain ⟨j,hj,rfl,hP,hg⟩:=hrel;have HP:=hide hP;have HG:=hide hg;clear hP hg;obtain ⟨t,ht⟩:∃t,t=s.extract (6*j) s.size:=⟨_,rfl⟩;have hts:t.size=s.size-6*j:=by rw [ht,ByteArray.size_extract];omega
  rw [<-ht];have HT:=hide ht;clear ht;by_cases hlt:6<=t.size
  ·have h1:(6:Int)<=t.size:=by omega
   have h2:t.size<=1000000:=by omega
   have hj2:j<=1000000:=by omega
   have HO:=hide (xpm (t.extract 0 6) wr (by rw [ByteArray.size_extract];omega))
   have HPK:Hid (∀i,i<6->sg (bytM (t.extract 0 6) i)=pkS s j i):=by
    intro i hi;unfold pkS;rw [xd0 t 0 6 i (by omega) hlt,HT.out,xd0 s (6*j) s.size (0+i) (by omega) (Nat.le_refl _)];simp
   obtain ⟨k,hk⟩:∃k:Nat->Int,k=fun i=>sg (bytM (t.extract 0 6) i):=⟨_,rfl⟩
   rw [show (fun i=>sg (bytM (t.extract 0 6) i))=k from hk.symm] at HO;have HK:=hide hk;have HTS:=hide hts;clear hk hts;unfold pkV pkA at HO;go_wp2_with fail;refine HO.out.mono ?_;rintro e w1 ⟨rfl,hg1⟩;have G1:=hide hg1;clear hg1;go_wp2_with (at_builtin;refine wpList_append_own_at _ rfl _ _ 29 rfl w.heap.size 46 i0 _ 6 48 Tryz.underlying29 hi0 hz0 hz1 hz2 rfl (by decide) _ _ _ rfl (World.ownsRow.alloc (World.ownsRow.kept HP.out G1.out ?d0) _) ⟨w1.heap.size,0,none⟩ 1 1 (pkL k) rfl rfl (xeg _ _ _) ?d2 ?d3 ?d4 ?d5 ?_)
   case d0=>cases hv:Value.ownBlock _<;>simp
   case d2=>intro u hu;simp only [pkL,List.mem_cons,List.not_mem_nil,or_false] at hu;rcases hu with rfl|rfl|rfl|rfl|rfl|rfl<;>rfl
   case d3=>unfold maxLen;omega
   case d4=>omega
   case d5=>have:=HG.out.size;have:=G1.out.size;simp;omega
   intro v' w2 hown' hgrow _ hat
   have S:Hid (PRow w.heap.size w2 v' (j+1) (pkS s)/\w.grownBy w2 none):=by
    constructor
    ·unfold PRow;rw [xre]
     have e:pkL k=pkL (pkS s j):=by
      unfold pkL;have hh:∀i,i<6->k i=pkS s j i:=fun i hi=>by rw [HK.out];exact HPK.out i hi
      rw [hh 0 (by omega),hh 1 (by omega),hh 2 (by omega),hh 3 (by omega),hh 4 (by omega),hh 5 (by omega)]
     rw [<-e];exact hown'
    ·exact xja (xje (xje HG.out G1.out) (World.grownBy_alloc _ _ _)) hgrow (fun b e=>(World.ownsRow.lt HP.out b e).1)
   clear hown' hgrow hat;go_wp2;go_roundw
   case rel=>
    refine ⟨j+1,by have:=HTS.out;omega,?_,S.out.1,S.out.2⟩;rw [HT.out];exact congrArg Value.string (xg3 s (6*j) 6)
   case measure=>simp [xxt];omega
  ·go_wp2;go_ret;refine ⟨_,rfl,?_,HG.out⟩;rw [show s.size/6=j by omega];exact HP.out
def mA(c:Nat->Value):Array Value:=#[c 0,c 1,c 2,c 3,c 4,c 5,c 6,c 7,c 8,c 9]
def mBlk(w:World)(b:Nat)(c:Nat->Value):Prop:=w.heap[b]?=some (.cells (mA c) 213 (0,0))
def upd(c:Nat->Value)(i:Nat)(x:Value):Nat->Value:=fun j=>if j=i then x else c j
theorem ten{p:Nat->Prop}(h0:p 0)(h1:p 1)(h2:p 2)(h3:p 3)(h4:p 4)(h5:p 5)(h6:p 6)(h7:p 7)(h8:p 8)(h9:p 9)(i:Nat)(hi:i<10):p i:=by
 rcases (show i=0\/i=1\/i=2\/i=3\/i=4\/i=5\/i=6\/i=7\/i=8\/i=9 by omega) with rfl|rfl|rfl|rfl|rfl|rfl|rfl|rfl|rfl|rfl<;>assumption
theorem xmm(c:Nat->Value)(i:Nat)(h:i<10):(mA c)[i]?=some (c i):=
 ten (p:=fun i=>(mA c)[i]?=some (c i)) rfl rfl rfl rfl rfl rfl rfl rfl rfl rfl i h
theorem mBlk.cell{w:World}{b:Nat}{c:Nat->Value}(h:mBlk w b c)(i:Nat)(hi:i<10):w.cell? ⟨b,i,none⟩=some (c i):=by
 unfold mBlk at h;have:=xmm c i hi;simp only [World.cell?,h];simpa using this
theorem mBlk.frozen{w:World}{b:Nat}{c:Nat->Value}(h:mBlk w b c)(i:Nat):w.frozen? ⟨b,i,none⟩=false:=by
 unfold mBlk at h;simp [World.frozen?,h]
theorem mBlk.grown{w w':World}{b:Nat}{c:Nat->Value}{row:Option Nat}(h:mBlk w b c)(hg:w.grownBy w' row)(hr:row≠some b):mBlk w' b c:=by
 unfold mBlk at *;rw [hg.block b (Array.getElem?_eq_some_iff.1 h).1 hr.symm,h]
theorem mBlk.alloc(w:World)(c:Nat->Value):mBlk (w.alloc (.cells (mA c) 213)) w.heap.size c:=heap_alloc_new w _
theorem mBlk.set{w:World}{b:Nat}{c:Nat->Value}(h:mBlk w b c)(i:Nat)(hi:i<10)(x:Value):mBlk (w.setCell ⟨b,i,none⟩ x) b (upd c i x):=by
 unfold mBlk at *;rw [xjh h];congr 2;exact ten (p:=fun i=>(mA c).setIfInBounds i x=mA (upd c i x)) (by simp [mA,upd]) (by simp [mA,upd]) (by simp [mA,upd]) (by simp [mA,upd]) (by simp [mA,upd]) (by simp [mA,upd]) (by simp [mA,upd]) (by simp [mA,upd]) (by simp [mA,upd]) (by simp [mA,upd]) i hi
def mz(k:Int):Nat->Value:=fun i=>if i=0 then .int .i64 k else if i<8 then .int .i64 0 else .slice none 0 0
def put10(w:World)(b:Nat)(c:Nat->Value):World:=
 (((((((((w.setCell ⟨b,0,none⟩ (c 0)).setCell ⟨b,1,none⟩ (c 1)).setCell ⟨b,2,none⟩ (c 2)).setCell ⟨b,3,none⟩ (c 3)).setCell ⟨b,4,none⟩ (c 4)).setCell ⟨b,5,none⟩ (c 5)).setCell ⟨b,6,none⟩ (c 6)).setCell ⟨b,7,none⟩ (c 7)).setCell ⟨b,8,none⟩ (c 8)).setCell ⟨b,9,none⟩ (c 9)
theorem xst{w:World}{b:Nat}{c0:Nat->Value}(h:mBlk w b c0)(c:Nat->Value):mBlk (put10 w b c) b c:=by
 unfold put10;unfold mBlk at h;unfold mBlk;rw [xjh (xjh (xjh (xjh (xjh (xjh (xjh (xjh (xjh (xjh h 0 _) 1 _) 2 _) 3 _) 4 _) 5 _) 6 _) 7 _) 8 _) 9 _];simp [mA]
theorem xsu(w:World)(b:Nat)(c:Nat->Value):w.grownBy (put10 w b c) (some b):=
 xje (xje (xje (xje (xje (xje (xje (xje (xje (xjc _ _ _ _) (xjc _ _ _ _)) (xjc _ _ _ _)) (xjc _ _ _ _)) (xjc _ _ _ _)) (xjc _ _ _ _)) (xjc _ _ _ _)) (xjc _ _ _ _)) (xjc _ _ _ _)) (xjc _ _ _ _)
theorem mBlk.tenCells{w:World}{b:Nat}{c:Nat->Value}(h:mBlk w b c):w.cell? ⟨b,0,none⟩=some (c 0)/\w.cell? ⟨b,1,none⟩=some (c 1)/\w.cell? ⟨b,2,none⟩=some (c 2)/\w.cell? ⟨b,3,none⟩=some (c 3)/\w.cell? ⟨b,4,none⟩=some (c 4)/\w.cell? ⟨b,5,none⟩=some (c 5)/\w.cell? ⟨b,6,none⟩=some (c 6)/\w.cell? ⟨b,7,none⟩=some (c 7)/\w.cell? ⟨b,8,none⟩=some (c 8)/\w.cell? ⟨b,9,none⟩=some (c 9):=
 ⟨h.cell 0 (by omega),h.cell 1 (by omega),h.cell 2 (by omega),h.cell 3 (by omega),h.cell 4 (by omega),h.cell 5 (by omega),h.cell 6 (by omega),h.cell 7 (by omega),h.cell 8 (by omega),h.cell 9 (by omega)⟩
theorem xme(k:Int)(s:ByteArray)(w:World)(hs:s.size<=1000000)(h1:¬(k=1/\10<=s.size))(h5:¬(k=5/\2<=s.size))(h4:k≠4):
  Calls Tryz.prog 257 #[.int .i64 k,.string s] w fun e w'=>e=.returned (.agg (mA (mz k)))/\w.grownBy w' none:=by
 have hs2:(s.size:Int)<=1000000:=by omega
 unfold mA mz;simp only [if_true,Nat.reduceEqDiff,if_false,Nat.reduceLT];by_cases k1:k=1
 ·have hlt:¬10<=s.size:=fun h=>h1 ⟨k1,h⟩
  subst k1;clear h1 h5 h4;go_enter Tryz.func257,Tryz.ntmps257;go_wp2;refine bodyPost_ret (by simp [results,Tryz.results257,go_sem];try rfl) rfl ?_;exact ⟨rfl,xje (World.grownBy_alloc _ _ _) (World.grownBy_alloc _ _ _)⟩
 ·by_cases k5:k=5
  ·have hlt:¬2<=s.size:=fun h=>h5 ⟨k5,h⟩
   subst k5;clear h1 h5 h4;go_enter Tryz.func257,Tryz.ntmps257;go_wp2;refine bodyPost_ret (by simp [results,Tryz.results257,go_sem];try rfl) rfl ?_;exact ⟨rfl,xje (World.grownBy_alloc _ _ _) (World.grownBy_alloc _ _ _)⟩
  ·clear h1 h5;go_enter Tryz.func257,Tryz.ntmps257;go_wp2;refine bodyPost_ret (by simp [results,Tryz.results257,go_sem];try rfl) rfl ?_;exact ⟨rfl,xje (World.grownBy_alloc _ _ _) (World.grownBy_alloc _ _ _)⟩
theorem PRow.slice{base:Nat}{w:World}{v:Value}{n:Nat}{ps:Nat->Nat->Int}(h:PRow base w v n ps):∃a cap,v=.slice a n cap:=by
 rcases h.2 with ⟨h2,h3⟩|⟨g,cap,cur,hv,_⟩
 ·exact ⟨none,0,by rw [h2,h3]⟩
 ·exact ⟨_,_,hv⟩
theorem xz5(w:World)(c:Nat->Value){w0:World}(h:w0=(w.alloc (.cells (mA (mz 0)) 213)).alloc (.cells (mA c) 213)):
  mBlk w0 w.heap.size (mz 0)/\mBlk w0 (w.heap.size+1) c/\w.grownBy w0 none/\w0.heap.size=w.heap.size+2:=by
 subst h;refine ⟨(mBlk.alloc w (mz 0)).grown (World.grownBy_alloc _ _ none) (by simp),?_,xje (World.grownBy_alloc _ _ _) (World.grownBy_alloc _ _ _),by simp⟩;have:=mBlk.alloc (w.alloc (.cells (mA (mz 0)) 213)) c;simpa using this
theorem xr1(s:ByteArray)(a n:Nat)(ha:a<=s.size)(hn:n=(s.size-a)/6):∀j,j<n->∀i,i<6->pkS (s.extract a s.size) j i=sg (bytM s (a+6*j+i)):=by
 intro j hj i hi;unfold pkS;rw [xd0 s a s.size (6*j+i) (by omega) (Nat.le_refl _),<-Nat.add_assoc]
theorem PkRow.cong{w:World}{v:Value}{n:Nat}{ps qs:Nat->Nat->Int}(h:PkRow w v n ps)(hq:∀j,j<n->∀i,i<6->ps j i=qs j i):PkRow w v n qs:=by
 rcases h with h|⟨g,off,cap,h1,h2,h3⟩
 ·exact .inl h
 ·exact .inr ⟨g,off,cap,h1,h2,fun j hj i hi=>by rw [<-hq j hj i hi];exact h3 j hj i hi⟩
def xah(B:Nat)(v:Value):Prop:=∀g off n cap,v=.slice (some ⟨g,off,none⟩) n cap->B<=g
theorem PRow.from{base:Nat}{w:World}{v:Value}{n:Nat}{ps:Nat->Nat->Int}(h:PRow base w v n ps){B:Nat}(hB:B<=base):xah B v:=by
 intro g off m cap e;exact Nat.le_trans hB (World.ownsRow.lt h g (by rw [e];rfl)).1
theorem PRow.keep{base:Nat}{w w':World}{v:Value}{n:Nat}{ps:Nat->Nat->Int}{rb:Nat}(h:PRow base w v n ps)(hg:w.grownBy w' (some rb))(hr:rb<base):PRow base w' v n ps:=by
 refine World.ownsRow.kept h hg ?_;cases hv:v.ownBlock with
 | none=>exact .inl rfl
 | some k=>exact .inr (by have:=(World.ownsRow.lt h k hv).1;intro e;cases e;omega)
theorem xmk{w w3:World}{v:Value}{n:Nat}{ps:Nat->Nat->Int}{base:Nat}(G3:w.grownBy w3 none)(hP:PRow base w3 v n ps)(hb:w.heap.size+2<=base)(hn:n<=3000000000000)(i:Nat)(x:Value)(c:Nat->Value):
  PkRow (put10 (w3.setCell ⟨w.heap.size+1,i,none⟩ x) w.heap.size c) v n ps/\RowIn (put10 (w3.setCell ⟨w.heap.size+1,i,none⟩ x) w.heap.size c).heap.size v/\xah w.heap.size v/\w.grownBy (put10 (w3.setCell ⟨w.heap.size+1,i,none⟩ x) w.heap.size c) none:=by
 have h1:=(hP.keep (xjc w3 (w.heap.size+1) i x) (by omega)).keep (xsu _ w.heap.size c) (by omega);exact ⟨h1.row hn,h1.rowIn,h1.from (by omega),xi9 (xi9 G3 (xjc _ _ _ _) (by omega)) (xsu _ _ _) (by omega)⟩
theorem xmg(s:ByteArray)(w:World)(hs:s.size<=1000000):
  Calls Tryz.prog 257 #[.int .i64 4,.string s] w fun e w'=>∃v,e=.returned (.agg (mA (upd (mz 4) 9 v)))/\PkRow w' v (s.size/6) (pkS s)/\RowIn w'.heap.size v/\xah w.heap.size v/\w.grownBy w' none:=by
 have hs2:(s.size:Int)<=1000000:=by omega
 obtain ⟨w0,hw0⟩:∃w0,w0=(w.alloc (.cells (mA (mz 0)) 213)).alloc (.cells (mA (mz 4)) 213):=⟨_,rfl⟩;have T0:=hide (xz5 w (mz 4) hw0);unfold mA mz at hw0;simp only [if_true,Nat.reduceEqDiff,if_false,Nat.reduceLT] at hw0;have HS:=hide (xv7 s w0 hs);go_enter Tryz.func257,Tryz.ntmps257;go_wp2_with fail;rw [<-hw0];clear hw0;refine HS.out.mono ?_;rintro e w3 ⟨v,rfl,hP,hg3⟩;obtain ⟨t1,t2,t3,t4⟩:=T0.out;have G3:=hide (xje t3 hg3);have R3:=hide (t1.grown hg3 (by simp));have V3:=t2.grown hg3 (by simp);have HP:=hide hP;have HPi:=hide hP.rowIn;have hsz:=hg3.size;clear hP hg3 t1 t2 t3;obtain ⟨va,vc,rfl⟩:=HP.out.slice;have f9:=V3.frozen 9;have V4:=hide (V3.set 9 (by omega) (.slice va (s.size/6) vc));obtain ⟨c0,c1,c2,c3,c4,c5,c6,c7,c8,c9⟩:=V3.tenCells;obtain ⟨d0,d1,d2,d3,d4,d5,d6,d7,d8,d9⟩:=R3.out.tenCells;have f0:=R3.out.frozen;simp only [mz,if_true,Nat.reduceEqDiff,if_false,Nat.reduceLT] at c0 c1 c2 c3 c4 c5 c6 c7 c8 c9 d0 d1 d2 d3 d4 d5 d6 d7 d8 d9;clear V3;go_wp2;change bodyPost _ _ _ _ _ (put10 (w3.setCell ⟨w.heap.size+1,9,none⟩ (.slice va (s.size/6) vc)) w.heap.size (upd (mz 4) 9 (.slice va (s.size/6) vc)));have hp:=xst (R3.out.grown (xjc w3 (w.heap.size+1) 9 (.slice va (s.size/6) vc)) (by simp)) (upd (mz 4) 9 (.slice va (s.size/6) vc));obtain ⟨e0,e1,e2,e3,e4,e5,e6,e7,e8,e9⟩:=hp.tenCells;refine bodyPost_ret (v:=.agg (mA (upd (mz 4) 9 (.slice va (s.size/6) vc)))) (by simp [results,Tryz.results257,go_sem,e0,e1,e2,e3,e4,e5,e6,e7,e8,e9,mA]) rfl ?_;obtain ⟨q1,q2,q4,q3⟩:=xmk G3.out HP.out (by omega) (by omega) 9 (.slice va (s.size/6) vc) (upd (mz 4) 9 (.slice va (s.size/6) vc))
 exact ⟨_,rfl,q1,q2,q4,q3⟩
theorem xmh(s:ByteArray)(w:World)(hs:s.size<=1000000)(h2:2<=s.size):
  Calls Tryz.prog 257 #[.int .i64 5,.string s] w fun e w'=>∃v,e=.returned (.agg (mA (upd (mz 5) 9 v)))/\PkRow w' v ((s.size-2)/6) (fun j i=>sg (bytM s (2+6*j+i)))/\RowIn w'.heap.size v/\xah w.heap.size v/\w.grownBy w' none:=by
 have hs2:(s.size:Int)<=1000000:=by omega
 have h3:(2:Int)<=s.size:=by omega
 obtain ⟨w0,hw0⟩:∃w0,w0=(w.alloc (.cells (mA (mz 0)) 213)).alloc (.cells (mA (mz 5)) 213):=⟨_,rfl⟩;have T0:=hide (xz5 w (mz 5) hw0);unfold mA mz at hw0;simp only [if_true,Nat.reduceEqDiff,if_false,Nat.reduceLT] at hw0;have hex:(s.extract 2 s.size).size=s.size-2:=by rw [ByteArray.size_extract];omega
 have hsev:=xv7 (s.extract 2 s.size) w0 (by omega);rw [hex] at hsev;have HS:=hide hsev;clear hsev hex;obtain ⟨N,hN⟩:∃N,N=(s.size-2)/6:=⟨_,rfl⟩;have HSH:=hide (xr1 s 2 N h2 hN);rw [<-hN] at HS ⊢;have hNs:N<=1000000:=by omega
 clear hN;go_enter Tryz.func257,Tryz.ntmps257;go_wp2_with fail;rw [<-hw0];clear hw0;refine HS.out.mono ?_;rintro e w3 ⟨v,rfl,hP,hg3⟩;obtain ⟨t1,t2,t3,t4⟩:=T0.out;have G3:=hide (xje t3 hg3);have R3:=hide (t1.grown hg3 (by simp));have V3:=t2.grown hg3 (by simp);have HP:=hide hP;have hsz:=hg3.size;clear hP hg3 t1 t2 t3;obtain ⟨va,vc,rfl⟩:=HP.out.slice;have f9:=V3.frozen 9;obtain ⟨c0,c1,c2,c3,c4,c5,c6,c7,c8,c9⟩:=V3.tenCells;obtain ⟨d0,d1,d2,d3,d4,d5,d6,d7,d8,d9⟩:=R3.out.tenCells;have f0:=R3.out.frozen;simp only [mz,if_true,Nat.reduceEqDiff,if_false,Nat.reduceLT] at c0 c1 c2 c3 c4 c5 c6 c7 c8 c9 d0 d1 d2 d3 d4 d5 d6 d7 d8 d9;clear V3;go_wp2;change bodyPost _ _ _ _ _ (put10 (w3.setCell ⟨w.heap.size+1,9,none⟩ (.slice va N vc)) w.heap.size (upd (mz 5) 9 (.slice va N vc)));have hp:=xst (R3.out.grown (xjc w3 (w.heap.size+1) 9 (.slice va N vc)) (by simp)) (upd (mz 5) 9 (.slice va N vc));obtain ⟨e0,e1,e2,e3,e4,e5,e6,e7,e8,e9⟩:=hp.tenCells;refine bodyPost_ret (v:=.agg (mA (upd (mz 5) 9 (.slice va N vc)))) (by simp [results,Tryz.results257,go_sem,e0,e1,e2,e3,e4,e5,e6,e7,e8,e9,mA]) rfl ?_;obtain ⟨q1,q2,q4,q3⟩:=xmk G3.out HP.out (by omega) (by omega) 9 (.slice va N vc) (upd (mz 5) 9 (.slice va N vc));exact ⟨_,rfl,q1.cong HSH.out,q2,q4,q3⟩
def put6m(w:World)(b:Nat)(k:Nat->Int):World:=
 (((((w.setCell ⟨b,2,none⟩ (.int .i64 (k 0))).setCell ⟨b,3,none⟩ (.int .i64 (k 1))).setCell ⟨b,4,none⟩ (.int .i64 (k 2))).setCell ⟨b,5,none⟩ (.int .i64 (k 3))).setCell ⟨b,6,none⟩ (.int .i64 (k 4))).setCell ⟨b,7,none⟩ (.int .i64 (k 5))
def addM(p:Int)(k:Nat->Int):Nat->Value:=fun i=>if i=0 then .int .i64 1 else if i=1 then .int .i64 p else if i<8 then .int .i64 (k (i-2)) else .slice none 0 0
theorem xsz{w:World}{b:Nat}{p:Int}(h:mBlk w b (upd (mz 1) 1 (.int .i64 p)))(k:Nat->Int):mBlk (put6m w b k) b (addM p k):=by
 unfold put6m;unfold mBlk at h;unfold mBlk;rw [xjh (xjh (xjh (xjh (xjh (xjh h 2 _) 3 _) 4 _) 5 _) 6 _) 7 _];simp [mA,upd,mz,addM]
theorem xs0(w:World)(b:Nat)(k:Nat->Int):w.grownBy (put6m w b k) (some b):=
 xje (xje (xje (xje (xje (xjc _ _ _ _) (xjc _ _ _ _)) (xjc _ _ _ _)) (xjc _ _ _ _)) (xjc _ _ _ _)) (xjc _ _ _ _)
theorem xmf(s:ByteArray)(w:World)(hs:s.size<=1000000)(h10:10<=s.size):
  Calls Tryz.prog 257 #[.int .i64 1,.string s] w fun e w'=>∃v,e=.returned (.agg (mA (upd (addM (bytM s 0*256+bytM s 1) (fun i=>sg (bytM s (2+i)))) 8 v)))/\PkRow w' v ((s.size-10)/6) (fun j i=>sg (bytM s (10+6*j+i)))/\RowIn w'.heap.size v/\xah w.heap.size v/\w.grownBy w' none:=by
 have h1:(10:Int)<=s.size:=by omega
 have hs2:(s.size:Int)<=1000000:=by omega
 obtain ⟨w0,hw0⟩:∃w0,w0=(w.alloc (.cells (mA (mz 0)) 213)).alloc (.cells (mA (mz 1)) 213):=⟨_,rfl⟩;have T0:=hide (xz5 w (mz 1) hw0);unfold mA mz at hw0;simp only [if_true,Nat.reduceEqDiff,if_false,Nat.reduceLT] at hw0;have hex:(s.extract 10 s.size).size=s.size-10:=by rw [ByteArray.size_extract];omega
 have hsev:=fun w0=>xv7 (s.extract 10 s.size) w0 (by omega)
 rw [hex] at hsev;have HS:=hide hsev;clear hsev hex;have HO:=hide (fun w0=>xpm (s.extract 2 8) w0 (by rw [ByteArray.size_extract];omega));have HTW:=hide (xz7 s w0 (by omega));obtain ⟨N,hN⟩:∃N,N=(s.size-10)/6:=⟨_,rfl⟩;have HSH:=hide (xr1 s 10 N (by omega) hN);rw [<-hN] at HS ⊢;have hNs:N<=1000000:=by omega
 clear hN;obtain ⟨p,hp⟩:∃p,p=bytM s 0*256+bytM s 1:=⟨_,rfl⟩;rw [<-hp] at HTW ⊢;clear hp;have hk6:∀i,i<6->sg (bytM (s.extract 2 8) i)=sg (bytM s (2+i)):=fun i hi=>by rw [xd0 s 2 8 i (by omega) (by omega)]
 obtain ⟨k,hk⟩:∃k:Nat->Int,k=fun i=>sg (bytM s (2+i)):=⟨_,rfl⟩
 rw [show (fun i=>sg (bytM s (2+i)))=k from hk.symm]
 have hpk:pkV (fun i=>sg (bytM (s.extract 2 8) i))=pkV k:=by
  unfold pkV pkA;simp only [];rw [hk6 0 (by omega),hk6 1 (by omega),hk6 2 (by omega),hk6 3 (by omega),hk6 4 (by omega),hk6 5 (by omega),hk]
 rw [hpk] at HO;clear hk hpk hk6;unfold pkV pkA at HO;go_enter Tryz.func257,Tryz.ntmps257;go_wp2_with fail;rw [<-hw0];clear hw0;refine HTW.out.mono ?_;rintro e w1 ⟨rfl,nq,hw1⟩;obtain ⟨t1,t2,t3,t4⟩:=T0.out;have t5:mBlk w1 (w.heap.size+1) (mz 1):=by rw [hw1];exact t2
 have G1:Hid (w.grownBy w1 none):=by rw [hw1];exact xi8 t3 nq
 have R1:Hid (mBlk w1 w.heap.size (mz 0)):=by rw [hw1];exact t1
 have hz1:w1.heap.size=w.heap.size+2:=by rw [hw1];exact t4
 clear hw1 t1 t2 t3 t4 T0;have c1:=t5.cell 1 (by omega);have f1:=t5.frozen 1;simp only [mz,if_true,Nat.reduceEqDiff,if_false,Nat.reduceLT] at c1;have V2:=hide (t5.set 1 (by omega) (.int .i64 p));clear t5;go_wp2_with fail;clear c1 f1;obtain ⟨w2,hw2⟩:∃w2,w2=w1.setCell ⟨w.heap.size+1,1,none⟩ (.int .i64 p):=⟨_,rfl⟩;have G2:Hid (w.grownBy w2 none):=by rw [hw2];exact xi9 G1.out (xjc _ _ _ _) (by omega)
 have R2:Hid (mBlk w2 w.heap.size (mz 0)):=by rw [hw2];exact R1.out.grown (xjc _ _ _ _) (by simp)
 have hz2:w1.heap.size<=w2.heap.size:=by rw [hw2];exact (xjc _ _ _ _).size
 rw [<-hw2] at V2 ⊢;clear hw2 G1 R1;refine (HO.out w2).mono ?_;rintro e w3 ⟨rfl,hg3⟩;have G3:=hide (xje G2.out hg3);have R3:=hide (R2.out.grown hg3 (by simp));have V3:=V2.out.grown hg3 (by simp);have hz3:=hg3.size;clear hg3 G2 R2 V2;obtain ⟨c0,c1,c2,c3,c4,c5,c6,c7,c8,c9⟩:=V3.tenCells;have f1:=V3.frozen;simp only [upd,mz,if_true,Nat.reduceEqDiff,if_false,Nat.reduceLT] at c0 c1 c2 c3 c4 c5 c6 c7 c8 c9;have V4:=hide (xsz V3 k);clear V3;go_wp2_with fail;change Calls _ _ _ (put6m w3 (w.heap.size+1) k) _;clear c0 c1 c2 c3 c4 c5 c6 c7 c8 c9 f1;obtain ⟨w4,hw4⟩:∃w4,w4=put6m w3 (w.heap.size+1) k:=⟨_,rfl⟩;have G4:Hid (w.grownBy w4 none):=by rw [hw4];exact xi9 G3.out (xs0 _ _ _) (by omega)
 have R4:Hid (mBlk w4 w.heap.size (mz 0)):=by rw [hw4];exact R3.out.grown (xs0 _ _ _) (by simp)
 have hz4:w3.heap.size<=w4.heap.size:=by rw [hw4];exact (xs0 _ _ _).size
 rw [<-hw4] at V4 ⊢;clear hw4 G3 R3;refine (HS.out w4).mono ?_;rintro e w5 ⟨v,rfl,hP,hg5⟩;have G5:=hide (xje G4.out hg5);have R5:=hide (R4.out.grown hg5 (by simp));have V5:=V4.out.grown hg5 (by simp);have HP:=hide hP;clear hP hg5 G4 R4 V4;obtain ⟨va,vc,rfl⟩:=HP.out.slice;have f9:=V5.frozen 8;obtain ⟨c0,c1,c2,c3,c4,c5,c6,c7,c8,c9⟩:=V5.tenCells;obtain ⟨d0,d1,d2,d3,d4,d5,d6,d7,d8,d9⟩:=R5.out.tenCells;have f0:=R5.out.frozen;simp only [addM,mz,if_true,Nat.reduceEqDiff,if_false,Nat.reduceLT,Nat.reduceSub] at c0 c1 c2 c3 c4 c5 c6 c7 c8 c9 d0 d1 d2 d3 d4 d5 d6 d7 d8 d9;clear V5;go_wp2;change bodyPost _ _ _ _ _ (put10 (w5.setCell ⟨w.heap.size+1,8,none⟩ (.slice va N vc)) w.heap.size (upd (addM p k) 8 (.slice va N vc)));have hp:=xst (R5.out.grown (xjc w5 (w.heap.size+1) 8 (.slice va N vc)) (by simp)) (upd (addM p k) 8 (.slice va N vc));obtain ⟨e0,e1,e2,e3,e4,e5,e6,e7,e8,e9⟩:=hp.tenCells;refine bodyPost_ret (v:=.agg (mA (upd (addM p k) 8 (.slice va N vc)))) (by simp [results,Tryz.results257,go_sem,e0,e1,e2,e3,e4,e5,e6,e7,e8,e9,mA]) rfl ?_;obtain ⟨q1,q2,q4,q3⟩:=xmk G5.out HP.out (by omega) (by omega) 8 (.slice va N vc) (upd (addM p k) 8 (.slice va N vc));exact ⟨_,rfl,q1.cong HSH.out,q2,q4,q3⟩
def xmi(k:Int)(s:ByteArray):Msg:=
 if k=1/\10<=s.size then ⟨1,bytM s 0*256+bytM s 1,fun i=>sg (bytM s (2+i)),(s.size-10)/6,fun j i=>sg (bytM s (10+6*j+i)),0,fun _ _=>0⟩
 else if k=5/\2<=s.size then ⟨5,0,fun _=>0,0,fun _ _=>0,(s.size-2)/6,fun j i=>sg (bytM s (2+6*j+i))⟩
 else if k=4 then ⟨4,0,fun _=>0,0,fun _ _=>0,s.size/6,pkS s⟩
 else ⟨k,0,fun _=>0,0,fun _ _=>0,0,fun _ _=>0⟩
theorem PkRow.nil(w:World)(ps:Nat->Nat->Int):PkRow w (.slice none 0 0) 0 ps:=.inl ⟨rfl,rfl⟩
theorem RowIn.nil(B:Nat):RowIn B (.slice none 0 0):=fun g off n cap e=>by cases e
theorem xah.nil(B:Nat):xah B (.slice none 0 0):=fun g off n cap e=>by cases e
theorem xmj(k:Int)(s:ByteArray)(w:World)(hs:s.size<=1000000):
  Calls Tryz.prog 257 #[.int .i64 k,.string s] w fun e w'=>∃av pv,e=.returned (msgV (xmi k s) av pv)/\PkRow w' av (xmi k s).na (xmi k s).acts/\PkRow w' pv (xmi k s).np (xmi k s).pks/\RowIn w'.heap.size av/\RowIn w'.heap.size pv/\xah w.heap.size av/\xah w.heap.size pv/\w.grownBy w' none:=by
 unfold xmi;by_cases h1:k=1/\10<=s.size
 ·rw [if_pos h1];obtain ⟨rfl,h10⟩:=h1;refine (xmf s w hs h10).mono ?_;rintro e w' ⟨v,rfl,h1,h2,h4,h3⟩;exact ⟨v,.slice none 0 0,rfl,h1,PkRow.nil _ _,h2,RowIn.nil _,h4,xah.nil _,h3⟩
 by_cases h5:k=5/\2<=s.size
 ·rw [if_neg h1,if_pos h5];obtain ⟨rfl,h2⟩:=h5;refine (xmh s w hs h2).mono ?_;rintro e w' ⟨v,rfl,h1,h2,h4,h3⟩;exact ⟨.slice none 0 0,v,rfl,PkRow.nil _ _,h1,RowIn.nil _,h2,xah.nil _,h4,h3⟩
 by_cases h4:k=4
 ·rw [if_neg h1,if_neg h5,if_pos h4];subst h4;refine (xmg s w hs).mono ?_;rintro e w' ⟨v,rfl,h1,h2,h4,h3⟩;exact ⟨.slice none 0 0,v,rfl,PkRow.nil _ _,h1,RowIn.nil _,h2,xah.nil _,h4,h3⟩
 ·rw [if_neg h1,if_neg h5,if_neg h4];refine (xme k s w hs h1 h5 h4).mono ?_;rintro e w' ⟨rfl,h3⟩;exact ⟨.slice none 0 0,.slice none 0 0,rfl,PkRow.nil _ _,PkRow.nil _ _,RowIn.nil _,RowIn.nil _,xah.nil _,xah.nil _,h3⟩
def zeroA:Value:=.agg #[.int .i64 0,.int .i64 0,.int .i64 0,.int .i64 0,.int .i64 0,.int .i64 0,.int .i64 0,.int .i64 0,.slice none 0 0,.slice none 0 0]
def lenS(s:ByteArray):Int:=bytM s 1*256+bytM s 2
theorem xlk(s:ByteArray):0<=lenS s/\lenS s<=65535:=by
 have:=xdy s 1;have:=xdy s 2;unfold lenS;omega
theorem xlo(s:ByteArray)(w:World)(hs:3<=s.size):Calls Tryz.prog 256 #[.string (s.extract 1 s.size)] w fun e w'=>e=.returned (.int .i64 (lenS s))/\∃n,w'=w.drewN n:=by
 have h:=xz7 (s.extract 1 s.size) w (by rw [ByteArray.size_extract];omega);rw [xd0 s 1 s.size 0 (by omega) (Nat.le_refl _),xd0 s 1 s.size 1 (by omega) (Nat.le_refl _)] at h;exact h
theorem xn2{a b:ByteArray}(h:a≠b):(a.toList == b.toList)=false:=by
 cases hb:a.toList == b.toList with
 | false=>rfl
 | true=>
  exfalso;apply h;have e:=eq_of_beq hb;rw [Lib.toList_data,Lib.toList_data] at e;exact xd3 e
def mC(m:Msg)(av pv:Value):Nat->Value:=fun i=>if i=0 then .int .i64 m.kind else if i=1 then .int .i64 m.prio else if i<8 then .int .i64 (m.mt (i-2)) else if i=8 then av else pv
theorem PkRow.row{w w':World}{v:Value}{n:Nat}{ps:Nat->Nat->Int}{rb B:Nat}(h:PkRow w v n ps)(hg:w.grownBy w' (some rb))(hf:xah B v)(hB:rb<B):PkRow w' v n ps:=by
 rcases h with h|⟨g,off,cap,h1,h2,h3⟩
 ·exact .inl h
 ·refine .inr ⟨g,off,cap,h1,h2,fun j hj i hi=>hg.cell (h3 j hj i hi) ?_⟩;have:=hf _ _ _ _ h1;simp;omega
theorem xah.mono{B B':Nat}{v:Value}(h:xah B v)(hB:B'<=B):xah B' v:=fun g off n cap e=>Nat.le_trans hB (h g off n cap e)
def CutR(M:Msg)(w:World)(s4:Value)(wx:World):Prop:=
 ∃b av pv,s4=.pointer (some ⟨b,0,none⟩)/\w.heap.size<b/\mBlk wx b (mC M av pv)/\mBlk wx w.heap.size (mz 0)/\PkRow wx av M.na M.acts/\PkRow wx pv M.np M.pks/\RowIn wx.heap.size av/\RowIn wx.heap.size pv/\xah (w.heap.size+1) av/\xah (w.heap.size+1) pv/\w.grownBy wx none
def xaf(B:Nat)(w:World)(m:Msg)(v:Value):Prop:=∃av pv,v=msgV m av pv/\PkRow w av m.na m.acts/\PkRow w pv m.np m.pks/\RowIn w.heap.size av/\RowIn w.heap.size pv/\xah B av/\xah B pv
def xa0(M:Msg)(s:ByteArray)(w:World)(e:Ending)(w':World):Prop:=
 w.grownBy w' none/\((¬(canS M/\strI (encB M)=.string s)/\e=.returned (.tuple #[zeroA,.int .i64 11]))\/((canS M/\strI (encB M)=.string s)/\∃v,xaf w.heap.size w' M v/\e=.returned (.tuple #[v,.int .i64 0])))
def xaz(s:ByteArray)(w:World):Ending->World->Prop:=xa0 (xmi (bytM s 0) (s.extract 3 s.size)) s w
theorem xfo(s:ByteArray)(w:World)(hs:3<=s.size)(hs2:s.size<=9223372036854775807)(hl:3+lenS s=(s.size:Int)):
  Calls Tryz.prog 226 #[.string s] w (xaz s w):=by
 have h1:(3:Int)<=s.size:=by omega
 have h2:(s.size:Int)<=9223372036854775807:=by omega
 have H:=hide (fun w=>xlo s w hs);obtain ⟨L,hL⟩:∃L,L=lenS s:=⟨_,rfl⟩;have hr:=xlk s;rw [<-hL] at H hl hr;obtain ⟨hr1,hr2⟩:=hr;clear hL;have HLO:=hide (fun w=>xmj (bytM s 0) (s.extract 3 s.size) w (by rw [ByteArray.size_extract];omega));have h0:0<s.size:=by omega
 have hb0:=xdx s 0 h0;unfold xaz;obtain ⟨b0,hb⟩:∃b0,b0=bytM s 0:=⟨_,rfl⟩;rw [<-hb] at HLO hb0 ⊢;have HB0:=hide hb0;clear hb hb0;obtain ⟨M,hM⟩:∃M,M=xmi b0 (s.extract 3 s.size):=⟨_,rfl⟩;rw [<-hM] at HLO ⊢;clear hM;have HQ:Hid (∀e w',xa0 M s w e w'↔(w.grownBy w' none/\((¬(canS M/\strI (encB M)=.string s)/\e=.returned (.tuple #[zeroA,.int .i64 11]))\/((canS M/\strI (encB M)=.string s)/\∃v,xaf w.heap.size w' M v/\e=.returned (.tuple #[v,.int .i64 0]))))):=fun _ _=>Iff.rfl
 generalize xa0 M s w=Q at HQ ⊢;have hlA:(s.size:Int)<=3+L:=by omega
 have hlB:3+L<=(s.size:Int):=by omega
 clear hl;obtain ⟨wa,hwa⟩:∃wa,wa=w.alloc (.cells (mA (mz 0)) 213):=⟨_,rfl⟩;have RA:mBlk wa w.heap.size (mz 0):=by rw [hwa];exact mBlk.alloc _ _
 have GA:w.grownBy wa none:=by rw [hwa];exact World.grownBy_alloc _ _ _
 unfold mA mz at hwa;simp only [if_true,Nat.reduceEqDiff,if_false,Nat.reduceLT] at hwa;go_enter Tryz.func226,Tryz.ntmps226;go_wp2_with fail;rw [<-hwa];clear hwa;refine (H.out wa).mono ?_;rintro e w1 ⟨rfl,nq,hw1⟩;have R1:Hid (mBlk w1 w.heap.size (mz 0)):=by rw [hw1];exact RA
 have G1:Hid (w.grownBy w1 none):=by rw [hw1];exact xi8 GA nq
 clear hw1 RA GA;go_wp2_with fail;refine (H.out w1).mono ?_;rintro e w2 ⟨rfl,nq2,hw2⟩;have R2:Hid (mBlk w2 w.heap.size (mz 0)):=by rw [hw2];exact R1.out
 have G2:Hid (w.grownBy w2 none):=by rw [hw2];exact xi8 G1.out nq2
 have hsz2:w.heap.size<w2.heap.size:=(Array.getElem?_eq_some_iff.1 R2.out).1;clear hw2 R1 G1
 have HLO2:Hid (∀w,Calls Tryz.prog 257 #[.int .i64 (IntKind.i64.wrap ((s[0]'h0).toNat:Int)),.string (s.extract 3 s.size)] w fun e w'=>∃av pv,e=.returned (msgV M av pv)/\PkRow w' av M.na M.acts/\PkRow w' pv M.np M.pks/\RowIn w'.heap.size av/\RowIn w'.heap.size pv/\xah w.heap.size av/\xah w.heap.size pv/\w.grownBy w' none):=by
  have e:IntKind.i64.wrap ((s[0]'h0).toNat:Int)=b0:=by
   rw [HB0.out];have:=(s[0]'h0).toNat_lt;simp [IntKind.wrap,IntKind.bits,IntKind.signed];split<;>omega
  rw [e];exact HLO.out
 have hszd:w.heap.size+1<=w2.drew.heap.size:=hsz2;have GD:Hid (w.grownBy w2.drew none):=xi7 G2.out;have RD:Hid (mBlk w2.drew w.heap.size (mz 0)):=R2.out;have HZ:Hid (mBlk (w2.drew.alloc (.cells #[.int .i64 0,.int .i64 0,.int .i64 0,.int .i64 0,.int .i64 0,.int .i64 0,.int .i64 0,.int .i64 0,.slice none 0 0,.slice none 0 0] 213)) w2.heap.size (mz 0)):=mBlk.alloc w2.drew (mz 0);have GZ:Hid (w.grownBy (w2.drew.alloc (.cells #[.int .i64 0,.int .i64 0,.int .i64 0,.int .i64 0,.int .i64 0,.int .i64 0,.int .i64 0,.int .i64 0,.slice none 0 0,.slice none 0 0] 213)) none):=xje GD.out (World.grownBy_alloc _ _ _);have RZ:Hid (mBlk (w2.drew.alloc (.cells #[.int .i64 0,.int .i64 0,.int .i64 0,.int .i64 0,.int .i64 0,.int .i64 0,.int .i64 0,.int .i64 0,.slice none 0 0,.slice none 0 0] 213)) w.heap.size (mz 0)):=RD.out.grown (World.grownBy_alloc _ _ none) (by simp);go_upto_region 5 with fail
 go_cut [4] (fun s4 wx=>CutR M w s4 wx)
 case first=>
  go_region_with (go_at_call 257;refine (HLO2.out _).mono ?_;rintro e w3 ⟨av,pv,rfl,p1,p2,p3,p4,p5,p6,hg3⟩;have P1:=hide p1;have P2:=hide p2;have P3:=hide p3;have P4:=hide p4;have P5:=hide p5;have P6:=hide p6;have G3:=hide hg3;(try (have hz:=HZ.out.grown hg3 (by simp);have fz:=hz.frozen;have HH:=hide hz;obtain ⟨z0,z1,z2,z3,z4,z5,z6,z7,z8,z9⟩:=hz.tenCells;simp only [mz,if_true,Nat.reduceEqDiff,if_false,Nat.reduceLT] at z0 z1 z2 z3 z4 z5 z6 z7 z8 z9;clear hz));obtain ⟨aa,ca,hva⟩:=p1.slice;obtain ⟨ab,cb,hvb⟩:=p2.slice;subst hva;subst hvb;clear p1 p2 p3 p4 p5 p6 hg3;unfold msgV)
  ·go_wp2_with fail;go_meet
   refine ⟨_,_,_,rfl,?_,mBlk.alloc w3 (mC M (.slice aa M.na ca) (.slice ab M.np cb)),(RD.out.grown G3.out (by simp)).grown (World.grownBy_alloc _ _ none) (by simp),P1.out.grown (World.grownBy_alloc _ _ _),P2.out.grown (World.grownBy_alloc _ _ _),P3.out.mono (World.grownBy_alloc _ _ none).size,P4.out.mono (World.grownBy_alloc _ _ none).size,P5.out.mono hszd,P6.out.mono hszd,xje (xje GD.out G3.out) (World.grownBy_alloc _ _ _)⟩;have:=G3.out.size;have hd:w2.drew.heap.size=w2.heap.size:=rfl;omega
  all_goals
   go_wp2_with fail;go_meet
   change CutR M w _ (put10 w3 w2.heap.size (mC M (.slice aa M.na ca) (.slice ab M.np cb)));have hza:w2.heap.size<(w2.drew.alloc (.cells #[.int .i64 0,.int .i64 0,.int .i64 0,.int .i64 0,.int .i64 0,.int .i64 0,.int .i64 0,.int .i64 0,.slice none 0 0,.slice none 0 0] 213)).heap.size:=by simp
   exact ⟨_,_,_,rfl,hsz2,xst HH.out _,(RZ.out.grown G3.out (by simp)).grown (xsu _ _ _) (by simp;omega),P1.out.row (xsu _ _ _) P5.out hza,P2.out.row (xsu _ _ _) P6.out hza,P3.out.mono (xsu _ _ _).size,P4.out.mono (xsu _ _ _).size,P5.out.mono (Nat.le_of_lt (Nat.lt_of_le_of_lt hsz2 hza)),P6.out.mono (Nat.le_of_lt (Nat.lt_of_le_of_lt hsz2 hza)),xi9 (xje GZ.out G3.out) (xsu _ _ _) (Nat.le_of_lt hsz2)⟩
 case rest=>
  obtain ⟨b,av,pv,rfl,hbw,m1,m2,p1,p2,p3,p4,p5,p6,g4⟩:=hcut;have F1:=hide p5;have F2:=hide p6;clear p5 p6;obtain ⟨c0,c1,c2,c3,c4,c5,c6,c7,c8,c9⟩:=m1.tenCells;simp only [mC,if_true,Nat.reduceEqDiff,if_false,Nat.reduceLT,Nat.reduceSub] at c0 c1 c2 c3 c4 c5 c6 c7 c8 c9;have M1:=hide m1;have M2:=hide m2;have P1:=hide p1;have P2:=hide p2;have P3:=hide p3;have P4:=hide p4;have G4:=hide g4;obtain ⟨aa,ca,hva⟩:=p1.slice;obtain ⟨ab,cb,hvb⟩:=p2.slice;subst hva;subst hvb;have HE:=hide (xgk M aa ab ca cb wc p1 p2 p3 p4);unfold msgV at HE;clear m1 m2 p1 p2 p3 p4 g4;have hEO:∀e w',xac M wc e w'↔(wc.grownBy w' none/\((canS M/\e=.returned (.tuple #[strI (encB M),.int .i64 0]))\/(¬canS M/\e=.returned (.tuple #[.string ByteArray.empty,.int .i64 9])))):=fun _ _=>Iff.rfl
  have HEO:=hide hEO;clear hEO;generalize xac M wc=EO at *;obtain ⟨SB,hSB⟩:∃SB,strI (encB M)=.string SB:=⟨_,rfl⟩;rw [hSB] at HEO HQ;clear hSB;have HBS:Hid ((Value.string SB=Value.string s)↔SB=s):=⟨fun h=>by cases h;rfl,fun h=>by rw [h]⟩;go_wp2_with fail;refine HE.out.mono ?_;rintro e w5 he;obtain ⟨g5,he2⟩:=(HEO.out _ _).1 he;have G5:=hide (xje G4.out g5);have M15:=hide (M1.out.grown g5 (by simp));have M25:=hide (M2.out.grown g5 (by simp));have P15:=hide (P1.out.grown g5);have P25:=hide (P2.out.grown g5);have P35:=hide (P3.out.mono g5.size);have P45:=hide (P4.out.mono g5.size);clear g5 M1 M2 P1 P2 P3 P4 G4 c0 c1 c2 c3 c4 c5 c6 c7 c8 c9 he HE HEO HLO HLO2 HZ GZ RZ GD RD R2 G2 H;obtain ⟨d0,d1,d2,d3,d4,d5,d6,d7,d8,d9⟩:=M25.out.tenCells;have f0:=M25.out.frozen;simp only [mz,if_true,Nat.reduceEqDiff,if_false,Nat.reduceLT] at d0 d1 d2 d3 d4 d5 d6 d7 d8 d9;have hp:=xst M25.out (mz 0);obtain ⟨e0,e1,e2,e3,e4,e5,e6,e7,e8,e9⟩:=hp.tenCells;simp only [mz,if_true,Nat.reduceEqDiff,if_false,Nat.reduceLT] at e0 e1 e2 e3 e4 e5 e6 e7 e8 e9;have EE:=hide (⟨e0,e1,e2,e3,e4,e5,e6,e7,e8,e9⟩:_/\_/\_/\_/\_/\_/\_/\_/\_/\_);clear e0 e1 e2 e3 e4 e5 e6 e7 e8 e9 hp;rcases he2 with ⟨hc,rfl⟩|⟨hc,rfl⟩
  ·have HC:=hide hc;clear hc;by_cases hEq:SB=s
   ·subst hEq;obtain ⟨c0,c1,c2,c3,c4,c5,c6,c7,c8,c9⟩:=M15.out.tenCells;simp only [mC,if_true,Nat.reduceEqDiff,if_false,Nat.reduceLT,Nat.reduceSub] at c0 c1 c2 c3 c4 c5 c6 c7 c8 c9;clear EE;go_wp2;change bodyPost _ _ _ _ _ (put10 w5 w.heap.size (mC M (.slice aa M.na ca) (.slice ab M.np cb)));have hp:=xst M25.out (mC M (.slice aa M.na ca) (.slice ab M.np cb));obtain ⟨e0,e1,e2,e3,e4,e5,e6,e7,e8,e9⟩:=hp.tenCells;simp only [mC,if_true,Nat.reduceEqDiff,if_false,Nat.reduceLT,Nat.reduceSub] at e0 e1 e2 e3 e4 e5 e6 e7 e8 e9;refine bodyPost_ret (v:=.tuple #[msgV M (.slice aa M.na ca) (.slice ab M.np cb),.int .i64 0]) (by unfold msgV;simp [results,Tryz.results226,go_sem,e0,e1,e2,e3,e4,e5,e6,e7,e8,e9]) rfl ?_;have hsz6:=(xsu w5 w.heap.size (mC M (.slice aa M.na ca) (.slice ab M.np cb))).size;exact (HQ.out _ _).2 ⟨xi9 G5.out (xsu _ _ _) (Nat.le_refl _),.inr ⟨⟨HC.out,(by first|trivial|rfl)⟩,_,⟨_,_,rfl,P15.out.row (xsu _ _ _) F1.out (Nat.lt_succ_self _),P25.out.row (xsu _ _ _) F2.out (Nat.lt_succ_self _),P35.out.mono hsz6,P45.out.mono hsz6,F1.out.mono (Nat.le_succ _),F2.out.mono (Nat.le_succ _)⟩,rfl⟩⟩
   ·have hne:(SB.toList == s.toList)=false:=xn2 hEq;have HEQ:=hide hEq;clear hEq;go_wp2;change bodyPost _ _ _ _ _ (put10 w5 w.heap.size (mz 0));obtain ⟨e0,e1,e2,e3,e4,e5,e6,e7,e8,e9⟩:=EE.out;refine bodyPost_ret (v:=.tuple #[zeroA,.int .i64 11]) (by unfold zeroA;simp [results,Tryz.results226,go_sem,e0,e1,e2,e3,e4,e5,e6,e7,e8,e9]) rfl ?_;exact (HQ.out _ _).2 ⟨xi9 G5.out (xsu _ _ _) (Nat.le_refl _),.inl ⟨fun h=>HEQ.out (HBS.out.1 h.2),rfl⟩⟩
  ·have HC:=hide hc;clear hc;go_wp2;change bodyPost _ _ _ _ _ (put10 w5 w.heap.size (mz 0));obtain ⟨e0,e1,e2,e3,e4,e5,e6,e7,e8,e9⟩:=EE.out;refine bodyPost_ret (v:=.tuple #[zeroA,.int .i64 11]) (by unfold zeroA;simp [results,Tryz.results226,go_sem,e0,e1,e2,e3,e4,e5,e6,e7,e8,e9]) rfl ?_;exact (HQ.out _ _).2 ⟨xi9 G5.out (xsu _ _ _) (Nat.le_refl _),.inl ⟨fun h=>HC.out h.1,rfl⟩⟩
def strB(l:List Int):ByteArray:=⟨(l.map u8).toArray⟩
def isB(l:List Int):Prop:=∀x∈l,0<=x/\x<256
theorem xxs(l:List Int):(strB l).size=l.length:=by simp [strB,ByteArray.size]
theorem x0c(x:Int)(h:0<=x/\x<256):((u8 x).toNat:Int)=x:=by
 unfold u8;rw [UInt8.toNat_ofNat'];omega
theorem xd2(l:List Int)(h:isB l)(i:Nat)(hi:i<l.length):bytM (strB l) i=l.getD i 0:=by
 have hs:i<(strB l).size:=by rw [xxs];exact hi
 rw [xdx _ _ hs]
 have e:(strB l)[i]=u8 (l[i]):=by
  show (strB l).data[i]=_;simp [strB]
 rw [e,x0c _ (h _ (List.getElem_mem hi))];simp [List.getD,hi]
theorem xz4(n:Int):isB (twoB n):=by
 intro x hx;simp [twoB] at hx;rcases hx with rfl|rfl<;>omega
theorem xrl(k:Nat->Int):isB (pkB k):=by
 intro x hx;simp [pkB] at hx;rcases hx with rfl|rfl|rfl|rfl|rfl|rfl<;>omega
theorem xj0{a b:List Int}(ha:isB a)(hb:isB b):isB (a++b):=by
 intro x hx;rcases List.mem_append.1 hx with h|h
 ·exact ha x h
 ·exact hb x h
theorem xrr(n:Nat)(ps:Nat->Nat->Int):isB (pksB n ps):=by
 induction n with
 | zero=>intro x hx;simp [pksB] at hx
 | succ n ih=>rw [xru];exact xj0 ih (xrl _)
theorem xdf(m:Msg):isB (bodyB m):=by
 unfold bodyB;split
 ·exact xj0 (xj0 (xj0 (xz4 _) (xrl _)) (xz4 _)) (xrr _ _)
 ·split
  ·exact xj0 (xz4 _) (xrr _ _)
  ·exact xrr _ _
theorem xgg(m:Msg):isB (encB m):=by
 intro x hx;rcases List.mem_cons.1 hx with rfl|h
 ·omega
 ·exact xj0 (xz4 _) (xdf m) x h
theorem xrk(k:Nat->Int)(i:Nat)(hi:i<6):(pkB k).getD i 0=k i%256:=by
 rcases (show i=0\/i=1\/i=2\/i=3\/i=4\/i=5 by omega) with rfl|rfl|rfl|rfl|rfl|rfl<;>rfl
theorem xik{a b:List Int}{i:Nat}(h:i<a.length):(a++b).getD i 0=a.getD i 0:=by
 simp [List.getD,List.getElem?_append_left h]
theorem xil{a b:List Int}{i:Nat}(h:a.length<=i):(a++b).getD i 0=b.getD (i-a.length) 0:=by
 simp [List.getD,List.getElem?_append_right h]
theorem xrq(n:Nat)(ps:Nat->Nat->Int)(j:Nat)(hj:j<n)(i:Nat)(hi:i<6):(pksB n ps).getD (6*j+i) 0=ps j i%256:=by
 induction n with
 | zero=>omega
 | succ n ih=>
  rw [xru];by_cases e:j<n
  ·rw [xik (by rw [xrs];omega)];exact ih e
  ·obtain rfl:j=n:=by omega
   rw [xil (by rw [xrs];omega),xrs,Nat.add_sub_cancel_left];exact xrk _ _ hi
theorem sg_P(x:Int)(h:okP x):sg (x%256)=x:=by
 unfold okP at h;unfold sg;split<;>omega
theorem sg_F(x:Int)(h:okF x):sg (x%256)=x:=by
 unfold okF at h;exact sg_P x ⟨by omega,h.2⟩
theorem xgi(m:Msg):(encB m).length=3+(bodyB m).length:=by simp [encB,twoB];omega
theorem xgh(m:Msg)(i:Nat):(encB m).getD (3+i) 0=(bodyB m).getD i 0:=by
 unfold encB twoB;simp only [List.cons_append,List.nil_append];rw [show 3+i=i+1+1+1 by omega];simp [List.getD]
theorem xgj(m:Msg)(h:(bodyB m).length<=65535):lenS (strB (encB m))=(bodyB m).length:=by
 unfold lenS;rw [xd2 _ (xgg m) 1 (by rw [xgi];omega),xd2 _ (xgg m) 2 (by rw [xgi];omega)];show ((bodyB m).length:Int)/256%256*256+((bodyB m).length:Int)%256=_;omega
structure Same(a b:Msg):Prop where
 kind:a.kind=b.kind
 prio:a.prio=b.prio
 mt:∀i,i<6->a.mt i=b.mt i
 na:a.na=b.na
 acts:∀j,j<b.na->∀i,i<6->a.acts j i=b.acts j i
 np:a.np=b.np
 pks:∀j,j<b.np->∀i,i<6->a.pks j i=b.pks j i
theorem xrj{k l:Nat->Int}(h:∀i,i<6->k i=l i):pkB k=pkB l:=by
 unfold pkB;rw [h 0 (by omega),h 1 (by omega),h 2 (by omega),h 3 (by omega),h 4 (by omega),h 5 (by omega)]
theorem xrp{n:Nat}{ps qs:Nat->Nat->Int}(h:∀j,j<n->∀i,i<6->ps j i=qs j i):pksB n ps=pksB n qs:=by
 induction n with
 | zero=>rfl
 | succ n ih=>rw [xru,xru,ih (fun j hj=>h j (by omega)),xrj (h n (by omega))]
theorem xt0{k l:Nat->Int}(h:∀i,i<6->k i=l i)(hr:xtx l):xtx k:=fun i hi=>by rw [h i hi];exact hr i hi
theorem xpq{k l:Nat->Int}(h:∀i,i<6->k i=l i)(hr:openS l):openS k:=⟨by rw [h 0 (by omega)];exact hr.1,fun i hi=>by rw [h i hi];exact hr.2 i hi⟩
theorem Same.body{a b:Msg}(h:Same a b):bodyB a=bodyB b:=by
 unfold bodyB;rw [h.kind,h.prio,xrj h.mt,h.na,h.np,xrp h.acts,xrp h.pks]
theorem Same.noRule{a b:Msg}(h:Same a b)(hb:xos b):xos a:=⟨h.prio.trans hb.1,fun i hi=>(h.mt i hi).trans (hb.2.1 i hi),h.na.trans hb.2.2⟩
theorem Same.can{a b:Msg}(h:Same a b)(hb:canS b):canS a/\encB a=encB b:=by
 refine ⟨⟨?_,by rw [h.body];exact hb.2⟩,by unfold encB;rw [h.body,h.kind]⟩
 have pk:(∀j,j<b.np->xtx (b.pks j))->∀j,j<a.np->xtx (a.pks j):=fun hr j hj=>by
  rw [h.np] at hj;exact xt0 (h.pks j hj) (hr j hj)
 rcases hb.1 with ⟨h1,h2,h3⟩|⟨h1,h2,h3,h4⟩|⟨h1,h2,h4⟩|⟨h1,h2,h3⟩
 ·exact .inl ⟨h.kind.trans h1,⟨by rw [h.prio];exact h2.1,by rw [h.prio];exact h2.2.1,xpq h.mt h2.2.2.1,fun j hj=>by rw [h.na] at hj;exact xpq (h.acts j hj) (h2.2.2.2 j hj)⟩,h.np.trans h3⟩
 ·exact .inr (.inl ⟨h.kind.trans h1,h.noRule h2,h.np.trans h3,pk h4⟩)
 ·exact .inr (.inr (.inl ⟨h.kind.trans h1,h.noRule h2,pk h4⟩))
 ·exact .inr (.inr (.inr ⟨by rw [h.kind];exact h1,h.noRule h2,h.np.trans h3⟩))
theorem xtl(m:Msg)(hc:canS m):Same (xmi (bytM (strB (encB m)) 0) ((strB (encB m)).extract 3 (strB (encB m)).size)) m:=by
 obtain ⟨s,hs⟩:∃s,s=strB (encB m):=⟨_,rfl⟩;obtain ⟨t,ht⟩:∃t,t=s.extract 3 s.size:=⟨_,rfl⟩;have hsz:s.size=3+(bodyB m).length:=by rw [hs,xxs,xgi]
 have htz:t.size=(bodyB m).length:=by rw [ht,ByteArray.size_extract];omega
 have hb:∀i,i<(bodyB m).length->bytM t i=(bodyB m).getD i 0:=fun i hi=>by
  rw [ht,xd0 s 3 s.size i (by omega) (Nat.le_refl _),hs,xd2 _ (xgg m) _ (by rw [xgi];omega),xgh]
 have h0:bytM s 0=m.kind%256:=by
  rw [hs,xd2 _ (xgg m) 0 (by rw [xgi];omega)];rfl
 rw [<-hs,<-ht,h0];clear ht hs h0;rcases hc.1 with ⟨h1,h2,h3⟩|⟨h1,h2,h3,h4⟩|⟨h1,h2,h4⟩|⟨h1,h2,h3⟩
 ·have hbd:bodyB m=twoB m.prio++pkB m.mt++twoB m.na++pksB m.na m.acts:=by unfold bodyB;rw [if_pos h1]
  have hlen:(bodyB m).length=10+6*m.na:=by rw [hbd];simp [twoB,pkB,xrs];omega
  have hk:m.kind%256=1:=by omega
  rw [hk];unfold xmi;rw [if_pos ⟨rfl,by omega⟩];have b0:bytM t 0=m.prio/256%256:=by rw [hb 0 (by omega),hbd];rfl
  have b1:bytM t 1=m.prio%256:=by rw [hb 1 (by omega),hbd];rfl
  refine ⟨h1.symm,?_,fun i hi=>?_,?_,fun j hj i hi=>?_,h3.symm,fun j hj=>by rw [h3] at hj;omega⟩
  ·show bytM t 0*256+bytM t 1=m.prio;rw [b0,b1];have:=h2.1;have:=h2.2.1;omega
  ·show sg (bytM t (2+i))=m.mt i;rw [hb (2+i) (by omega),hbd,xik (by simp [twoB,pkB];omega),xik (by simp [twoB,pkB];omega),xil (by simp [twoB]),show 2+i-(twoB m.prio).length=i by simp [twoB],xrk _ _ hi];exact sg_P _ (h2.2.2.1.2 i hi)
  ·show (t.size-10)/6=m.na;omega
  ·show sg (bytM t (10+6*j+i))=m.acts j i;rw [hb _ (by omega),hbd,xil (by simp [twoB,pkB];omega),show 10+6*j+i-(twoB m.prio++pkB m.mt++twoB m.na).length=6*j+i by simp [twoB,pkB];omega,xrq _ _ j hj i hi];exact sg_P _ ((h2.2.2.2 j hj).2 i hi)
 ·have hbd:bodyB m=pksB m.np m.pks:=by unfold bodyB;rw [if_neg (by omega),if_neg (by omega)]
  have hlen:(bodyB m).length=6*m.np:=by rw [hbd,xrs]
  have hk:m.kind%256=4:=by omega
  rw [hk];unfold xmi;rw [if_neg (by omega),if_neg (by omega),if_pos rfl];refine ⟨h1.symm,h2.1.symm,fun i hi=>(h2.2.1 i hi).symm,h2.2.2.symm,fun j hj=>by rw [h2.2.2] at hj;omega,?_,fun j hj i hi=>?_⟩
  ·show t.size/6=m.np;omega
  ·show sg (bytM t (6*j+i))=m.pks j i;rw [hb _ (by omega),hbd,xrq _ _ j hj i hi];exact sg_F _ (h4 j hj i hi)
 ·have hbd:bodyB m=twoB m.np++pksB m.np m.pks:=by unfold bodyB;rw [if_neg (by omega),if_pos h1]
  have hlen:(bodyB m).length=2+6*m.np:=by rw [hbd];simp [twoB,xrs];omega
  have hk:m.kind%256=5:=by omega
  rw [hk];unfold xmi;rw [if_neg (by omega),if_pos ⟨rfl,by omega⟩];refine ⟨h1.symm,h2.1.symm,fun i hi=>(h2.2.1 i hi).symm,h2.2.2.symm,fun j hj=>by rw [h2.2.2] at hj;omega,?_,fun j hj i hi=>?_⟩
  ·show (t.size-2)/6=m.np;omega
  ·show sg (bytM t (2+6*j+i))=m.pks j i;rw [hb _ (by omega),hbd,xil (by simp [twoB];omega),show 2+6*j+i-(twoB m.np).length=6*j+i by simp [twoB];omega,xrq _ _ j hj i hi];exact sg_F _ (h4 j hj i hi)
 ·have hk:m.kind%256=m.kind:=by omega
  rw [hk];unfold xmi;rw [if_neg (by omega),if_neg (by omega),if_neg (by omega)];exact ⟨rfl,h2.1.symm,fun i hi=>(h2.2.1 i hi).symm,h2.2.2.symm,fun j hj=>by rw [h2.2.2] at hj;omega,h3.symm,fun j hj=>by rw [h3] at hj;omega⟩
structure NStep(w w':World)(role role':Nat->Role):Prop where
 kp:Kp (fun b=>role b ≠ .free) w w'
 same:∀b,b<w.heap.size->role' b=role b
theorem NStep.of{w w':World}{role:Nat->Role}(h:w.grownBy w' none):NStep w w' role role:=
 ⟨⟨h.os,h.tape,h.output,h.size,fun b hb _=>h.block b hb (by simp)⟩,fun _ _=>rfl⟩
theorem NStep.row{w w':World}{role role':Nat->Role}{row:Option Nat}(h:w.grownBy w' row)(hr:∀b,row=some b->b<w.heap.size->role b ≠ .free)(hs:∀b,b<w.heap.size->role' b=role b):NStep w w' role role':=
 ⟨⟨h.os,h.tape,h.output,h.size,fun b hb hn=>h.block b hb (fun e=>hn (hr b e.symm hb))⟩,hs⟩
theorem NStep.trans{w w1 w2:World}{r r1 r2:Nat->Role}(h:NStep w w1 r r1)(k:NStep w1 w2 r1 r2):NStep w w2 r r2:=
 ⟨⟨k.kp.1.trans h.kp.1,k.kp.2.1.trans h.kp.2.1,k.kp.2.2.1.trans h.kp.2.2.1,Nat.le_trans h.kp.2.2.2.1 k.kp.2.2.2.1,fun b hb hn=>by
   have hs:b<w1.heap.size:=Nat.lt_of_lt_of_le hb h.kp.2.2.2.1;have h1:¬r1 b ≠ .free:=by rw [h.same b hb];exact hn
   exact (k.kp.2.2.2.2 b hs h1).trans (h.kp.2.2.2.2 b hb hn)⟩,fun b hb=>(k.same b (Nat.lt_of_lt_of_le hb h.kp.2.2.2.1)).trans (h.same b hb)⟩
theorem xed(w:World)(l:List Value)(T:TypeId):∀j x,l[j]?=some x->(w.alloc (.cells l.toArray T)).cell? ((⟨w.heap.size,0,none⟩:Addr).add j)=some x:=by
 intro j x hj;rw [show (⟨w.heap.size,0,none⟩:Addr).add j=⟨w.heap.size,j,none⟩ by unfold Addr.add;split<;>simp_all];simp only [World.cell?,heap_alloc_new];simpa using hj
theorem xu7{P:Program}(w:World)(t:TypeId)(B:Nat)(e:TypeId)(i:TypeInfo)(z:Value)(size bytes:Nat)(ht:P.underlying t=some (.slice e))(hi:P.info? e=some i)(hz:i.zero=some z)
  (hsize:i.size=size) (hby:i.bytes=bytes) (hzs:z.cells.size=size) (hsz:0<size)
  (v:Value) (n:Nat) (xs:List Value) (hown:QRow B w e size v n xs)
  (ad:Addr) (m c:Nat) (news:List Value) (hl:news.length=m*size) (hnews:∀j u,news[j]?=some u->w.cell? (ad.add j)=some u) (h1:∀u∈news,u.oneCell'=true)
  (hm:0<m) (h63:n+m<=maxLen) (hbytes:(n+m)*bytes<=140737488355328) (hbase:B<=w.heap.size) (ty:TypeId):
  ∃v' w',(Builtin.append_ #[t,t] ty #[v,.slice (some ad) m c]).run P w=.ok v' w'/\QRow B w' e size v' (n+m) (xs++news)/\w.grownBy w' v.ownBlock/\(v'.ownBlock=v.ownBlock\/∃b,v'.ownBlock=some b/\w.heap.size<=b):=by
 have new:∀v' w',w'.ownsRow w.heap.size e size v' (n+m) (xs++news)->w.grownBy w' none->QRow B w' e size v' (n+m) (xs++news)/\w.grownBy w' v.ownBlock/\(v'.ownBlock=v.ownBlock\/∃b,v'.ownBlock=some b/\w.heap.size<=b):=by
  intro v' w' k1 k2;refine ⟨(QRow.of k1).mono hbase,⟨k2.os,k2.tape,k2.output,k2.size,fun j hj _=>k2.block j hj (by simp)⟩,.inr ?_⟩;rcases k1.2 with ⟨_,e0⟩|⟨g,cap,cur,e1,e2,_⟩
  ·omega
  ·exact ⟨g,by rw [e1];rfl,e2⟩
 have hcs:=hown;rcases hown.2 with ⟨rfl,rfl⟩|⟨g,off,cap,cur,rfl,k2,k3,k4,k5,k6,k7⟩
 ·obtain rfl:xs=[]:=List.eq_nil_of_length_eq_zero (by have:=hown.1;omega);obtain ⟨v',w',r0,r1,r2,_⟩:=run_append_own (P:=P) w w.heap.size t ty e i z size bytes ht hi hz hsize hby hzs hsz (.slice none 0 0) 0 [] (World.ownsRow_nil w _ e size) ad m c news hl hnews h1 h63 hbytes (Nat.le_refl _);exact ⟨v',w',r0,new v' w' r1 r2⟩
 ·by_cases hr:n+m<=cap
  ·have hle:(n+m)*size<=cap*size:=Nat.mul_le_mul_right size hr;rw [Nat.add_mul] at hle;have hlx:=hown.1;obtain ⟨cur',j1,j2,j3,j4⟩:=xvz g news (off+n*size) w cur k3
   have hsp:∀j,j<news.length->(w.cell? ⟨g,off+n*size+j,none⟩).isSome=true/\w.frozen? ⟨g,off+n*size+j,none⟩=false:=fun j hj=>by
    rw [Nat.add_assoc];exact hcs.spare _ (by omega)
   subst hsize;refine ⟨_,_,run_append_room_cells (P:=P) w t ty e i ht hi g off n cap ad m c news hl hnews h1 hr (fun j hj=>(hsp j hj).1) (fun j hj=>(hsp j hj).2),⟨by rw [List.length_append,hlx,hl,Nat.add_mul],.inr ⟨g,off,cap,cur',rfl,k2,j1,hr,k5,by omega,fun j hj=>?_⟩⟩,xvy g news _ w,.inl rfl⟩;rw [Nat.add_mul] at hj;by_cases hj2:j<n*i.size
   ·rw [j3 _ (.inl (by omega)),k7 j hj2,List.getElem?_append_left (by omega)]
   ·have:=j4 (by omega) (j-n*i.size) (by omega);rw [show off+n*i.size+(j-n*i.size)=off+j by omega] at this;rw [this,List.getElem?_append_right (by omega),hlx]
  ·obtain ⟨v',w',r0,r1,r2⟩:=run_append_arg_grows (P:=P) w t ty e i z size bytes ht hi hz hsize hby hzs hsz ⟨g,off,none⟩ n cap xs hown.1 (fun j u hj=>by rw [Addr.add_lit];exact hcs.cells j u hj) ad m c news hl hnews (by omega) h63 hbytes;exact ⟨v',w',r0,new v' w' r1 r2⟩
theorem xxd{P:Program}{ops:Array Oper}{o:Oper}{a:Act}{w:World}{K:Act->World->Prop}{Q:Exit->Act->World->Prop}{E:Prop}(hg:o.guard=none)(s x:Operand)(t:TypeId)
  (ho:o.op=.call { callee:=.builtin .append,args:=#[s,x],argTypes:=#[t,t] }) (B:Nat) (e:TypeId) (i:TypeInfo) (z:Value) (size bytes:Nat) (ht:P.underlying t=some (.slice e)) (hi:P.info? e=some i) (hz:i.zero=some z)
  (hsize:i.size=size) (hby:i.bytes=bytes) (hzs:z.cells.size=size) (hsz:0<size)
  (v:Value) (n:Nat) (xs:List Value) (hs:a.eval s=v) (hown:QRow B w e size v n xs)
  (ad:Addr) (m c:Nat) (news:List Value) (hx:a.eval x=.slice (some ad) m c) (hl:news.length=m*size) (hnews:∀j u,news[j]?=some u->w.cell? (ad.add j)=some u) (h1:∀u∈news,u.oneCell'=true)
  (hm:0<m) (h63:n+m<=maxLen) (hbytes:(n+m)*bytes<=140737488355328) (hbase:B<=w.heap.size)
  (h:∀v' w',QRow B w' e size v' (n+m) (xs++news)->w.grownBy w' v.ownBlock->(v'.ownBlock=v.ownBlock\/∃b,v'.ownBlock=some b/\w.heap.size<=b)->K (a.put o.dst v') w'):
  if Region.wanted o (yielded ops a.tmps)=true then Oper.wp P o a w K Q else E:=by
 have hw:Region.wanted o (yielded ops a.tmps)=true:=by simp [Region.wanted,hg]
 rw [if_pos hw];obtain ⟨v',w',hrun,r1,r2,r3⟩:=xu7 (P:=P) w t B e i z size bytes ht hi hz hsize hby hzs hsz v n xs hown ad m c news hl hnews h1 hm h63 hbytes hbase o.type;unfold Oper.wp;simp [execOp,ho,resolve,invoke,builtin,hs,hx,hrun,Result.andThen];exact h v' w' r1 r2 r3
theorem xxe{P:Program}{ops:Array Oper}{o:Oper}{a:Act}{w:World}{K:Act->World->Prop}{Q:Exit->Act->World->Prop}{E:Prop}
  (hg:o.guard=none) (f:FuncId) (x:Operand) (t:TypeId) (hop:o.op=Op.call { callee:=Callee.value (Operand.func f),args:=#[x],argTypes:=#[t] })
  (v:Value) (hx:a.eval x=v) (hen:(callFunc f #[v]).run P w=.ok (.enter f #[v]) w) {R:Ending->World->Prop} (hc:Calls P f #[v] w R) (hK:∀e w',R e w'->∃u,e=.returned u/\K (a.put o.dst u) w'):
  if Region.wanted o (yielded ops a.tmps)=true then Oper.wp P o a w K Q else E:=by
 have hw:Region.wanted o (yielded ops a.tmps)=true:=by simp [Region.wanted,hg]
 rw [if_pos hw];unfold Oper.wp;have hf:a.eval (Operand.func f)=Value.func (Fn.func f) #[] #[]:=rfl
 have he:(execOp a.eval o).run P w=.ok (.enter f #[v]) w:=by
  simp [execOp,hop,resolve,invoke,Deferred.ofValue,hx,hf,hen]
 rw [he]
 exact Calls.mono hc (fun e w' hr=>by
  obtain ⟨u,rfl,hk⟩:=hK e w' hr;exact hk)
theorem Tryz.enterWritten(v:Value)(w:World):(callFunc 225 #[v]).run Tryz.prog w=.ok (.enter 225 #[v]) w:=by
 have hname : (Tryz.f225.name == "runtime.NumGoroutine") = false := by kernel_rfl
 have h1 : Tryz.f225.name ≠ "runtime.NumGoroutine" := by simpa using hname
 obtain ⟨c,hc⟩:∃c,Tryz.f225.body=some c:=⟨_,rfl⟩;simp [callFunc,Tryz.func225,h1,hc,mark]
theorem x1m(m:Msg)(a b:Option Addr)(ca cb:Nat)(w:World)(hc:canS m)(hav:PkRow w (.slice a m.na ca) m.na m.acts)(hpv:PkRow w (.slice b m.np cb) m.np m.pks)(hia:RowIn w.heap.size (.slice a m.na ca))(hib:RowIn w.heap.size (.slice b m.np cb)):
  Calls Tryz.prog 225 #[msgV m (.slice a m.na ca) (.slice b m.np cb)] w fun e w'=>e=.returned (.string (strB (encB m)))/\w.grownBy w' none:=by
 have HE:Hid (∀ww,w.grownBy ww none->Calls Tryz.prog 255 #[msgV m (.slice a m.na ca) (.slice b m.np cb)] ww fun e w'=>e=.returned (.tuple #[.string (strB (encB m)),.int .i64 0])/\ww.grownBy w' none):=fun ww hg=>
  (xgk m a b ca cb ww (hav.grown hg) (hpv.grown hg) (fun g off n cap e=>Nat.lt_of_lt_of_le (hia g off n cap e) hg.size) (fun g off n cap e=>Nat.lt_of_lt_of_le (hib g off n cap e) hg.size)).mono (fun e w' h=>by
   rcases h with ⟨h1,h2|h2⟩
   ·exact ⟨h2.2,h1⟩
   ·exact absurd hc h2.1)
 clear hc hav hpv hia hib;unfold msgV at *;go_enter Tryz.func225,Tryz.ntmps225;go_wp2_with fail;refine (HE.out _ (World.grownBy_alloc _ _ _)).mono ?_;rintro e w1 ⟨rfl,g1⟩;have G1:=hide (xje (World.grownBy_alloc _ _ none) g1);clear g1;go_wp2_with fail;go_ret;exact ⟨rfl,G1.out⟩
def NetM.put(N:NetM)(s:Nat)(d:DvM):NetM:={ N with dv:=updN N.dv s d }
def DvM.withRules(d:DvM)(L:List Rl)(v:Value):DvM:={ d with rl:=L,vs:=updN d.vs 0 v }
def DvM.withWait(d:DvM)(L:List (Nat->Int))(v:Value):DvM:={ d with wl:=L,vs:=updN d.vs 1 v }
def DvM.withDown(d:DvM)(L:List ByteArray)(v:Value):DvM:={ d with dl:=L,vs:=updN d.vs 2 v }
def DvM.withUp(d:DvM)(L:List ByteArray)(v:Value):DvM:={ d with ul:=L,vs:=updN d.vs 3 v }
def DvM.withUnsent(d:DvM)(L:List Rl)(v:Value):DvM:={ d with nl:=L,vs:=updN d.vs 4 v }
theorem DvM.withRules_other{d:DvM}{L:List Rl}{v:Value}{i:Nat}(h:i≠0):(d.withRules L v).vs i=d.vs i/\(d.withRules L v).len i=d.len i/\(d.withRules L v).xs i=d.xs i:=by
 refine ⟨x0k h,?_,?_⟩<;>(match i,h with|0,h=>exact absurd rfl h|1,_=>rfl|2,_=>rfl|3,_=>rfl|n+4,_=>rfl)
theorem DvM.withWait_other{d:DvM}{L:List (Nat->Int)}{v:Value}{i:Nat}(h:i≠1):(d.withWait L v).vs i=d.vs i/\(d.withWait L v).len i=d.len i/\(d.withWait L v).xs i=d.xs i:=by
 refine ⟨x0k h,?_,?_⟩<;>(match i,h with|0,_=>rfl|1,h=>exact absurd rfl h|2,_=>rfl|3,_=>rfl|n+4,_=>rfl)
theorem DvM.withDown_other{d:DvM}{L:List ByteArray}{v:Value}{i:Nat}(h:i≠2):(d.withDown L v).vs i=d.vs i/\(d.withDown L v).len i=d.len i/\(d.withDown L v).xs i=d.xs i:=by
 refine ⟨x0k h,?_,?_⟩<;>(match i,h with|0,_=>rfl|1,_=>rfl|2,h=>exact absurd rfl h|3,_=>rfl|n+4,_=>rfl)
theorem DvM.withUp_other{d:DvM}{L:List ByteArray}{v:Value}{i:Nat}(h:i≠3):(d.withUp L v).vs i=d.vs i/\(d.withUp L v).len i=d.len i/\(d.withUp L v).xs i=d.xs i:=by
 refine ⟨x0k h,?_,?_⟩<;>(match i,h with|0,_=>rfl|1,_=>rfl|2,_=>rfl|3,h=>exact absurd rfl h|n+4,_=>rfl)
theorem NetAt.appendRow{w w3:World}{B nb:Nat}{role:Nat->Role}{N:NetM}(h:NetAt w B nb role N)(hB:B<=w.heap.size){s j:Nat}(hs:s<N.D)(hj:j<5){d':DvM}(hv:∀i,i<5->i≠j->d'.vs i=(N.dv s).vs i/\d'.len i=(N.dv s).len i/\d'.xs i=(N.dv s).xs i)
  (q:QRow 0 w3 (tyJ j) (szJ j) (d'.vs j) (d'.len j) (d'.xs j)) (g3:w.grownBy w3 ((N.dv s).vs j).ownBlock) (hat:(d'.vs j).ownBlock=((N.dv s).vs j).ownBlock\/∃b,(d'.vs j).ownBlock=some b/\w.heap.size<=b) (ru:∀r,r∈d'.rl\/r∈d'.nl->RuAt w role r):
  ∃role',NetAt (w3.setCell ⟨N.db,s*5+j,none⟩ (d'.vs j)) B nb role' (N.put s d')/\NStep w (w3.setCell ⟨N.db,s*5+j,none⟩ (d'.vs j)) role role':=by
 have hrow:∀b,((N.dv s).vs j).ownBlock=some b->role b=.row s j:=fun b k=>((h.dvs s hs).row j hj).rl b k
 obtain ⟨role',h1,h2⟩:=h.setRow (w2:=w3.setCell ⟨N.db,s*5+j,none⟩ (d'.vs j)) hB hs hj g3 (fun b e _=>hrow b e) hv q (fun b k hb=>by
  rcases hat with e|⟨b',e,hb'⟩
  ·rw [e] at k;exact hrow b k
  ·rw [e] at k;cases k;omega) ru (xjc _ _ _ _) (fun cur hc=>xjh hc _ _)
 exact ⟨role',h2,((Kp.refl _ w).step g3 (fun b e=>.inl (by rw [hrow b e];exact fun e=>by cases e))).step (xjc _ _ _ _) (fun b e=>.inl (by cases e;rw [h.dbR];exact fun e=>by cases e)),h1⟩
def xai(B nb:Nat)(role:Nat->Role)(N:NetM)(s:Nat)(S:ByteArray)(w:World)(e:Ending)(w':World):Prop:=
 e=.returned (.tuple #[])/\∃role' v,NetAt w' B nb role' (N.put s ((N.dv s).withDown ((N.dv s).dl++[S]) v))/\NStep w w' role role'
theorem xvr(m:Msg)(a b:Option Addr)(ca cb:Nat)(w:World)(hc:canS m)(hav:PkRow w (.slice a m.na ca) m.na m.acts)(hpv:PkRow w (.slice b m.np cb) m.np m.pks)(hia:RowIn w.heap.size (.slice a m.na ca))(hib:RowIn w.heap.size (.slice b m.np cb))
  {B nb:Nat} {role:Nat->Role} {N:NetM} (h:NetAt w B nb role N) (hB:B<=w.heap.size) {s:Nat} (hs:s<N.D) (hlen:(N.dv s).dl.length<=1000000000000):
  Calls Tryz.prog 178 #[.pointer (some ⟨N.db,s*5,none⟩),msgV m (.slice a m.na ca) (.slice b m.np cb)] w (xai B nb role N s (strB (encB m)) w):=by
 have HW:Hid (∀ww,w.grownBy ww none->Calls Tryz.prog 225 #[msgV m (.slice a m.na ca) (.slice b m.np cb)] ww fun e w'=>e=.returned (.string (strB (encB m)))/\ww.grownBy w' none):=fun ww hg=>x1m m a b ca cb ww hc (hav.grown hg) (hpv.grown hg) (fun g off n cap e=>Nat.lt_of_lt_of_le (hia g off n cap e) hg.size) (fun g off n cap e=>Nat.lt_of_lt_of_le (hib g off n cap e) hg.size)
 obtain ⟨d,hd⟩:∃d,d=N.dv s:=⟨_,rfl⟩;rw [<-hd] at hlen;obtain ⟨va,vc,hv⟩:=((h.dvs s hs).row 2 (by omega)).q.slice;have hv2:d.vs 2=.slice va d.dl.length vc:=by rw [hd];exact hv
 have DC:Hid (∀ww,w.grownBy ww none->ww.cell? ⟨N.db,s*5+2,none⟩=some (.slice va d.dl.length vc)/\ww.frozen? ⟨N.db,s*5+2,none⟩=false):=fun ww hg=>by
  obtain ⟨cur,c1,c2,c3⟩:=(h.grown hg (fun b e=>by cases e)).dev;refine ⟨?_,by simp [World.frozen?,c1]⟩;rw [<-hv2,hd];exact xc7 c1 (s*5+2) _ (c3 s hs 2 (by omega))
 have QR:Hid (∀ww,w.grownBy ww none->QRow 0 ww 9 1 (.slice va d.dl.length vc) d.dl.length (stC d.dl)):=fun ww hg=>by
  have:=((h.dvs s hs).row 2 (by omega)).q.kept hg (fun b e=>by cases e);rw [<-hd,hv2] at this;exact this
 have hAN:(Value.slice va d.dl.length vc).ownBlock≠some N.db:=fun k=>by
  rw [<-hv2,hd] at k;have:=((h.dvs s hs).row 2 (by omega)).rl N.db k;rw [h.dbR] at this;cases this
 have HN:=hide h;have HD:Hid (d=N.dv s):=hd;have HV2:=hide hv2;obtain ⟨S,hS⟩:∃S,S=strB (encB m):=⟨_,rfl⟩;rw [<-hS] at HW ⊢;obtain ⟨db,hdb⟩:∃db,db=N.db:=⟨_,rfl⟩;rw [<-hdb] at DC hAN ⊢;have hdbl:db<w.heap.size:=by rw [hdb];exact (h.low N.db (by rw [h.dbR];exact fun e=>by cases e)).2
 have HDB:=hide hdb;obtain ⟨i0,hi0,hz0,hz1,hz2⟩:=info_parts Tryz.infoNSt;have HI:Hid (Tryz.prog.info? 9=some i0/\i0.zero=some (.string ByteArray.empty)/\i0.size=1/\i0.bytes=16):=⟨hi0,hz0,hz1,hz2⟩;obtain ⟨n,hn⟩:∃n,n=d.dl.length:=⟨_,rfl⟩;rw [<-hn] at DC QR HV2 hlen hAN;have AN:Hid ((Value.slice va n vc).ownBlock≠some db):=hAN;have HNL:=hide hn;obtain ⟨P,hP⟩:∃P,P=xai B nb role N s S w:=⟨_,rfl⟩;rw [<-hP];have HP:=hide hP;obtain ⟨W1,hW1⟩:∃W1,W1=w.alloc (.cells #[.int .i64 m.kind,.int .i64 m.prio,.int .i64 (m.mt 0),.int .i64 (m.mt 1),.int .i64 (m.mt 2),.int .i64 (m.mt 3),.int .i64 (m.mt 4),.int .i64 (m.mt 5),.slice a m.na ca,.slice b m.np cb] 213):=⟨_,rfl⟩;have G1:Hid (w.grownBy W1 none):=by rw [hW1];exact World.grownBy_alloc _ _ _
 have R1:Hid (W1.heap[w.heap.size]?=some (.cells #[.int .i64 m.kind,.int .i64 m.prio,.int .i64 (m.mt 0),.int .i64 (m.mt 1),.int .i64 (m.mt 2),.int .i64 (m.mt 3),.int .i64 (m.mt 4),.int .i64 (m.mt 5),.slice a m.na ca,.slice b m.np cb] 213 (0,0))):=by show _=_;rw [hW1];exact heap_alloc_new w _
 unfold msgV at *;clear hc hav hpv hia hib h hd hv hv2 hS hdb hi0 hz0 hz1 hz2 hn hP hAN;go_enter Tryz.func178,Tryz.ntmps178;go_upto_region 1 with fail
 rw [<-hW1];clear hW1;obtain ⟨d0,d1⟩:=DC.out W1 G1.out;have m0:=xc7 R1.out 0 _ rfl;have m1:=xc7 R1.out 1 _ rfl;have m2:=xc7 R1.out 2 _ rfl;have m3:=xc7 R1.out 3 _ rfl;have m4:=xc7 R1.out 4 _ rfl;have m5:=xc7 R1.out 5 _ rfl;have m6:=xc7 R1.out 6 _ rfl;have m7:=xc7 R1.out 7 _ rfl;have m8:=xc7 R1.out 8 _ rfl;have m9:=xc7 R1.out 9 _ rfl
 go_region_law (first
  | (refine xxe rfl 225 (.tmp 9) 213 rfl (.agg #[.int .i64 m.kind,.int .i64 m.prio,.int .i64 (m.mt 0),.int .i64 (m.mt 1),.int .i64 (m.mt 2),.int .i64 (m.mt 3),.int .i64 (m.mt 4),.int .i64 (m.mt 5),.slice a m.na ca,.slice b m.np cb]) (by simp [Act.eval,Act.put]) (Tryz.enterWritten _ _) (HW.out W1.drew (xi7 G1.out)) ?_
     rintro e w2 ⟨rfl,g2⟩;refine ⟨_,rfl,?_⟩;have g2':=xjf g2;have G2:=hide (xje G1.out g2');obtain ⟨x0,x1⟩:=DC.out w2 G2.out;obtain ⟨y0,y1⟩:=DC.out (w2.alloc (.cells #[.string S] 9)) (xje G2.out (World.grownBy_alloc _ _ none));have hz2:db<w2.heap.size:=Nat.lt_of_lt_of_le hdbl G2.out.size;clear g2 g2')
  | (refine xxd rfl (.tmp 8) (.tmp 11) 35 rfl 0 9 i0 _ 1 16 Tryz.underlying35 HI.out.1 HI.out.2.1 HI.out.2.2.1 HI.out.2.2.2 rfl (by decide) (.slice va n vc) n (stC d.dl) (by simp [Act.eval,Act.put]) (QR.out (w2.alloc (.cells #[.string S] 9)) (xje G2.out (World.grownBy_alloc _ _ none))) ⟨w2.heap.size,0,none⟩ 1 1 [.string S] (by simp [Act.eval,Act.put]) rfl (fun j u hj=>xed w2 [.string S] 9 j u hj) (by intro u hu;simp at hu;subst hu;rfl) (by omega) (by unfold maxLen;omega) (by omega) (Nat.zero_le _) ?_
     intro v' w3 q3 g3 at3;obtain ⟨a3,c3,hv3⟩:=q3.slice;subst hv3;have e3:w3.cell? ⟨db,s*5+2,none⟩=some (.slice va n vc):=g3.cell y0 (AN.out.symm);have f3:w3.frozen? ⟨db,s*5+2,none⟩=false:=by rw [World.frozen?_of_block (g3.block db (by simp;omega) AN.out.symm)];exact y1
     have Q3:=hide q3;have G3:=hide g3;have AT3:=hide at3;have G2A:=hide (xje G2.out (World.grownBy_alloc w2 (.cells #[.string S] 9) none));clear q3 g3 at3))
 all_goals
  refine bodyPost_end (results_none rfl _ _ _) rfl ?_;rw [HP.out];have hN2:=HN.out.grown G2A.out (fun b e=>by cases e);have hvs:(N.dv s).vs 2=.slice va n vc:=by rw [<-HD.out];exact HV2.out
  have hq:QRow 0 w3 (tyJ 2) (szJ 2) (((N.dv s).withDown ((N.dv s).dl++[S]) (.slice a3 (n+1) c3)).vs 2) (((N.dv s).withDown ((N.dv s).dl++[S]) (.slice a3 (n+1) c3)).len 2) (((N.dv s).withDown ((N.dv s).dl++[S]) (.slice a3 (n+1) c3)).xs 2):=by
   have:=Q3.out;rw [HNL.out,HD.out] at this;show QRow 0 w3 9 1 (.slice a3 (n+1) c3) ((N.dv s).dl++[S]).length (stC ((N.dv s).dl++[S]));rw [HNL.out,HD.out,List.length_append,stC,List.map_append];exact this
  obtain ⟨role',k1,k2⟩:=hN2.appendRow (Nat.le_trans hB G2A.out.size) hs (show 2<5 by omega) (d':=(N.dv s).withDown ((N.dv s).dl++[S]) (.slice a3 (n+1) c3)) (fun i _ hi=>DvM.withDown_other hi) hq (by rw [hvs];exact G3.out) (by rw [hvs];exact AT3.out) (fun r hm=>(hN2.dvs s hs).ru r hm);rw [<-HDB.out] at k1 k2;exact ⟨rfl,role',_,k1,(NStep.of G2A.out).trans k2⟩
def xay(B nb:Nat)(role:Nat->Role)(N:NetM)(s:Nat)(S:ByteArray)(w:World)(e:Ending)(w':World):Prop:=
 e=.returned (.tuple #[])/\∃role' v,NetAt w' B nb role' (N.put s ((N.dv s).withUp ((N.dv s).ul++[S]) v))/\NStep w w' role role'
theorem xzh(m:Msg)(a b:Option Addr)(ca cb:Nat)(w:World)(hc:canS m)(hav:PkRow w (.slice a m.na ca) m.na m.acts)(hpv:PkRow w (.slice b m.np cb) m.np m.pks)(hia:RowIn w.heap.size (.slice a m.na ca))(hib:RowIn w.heap.size (.slice b m.np cb))
  {B nb:Nat} {role:Nat->Role} {N:NetM} (h:NetAt w B nb role N) (hB:B<=w.heap.size) {s:Nat} (hs:s<N.D) (hlen:(N.dv s).ul.length<=1000000000000):
  Calls Tryz.prog 170 #[.pointer (some ⟨N.db,s*5,none⟩),msgV m (.slice a m.na ca) (.slice b m.np cb)] w (xay B nb role N s (strB (encB m)) w):=by
 have HW:Hid (∀ww,w.grownBy ww none->Calls Tryz.prog 225 #[msgV m (.slice a m.na ca) (.slice b m.np cb)] ww fun e w'=>e=.returned (.string (strB (encB m)))/\ww.grownBy w' none):=fun ww hg=>x1m m a b ca cb ww hc (hav.grown hg) (hpv.grown hg) (fun g off n cap e=>Nat.lt_of_lt_of_le (hia g off n cap e) hg.size) (fun g off n cap e=>Nat.lt_of_lt_of_le (hib g off n cap e) hg.size)
 obtain ⟨d,hd⟩:∃d,d=N.dv s:=⟨_,rfl⟩;rw [<-hd] at hlen;obtain ⟨va,vc,hv⟩:=((h.dvs s hs).row 3 (by omega)).q.slice;have hv2:d.vs 3=.slice va d.ul.length vc:=by rw [hd];exact hv
 have DC:Hid (∀ww,w.grownBy ww none->ww.cell? ⟨N.db,s*5+3,none⟩=some (.slice va d.ul.length vc)/\ww.frozen? ⟨N.db,s*5+3,none⟩=false):=fun ww hg=>by
  obtain ⟨cur,c1,c2,c3⟩:=(h.grown hg (fun b e=>by cases e)).dev;refine ⟨?_,by simp [World.frozen?,c1]⟩;rw [<-hv2,hd];exact xc7 c1 (s*5+3) _ (c3 s hs 3 (by omega))
 have QR:Hid (∀ww,w.grownBy ww none->QRow 0 ww 9 1 (.slice va d.ul.length vc) d.ul.length (stC d.ul)):=fun ww hg=>by
  have:=((h.dvs s hs).row 3 (by omega)).q.kept hg (fun b e=>by cases e);rw [<-hd,hv2] at this;exact this
 have hAN:(Value.slice va d.ul.length vc).ownBlock≠some N.db:=fun k=>by
  rw [<-hv2,hd] at k;have:=((h.dvs s hs).row 3 (by omega)).rl N.db k;rw [h.dbR] at this;cases this
 have HN:=hide h;have HD:Hid (d=N.dv s):=hd;have HV2:=hide hv2;obtain ⟨S,hS⟩:∃S,S=strB (encB m):=⟨_,rfl⟩;rw [<-hS] at HW ⊢;obtain ⟨db,hdb⟩:∃db,db=N.db:=⟨_,rfl⟩;rw [<-hdb] at DC hAN ⊢;have hdbl:db<w.heap.size:=by rw [hdb];exact (h.low N.db (by rw [h.dbR];exact fun e=>by cases e)).2
 have HDB:=hide hdb;obtain ⟨i0,hi0,hz0,hz1,hz2⟩:=info_parts Tryz.infoNSt;have HI:Hid (Tryz.prog.info? 9=some i0/\i0.zero=some (.string ByteArray.empty)/\i0.size=1/\i0.bytes=16):=⟨hi0,hz0,hz1,hz2⟩;obtain ⟨n,hn⟩:∃n,n=d.ul.length:=⟨_,rfl⟩;rw [<-hn] at DC QR HV2 hlen hAN;have AN:Hid ((Value.slice va n vc).ownBlock≠some db):=hAN;have HNL:=hide hn;obtain ⟨P,hP⟩:∃P,P=xay B nb role N s S w:=⟨_,rfl⟩;rw [<-hP];have HP:=hide hP;obtain ⟨W1,hW1⟩:∃W1,W1=w.alloc (.cells #[.int .i64 m.kind,.int .i64 m.prio,.int .i64 (m.mt 0),.int .i64 (m.mt 1),.int .i64 (m.mt 2),.int .i64 (m.mt 3),.int .i64 (m.mt 4),.int .i64 (m.mt 5),.slice a m.na ca,.slice b m.np cb] 213):=⟨_,rfl⟩;have G1:Hid (w.grownBy W1 none):=by rw [hW1];exact World.grownBy_alloc _ _ _
 have R1:Hid (W1.heap[w.heap.size]?=some (.cells #[.int .i64 m.kind,.int .i64 m.prio,.int .i64 (m.mt 0),.int .i64 (m.mt 1),.int .i64 (m.mt 2),.int .i64 (m.mt 3),.int .i64 (m.mt 4),.int .i64 (m.mt 5),.slice a m.na ca,.slice b m.np cb] 213 (0,0))):=by show _=_;rw [hW1];exact heap_alloc_new w _
 unfold msgV at *;clear hc hav hpv hia hib h hd hv hv2 hS hdb hi0 hz0 hz1 hz2 hn hP hAN;go_enter Tryz.func170,Tryz.ntmps170;go_upto_region 1 with fail
 rw [<-hW1];clear hW1;obtain ⟨d0,d1⟩:=DC.out W1 G1.out;have m0:=xc7 R1.out 0 _ rfl;have m1:=xc7 R1.out 1 _ rfl;have m2:=xc7 R1.out 2 _ rfl;have m3:=xc7 R1.out 3 _ rfl;have m4:=xc7 R1.out 4 _ rfl;have m5:=xc7 R1.out 5 _ rfl;have m6:=xc7 R1.out 6 _ rfl;have m7:=xc7 R1.out 7 _ rfl;have m8:=xc7 R1.out 8 _ rfl;have m9:=xc7 R1.out 9 _ rfl
 go_region_law (first
  | (refine xxe rfl 225 (.tmp 9) 213 rfl (.agg #[.int .i64 m.kind,.int .i64 m.prio,.int .i64 (m.mt 0),.int .i64 (m.mt 1),.int .i64 (m.mt 2),.int .i64 (m.mt 3),.int .i64 (m.mt 4),.int .i64 (m.mt 5),.slice a m.na ca,.slice b m.np cb]) (by simp [Act.eval,Act.put]) (Tryz.enterWritten _ _) (HW.out W1.drew (xi7 G1.out)) ?_
     rintro e w2 ⟨rfl,g2⟩;refine ⟨_,rfl,?_⟩;have g2':=xjf g2;have G2:=hide (xje G1.out g2');obtain ⟨x0,x1⟩:=DC.out w2 G2.out;obtain ⟨y0,y1⟩:=DC.out (w2.alloc (.cells #[.string S] 9)) (xje G2.out (World.grownBy_alloc _ _ none));have hz2:db<w2.heap.size:=Nat.lt_of_lt_of_le hdbl G2.out.size;clear g2 g2')
  | (refine xxd rfl (.tmp 8) (.tmp 11) 35 rfl 0 9 i0 _ 1 16 Tryz.underlying35 HI.out.1 HI.out.2.1 HI.out.2.2.1 HI.out.2.2.2 rfl (by decide) (.slice va n vc) n (stC d.ul) (by simp [Act.eval,Act.put]) (QR.out (w2.alloc (.cells #[.string S] 9)) (xje G2.out (World.grownBy_alloc _ _ none))) ⟨w2.heap.size,0,none⟩ 1 1 [.string S] (by simp [Act.eval,Act.put]) rfl (fun j u hj=>xed w2 [.string S] 9 j u hj) (by intro u hu;simp at hu;subst hu;rfl) (by omega) (by unfold maxLen;omega) (by omega) (Nat.zero_le _) ?_
     intro v' w3 q3 g3 at3;obtain ⟨a3,c3,hv3⟩:=q3.slice;subst hv3;have e3:w3.cell? ⟨db,s*5+3,none⟩=some (.slice va n vc):=g3.cell y0 (AN.out.symm);have f3:w3.frozen? ⟨db,s*5+3,none⟩=false:=by rw [World.frozen?_of_block (g3.block db (by simp;omega) AN.out.symm)];exact y1
     have Q3:=hide q3;have G3:=hide g3;have AT3:=hide at3;have G2A:=hide (xje G2.out (World.grownBy_alloc w2 (.cells #[.string S] 9) none));clear q3 g3 at3))
 all_goals
  refine bodyPost_end (results_none rfl _ _ _) rfl ?_;rw [HP.out];have hN2:=HN.out.grown G2A.out (fun b e=>by cases e);have hvs:(N.dv s).vs 3=.slice va n vc:=by rw [<-HD.out];exact HV2.out
  have hq:QRow 0 w3 (tyJ 3) (szJ 3) (((N.dv s).withUp ((N.dv s).ul++[S]) (.slice a3 (n+1) c3)).vs 3) (((N.dv s).withUp ((N.dv s).ul++[S]) (.slice a3 (n+1) c3)).len 3) (((N.dv s).withUp ((N.dv s).ul++[S]) (.slice a3 (n+1) c3)).xs 3):=by
   have:=Q3.out;rw [HNL.out,HD.out] at this;show QRow 0 w3 9 1 (.slice a3 (n+1) c3) ((N.dv s).ul++[S]).length (stC ((N.dv s).ul++[S]));rw [HNL.out,HD.out,List.length_append,stC,List.map_append];exact this
  obtain ⟨role',k1,k2⟩:=hN2.appendRow (Nat.le_trans hB G2A.out.size) hs (show 3<5 by omega) (d':=(N.dv s).withUp ((N.dv s).ul++[S]) (.slice a3 (n+1) c3)) (fun i _ hi=>DvM.withUp_other hi) hq (by rw [hvs];exact G3.out) (by rw [hvs];exact AT3.out) (fun r hm=>(hN2.dvs s hs).ru r hm);rw [<-HDB.out] at k1 k2;exact ⟨rfl,role',_,k1,(NStep.of G2A.out).trans k2⟩
section
variable{P:Program}
end
def RB(w:World)(g N:Nat)(f:Nat->Nat->Value):Prop:=
 ∃cur:Array Value,w.heap[g]?=some (.cells cur 68 (0,0))/\cur.size=N*8/\∀j,j<N->∀i,i<8->cur[j*8+i]?=some (f j i)
def rlC(p:Int)(mt:Nat->Int)(v:Value):Nat->Value:=fun i=>if i=0 then .int .i64 p else if i<7 then .int .i64 (mt (i-1)) else v
def rlL(p:Int)(mt:Nat->Int)(v:Value):List Value:=[.int .i64 p,.int .i64 (mt 0),.int .i64 (mt 1),.int .i64 (mt 2),.int .i64 (mt 3),.int .i64 (mt 4),.int .i64 (mt 5),v]
theorem xt9(p:Int)(mt:Nat->Int)(v:Value)(i:Nat)(hi:i<8):(rlL p mt v)[i]?=some (rlC p mt v i):=by
 rcases (show i=0\/i=1\/i=2\/i=3\/i=4\/i=5\/i=6\/i=7 by omega) with rfl|rfl|rfl|rfl|rfl|rfl|rfl|rfl<;>rfl
def flR(rs:Nat->Rl):Nat->List Value
 | 0=>[]
 | n+1=>flR rs n++rlL (rs n).prio (rs n).mt (rs n).av
theorem xhl(rs:Nat->Rl):∀n,(flR rs n).length=n*8
 | 0=>rfl
 | n+1=>by rw [flR,List.length_append,xhl rs n];simp [rlL];omega
theorem xhk(rs:Nat->Rl):∀n j i,j<n->i<8->(flR rs n)[j*8+i]?=some (rlC (rs j).prio (rs j).mt (rs j).av i)
 | 0,_,_,h,_=>by omega
 | n+1,j,i,h,hi=>by
  rw [flR];by_cases e:j=n
  ·subst e;rw [List.getElem?_append_right (by rw [xhl];omega),xhl,show j*8+i-j*8=i by omega,xt9 _ _ _ _ hi]
  ·rw [List.getElem?_append_left (by rw [xhl];omega)];exact xhk rs n j i (by omega) hi
theorem xhm(rs:Nat->Rl)(n:Nat)(h:∀j,j<n->∃a l c,(rs j).av=.slice a l c):∀v∈flR rs n,v.oneCell'=true:=by
 induction n with
 | zero=>intro v hv;simp [flR] at hv
 | succ n ih=>
  intro v hv;rw [flR,List.mem_append] at hv;rcases hv with g|g
  ·exact ih (fun j hj=>h j (by omega)) v g
  ·obtain ⟨a,l,c,e⟩:=h n (by omega);simp [rlL,e] at g;rcases g with rfl|rfl|rfl|rfl|rfl|rfl|rfl|rfl<;>rfl
theorem Tryz.infoRl:(Tryz.prog.info? 68).map (fun i=>(i.zero,i.size,i.bytes))=some (some (.agg (rlA 0 (fun _=>0) (.slice none 0 0))),8,80):=by kernel_rfl
end Go.Proofs.YtlhkfafdioakeaaGreatDoor
