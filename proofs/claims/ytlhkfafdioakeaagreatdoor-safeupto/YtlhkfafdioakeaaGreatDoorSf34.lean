/- Parts of the proof. -/
import Derived.Test.YtlhkfafdioakeaaGreatDoorSf33
import Derived.Deep.RegionHeld3
namespace Go.Proofs.YtlhkfafdioakeaaGreatDoor
set_option maxRecDepth 100000
set_option maxHeartbeats 4000000
open Go.RowKit Go.Weft
set_option linter.unusedVariables false
set_option linter.unusedSimpArgs false
structure BrW(w0:World)(G:Gg)(s0:ByteArray)(t:Code)(ld:Nat->Nat->Int):Prop where
 rd:readS s0=.ok t
 pol:Pol w0 G.pb t
 lnk:LnR w0 (.slice G.la G.ln G.lc) G.ln ld
 lds:∀j,j<G.ln->0<=ld j 2/\ld j 2<6/\0<=ld j 3/\ld j 3<8
theorem BrS.stepped{w0 w:World}{gb sb:Nat}{G:Gg}{bd:Bool}{fv:Value}{F:List (Nat->Int)}{en:Bool}{c:Nat}(h:BrS w0 gb sb G bd fv F en c w):BrS w0 gb sb G bd fv F en (c+1) (w.setCell ⟨sb,0,none⟩ (.int .i64 ((c:Int)+1))):=by
 have g1:w.grownBy (w.setCell ⟨sb,0,none⟩ (.int .i64 ((c:Int)+1))) (some sb):=xjc _ _ _ _;exact ⟨xi9 h.old g1 h.sl,xc9 h.blk g1 (by simp;exact h.ne.1.symm),xjh h.stp 0 _,h.row.kept g1 (fun b e hb=>by cases e;exact (h.ne.2 _ hb).2 rfl),h.gl,h.sl⟩
theorem BrS.badSet{w0 w:World}{gb sb:Nat}{G:Gg}{bd:Bool}{fv:Value}{F:List (Nat->Int)}{en:Bool}{c:Nat}(h:BrS w0 gb sb G bd fv F en c w):BrS w0 gb sb G bd fv F en c (w.setCell ⟨gb,10,none⟩ (.bool bd)):=by
 have g1:w.grownBy (w.setCell ⟨gb,10,none⟩ (.bool bd)) (some gb):=xjc _ _ _ _;exact ⟨xi9 h.old g1 h.gl,xjh h.blk 10 _,xc9 h.stp g1 (by simp;exact h.ne.1),h.row.kept g1 (fun b e hb=>by cases e;exact (h.ne.2 _ hb).1 rfl),h.gl,h.sl⟩
def brK(gb sb:Nat)(fv:Value):Nat->Prop:=fun b=>b=gb\/b=sb\/fv.ownBlock=some b
theorem OwnV.samed{B:Nat}{w w':World}{v:Value}{n:Nat}{d:Nat->Nat->Int}(h:OwnV B w v n d)(hs:∀b,v.ownBlock=some b->w'.heap[b]?=w.heap[b]?):OwnV B w' v n d:=by
 rcases h with h|⟨g,cap,h1,rfl,cur,h2,h3⟩
 ·exact .inl h
 ·exact .inr ⟨g,cap,h1,rfl,cur,by rw [hs g rfl];exact h2,h3⟩
structure BrI(X:Nx Rl (Nat->Int))(w0:World)(gb sb:Nat)(G:Gg)(F:List (Nat->Int))(c m:Nat)(L:List (Nat->Int))(fv0 lv:Value)(n:Nat)(d:Nat->Nat->Int)(lo:Nat)(w:World)(i:Nat)(fv:Value)(F1:List (Nat->Int))(c1:Nat)(f:List (Nat->Int))(cc:Nat)(wr:World):Prop where
 s:BrS w0 gb sb G false fv F1 false c1 wr
 b:brL X.nxt X.hst (X.brF m) (L.take i)=some (f,cc)
 eF:F1=F++f
 ec:c1=c+1+cc
 le:c1<=250
 len:F1.length<=F.length+1660*cc+i
 o:OwnV lo wr lv n d
 ap:∀b,lv.ownBlock=some b->fv.ownBlock≠some b
 kp:Kp (brK gb sb fv0) w wr
 hf:∀b,fv.ownBlock=some b->fv0.ownBlock=some b\/w.heap.size<=b
section
variable{X:Nx Rl (Nat->Int)}{w0:World}{gb sb:Nat}{G:Gg}{F:List (Nat->Int)}{c m:Nat}{L:List (Nat->Int)}{fv0 lv:Value}{n:Nat}{d:Nat->Nat->Int}{lo:Nat}{w:World}{i:Nat}{fv:Value}{F1:List (Nat->Int)}{c1:Nat}{f:List (Nat->Int)}{cc:Nat}{wr w3 w4:World}{x y:Nat->Int}{t':Nat}
theorem BrI.lvne(h:BrI X w0 gb sb G F c m L fv0 lv n d lo w i fv F1 c1 f cc wr):∀b,lv.ownBlock=some b->b≠gb/\b≠sb/\b<wr.heap.size:=fun b hb=>by
 rcases h.o with ⟨e,_⟩|⟨g,cap,_,e,ho⟩
 ·rw [e] at hb;cases hb
 ·rw [e] at hb;cases hb;have hl:=ho.lt;obtain ⟨cur,h2,_⟩:=ho;refine ⟨fun e=>?_,fun e=>?_,hl⟩
  ·have e:g=gb:=e;rw [e,h.s.blk] at h2;cases h2
  ·have e:g=sb:=e;rw [e,h.s.stp] at h2;cases h2
theorem BrI.skip(h:BrI X w0 gb sb G F c m L fv0 lv n d lo w i fv F1 c1 f cc wr)(hx:L[i]?=some x)(hn:X.nxt x=none)(hh:X.hst x=false)(hg:wr.grownBy w3 none):BrI X w0 gb sb G F c m L fv0 lv n d lo w (i+1) fv F1 c1 f cc w3:=by
 refine ⟨h.s.quiet hg,?_,h.eF,h.ec,h.le,by have:=h.len;omega,h.o.grown hg (fun b e=>by cases e),h.ap,h.kp.step hg (fun b e=>by cases e),h.hf⟩;rw [List.take_add_one,hx];show brL X.nxt X.hst (X.brF m) (L.take i++[x])=_;rw [xdq x _ f cc h.b,hn,hh];simp
theorem BrI.comp(h:BrI X w0 gb sb G F c m L fv0 lv n d lo w i fv F1 c1 f cc wr)(hg:wr.grownBy w3 none)(hk:Kp (brK gb sb fv) w3 w4):Kp (brK gb sb fv0) w w4:=by
 have h1:Kp (brK gb sb fv0) w w3:=h.kp.step hg (fun b e=>by cases e);refine ⟨hk.1.trans h1.1,hk.2.1.trans h1.2.1,hk.2.2.1.trans h1.2.2.1,Nat.le_trans h1.size hk.size,fun b hb hn=>?_⟩;rw [hk.2.2.2.2 b (Nat.lt_of_lt_of_le hb h1.size) (fun e=>?_),h1.2.2.2.2 b hb hn];rcases e with e|e|e
 ·exact hn (.inl e)
 ·exact hn (.inr (.inl e))
 ·rcases h.hf b e with e|e
  ·exact hn (.inr (.inr e))
  ·omega
theorem BrI.recd(h:BrI X w0 gb sb G F c m L fv0 lv n d lo w i fv F1 c1 f cc wr)(hi:i<=1660)(hx:L[i]?=some x)(hn:X.nxt x=some (t',y))(hg:wr.grownBy w3 none){e:Ending}(ho:BrO X w0 gb sb G false fv F1 c1 m y w3 e w4):
  e=.returned (.tuple #[])/\∃en',w4.cell? ⟨gb,7,none⟩=some (.bool en')/\(en'=true->∀M k wz,w4.grownBy wz none->BrO X w0 gb sb G false fv0 F c M k w (.returned (.tuple #[])) wz)/\(en'=false->∃fv' F' c' f' cc',BrI X w0 gb sb G F c m L fv0 lv n d lo w (i+1) fv' F' c' f' cc' w4):=by
 obtain ⟨rfl,fv',F',en',c',hs,hend,hlt,h251,hlen,hkp,hfv⟩:=ho;have hkp:Kp (brK gb sb fv) w3 w4:=hkp;have hK:=h.comp hg hkp;have h1:=h.len;have h2:=h.ec;have hw3:w.heap.size<=w3.heap.size:=(h.kp.step hg (fun b e=>by cases e)).size
 have hfv2:∀b,fv'.ownBlock=some b->fv0.ownBlock=some b\/w.heap.size<=b:=fun b hb=>by
  rcases hfv b hb with e|e
  ·exact h.hf b e
  ·exact .inr (by omega)
 refine ⟨rfl,en',xc7 hs.blk 7 _ rfl,fun e M k wz hz=>?_,fun e=>?_⟩
 ·subst e;exact ⟨rfl,fv',F',true,c',hs.quiet hz,(fun e=>by cases e),by omega,h251,by omega,hK.step hz (fun b e=>by cases e),hfv2⟩
 ·obtain ⟨f',cc',e1,e2,e3,e4⟩:=hend e;subst e;refine ⟨fv',F',c',f++f',cc+cc',hs,?_,by rw [e2,h.eF,List.append_assoc],by omega,e4,by omega,?_,fun b hb hb2=>?_,hK,hfv2⟩
  ·rw [List.take_add_one,hx];show brL X.nxt X.hst (X.brF m) (L.take i++[x])=_;rw [xdq x _ f cc h.b,hn];simp only;rw [e1]
  ·have ho3:=h.o.grown hg (fun b e=>by cases e);refine ho3.samed (fun b hb=>hkp.2.2.2.2 b ?_ (fun e=>?_))
   ·exact Nat.lt_of_lt_of_le (h.lvne b hb).2.2 hg.size
   ·rcases e with e|e|e
    ·exact (h.lvne b hb).1 e
    ·exact (h.lvne b hb).2.1 e
    ·exact h.ap b hb e
  ·rcases hfv b hb2 with e|e
   ·exact h.ap b hb e
   ·have:=(h.lvne b hb).2.2;have:=hg.size;omega
theorem BrI.host(h:BrI X w0 gb sb G F c m L fv0 lv n d lo w i fv F1 c1 f cc wr)(hx:L[i]?=some x)(hn:X.nxt x=none)(hh:X.hst x=true)(hg:wr.grownBy w3 none){v':Value}(q:QRow w0.heap.size w4 46 6 v' (F1.length+1) (pksC F1++pkC x))(hg2:w3.grownBy w4 fv.ownBlock)(hat:v'.ownBlock=fv.ownBlock\/∃b,v'.ownBlock=some b/\w3.heap.size<=b){w5:World}(h5:w5=w4.setCell ⟨gb,6,none⟩ v'):
  BrI X w0 gb sb G F c m L fv0 lv n d lo w (i+1) v' (F1++[x]) c1 (f++[x]) cc w5:=by
 have S3:=h.s.quiet hg;have hlt3:=S3.row.lt;have hgbl:gb<w3.heap.size:=(Array.getElem?_eq_some_iff.1 S3.blk).1
 have hv4:∀b,v'.ownBlock=some b->b≠gb/\b≠sb:=fun b hb=>by
  rcases hat with e|⟨b',e,hb'⟩
  ·exact S3.ne.2 b (by rw [<-e];exact hb)
  ·rw [e] at hb;cases hb;have:sb<w3.heap.size:=(Array.getElem?_eq_some_iff.1 S3.stp).1;omega
 have b4:w4.heap[gb]?=some (.cells (gmA G fv false false) 96 (0,0)):=xc9 S3.blk hg2 (fun e=>(S3.ne.2 gb e).1 rfl);have s4:w4.heap[sb]?=some (.cells #[.int .i64 c1] 3 (0,0)):=xc9 S3.stp hg2 (fun e=>(S3.ne.2 sb e).2 rfl);have g5:w4.grownBy w5 (some gb):=by rw [h5];exact xjc _ _ _ _
 have b5:w5.heap[gb]?=some (.cells (gmA G v' false false) 96 (0,0)):=by rw [h5];exact xjh b4 6 _
 have s5:=xc9 s4 g5 (by simp;exact h.s.ne.1)
 have q5:QRow w0.heap.size w5 46 6 v' (F1++[x]).length (pksC (F1++[x])):=by
  rw [xrv,List.length_append,List.length_singleton];have:pksC [x]=pkC x:=by simp [pksC]
  rw [this];exact q.kept g5 (fun b e hb=>by cases e;exact (hv4 _ hb).1 rfl)
 have o5:w0.grownBy w5 none:=xi9 (xja S3.old hg2 (fun b e=>(hlt3 b e).1)) g5 h.s.gl;have hkp:Kp (brK gb sb fv) w3 w5:=((Kp.refl _ w3).step hg2 (fun b e=>.inl (.inr (.inr e)))).step g5 (fun b e=>.inl (by cases e;exact .inl rfl));have hw3:w.heap.size<=w3.heap.size:=(h.kp.step hg (fun b e=>by cases e)).size;refine ⟨⟨o5,b5,s5,q5,h.s.gl,h.s.sl⟩,?_,by rw [h.eF,List.append_assoc],h.ec,h.le,by have:=h.len;simp;omega,?_,fun b hb hb2=>?_,h.comp hg hkp,fun b hb=>?_⟩
 ·rw [List.take_add_one,hx];show brL X.nxt X.hst (X.brF m) (L.take i++[x])=_;rw [xdq x _ f cc h.b,hn,hh];simp
 ·have ho3:=h.o.grown hg (fun b e=>by cases e);refine ho3.samed (fun b hb=>hkp.2.2.2.2 b ?_ (fun e=>?_))
  ·exact Nat.lt_of_lt_of_le (h.lvne b hb).2.2 hg.size
  ·rcases e with e|e|e
   ·exact (h.lvne b hb).1 e
   ·exact (h.lvne b hb).2.1 e
   ·exact h.ap b hb e
 ·rcases hat with e|⟨b',e,hb'⟩
  ·rw [e] at hb2;exact h.ap b hb hb2
  ·rw [e] at hb2;cases hb2;have:=(h.lvne _ hb).2.2;have:=hg.size;omega
 ·rcases hat with e|⟨b',e,hb'⟩
  ·rw [e] at hb;exact h.hf b hb
  ·rw [e] at hb;cases hb;exact .inr (by omega)
theorem BrI.fin{k:Nat->Int}(h:BrI X w0 gb sb G F c m L fv0 lv n d lo w i fv F1 c1 f cc wr)(hi:i=L.length)(hi2:i<=1660)(hL:X.pol k=L){wz:World}(hz:wr.grownBy wz none):BrO X w0 gb sb G false fv0 F c (m+1) k w (.returned (.tuple #[])) wz:=by
 have h1:=h.len;have h2:=h.ec;refine ⟨rfl,fv,F1,false,c1,h.s.quiet hz,fun _=>⟨f,cc+1,?_,h.eF,by omega,h.le⟩,by omega,by have:=h.le;omega,by omega,h.kp.step hz (fun b e=>by cases e),h.hf⟩;have hb:=h.b;rw [hi,List.take_length] at hb;unfold Nx.brF;rw [hL,hb]
end
theorem xdw(D room:Nat)(T:Nat->List Rl)(s0:ByteArray)(t:Code)(ld:Nat->Nat->Int)(w0:World)(gb sb:Nat)(G:Gg)(hW:BrW w0 G s0 t ld)(m deep:Nat)(hd2:deep<=30)
  (IH:∀(k:Nat->Int) (c:Nat) (F:List (Nat->Int)) (fv:Value) (w:World),Rt k->c<=250->BrS w0 gb sb G false fv F false c w->F.length<=1660*c->Calls Tryz.prog 82 #[.pointer (some ⟨gb,0,none⟩),.agg #[.int .i64 (k 0),.int .i64 (k 1),.int .i64 (k 2),.int .i64 (k 3),.int .i64 (k 4),.int .i64 (k 5)],.int .i64 ((deep:Int)+1),.pointer (some ⟨sb,0,none⟩)] w (BrO (netX D ld G.ln room t T) w0 gb sb G false fv F c m k w))
  (k:Nat->Int) (c:Nat) (F:List (Nat->Int)) (fv:Value) (w:World) (hk:Rt k) (hc:c<250) (h:BrS w0 gb sb G false fv F false c w) (hF:F.length<=1660*c):
  Calls Tryz.prog 82 #[.pointer (some ⟨gb,0,none⟩),.agg #[.int .i64 (k 0),.int .i64 (k 1),.int .i64 (k 2),.int .i64 (k 3),.int .i64 (k 4),.int .i64 (k 5)],.int .i64 deep,.pointer (some ⟨sb,0,none⟩)] w (BrO (netX D ld G.ln room t T) w0 gb sb G false fv F c (m+1) k w):=by
 obtain ⟨P,hP⟩:∃P,P=BrO (netX D ld G.ln room t T) w0 gb sb G false fv F c (m+1) k w:=⟨_,rfl⟩;rw [<-hP];have HP:=hide hP;have HIH:=hide IH;have HW:=hide hW;obtain ⟨fa,fc,rfl⟩:=h.row.slice;have hne:=h.ne;obtain ⟨wA,hA⟩:∃wA,wA=w.setCell ⟨sb,0,none⟩ (.int .i64 ((c:Int)+1)):=⟨_,rfl⟩;obtain ⟨wB,hB⟩:∃wB,wB=wA.alloc (.cells (pkA k) 46):=⟨_,rfl⟩;have hzA:wA.heap.size=w.heap.size:=by rw [hA];simp [World.setCell]
 have SA:BrS w0 gb sb G false (.slice fa F.length fc) F false (c+1) wA:=by rw [hA];exact h.stepped
 have gAB:wA.grownBy wB none:=by rw [hB];exact World.grownBy_alloc _ _ _
 have SB:BrS w0 gb sb G false (.slice fa F.length fc) F false (c+1) wB:=SA.quiet gAB;have KB:pkBlk wB w.heap.size k:=by rw [hB,<-hzA];exact pkBlk.alloc wA k
 have KP0:Kp (fun b=>b=gb\/b=sb\/(Value.slice fa F.length fc).ownBlock=some b) w wB:=by
  have g1:w.grownBy wA (some sb):=by rw [hA];exact xjc _ _ _ _
  exact ((Kp.refl _ w).step g1 (fun b e=>.inl (by cases e;exact .inr (.inl rfl)))).step gAB (fun b e=>by cases e)
 have HEV:Hid (∀ww,wB.grownBy ww none->Calls Tryz.prog 25 #[.pointer (some ⟨G.pb,0,none⟩),.agg #[.int .i64 (k 0),.int .i64 (k 1),.int .i64 (k 2),.int .i64 (k 3),.int .i64 (k 4),.int .i64 (k 5)]] ww fun e w'=>∃a c d,e=.returned (.tuple #[.slice a (polT t k).length c,.bool true])/\OwnV ww.heap.size w' (.slice a (polT t k).length c) (polT t k).length d/\Is (polT t k) (polT t k).length d/\ww.grownBy w' none):=fun ww hg=>by
  refine (xkp G.pb t k ww (HW.out.pol.grown (xje SB.old hg)) hk).mono ?_;rintro e w' ⟨a,c',n,d,A,rfl,h1,h2,h3,h4⟩;obtain rfl:=xsc HW.out.rd hk h3;obtain rfl:n=(polT t k).length:=h2.1.symm;exact ⟨a,c',d,rfl,h1,h2,h4⟩
 have s0c:=xc7 h.stp 0 _ rfl;have sf:w.frozen? ⟨sb,0,none⟩=false:=by simp [World.frozen?,h.stp]
 have hgb:gb<w.heap.size:=(Array.getElem?_eq_some_iff.1 h.blk).1;have hsb:sb<w.heap.size:=(Array.getElem?_eq_some_iff.1 h.stp).1;have n1:=hne.1;have n2:=hne.1.symm;have hwr:IntKind.i64.wrap ((c:Int)+1)=(c:Int)+1:=by rw [IntKind.wrap_i64]<;>omega
 have hcI:¬(250:Int)<(c:Int)+1:=by omega
 have hdI:¬(30:Int)<(deep:Int):=by omega
 have b0:=xc7 SB.blk 0 _ rfl;have b10:=xc7 SB.blk 10 _ rfl;have bf:wB.frozen? ⟨gb,10,none⟩=false:=by simp [World.frozen?,SB.blk]
 have k0:=KB.cell 0 (by omega);have k1:=KB.cell 1 (by omega);have k2:=KB.cell 2 (by omega);have k3:=KB.cell 3 (by omega);have k4:=KB.cell 4 (by omega);have k5:=KB.cell 5 (by omega);have sB0:=xc7 SB.stp 0 _ rfl;have HSB:=hide SB;have HKB:=hide KB;have HKP:=hide KP0;have HK:=hide hk;unfold pkA at hB;clear h hP hne IH hW SA SB KB KP0 hk;go_enter Tryz.func82,Tryz.ntmps82;go_wp2_with fail;rw [<-hA,<-hB];have HS:Hid (∀wx,wB.grownBy wx none->(wx.cell? ⟨gb,0,none⟩=some (.pointer (some ⟨G.pb,0,none⟩))/\wx.cell? ⟨w.heap.size,0,none⟩=some (.int .i64 (k 0))/\wx.cell? ⟨w.heap.size,1,none⟩=some (.int .i64 (k 1))/\wx.cell? ⟨w.heap.size,2,none⟩=some (.int .i64 (k 2))/\wx.cell? ⟨w.heap.size,3,none⟩=some (.int .i64 (k 3))/\wx.cell? ⟨w.heap.size,4,none⟩=some (.int .i64 (k 4))/\wx.cell? ⟨w.heap.size,5,none⟩=some (.int .i64 (k 5)))):=fun wx hx=>⟨hx.cell b0 (by simp),hx.cell k0 (by simp),hx.cell k1 (by simp),hx.cell k2 (by simp),hx.cell k3 (by simp),hx.cell k4 (by simp),hx.cell k5 (by simp)⟩
 have HG0:Hid (wB.grownBy wB.drew none):=xi7 (xjb _ _);have hzB:w.heap.size<wB.heap.size:=World.block_lt_of_cell? wB _ k0;clear hA hB s0c sf hwr;obtain ⟨n,hn⟩:∃n,n=(polT t k).length:=⟨_,rfl⟩;rw [<-hn] at HEV;have HN:=hide hn;clear hn
 go_region_held3 (fun wx=>(wx.cell? ⟨gb,0,none⟩=some (.pointer (some ⟨G.pb,0,none⟩))/\wx.cell? ⟨w.heap.size,0,none⟩=some (.int .i64 (k 0))/\wx.cell? ⟨w.heap.size,1,none⟩=some (.int .i64 (k 1))/\wx.cell? ⟨w.heap.size,2,none⟩=some (.int .i64 (k 2))/\wx.cell? ⟨w.heap.size,3,none⟩=some (.int .i64 (k 3))/\wx.cell? ⟨w.heap.size,4,none⟩=some (.int .i64 (k 4))/\wx.cell? ⟨w.heap.size,5,none⟩=some (.int .i64 (k 5)))) (first|exact HS.out _ HG0.out|exact HS.out _ hg9) ((
    go_at_call 25;refine Calls.mono (HEV.out _ HG0.out) ?_;rintro e w9 ⟨a,c9,d,rfl,ho9,hi9,hg8⟩;have hg9:=xje HG0.out hg8;have HO9:=hide ho9;have HI9:=hide hi9;clear ho9 hi9 hg8))
 all_goals
  have S9:=HSB.out.quiet hg9;have HS9:=hide S9;have e10:w9.cell? ⟨gb,10,none⟩=some (.bool false):=xc7 S9.blk 10 _ rfl;have ef:w9.frozen? ⟨gb,10,none⟩=false:=by simp [World.frozen?,S9.blk]
  have HG9:=hide hg9;clear S9 hg9 b0 b10 bf k0 k1 k2 k3 k4 k5 sB0 HS HEV;have HM:Hid (n<=1660):=by rw [HN.out];exact xsb HW.out.rd HK.out
  have hMn:n<=1660:=HM.out
  have I0:Hid (∃fv F1 c1 f cc,BrI (netX D ld G.ln room t T) w0 gb sb G F c m (polT t k) (.slice fa F.length fc) (.slice a n c9) n d wB.heap.size w 0 fv F1 c1 f cc (w9.setCell ⟨gb,10,none⟩ (.bool false))):=by
   have g1:w9.grownBy (w9.setCell ⟨gb,10,none⟩ (.bool false)) (some gb):=xjc _ _ _ _;have hO:OwnV wB.heap.size w9 (.slice a n c9) n d:=HO9.out;have hgB:gb<wB.heap.size:=(Array.getElem?_eq_some_iff.1 HSB.out.blk).1;refine ⟨_,F,c+1,[],0,HS9.out.badSet,rfl,by rw [List.append_nil],by omega,by omega,by omega,hO.grown g1 (fun b e hb=>by cases e;have:=(hO.lt _ hb).1;omega),fun b hb hb2=>?_,(HKP.out.step HG9.out (fun b e=>by cases e)).step g1 (fun b e=>.inl (by cases e;exact .inl rfl)),fun b hb=>.inl hb⟩;have h1:=(hO.lt b hb).1;have h2:=(HSB.out.row.lt b hb2).2;omega
  go_wp2_with fail;obtain ⟨wL,hwL⟩:∃wL,wL=w9.setCell ⟨gb,10,none⟩ (.bool false):=⟨_,rfl⟩;rw [<-hwL] at I0;rw [<-hwL];clear hwL e10 ef HS9 HG9 HO9 hzB hcI n1 n2 hgb hsb HSB HKB HKP hzA gAB;go_loopw [10] (fun s10 wr=>∃i:Nat,i<=n/\s10=.int .i64 i/\∃fv F1 c1 f cc,BrI (netX D ld G.ln room t T) w0 gb sb G F c m (polT t k) (.slice fa F.length fc) (.slice a n c9) n d wB.heap.size w i fv F1 c1 f cc wr) (fun s10 _=>n-(intOf s10).toNat)
  case atStart=>exact ⟨0,Nat.zero_le _,rfl,I0.out⟩
  case round=>
   obtain ⟨i,hi,rfl,fv,F1,c1,f,cc,hI⟩:=hrel;obtain ⟨va,vc,rfl⟩:=hI.s.row.slice;have HI:=hide hI;have e3:wr.cell? ⟨gb,3,none⟩=some (.slice G.la G.ln G.lc):=xc7 hI.s.blk 3 _ rfl;have hgl:gb<wr.heap.size:=World.block_lt_of_cell? wr _ e3
   have HGB:Hid (∀ww,wr.grownBy ww none->ww.cell? ⟨gb,3,none⟩=some (.slice G.la G.ln G.lc)/\ww.cell? ⟨gb,6,none⟩=some (.slice va F1.length vc)/\ww.cell? ⟨gb,7,none⟩=some (.bool false)/\ww.frozen? ⟨gb,6,none⟩=false/\gb<ww.heap.size):=fun ww hg=>by
    have hb:=(hI.s.quiet hg).blk;exact ⟨xc7 hb 3 _ rfl,xc7 hb 6 _ rfl,xc7 hb 7 _ rfl,by simp [World.frozen?,hb],(Array.getElem?_eq_some_iff.1 hb).1⟩
   have HLN:Hid (∀ww,wr.grownBy ww none->LnR ww (.slice G.la G.ln G.lc) G.ln ld):=fun ww hg=>HW.out.lnk.grown (xje hI.s.old hg)
   by_cases hlt:i<n
   ·have hO:=hI.o;rcases hO with ⟨_,h0⟩|⟨lb,lcap,hlb,hle,hOw⟩
    ·omega
    cases hle;obtain ⟨x,hx⟩:∃x,x=d i:=⟨_,rfl⟩;have hget:(polT t k)[i]?=some x:=by rw [hx];exact HI9.out.get i hlt
    have cZ:∀j,j<6->wr.cell? ⟨lb,i*6+j,none⟩=some (.int .i64 (x j)):=fun j hj=>by rw [hx];exact hOw.cell i hlt j hj
    have c0:wr.cell? ⟨lb,i*6,none⟩=some (.int .i64 (x 0)):=cZ 0 (by omega);have c1':wr.cell? ⟨lb,i*6+1,none⟩=some (.int .i64 (x 1)):=cZ 1 (by omega);have c2:wr.cell? ⟨lb,i*6+2,none⟩=some (.int .i64 (x 2)):=cZ 2 (by omega);have c3:wr.cell? ⟨lb,i*6+3,none⟩=some (.int .i64 (x 3)):=cZ 3 (by omega);have c4:wr.cell? ⟨lb,i*6+4,none⟩=some (.int .i64 (x 4)):=cZ 4 (by omega);have c5:wr.cell? ⟨lb,i*6+5,none⟩=some (.int .i64 (x 5)):=cZ 5 (by omega);have hxr:=xsd HW.out.rd HK.out x (List.mem_of_getElem? hget);have HXR:=hide hxr.1;have HGET:=hide hget;have hltI:(i:Int)<n:=by omega
    clear hI hOw hx hget cZ hxr hlb;obtain ⟨W1,hW1⟩:∃W1,W1=wr.alloc (.cells (pkA x) 46):=⟨_,rfl⟩;have GW1:Hid (wr.grownBy W1 none):=by show wr.grownBy W1 none;rw [hW1];exact World.grownBy_alloc _ _ _
    have XB1:Hid (pkBlk W1 wr.heap.size x):=by show pkBlk W1 wr.heap.size x;rw [hW1];exact pkBlk.alloc wr x
    unfold pkA at hW1;have HHO:Hid (∀ww,wr.grownBy ww none->Calls Tryz.prog 76 #[.pointer (some ⟨gb,0,none⟩),.int .i64 (x 0),.int .i64 (x 1)] ww fun e w'=>e=.returned (.bool (decide (hostG ld G.ln (x 0) (x 1))))/\ww.grownBy w' none):=fun ww hg=>xim gb G.la G.ln G.lc ld (x 0) (x 1) ww (HGB.out ww hg).1 (HLN.out ww hg)
    have HLK:Hid (∀ww,wr.grownBy ww none->Calls Tryz.prog 133 #[.pointer (some ⟨gb,0,none⟩),.int .i64 (x 0),.int .i64 (x 1)] ww fun e w'=>e=.returned (.int .i64 (linkI ld (x 0) (x 1) G.ln))/\ww.grownBy w' none):=fun ww hg=>xin gb G.la G.ln G.lc ld (x 0) (x 1) ww (HGB.out ww hg).1 (HLN.out ww hg)
    obtain ⟨hb,hhb⟩:∃hb,hb=decide (hostG ld G.ln (x 0) (x 1)):=⟨_,rfl⟩;rw [<-hhb] at HHO;have HHB:=hide hhb;clear hhb;cases hfr:fromS ld (x 0) (x 1) G.ln with
    | some j=>
     have hlk:linkI ld (x 0) (x 1) G.ln=(j:Int):=by unfold linkI;rw [hfr]
     rw [hlk] at HLK;have HFR:=hide hfr;clear hfr hlk;go_wp2_with fail;rw [<-hW1];refine (HLK.out W1 GW1.out).mono ?_;rintro e w1 ⟨rfl,g1⟩;have G1:=hide (xje GW1.out g1);have XB2:=hide (XB1.out.grown g1 (by simp));have p0:=XB2.out.cell 0 (by omega);have p1:=XB2.out.cell 1 (by omega);clear g1 hW1;go_wp2_with fail;refine (HHO.out w1 G1.out).mono ?_;rintro e w2 ⟨rfl,g2⟩;have G2:=hide (xje G1.out g2);have XB3:=hide (XB2.out.grown g2 (by simp));obtain ⟨hjl,hj0,hj1⟩:=xif HFR.out;have hldj:=HW.out.lds j hjl;obtain ⟨lg,loff,hla,hlcc⟩:=(HLN.out w2 G2.out).at (show 0<G.ln by omega);have m2:w2.cell? ⟨lg,loff+j*4+2,none⟩=some (.int .i64 (ld j 2)):=hlcc j hjl 2 (by omega);have m3:w2.cell? ⟨lg,loff+j*4+3,none⟩=some (.int .i64 (ld j 3)):=hlcc j hjl 3 (by omega);obtain ⟨g3,g6,g7,gfz,ggl⟩:=HGB.out w2 G2.out;rw [hla] at g3;have q0:w2.cell? ⟨wr.heap.size,0,none⟩=some (.int .i64 (x 0)):=XB3.out.cell 0 (by omega);have q1:w2.cell? ⟨wr.heap.size,1,none⟩=some (.int .i64 (x 1)):=XB3.out.cell 1 (by omega);have q2:w2.cell? ⟨wr.heap.size,2,none⟩=some (.int .i64 (x 2)):=XB3.out.cell 2 (by omega);have q3:w2.cell? ⟨wr.heap.size,3,none⟩=some (.int .i64 (x 3)):=XB3.out.cell 3 (by omega);have q4:w2.cell? ⟨wr.heap.size,4,none⟩=some (.int .i64 (x 4)):=XB3.out.cell 4 (by omega);have q5:w2.cell? ⟨wr.heap.size,5,none⟩=some (.int .i64 (x 5)):=XB3.out.cell 5 (by omega);have qf:∀o,w2.frozen? ⟨wr.heap.size,o,none⟩=false:=fun o=>by have:=XB3.out;unfold pkBlk at this;simp [World.frozen?,this]
     have hjI:(j:Int)<G.ln:=by omega
     have hlgl:lg<wr.heap.size:=by
      have h1:=hlcc j hjl 2 (by omega);obtain ⟨lg',loff',hla',hl2⟩:=(HLN.out wr (xjb _ _)).at (show 0<G.ln by omega);rw [hla] at hla';cases hla';exact World.block_lt_of_cell? wr _ (hl2 j hjl 2 (by omega))
     have nl:¬lg=wr.heap.size:=by omega
     have nl':¬wr.heap.size=lg:=by omega
     have ng:¬gb=wr.heap.size:=by omega
     have ng':¬wr.heap.size=gb:=by omega
     have hwd:IntKind.i64.wrap ((deep:Int)+1)=(deep:Int)+1:=by rw [IntKind.wrap_i64]<;>omega
     obtain ⟨y2,hy2⟩:∃y,y=ld j 2:=⟨_,rfl⟩;obtain ⟨y3,hy3⟩:∃y,y=ld j 3:=⟨_,rfl⟩;have HY:Hid (y2=ld j 2/\y3=ld j 3):=⟨hy2,hy3⟩;rw [<-hy2] at m2;rw [<-hy3] at m3
     have HREC:Hid (∀w3,w3=(w2.setCell ⟨wr.heap.size,0,none⟩ (.int .i64 y2)).setCell ⟨wr.heap.size,1,none⟩ (.int .i64 y3)->Calls Tryz.prog 82 #[.pointer (some ⟨gb,0,none⟩),.agg #[.int .i64 y2,.int .i64 y3,.int .i64 (x 2),.int .i64 (x 3),.int .i64 (x 4),.int .i64 (x 5)],.int .i64 ((deep:Int)+1),.pointer (some ⟨sb,0,none⟩)] w3 fun e w4=>e=.returned (.tuple #[])/\∃en',w4.cell? ⟨gb,7,none⟩=some (.bool en')/\(en'=true->∀wz,w4.grownBy wz none->P (.returned (.tuple #[])) wz)/\(en'=false->∃fv' F' c' f' cc',BrI (netX D ld G.ln room t T) w0 gb sb G F c m (polT t k) (.slice fa F.length fc) (.slice (some ⟨lb,0,none⟩) n c9) n d wB.heap.size w (i+1) fv' F' c' f' cc' w4)):=fun w3 hw3=>by
      have gs:w2.grownBy w3 (some wr.heap.size):=by rw [hw3];exact xje (xjc _ _ _ _) (xjc _ _ _ _)
      have gw3:wr.grownBy w3 none:=xja G2.out gs (fun b e=>by cases e;exact Nat.le_refl _);have hrt:=(xb6 HXR.out (a:=ld j 2) (b:=ld j 3) (by omega) (by omega)).1;have hI:=HI.out;have hl1:=hI.len;have hl2:=hI.ec;have hm:=HM.out;have:=HIH.out (atP (ld j 2) (ld j 3) x) c1 F1 (.slice va F1.length vc) w3 hrt hI.le (hI.s.quiet gw3) (by omega);rw [hy2,hy3];refine Calls.mono this ?_;intro e w4 ho;obtain ⟨r1,en',r2,r3,r4⟩:=hI.recd (by omega) HGET.out (x:=x) (y:=atP (ld j 2) (ld j 3) x) (t':=(ld j 2).toNat) (by show (match fromS ld (x 0) (x 1) G.ln with|some j=>some ((ld j 2).toNat,atP (ld j 2) (ld j 3) x)|none=>none)=_;rw [HFR.out]) gw3 ho;exact ⟨r1,en',r2,fun h1 wz hz=>by rw [HP.out];exact r3 h1 _ _ wz hz,r4⟩
     clear g2 hlcc p0 p1 c0 c1' c2 c3 c4 c5 hy2 hy3 hjl hj0 hj1 hldj e3;go_wp2_with fail;refine (HREC.out _ rfl).mono ?_;rintro e w4 ⟨rfl,en',r2,r3,r4⟩;clear HREC;cases en' with
     | true=>
      have R3:=hide (r3 rfl);clear r3 r4;go_wp2_with fail;refine bodyPost_ret (results_none rfl _ _ _) rfl ?_;exact R3.out _ (xjb _ _)
     | false=>
      have R4:=hide (r4 rfl);clear r3 r4;go_wp2_with fail;exact ⟨⟨i+1,by omega,by go_num,R4.out⟩,by simp [intOf];omega⟩
    | none=>
     have hlk:linkI ld (x 0) (x 1) G.ln=-1:=by unfold linkI;rw [hfr]
     rw [hlk] at HLK;have HFR:=hide hfr
     have HNX:Hid ((netX D ld G.ln room t T).nxt x=none):=by
      show (match fromS ld (x 0) (x 1) G.ln with|some j=>some ((ld j 2).toNat,atP (ld j 2) (ld j 3) x)|none=>none)=none;rw [hfr]
     have HHS:Hid ((netX D ld G.ln room t T).hst x=hb):=by
      show decide (hostS ld G.ln (x 0) (x 1))=hb;rw [HHB.out];have h01:=HXR.out.2 1 (by omega)
      have hiff:hostS ld G.ln (x 0) (x 1)↔hostG ld G.ln (x 0) (x 1):=by
       unfold hostS hostG;constructor
       ·rintro ⟨⟨_,h2⟩,h3⟩;exact ⟨h2,h3⟩
       ·rintro ⟨h2,h3⟩;exact ⟨⟨h01.1,h2⟩,h3⟩
      by_cases hh:hostG ld G.ln (x 0) (x 1)
      ·rw [decide_eq_true hh,decide_eq_true (hiff.2 hh)]
      ·rw [decide_eq_false hh,decide_eq_false (fun e=>hh (hiff.1 e))]
     clear hfr hlk;go_wp2_with fail;rw [<-hW1];refine (HLK.out W1 GW1.out).mono ?_;rintro e w1 ⟨rfl,g1⟩;have G1:=hide (xje GW1.out g1);have XB2:=hide (XB1.out.grown g1 (by simp));have p0:=XB2.out.cell 0 (by omega);have p1:=XB2.out.cell 1 (by omega);clear g1 hW1;go_wp2_with fail;refine (HHO.out w1 G1.out).mono ?_;rintro e w2 ⟨rfl,g2⟩;have G2:=hide (xje G1.out g2);have XB3:=hide (XB2.out.grown g2 (by simp));obtain ⟨g3,g6,g7,gfz,ggl⟩:=HGB.out w2 G2.out;clear g2 p0 p1 c0 c1' c2 c3 c4 c5 e3 HLK HHO;cases hb with
     | false=>
      have HSK:Hid (∃fv' F' c' f' cc',BrI (netX D ld G.ln room t T) w0 gb sb G F c m (polT t k) (.slice fa F.length fc) (.slice (some ⟨lb,0,none⟩) n c9) n d wB.heap.size w (i+1) fv' F' c' f' cc' w2):=⟨_,_,_,_,_,HI.out.skip HGET.out HNX.out HHS.out G2.out⟩;go_wp2_with fail;exact ⟨⟨i+1,by omega,by go_num,HSK.out⟩,by simp [intOf];omega⟩
     | true=>
      obtain ⟨i0,hi0,hz0,hz1',hz2'⟩:=info_parts Tryz.infoNPk;have HIF:Hid (Tryz.prog.info? 46=some i0/\i0.zero=some (.agg #[.int .i64 0,.int .i64 0,.int .i64 0,.int .i64 0,.int .i64 0,.int .i64 0])/\i0.size=6/\i0.bytes=48):=⟨hi0,hz0,hz1',hz2'⟩;have q0:w2.cell? ⟨wr.heap.size,0,none⟩=some (.int .i64 (x 0)):=XB3.out.cell 0 (by omega);have q1:w2.cell? ⟨wr.heap.size,1,none⟩=some (.int .i64 (x 1)):=XB3.out.cell 1 (by omega);have q2:w2.cell? ⟨wr.heap.size,2,none⟩=some (.int .i64 (x 2)):=XB3.out.cell 2 (by omega);have q3:w2.cell? ⟨wr.heap.size,3,none⟩=some (.int .i64 (x 3)):=XB3.out.cell 3 (by omega);have q4:w2.cell? ⟨wr.heap.size,4,none⟩=some (.int .i64 (x 4)):=XB3.out.cell 4 (by omega);have q5:w2.cell? ⟨wr.heap.size,5,none⟩=some (.int .i64 (x 5)):=XB3.out.cell 5 (by omega);have hxl:wr.heap.size<w2.heap.size:=World.block_lt_of_cell? w2 _ q0
      have hfl:F1.length<=1000000:=by
       have h1:=HI.out.len;have h2:=HI.out.ec;have h3:=HI.out.le;have h4:=HM.out;omega
      obtain ⟨m1,hm1⟩:∃m1,m1=F1.length:=⟨_,rfl⟩;have QR:Hid (∀ww,w2.grownBy ww none->QRow w0.heap.size ww 46 6 (.slice va m1 vc) m1 (pksC F1)):=fun ww hg=>by rw [hm1];exact (HI.out.s.quiet (xje G2.out hg)).row
      have hw0:Hid (w0.heap.size<=w2.heap.size):=(HI.out.s.quiet G2.out).old.size;have AN:Hid ((Value.slice va m1 vc).ownBlock≠some gb):=fun e=>(HI.out.s.ne.2 gb (by rw [hm1] at e;exact e)).1 rfl
      have FIND:Hid (∀w3 w4 v',w2.grownBy w3 none->QRow w0.heap.size w4 46 6 v' (m1+1) (pksC F1++[.int .i64 (x 0),.int .i64 (x 1),.int .i64 (x 2),.int .i64 (x 3),.int .i64 (x 4),.int .i64 (x 5)])->w3.grownBy w4 (Value.slice va m1 vc).ownBlock->(v'.ownBlock=(Value.slice va m1 vc).ownBlock\/∃b,v'.ownBlock=some b/\w3.heap.size<=b)->∃fv' F' c' f' cc',BrI (netX D ld G.ln room t T) w0 gb sb G F c m (polT t k) (.slice fa F.length fc) (.slice (some ⟨lb,0,none⟩) n c9) n d wB.heap.size w (i+1) fv' F' c' f' cc' (w4.setCell ⟨gb,6,none⟩ v')):=fun w3 w4 v' h1 h2 h3 h4=>by
       rw [hm1] at h2 h3 h4;exact ⟨_,_,_,_,_,HI.out.host HGET.out HNX.out HHS.out (xje G2.out h1) h2 h3 h4 rfl⟩
      have G7:Hid (∀w4,∀w3,w2.grownBy w3 none->w3.grownBy w4 (Value.slice va m1 vc).ownBlock->w4.cell? ⟨gb,6,none⟩=some (.slice va m1 vc)/\w4.frozen? ⟨gb,6,none⟩=false/\w4.cell? ⟨gb,7,none⟩=some (.bool false)):=fun w4 w3 h1 h2=>by
       have hb:=xc9 (HI.out.s.quiet (xje G2.out h1)).blk h2 AN.out;exact ⟨by rw [hm1];exact xc7 hb 6 _ rfl,by simp [World.frozen?,hb],xc7 hb 7 _ rfl⟩
      rw [<-hm1] at g6 hfl;clear hi0 hz0 hz1' hz2' hm1 HI HGB;go_wp2_with fail
      go_region_law (
        refine xxd rfl (.tmp 108) (.tmp 110) 29 rfl w0.heap.size 46 i0 _ 6 48 Tryz.underlying29 HIF.out.1 HIF.out.2.1 HIF.out.2.2.1 HIF.out.2.2.2 rfl (by decide) (.slice va m1 vc) m1 (pksC F1) (by simp [Act.eval,Act.put]) (QRow.drew (QR.out (w2.alloc (.cells #[.int .i64 (x 0),.int .i64 (x 1),.int .i64 (x 2),.int .i64 (x 3),.int .i64 (x 4),.int .i64 (x 5)] 46)) (World.grownBy_alloc _ _ none))) ⟨w2.heap.size,0,none⟩ 1 1 [.int .i64 (x 0),.int .i64 (x 1),.int .i64 (x 2),.int .i64 (x 3),.int .i64 (x 4),.int .i64 (x 5)] (by simp [Act.eval,Act.put]) rfl (fun j u hj=>xed w2 [.int .i64 (x 0),.int .i64 (x 1),.int .i64 (x 2),.int .i64 (x 3),.int .i64 (x 4),.int .i64 (x 5)] 46 j u hj) (by intro u hu;simp at hu;rcases hu with rfl|rfl|rfl|rfl|rfl|rfl<;>rfl) (by omega) (by unfold maxLen;omega) (by omega) (by have:=hw0.out;simp;omega) ?_;intro v' w4 q4 g4 at4;obtain ⟨a4,c4,hv4⟩:=q4.slice;subst hv4;have g4':=xjf g4;obtain ⟨e4,f4,e7⟩:=G7.out w4 _ (World.grownBy_alloc w2 (.cells #[.int .i64 (x 0),.int .i64 (x 1),.int .i64 (x 2),.int .i64 (x 3),.int .i64 (x 4),.int .i64 (x 5)] 46) none) g4';have Q4:=hide q4;have G4:=hide g4';have AT4:=hide at4;clear q4 g4 g4' at4)
      all_goals
       go_wp2_with fail;exact ⟨⟨i+1,by omega,by go_num,FIND.out _ _ _ (World.grownBy_alloc _ _ none) Q4.out G4.out AT4.out⟩,by simp [intOf];omega⟩
   ·have hie:i=n:=by omega
    have FIN:Hid (∀wz,wr.grownBy wz none->P (.returned (.tuple #[])) wz):=fun wz hz=>by
     rw [HP.out];exact HI.out.fin (by rw [hie,HN.out]) (by have:=HM.out;omega) rfl hz
    clear hI e3;subst hie;go_wp2_with fail;refine bodyPost_end (results_none rfl _ _ _) rfl ?_;exact FIN.out _ (xjb _ _)
end Go.Proofs.YtlhkfafdioakeaaGreatDoor
