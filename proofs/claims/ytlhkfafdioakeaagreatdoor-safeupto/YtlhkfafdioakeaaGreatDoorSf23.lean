/- Parts of the proof. -/
import Derived.Test.YtlhkfafdioakeaaGreatDoorSf04
import Derived.Test.YtlhkfafdioakeaaGreatDoorSf14
import Derived.Test.YtlhkfafdioakeaaGreatDoorSf15
import Derived.Test.YtlhkfafdioakeaaGreatDoorSf17
import Derived.Test.YtlhkfafdioakeaaGreatDoorSf22
import Derived.Shelf.SlSortCmp.NoneTotal
import Derived.Deep.LoopGhost
import Derived.Maps.AppendAt
namespace Go.Proofs.YtlhkfafdioakeaaGreatDoor
set_option maxRecDepth 100000
set_option maxHeartbeats 8000000
open Go.RowKit Go.Weft Go.Maps
set_option linter.unusedVariables false
set_option linter.unusedSimpArgs false
def spF(l:List Spt):List Value:=l.flatMap fun s=>[.int .i64 (s.1:Int),.int .i64 (s.2 0),.int .i64 (s.2 1),.int .i64 (s.2 2),.int .i64 (s.2 3),.int .i64 (s.2 4),.int .i64 (s.2 5)]
theorem xwy:∀l:List Spt,(spF l).length=l.length*7
 | []=>rfl
 | s::l=>by
  have:=xwy l;unfold spF at this ⊢;simp only [List.flatMap_cons,List.length_append,this,List.length_cons,List.length_nil];omega
theorem xwz(l:List Spt)(s:Spt):spF (l++[s])=spF l++[.int .i64 (s.1:Int),.int .i64 (s.2 0),.int .i64 (s.2 1),.int .i64 (s.2 2),.int .i64 (s.2 3),.int .i64 (s.2 4),.int .i64 (s.2 5)]:=by
 unfold spF;simp
theorem xwx(l:List Spt)(s:Spt)(t:Nat)(ht:t<7):(spF (l++[s]))[l.length*7+t]?=some (spV s t):=by
 rw [xwz,List.getElem?_append_right (by rw [xwy];omega),xwy,show l.length*7+t-l.length*7=t by omega];rcases (show t=0\/t=1\/t=2\/t=3\/t=4\/t=5\/t=6 by omega) with rfl|rfl|rfl|rfl|rfl|rfl|rfl<;>rfl
def TodoR(B:Nat)(w:World)(v:Value)(l:List Spt):Prop:=w.ownsRow B 185 7 v l.length (spF l)
theorem TodoR.cut{B:Nat}{w:World}{a:Option Addr}{n c:Nat}{l:List Spt}{s:Spt}(h:TodoR B w (.slice a n c) (l++[s])):TodoR B w (.slice a l.length c) l:=by
 unfold TodoR at h ⊢;refine ⟨xwy l,?_⟩;rcases h.2 with ⟨e,h0⟩|⟨g,cap,cur,e,hb,hg,h1,h2,h3,h4⟩
 ·rw [List.length_append,List.length_singleton] at h0;omega
 ·cases e;rw [List.length_append,List.length_singleton] at h1 h4;refine .inr ⟨g,c,cur,rfl,hb,hg,by omega,h2,h3,?_⟩;have:=congrArg (List.take (l.length*7)) h4;rw [List.take_take,Nat.min_eq_left (by omega),xwz,List.take_append_of_le_length (by rw [xwy];exact Nat.le_refl _)] at this;rw [this,List.take_of_length_le (by rw [xwy];exact Nat.le_refl _)]
def pksF(l:List (Nat->Int)):Nat->Nat->Int:=fun j=>l.getD j (fun _=>0)
structure RunI(L:List Plc)(a:Spt)(pv:Value)(st:Int)(w:World)(seen todo:List Spt)(made:List (Nat->Int))(c:Option (Spt×Nat))(mv tv:Value)(wr:World):Prop where
 wl:WL L a seen todo made c
 sn:SeenR wr (w.heap.size+3) seen
 td:TodoR (w.heap.size+4) wr tv todo
 md:OwnV (w.heap.size+4) wr mv made.length (pksF made)
 fb:wr.heap[w.heap.size]?=some (.cells #[pv,.int .i64 st] 108 (0,0))
 gr:w.grownBy wr none
 sz:w.heap.size+4<=wr.heap.size
theorem WL.madeFew{L:List Plc}{a:Spt}{seen todo:List Spt}{made:List (Nat->Int)}{c:Option (Spt×Nat)}(h:WL L a seen todo made c):made.length<=1073741824:=by
 have h1:=xw1 (m:=1) (l:=made.map fun y=>((0,y):Spt)) (List.pairwise_map.2 (h.ndm.imp (fun hne e=>hne (Prod.mk.inj e).2))) (fun s hs=>by
  obtain ⟨y,hy,rfl⟩:=List.mem_map.1 hs;exact ⟨Nat.one_pos,(h.okS _ ((h.mdm y).1 hy).1).2⟩)
 rw [List.length_map] at h1;omega
theorem xwu{made:List (Nat->Int)}{D:Array (Nat->Int)}{n:Nat}{P:(Nat->Int)->Prop}(hn:∀y∈made,Nm y)(hd:made.Nodup)(hm:∀y,y∈made↔P y)(hD:D.size=n)(hp:D.toList.Perm made)(hs:∀i j,i<j->j<n->¬ltP D[j]! D[i]!):Is D.toList n (fun j=>D[j]!)/\SetOf D.toList P:=by
 have hlen:D.toList.length=n:=by rw [Array.length_toList,hD]
 have hg:∀j,j<n->D.toList[j]?=some D[j]! := fun j hj=>by
  have h1:j<D.size:=by omega
  rw [getElem!_pos D j h1,Array.getElem?_toList,Array.getElem?_eq_getElem h1]
 refine ⟨⟨hlen,hg⟩,⟨?_,fun x hx=>hn x (hp.mem_iff.1 hx),fun x=>(hp.mem_iff).trans (hm x)⟩⟩;refine List.pairwise_iff_getElem.2 (fun i j hi hj hij=>?_);have ei:D[i]! = D.toList[i]:=by have:=hg i (by omega);rw [List.getElem?_eq_getElem hi] at this;exact (Option.some.inj this).symm
 have ej:D[j]! = D.toList[j]:=by have:=hg j (by omega);rw [List.getElem?_eq_getElem hj] at this;exact (Option.some.inj this).symm
 have h1:=hs i j hij (by omega);rw [ei,ej] at h1;rcases ltP.total D.toList[i] D.toList[j] with h2|h2|h2
 ·exact h2
 ·exact absurd h2 h1
 ·have hnd:D.toList.Nodup:=hp.nodup_iff.2 hd;have e:D.toList[i]=D.toList[j]:=(hn _ (hp.mem_iff.1 (List.getElem_mem hi))).ext (hn _ (hp.mem_iff.1 (List.getElem_mem hj))) h2;have:=(List.getElem_inj hnd).1 e;omega
theorem xtg(made:List (Nat->Int)):(List.range made.length).map (pksF made)=made:=by
 apply List.ext_getElem
 ·simp
 ·intro i h1 h2;simp [pksF,List.getD_eq_getElem?_getD,List.getElem?_eq_getElem h2]
theorem xuf(w:World)(cs:List Value)(T:TypeId):∀j u,cs[j]?=some u->(w.alloc (.cells cs.toArray T)).cell? ((⟨w.heap.size,0,none⟩:Addr).add j)=some u:=by
 intro j u hu;have h:=heap_alloc_new w (.cells cs.toArray T);have ha:(⟨w.heap.size,0,none⟩:Addr).add j=⟨w.heap.size,j,none⟩:=by unfold Addr.add;split<;>simp_all
 rw [ha];simp only [World.cell?,h];simpa using hu
theorem xpl(v:Value):v.ownBlock=none\/v.ownBlock≠none:=by cases hv:v.ownBlock<;>simp
theorem RunI.grown{L:List Plc}{a:Spt}{pv:Value}{st:Int}{w:World}{seen todo:List Spt}{made:List (Nat->Int)}{c:Option (Spt×Nat)}{mv tv:Value}{wr w1:World}(h:RunI L a pv st w seen todo made c mv tv wr)(g:wr.grownBy w1 none):RunI L a pv st w seen todo made c mv tv w1:=
 ⟨h.wl,h.sn.kept g (by simp),World.ownsRow.kept h.td g (xpl tv),h.md.grown g (fun b e=>by cases e),(g.block _ (Array.getElem?_eq_some_iff.1 h.fb).1 (by simp)).trans h.fb,xje h.gr g,Nat.le_trans h.sz g.size⟩
theorem xr0(made:List (Nat->Int))(x:Nat->Int)(j:Nat)(hj:j<made.length+1):cat made.length (pksF made) (fun _=>x) j=pksF (made++[x]) j:=by
 unfold cat pksF;by_cases e:j<made.length
 ·rw [if_pos e,List.getD_eq_getElem?_getD,List.getD_eq_getElem?_getD,List.getElem?_append_left e]
 ·rw [if_neg e,List.getD_eq_getElem?_getD,List.getElem?_append_right (by omega),show j-made.length=0 by omega];rfl
theorem RunI.made1{L:List Plc}{a:Spt}{pv:Value}{st:Int}{w:World}{seen todo todo':List Spt}{made:List (Nat->Int)}{c c':Option (Spt×Nat)}{mv tv mv' tv':Value}{wr w1 w2:World}{x:Nat->Int}(h:RunI L a pv st w seen todo made c mv tv wr)(g1:wr.grownBy w1 none)(g2:w1.grownBy w2 mv.ownBlock)
  (ho:OwnV (w.heap.size+4) w2 mv' (made.length+1) (cat made.length (pksF made) (fun _=>x))) (hw:WL L a seen todo' (made++[x]) c') (ht:TodoR (w.heap.size+4) wr tv' todo'):RunI L a pv st w seen todo' (made++[x]) c' mv' tv' w2:=by
 have m1:=h.md.grown g1 (fun b e=>by cases e);have f1:=(g1.block _ (Array.getElem?_eq_some_iff.1 h.fb).1 (by simp)).trans h.fb;refine ⟨hw,(h.sn.kept g1 (by simp)).kept g2 (fun e=>?_),xqi (World.ownsRow.kept ht g1 (xpl tv')) g2 (fun b hb=>m1.tagged b hb) (by decide),?_,(g2.block _ (Array.getElem?_eq_some_iff.1 f1).1 (fun e=>?_)).trans f1,xi1 (v':=mv') h.gr (h.md.mono (by omega)) g1 g2,Nat.le_trans h.sz (Nat.le_trans g1.size g2.size)⟩
 ·have:=(h.md.lt _ e.symm).1;omega
 ·rw [List.length_append,List.length_singleton];exact ho.cong (fun j hj i hi=>by rw [xr0 made x j hj])
 ·have:=(h.md.lt _ e.symm).1;omega
theorem RunI.push{L:List Plc}{a t:Spt}{pv:Value}{st:Int}{w:World}{seen todo:List Spt}{made:List (Nat->Int)}{c c':Option (Spt×Nat)}{mv tv tv':Value}{wr w1 w2 w3 w4:World}(h:RunI L a pv st w seen todo made c mv tv wr)(g1:wr.grownBy w1 none)(g2:w1.grownBy w2 (some (w.heap.size+3)))(s2:SeenR w2 (w.heap.size+3) (seen++[t]))
  (g3:w2.grownBy w3 none) (g4:w3.grownBy w4 tv.ownBlock) (t4:TodoR (w.heap.size+4) w4 tv' (todo++[t])) (hw:WL L a (seen++[t]) (todo++[t]) made c'):RunI L a pv st w (seen++[t]) (todo++[t]) made c' mv tv' w4:=by
 have m1:=h.md.grown g1 (fun b e=>by cases e);have m2:=m1.grown g2 (fun b e=>by cases e;exact fun e2=>by have:=(h.md.lt _ e2).1;omega);have m3:=m2.grown g3 (fun b e=>by cases e);have t1:=World.ownsRow.kept h.td g1 (xpl tv);have t2:=World.ownsRow.kept t1 g2 (.inr (fun e=>by have:=(World.ownsRow.lt h.td _ e).1;omega));have t3:=World.ownsRow.kept t2 g3 (xpl tv);have f1:=(g1.block _ (Array.getElem?_eq_some_iff.1 h.fb).1 (by simp)).trans h.fb;have f2:=(g2.block _ (Array.getElem?_eq_some_iff.1 f1).1 (by simp)).trans f1;have f3:=(g3.block _ (Array.getElem?_eq_some_iff.1 f2).1 (by simp)).trans f2;have G3:w.grownBy w3 none:=xje (xi9 (xje h.gr g1) g2 (by omega)) g3
 have G4:w.grownBy w4 none:=by
  cases hv:tv.ownBlock with
  | none=>rw [hv] at g4;exact xje G3 g4
  | some b=>rw [hv] at g4;exact xi9 G3 g4 (by have:=(World.ownsRow.lt h.td _ hv).1;omega)
 refine ⟨hw,(s2.kept g3 (by simp)).kept g4 (fun e=>?_),t4,xqa m3 g4 (fun b hb=>xqn t3 b hb) (by decide),(g4.block _ (Array.getElem?_eq_some_iff.1 f3).1 (fun e=>?_)).trans f3,G4,Nat.le_trans h.sz (Nat.le_trans g1.size (Nat.le_trans g2.size (Nat.le_trans g3.size g4.size)))⟩
 ·have:=(World.ownsRow.lt h.td _ e.symm).1;omega
 ·have:=(World.ownsRow.lt h.td _ e.symm).1;omega
theorem SpR.kept{w w':World}{v:Value}{l:List Spt}{row:Option Nat}(h:SpR w v l)(hg:w.grownBy w' row)(hr:∀b,row=some b->v.ownBlock≠some b):SpR w' v l:=by
 rcases h with h|⟨g,cap,hv,h1,h2⟩
 ·exact .inl h
 ·refine .inr ⟨g,cap,hv,h1,fun j hj t ht=>hg.cell (h2 j hj t ht) ?_⟩;intro e;exact hr g e.symm (by rw [hv];rfl)
theorem Tryz.underlyingMapSp:Tryz.prog.underlying 187=some (.map 185 186):=Tryz.underlying187
theorem Rt.spN{s:Spt}(h1:s.1<1000000)(h:Rt s.2):SpN s:=⟨by omega,fun i hi=>by have:=h.2 i hi;omega⟩
theorem xu6(n0:Nat)(pv:Value)(st:Nat)(L:List Plc)(k:Nat->Int)(w:World)(h:FlV n0 w pv L)(ok:FlowOK L)(hg:∀q∈L,plK q.1/\q.2.length<=100000000)(hL:L.length<=2000)(hst:st<L.length)(hk:Rt k):
  Calls Tryz.prog 56 #[.agg #[pv,.int .i64 (st:Int)],pkV k] w (fun x w'=>∃v n d A,x=.returned v/\OwnV w.heap.size w' v n d/\Is A n d/\SetOf A (fun y=>Many (stepP L) (st,k) (0,y))/\w.grownBy w' none):=by
 have HF:=hide h;have HOK:=hide ok;have HG:=hide hg;have HK:=hide hk;have HS0:=hide (WL.start (L:=L) (st,k) ⟨hst,hk⟩)
 have hpv:∃g c,pv=.slice (some ⟨g,0,none⟩) L.length c:=by
  obtain ⟨g,c,d,s,e,_⟩:=h.at (List.getElem?_eq_getElem (show 0<L.length by omega));exact ⟨g,c,e⟩
 obtain ⟨pg,pc,rfl⟩:=hpv;clear h ok hg hk;have hmm:=@run_makeMap Tryz.prog;obtain ⟨i0,hi,hi0,hi1,hi2⟩:=info_parts Tryz.infoSpot;have HI:=hide (And.intro hi (And.intro hi0 (And.intro hi1 hi2)));clear hi hi0 hi1 hi2;unfold pkV pkA;go_enter Tryz.func56,Tryz.ntmps56;go_upto_region 3 with fail
 obtain ⟨W,hW⟩:∃W,W=((w.alloc (.cells #[.slice (some ⟨pg,0,none⟩) L.length pc,.int .i64 (st:Int)] 108)).alloc (.cells #[.int .i64 (k 0),.int .i64 (k 1),.int .i64 (k 2),.int .i64 (k 3),.int .i64 (k 4),.int .i64 (k 5)] 46)).alloc (.cells #[.int .i64 (st:Int),.int .i64 (k 0),.int .i64 (k 1),.int .i64 (k 2),.int .i64 (k 3),.int .i64 (k 4),.int .i64 (k 5)] 185):=⟨_,rfl⟩;have zW:W.heap.size=w.heap.size+3:=by rw [hW];simp
 have GW:w.grownBy W none:=by rw [hW];exact xje (xje (World.grownBy_alloc _ _ _) (World.grownBy_alloc _ _ _)) (World.grownBy_alloc _ _ _)
 have FB:W.heap[w.heap.size]?=some (.cells #[.slice (some ⟨pg,0,none⟩) L.length pc,.int .i64 (st:Int)] 108 (0,0)):=by
  rw [hW];exact ((Below.heap_alloc _ _ _ (by simp;omega)).trans (Below.heap_alloc _ _ _ (by simp))).trans (heap_alloc_new _ _)
 have k0:W.cell? ⟨w.heap.size+1+1,0,none⟩=some (.int .i64 (st:Int)):=by rw [hW];simp [go_sem]
 have k1:W.cell? ⟨w.heap.size+1+1,1,none⟩=some (.int .i64 (k 0)):=by rw [hW];simp [go_sem]
 have k2:W.cell? ⟨w.heap.size+1+1,2,none⟩=some (.int .i64 (k 1)):=by rw [hW];simp [go_sem]
 have k3:W.cell? ⟨w.heap.size+1+1,3,none⟩=some (.int .i64 (k 2)):=by rw [hW];simp [go_sem]
 have k4:W.cell? ⟨w.heap.size+1+1,4,none⟩=some (.int .i64 (k 3)):=by rw [hW];simp [go_sem]
 have k5:W.cell? ⟨w.heap.size+1+1,5,none⟩=some (.int .i64 (k 4)):=by rw [hW];simp [go_sem]
 have k6:W.cell? ⟨w.heap.size+1+1,6,none⟩=some (.int .i64 (k 5)):=by rw [hW];simp [go_sem]
 rw [<-hW];clear hW;have hspn:SpN (st,k):=Rt.spN (by show st<1000000;omega) HK.out;obtain ⟨V,hrun,hown,hgV⟩:=(World.ownsMap_made W Tryz.prog 185 (unitElem (H:=Unit))).update (t:=187) (e:=186) spLaw Tryz.underlyingMapSp (by unfold maxLen;omega) (spKey (st,k) hspn) unitElem_mk;unfold spA at hrun;dsimp only at hrun;rw [zW] at hrun;have gWV:W.grownBy V none:=xi9 (World.grownBy_alloc _ _ _) hgV (Nat.le_refl _)
 have SN:Hid (SeenR V (w.heap.size+3) [(st,k)]):=by
  refine ⟨?_,fun s hs=>by obtain rfl:=List.mem_singleton.1 hs;exact hspn⟩;rw [<-zW];exact hown
 have zV:w.heap.size+4<=V.heap.size:=by
  have:=hgV.size;rw [World.size_alloc,zW] at this;exact this
 have hzV:w.heap.size+1+1<V.heap.size:=by omega
 have q0:=gWV.cell k0 (by simp);have q1:=gWV.cell k1 (by simp);have q2:=gWV.cell k2 (by simp);have q3:=gWV.cell k3 (by simp);have q4:=gWV.cell k4 (by simp);have q5:=gWV.cell k5 (by simp);have q6:=gWV.cell k6 (by simp);have FBV:Hid (V.heap[w.heap.size]?=some (.cells #[.slice (some ⟨pg,0,none⟩) L.length pc,.int .i64 (st:Int)] 108 (0,0))):=(gWV.block _ (Array.getElem?_eq_some_iff.1 FB).1 (by simp)).trans FB;have GV:=hide (xje GW gWV);have FB':=hide FB;have HOWN:=hide hown;have HGV:=hide hgV;have HGW:=hide GW;have HWV:=hide gWV;have hzW:w.heap.size+1+1<W.heap.size:=by omega
 clear FB hown hgV GW gWV;go_wp2_with fail;obtain ⟨U,hU⟩:∃U,U=V.alloc (.cells #[.int .i64 (st:Int),.int .i64 (k 0),.int .i64 (k 1),.int .i64 (k 2),.int .i64 (k 3),.int .i64 (k 4),.int .i64 (k 5)] 185):=⟨_,rfl⟩;obtain ⟨vb,hvb⟩:∃vb,vb=V.heap.size:=⟨_,rfl⟩
 have I0:Hid (RunI L (st,k) (.slice (some ⟨pg,0,none⟩) L.length pc) (st:Int) w [(st,k)] [(st,k)] [] none (.slice none 0 0) (.slice (some ⟨vb,0,none⟩) 1 1) U):=by
  have gU:V.grownBy U none:=by rw [hU];exact World.grownBy_alloc _ _ _
  refine ⟨HS0.out,SN.out.kept gU (by simp),⟨rfl,.inr ⟨vb,1,_,rfl,by rw [hvb];exact zV,by rw [hU,hvb];exact heap_alloc_new _ _,Nat.le_refl _,by unfold maxLen;omega,rfl,rfl⟩⟩,OwnV.nil _ _ _,(gU.block _ (Array.getElem?_eq_some_iff.1 FBV.out).1 (by simp)).trans FBV.out,xje GV.out gU,Nat.le_trans zV gU.size⟩
 rw [<-hU,<-hvb];clear hU hvb hrun q0 q1 q2 q3 q4 q5 q6 k0 k1 k2 k3 k4 k5 k6 FBV GV FB' HOWN HGV HGW HWV SN hzW hzV zV zW HS0 hspn hmm
 go_loopg [5,8] (L.length*2147483648) (fun gk mv tv wr=>∃seen todo made,2*(L.length*1073741824-seen.length)+todo.length<=gk/\RunI L (st,k) (.slice (some ⟨pg,0,none⟩) L.length pc) (st:Int) w seen todo made none mv tv wr)
 case atStart=>exact ⟨_,_,_,by simp;omega,I0.out⟩
 case round=>
  clear I0;obtain ⟨seen,todo,made,hgk,hI⟩:=hrel;have I:=hide hI;clear hI;obtain ⟨ta,tc,htv⟩:=xqm I.out.td;obtain ⟨ma,mc,hmv⟩:=I.out.md.slice;subst htv hmv;rcases List.eq_nil_or_concat todo with rfl|⟨td,⟨p,x⟩,rfl⟩
  ·have hall:=WL.all HOK.out I.out.wl;have hnm:∀y∈made,Nm y:=fun y hy=>(I.out.wl.okS _ ((I.out.wl.mdm y).1 hy).1).2.1
   have HALL:=hide hall;have HNM:=hide hnm;clear hall hnm;have hmd:=I.out.md;rcases hmd with ⟨e,h0⟩|⟨mg,mcap,hmg,e,hmo⟩
   ·have hm0:made=[]:=List.length_eq_zero_iff.1 h0;subst hm0;cases e;have HS:=hide (AnyF.slices_SortFunc_none (P:=Tryz.prog) (ρ:=xwr) xwq none 0 (.func (.func 99) #[] #[]) wr);have HS2:Hid (Calls Tryz.prog 98 #[.slice none 0 0,.func (.func 99) #[] #[]] wr fun e w'=>e=.returned (.tuple #[])/\w'=wr):=HS.out;clear HS;go_wp2_with fail;refine HS2.out.mono ?_;rintro e w' ⟨rfl,rfl⟩;go_wp2;go_ret;exact ⟨_,0,fun _ _=>0,[],rfl,OwnV.nil _ _ _,⟨rfl,fun j hj=>by omega⟩,⟨List.Pairwise.nil,fun x hx=>(by cases hx),fun y=>(HALL.out y)⟩,I.out.gr⟩
   ·cases e;have HS:=hide (xwt wr mg made.length mc (pksF made) hmo);clear hmo;go_wp2_with fail;refine HS.out.mono ?_;rintro e w' ⟨rfl,D,hD,hp,hs,hown,hgr⟩;rw [xtg] at hp;have H1:=hide (xwu HNM.out I.out.wl.ndm HALL.out hD hp hs);have H2:=hide hown;have H3:=hide hgr;clear hD hp hs hown hgr HS;go_wp2;go_ret;exact ⟨_,made.length,_,D.toList,rfl,.inr ⟨mg,mc,by omega,rfl,H2.out⟩,H1.out.1,H1.out.2,xi9 I.out.gr H3.out (by omega)⟩
  ·have htd:=I.out.td;rcases htd.2 with ⟨e,h0⟩|⟨tg,cap,cur,e,htg,_,hcp,hcm,_⟩
   ·exact absurd h0 (by simp)
   cases e;rw [List.concat_eq_append] at *;have hgb:tg<wr.heap.size:=(htd.lt tg rfl).2;have cc:∀t,t<7->wr.cell? ⟨tg,td.length*7+t,none⟩=some (spV (p,x) t):=fun t ht=>(htd.cellAt (td.length*7+t) (by rw [List.length_append,List.length_singleton];omega)).trans (xwx td (p,x) t ht)
   clear htd;obtain ⟨n,hn⟩:∃n,n=td.length:=⟨_,rfl⟩;have hlen:(td++[((p,x):Spt)]).length=n+1:=by rw [hn];simp
   rw [hlen] at hcp ⊢;rw [<-hn] at cc;have hcI:(n:Int)<=tc:=by omega
   have hcN:n<=tc:=by omega
   have hc0:¬tc=0:=by omega
   have HC:=hide cc;have HN:=hide hn;have HLEN:=hide hlen;have d0:wr.cell? ⟨tg,n*7,none⟩=some (.int .i64 (p:Int)):=cc 0 (by omega);have d1:wr.cell? ⟨tg,n*7+1,none⟩=some (.int .i64 (x 0)):=cc 1 (by omega);have d2:wr.cell? ⟨tg,n*7+2,none⟩=some (.int .i64 (x 1)):=cc 2 (by omega);have d3:wr.cell? ⟨tg,n*7+3,none⟩=some (.int .i64 (x 2)):=cc 3 (by omega);have d4:wr.cell? ⟨tg,n*7+4,none⟩=some (.int .i64 (x 3)):=cc 4 (by omega);have d5:wr.cell? ⟨tg,n*7+5,none⟩=some (.int .i64 (x 4)):=cc 5 (by omega);have d6:wr.cell? ⟨tg,n*7+6,none⟩=some (.int .i64 (x 5)):=cc 6 (by omega)
   have hnb:n<=2147483648000:=by
    have:=I.out.wl.few.2;rw [List.length_append,List.length_singleton] at this;omega
   have hp1:p<2000:=by
    have:=(I.out.wl.okS _ (I.out.wl.sub (p,x) (by simp))).1;exact Nat.lt_of_lt_of_le this hL
   clear cc hn hlen;go_upto_region 8 with fail
   obtain ⟨wA,hA⟩:∃wA,wA=wr.alloc (.cells #[.int .i64 (p:Int),.int .i64 (x 0),.int .i64 (x 1),.int .i64 (x 2),.int .i64 (x 3),.int .i64 (x 4),.int .i64 (x 5)] 185):=⟨_,rfl⟩;have gA:Hid (wr.grownBy wA none):=by rw [hA];exact World.grownBy_alloc _ _ _
   have e0:wA.cell? ⟨wr.heap.size,0,none⟩=some (.int .i64 (p:Int)):=by rw [hA];simp [go_sem]
   have e1:wA.cell? ⟨wr.heap.size,1,none⟩=some (.int .i64 (x 0)):=by rw [hA];simp [go_sem]
   have e2:wA.cell? ⟨wr.heap.size,2,none⟩=some (.int .i64 (x 1)):=by rw [hA];simp [go_sem]
   have e3:wA.cell? ⟨wr.heap.size,3,none⟩=some (.int .i64 (x 2)):=by rw [hA];simp [go_sem]
   have e4:wA.cell? ⟨wr.heap.size,4,none⟩=some (.int .i64 (x 3)):=by rw [hA];simp [go_sem]
   have e5:wA.cell? ⟨wr.heap.size,5,none⟩=some (.int .i64 (x 4)):=by rw [hA];simp [go_sem]
   have e6:wA.cell? ⟨wr.heap.size,6,none⟩=some (.int .i64 (x 5)):=by rw [hA];simp [go_sem]
   have hzA:wr.heap.size<wA.heap.size:=World.block_lt_of_cell? wA _ e0;have TC:Hid (TodoR (w.heap.size+4) wr (.slice (some ⟨tg,0,none⟩) n tc) td):=by rw [HN.out];exact TodoR.cut I.out.td
   rw [<-hA];clear hA d0 d1 d2 d3 d4 d5 d6 hcI hc0;have IA:=hide (I.out.grown gA.out);have hmade:=I.out.wl.madeFew;by_cases hp0:p=0
   ·subst hp0;have HR:=hide (xpp wA x);unfold pkA at HR;go_wp2_with (at_builtin;refine x1d _ rfl _ _ rfl (w.heap.size+4) (.slice ma made.length mc) made.length (pksF made) rfl (IA.out.md.grown (World.grownBy_alloc _ _ none) (fun b e=>by cases e)) _ 1 (fun _=>x) rfl HR.out (by omega) (by have:=IA.out.sz;simp;omega) ?_);intro v5 w5 o5 g5 _;obtain ⟨a5,q5,rfl⟩:=o5.slice;have J5:=hide (IA.out.made1 (World.grownBy_alloc _ _ none) g5 o5 (WL.pop0 HOK.out I.out.wl rfl) (World.ownsRow.kept TC.out gA.out (xpl _)));clear o5 g5;go_wp2_with fail
    go_roundg (2*(L.length*1073741824-seen.length)+td.length)
    case rel=>exact ⟨seen,td,_,Nat.le_refl _,J5.out⟩
    case measure=>
     rw [List.length_append,List.length_singleton] at hgk;omega
   ·have hp0I:¬(p:Int)=0:=by omega
    obtain ⟨N,hN⟩:∃N,N=nextS L (p,x):=⟨_,rfl⟩;have hpx:(p,x)∈seen:=I.out.wl.sub (p,x) (by simp);have hpL:p<L.length:=(I.out.wl.okS _ hpx).1
    have HAF:Hid (∀ww,wA.grownBy ww none->Calls Tryz.prog 97 #[.agg #[.slice (some ⟨pg,0,none⟩) L.length pc,.int .i64 (st:Int)],.agg #[.int .i64 (p:Int),.int .i64 (x 0),.int .i64 (x 1),.int .i64 (x 2),.int .i64 (x 3),.int .i64 (x 4),.int .i64 (x 5)]] ww (fun e w'=>∃a c,e=.returned (.slice a N.length c)/\SpR w' (.slice a N.length c) N/\(∀b,(Value.slice a N.length c).ownBlock=some b->ww.heap.size<=b)/\ww.grownBy w' none)):=by
     intro ww hww;have hq:=List.getElem?_eq_getElem hpL;have hgq:=HG.out _ (List.getElem_mem hpL);refine (xbo n0 _ (st:Int) L _ p x ww (HF.out.grown (xje IA.out.gr hww)) hq hgq.1 hgq.2 (by omega)).mono ?_;rintro e w' ⟨v,rfl,hsp,hfr,hgr⟩;rw [<-hN] at hsp;rcases id hsp with ⟨a,c,rfl,hnil⟩|⟨g,cap,rfl,_⟩
     ·rw [hnil] at hsp ⊢;exact ⟨a,c,rfl,hsp,hfr,hgr⟩
     ·exact ⟨_,_,rfl,hsp,hfr,hgr⟩
    have f0:wA.cell? ⟨w.heap.size,0,none⟩=some (.slice (some ⟨pg,0,none⟩) L.length pc):=by have h:=IA.out.fb;simp [World.cell?,h]
    have f1:wA.cell? ⟨w.heap.size,1,none⟩=some (.int .i64 (st:Int)):=by have h:=IA.out.fb;simp [World.cell?,h]
    have IC:Hid (RunI L (st,k) (.slice (some ⟨pg,0,none⟩) L.length pc) (st:Int) w seen td made (some ((p,x),0)) (.slice ma made.length mc) (.slice (some ⟨tg,0,none⟩) n tc) wA):=
     ⟨WL.pop I.out.wl hp0,IA.out.sn,World.ownsRow.kept TC.out gA.out (xpl _),IA.out.md,IA.out.fb,IA.out.gr,IA.out.sz⟩
    have hNl:N.length<=100000000:=by
     have hgq:=HG.out _ (List.getElem_mem hpL);rw [hN];unfold nextS;rw [List.getElem?_eq_getElem hpL];dsimp only;split
     ·rw [List.length_map];exact hgq.2
     ·exact Nat.zero_le _
    have HNN:=hide hN;clear hN I IA;go_wp2_with fail;refine (HAF.out wA (xjb _ _)).mono ?_;rintro e w1 ⟨la,lc,rfl,hsp,hfr,hg1⟩;have I1:=hide (IC.out.grown hg1);have S1:=hide hsp
    have D1:Hid (∀b,(Value.slice (some ⟨tg,0,none⟩) n tc).ownBlock=some b->(Value.slice la N.length lc).ownBlock≠some b):=fun b hb hb2=>by
     have h1:=hfr b hb2;have h2:=(World.ownsRow.lt IC.out.td b hb).2;omega
    clear hsp hfr hg1 IC HAF f0 f1 e0 e1 e2 e3 e4 e5 e6 hgb hzA TC gA;go_wp2_with fail;go_loopw [8,50] (fun tv i wq=>∃(j:Nat) (seen1 todo1:List Spt),j<=N.length/\i=.int .i64 j/\2*(L.length*1073741824-seen1.length)+todo1.length<=2*(L.length*1073741824-seen.length)+td.length/\RunI L (st,k) (.slice (some ⟨pg,0,none⟩) L.length pc) (st:Int) w seen1 todo1 made (some ((p,x),j)) (.slice ma made.length mc) tv wq/\SpR wq (.slice la N.length lc) N/\∀b,tv.ownBlock=some b->(Value.slice la N.length lc).ownBlock≠some b) (fun _ i _=>N.length-(intOf i).toNat)
    case atStart=>exact ⟨0,seen,td,by omega,rfl,Nat.le_refl _,I1.out,S1.out,D1.out⟩
    case round=>
     clear I1 S1 D1;obtain ⟨j,seen1,todo1,hj,rfl,hms,hI,hS,hD⟩:=hrel;have I:=hide hI;have S:=hide hS;have D:=hide hD;clear hI hS hD;obtain ⟨ua,uc,htv⟩:=xqm I.out.td;subst htv;by_cases hlt:j<N.length
     ·rcases S.out with ⟨_,_,_,h0⟩|⟨lg,lcap,e,_,hcell⟩
      ·rw [h0] at hlt;exact absurd hlt (by simp)
      cases e;obtain ⟨tt,htt⟩:∃tt,tt=N[j]:=⟨_,rfl⟩;obtain ⟨tp,tx⟩:=tt;have cc:∀t,t<7->wr.cell? ⟨lg,j*7+t,none⟩=some (spV (tp,tx) t):=fun t ht=>by rw [htt];exact hcell j hlt t ht
      have hgl:lg<wr.heap.size:=World.block_lt_of_cell? wr _ (cc 0 (by omega));have d0:wr.cell? ⟨lg,j*7,none⟩=some (.int .i64 (tp:Int)):=cc 0 (by omega);have d1:wr.cell? ⟨lg,j*7+1,none⟩=some (.int .i64 (tx 0)):=cc 1 (by omega);have d2:wr.cell? ⟨lg,j*7+2,none⟩=some (.int .i64 (tx 1)):=cc 2 (by omega);have d3:wr.cell? ⟨lg,j*7+3,none⟩=some (.int .i64 (tx 2)):=cc 3 (by omega);have d4:wr.cell? ⟨lg,j*7+4,none⟩=some (.int .i64 (tx 3)):=cc 4 (by omega);have d5:wr.cell? ⟨lg,j*7+5,none⟩=some (.int .i64 (tx 4)):=cc 5 (by omega);have d6:wr.cell? ⟨lg,j*7+6,none⟩=some (.int .i64 (tx 5)):=cc 6 (by omega);have hget:(nextS L (p,x))[j]?=some (tp,tx):=by rw [<-HNN.out,htt];exact List.getElem?_eq_getElem hlt
      have hrt:=HOK.out.stay (p,x) (tp,tx) (I.out.wl.okS _ (I.out.wl.now _ _ rfl).1).1 (I.out.wl.okS _ (I.out.wl.now _ _ rfl).1).2 (List.mem_of_getElem? hget);have hsp:SpN (tp,tx):=Rt.spN (Nat.lt_of_lt_of_le hrt.1 (by omega)) hrt.2;have hkey:keyOf Tryz.prog 185 (.agg #[.int .i64 (tp:Int),.int .i64 (tx 0),.int .i64 (tx 1),.int .i64 (tx 2),.int .i64 (tx 3),.int .i64 (tx 4),.int .i64 (tx 5)])=some (spL (tp,tx)):=spKey (tp,tx) hsp
      have HH:(Maps.has (setOf (.agg []:DataW Unit) (seen1.map spL)) (spL (tp,tx))=true↔(tp,tx)∈seen1):=by
       rw [I.out.sn.has hsp];constructor
       ·rintro ⟨s,hs,he⟩;have:=xwv (I.out.wl.okS s hs).2.1 hrt.2.1 he;exact this ▸ hs
       ·intro hs;exact ⟨_,hs,rfl⟩
      obtain ⟨Dt,hDt⟩:∃Dt,Dt=setOf (.agg []:DataW Unit) (seen1.map spL):=⟨_,rfl⟩;obtain ⟨kl,hkl⟩:∃kl,kl=spL (tp,tx):=⟨_,rfl⟩;have OM:Hid (wr.ownsMap Tryz.prog 185 (unitElem (H:=Unit)) (w.heap.size+3) seen1.length Dt):=by rw [hDt];exact I.out.sn.1
      rw [<-hDt,<-hkl] at HH;rw [<-hkl] at hkey;have HDT:=hide hDt;have HKL:=hide hkl;have HGET:=hide hget;have HRT:=hide hrt;have HSP:=hide hsp;have HTT:=hide htt;have HKEY:=hide hkey;have hs1:=I.out.wl.few;have hsz3:w.heap.size+3<wr.heap.size:=OM.out.lt;have hltI:(j:Int)<N.length:=by omega
      have hlg:lg≠w.heap.size+3:=by
       intro e;obtain ⟨es,ck,hm,_⟩:=OM.out;rw [e] at d0;simp [World.cell?,hm] at d0
      have HLG:=hide hlg;have HGL:=hide hgl;clear hcell cc hget hrt hsp hDt hkl htt hkey hlg;go_upto_region 13 with fail
      obtain ⟨wB,hB⟩:∃wB,wB=wr.alloc (.cells #[.int .i64 (tp:Int),.int .i64 (tx 0),.int .i64 (tx 1),.int .i64 (tx 2),.int .i64 (tx 3),.int .i64 (tx 4),.int .i64 (tx 5)] 185):=⟨_,rfl⟩;have gB:Hid (wr.grownBy wB none):=by rw [hB];exact World.grownBy_alloc _ _ _
      have b0:wB.cell? ⟨wr.heap.size,0,none⟩=some (.int .i64 (tp:Int)):=by rw [hB];simp [go_sem]
      have b1:wB.cell? ⟨wr.heap.size,1,none⟩=some (.int .i64 (tx 0)):=by rw [hB];simp [go_sem]
      have b2:wB.cell? ⟨wr.heap.size,2,none⟩=some (.int .i64 (tx 1)):=by rw [hB];simp [go_sem]
      have b3:wB.cell? ⟨wr.heap.size,3,none⟩=some (.int .i64 (tx 2)):=by rw [hB];simp [go_sem]
      have b4:wB.cell? ⟨wr.heap.size,4,none⟩=some (.int .i64 (tx 3)):=by rw [hB];simp [go_sem]
      have b5:wB.cell? ⟨wr.heap.size,5,none⟩=some (.int .i64 (tx 4)):=by rw [hB];simp [go_sem]
      have b6:wB.cell? ⟨wr.heap.size,6,none⟩=some (.int .i64 (tx 5)):=by rw [hB];simp [go_sem]
      have hzB:wr.heap.size<wB.heap.size:=World.block_lt_of_cell? wB _ b0;rw [<-hB];clear hB d0 d1 d2 d3 d4 d5 d6 hgl;by_cases hin:(tp,tx)∈seen1
      ·have hhas:Maps.has Dt kl=true:=HH.2 hin;clear HH;go_wp2_with (at_lookup;refine wpList_lookup_own_unit _ rfl _ _ 187 rfl 185 186 spLaw Tryz.underlyingMapSp (zeroU _) (w.heap.size+3) seen1.length Dt rfl (OM.out.kept gB.out (by simp)) _ kl rfl HKEY.out ?_);have gE:=xje gB.out (World.grownBy_alloc wB (.cells #[] 186) none);have J:=I.out.grown gE;exact ⟨⟨j+1,seen1,todo1,by omega,by go_num,hms,⟨WL.old J.wl HGET.out hin,J.sn,J.td,J.md,J.fb,J.gr,J.sz⟩,S.out.kept gE (fun b e=>by cases e),D.out⟩,by simp [intOf];omega⟩
      ·have hhas:Maps.has Dt kl=false:=by
        cases hb:Maps.has Dt kl with
        | false=>rfl
        | true=>exact absurd (HH.1 hb) hin
       clear HH
       go_wp2_with (first
        | (at_lookup;refine wpList_lookup_own_unit _ rfl _ _ 187 rfl 185 186 spLaw Tryz.underlyingMapSp (zeroU _) (w.heap.size+3) seen1.length Dt rfl (OM.out.kept gB.out (by simp)) _ kl rfl HKEY.out ?_)
        | (at_mapUpdate;refine wpList_mapUpdate_own _ rfl _ _ _ 187 rfl 185 186 spLaw Tryz.underlyingMapSp (unitElem (H:=Unit)) (w.heap.size+3) seen1.length Dt rfl ((OM.out.kept gB.out (by simp)).alloc _) (by unfold maxLen;omega) _ _ kl rfl rfl HKEY.out _ [] unitElem_mk ?_;intro w2 o2 g2;have O2:=hide o2;have G2:=hide g2;have T2:Hid (w2.ownsRow (w.heap.size+4) 185 7 (.slice ua todo1.length uc) todo1.length (spF todo1)):=World.ownsRow.kept (World.ownsRow.alloc (World.ownsRow.kept I.out.td gB.out (xpl _)) _) g2 (.inr (fun e=>by have:=(World.ownsRow.lt I.out.td _ e).1;omega));have m0:w2.cell? ⟨wr.heap.size,0,none⟩=some (.int .i64 (tp:Int)):=g2.cell ((World.grownBy_alloc wB _ none).cell b0 (by simp)) (by simp;omega);have m1:w2.cell? ⟨wr.heap.size,1,none⟩=some (.int .i64 (tx 0)):=g2.cell ((World.grownBy_alloc wB _ none).cell b1 (by simp)) (by simp;omega);have m2:w2.cell? ⟨wr.heap.size,2,none⟩=some (.int .i64 (tx 1)):=g2.cell ((World.grownBy_alloc wB _ none).cell b2 (by simp)) (by simp;omega);have m3:w2.cell? ⟨wr.heap.size,3,none⟩=some (.int .i64 (tx 2)):=g2.cell ((World.grownBy_alloc wB _ none).cell b3 (by simp)) (by simp;omega);have m4:w2.cell? ⟨wr.heap.size,4,none⟩=some (.int .i64 (tx 3)):=g2.cell ((World.grownBy_alloc wB _ none).cell b4 (by simp)) (by simp;omega);have m5:w2.cell? ⟨wr.heap.size,5,none⟩=some (.int .i64 (tx 4)):=g2.cell ((World.grownBy_alloc wB _ none).cell b5 (by simp)) (by simp;omega);have m6:w2.cell? ⟨wr.heap.size,6,none⟩=some (.int .i64 (tx 5)):=g2.cell ((World.grownBy_alloc wB _ none).cell b6 (by simp)) (by simp;omega);have hz2:wr.heap.size<w2.heap.size:=World.block_lt_of_cell? w2 _ m0;clear o2 g2)
        | (at_builtin;refine wpList_append_own_at _ rfl _ _ 188 rfl (w.heap.size+4) 185 i0 (spA (0,fun _=>0)) 7 56 Tryz.underlying188 HI.out.1 HI.out.2.1 HI.out.2.2.1 HI.out.2.2.2 rfl (by decide) (.slice ua todo1.length uc) todo1.length (spF todo1) rfl (World.ownsRow.alloc T2.out _) ⟨w2.heap.size,0,none⟩ 1 1 [.int .i64 (tp:Int),.int .i64 (tx 0),.int .i64 (tx 1),.int .i64 (tx 2),.int .i64 (tx 3),.int .i64 (tx 4),.int .i64 (tx 5)] rfl rfl (xuf w2 [.int .i64 (tp:Int),.int .i64 (tx 0),.int .i64 (tx 1),.int .i64 (tx 2),.int .i64 (tx 3),.int .i64 (tx 4),.int .i64 (tx 5)] 185) (by intro u hu;simp at hu;rcases hu with rfl|rfl|rfl|rfl|rfl|rfl|rfl<;>rfl) (by unfold maxLen;omega) (by omega) (by have:=I.out.sz;simp;omega) ?_;intro v4 w4 o4 g4 _ hloc))
       have gE:=xje gB.out (World.grownBy_alloc wB (.cells #[] 186) none);have WN:=WL.new HOK.out I.out.wl HGET.out hin
       have s2:SeenR w2 (w.heap.size+3) (seen1++[(tp,tx)]):=by
        refine ⟨?_,fun s hs=>?_⟩
        ·rw [List.length_append,List.length_singleton,List.map_append,List.map_singleton,setOf_snoc,<-HDT.out,<-HKL.out];exact O2.out
        ·rcases List.mem_append.1 hs with hs|hs
         ·exact I.out.sn.2 s hs
         ·obtain rfl:=List.mem_singleton.1 hs;exact HSP.out
       have g3:=World.grownBy_alloc w2 (.cells #[.int .i64 (tp:Int),.int .i64 (tx 0),.int .i64 (tx 1),.int .i64 (tx 2),.int .i64 (tx 3),.int .i64 (tx 4),.int .i64 (tx 5)] 185) none
       have t4:TodoR (w.heap.size+4) w4 v4 (todo1++[(tp,tx)]):=by
        unfold TodoR;rw [List.length_append,List.length_singleton,xwz];exact o4
       have J:=I.out.push gE G2.out s2 g3 g4 t4 WN;have hf1:=WN.few.1;rw [List.length_append,List.length_singleton] at hf1
       have hlw:lg<(w2.alloc (.cells #[.int .i64 (tp:Int),.int .i64 (tx 0),.int .i64 (tx 1),.int .i64 (tx 2),.int .i64 (tx 3),.int .i64 (tx 4),.int .i64 (tx 5)] 185)).heap.size:=by
        have h1:=HGL.out;have h2:wr.heap.size<w2.heap.size:=hz2;rw [World.size_alloc];omega
       refine ⟨⟨j+1,_,_,by omega,by go_num,?_,J,(((S.out.kept gE (fun b e=>by cases e)).kept G2.out (fun b e=>?_)).kept g3 (fun b e=>by cases e)).kept g4 (fun b hb=>D.out b hb),fun b hb=>?_⟩,by simp [intOf];omega⟩
       ·rw [List.length_append,List.length_append,List.length_singleton];omega
       ·cases e;intro e2;have e3:some lg=some (w.heap.size+3):=e2;exact HLG.out (Option.some.inj e3)
       ·rcases hloc with hl|hl
        ·exact D.out b (hl ▸ hb)
        ·rw [hl] at hb;intro e2;have e3:some lg=some b:=e2;have e4:=Option.some.inj hb;have e5:=Option.some.inj e3;omega
     ·obtain rfl:j=N.length:=by omega
      have WD:=hide (WL.done I.out.wl (by rw [<-HNN.out];exact Nat.le_refl _));go_wp2_with fail
      go_roundg (2*(L.length*1073741824-seen1.length)+todo1.length)
      case rel=>exact ⟨seen1,todo1,made,Nat.le_refl _,⟨WD.out,I.out.sn,I.out.td,I.out.md,I.out.fb,I.out.gr,I.out.sz⟩⟩
      case measure=>
       rw [List.length_append,List.length_singleton] at hgk;omega
open Go.RowKit Go.Weft
theorem xty{k:Nat->Int}(hn:Nm k):xtx k↔Rt k:=
 ⟨fun h=>⟨hn,fun i hi=>by have:=h i hi;unfold okF at this;omega⟩,fun h i hi=>by have:=h.2 i hi;unfold okF;omega⟩
def EvO(t:Code)(k:Nat->Int)(w:World)(x:Ending)(w':World):Prop:=
 ∃v n d A,((xtx k/\x=.returned (.tuple #[v,.int .i64 0])/\SetOf A (D t k))\/(¬xtx k/\x=.returned (.tuple #[v,.int .i64 8])/\n=0/\A=[]))/\OwnV w.heap.size w' v n d/\Is A n d/\w.grownBy w' none
theorem xg1(b:Nat)(t:Code)(k:Nat->Int)(w:World)(h:PolAt w b t)(hn:Nm k)(hc:cn t<=1900)(hw:(wfC t).1=true)(hk:kdC t=true)(hf:lfD t=true):
  Calls Tryz.prog 16 #[.pointer (some ⟨b,0,none⟩),pkV k] w (EvO t k w):=by
 obtain ⟨n0,B,pv,r,o,hb,hfl,_⟩:=h;have c0:w.cell? ⟨b,0,none⟩=some pv:=by simp [World.cell?,hb]
 have c1:w.cell? ⟨b,1,none⟩=some (.int .i64 ((xh4 t).1:Int)):=by simp [World.cell?,hb]
 have hbw:b<w.heap.size:=World.block_lt_of_cell? w _ c0;have hlen:=xh7 t;obtain ⟨hgd,hst⟩:=xh6 1900 (by omega) t hc hw hk hf
 have HR:Hid (∀ww,w.grownBy ww none->Rt k->Calls Tryz.prog 56 #[.agg #[pv,.int .i64 ((xh4 t).1:Int)],pkV k] ww (fun x w'=>∃a c n d A,x=.returned (.slice a n c)/\OwnV ww.heap.size w' (.slice a n c) n d/\Is A n d/\SetOf A (D t k)/\ww.grownBy w' none)):=by
  intro ww hww hrt;refine (xu6 n0 pv (xh4 t).1 (xh4 t).2 k ww (hfl.grown hww) (xh8 1900 (by omega) t hc hw hk hf) (fun q hq=>⟨(hgd q hq).1,Nat.le_trans (hgd q hq).2.2.2.2 (by omega)⟩) (by omega) hst hrt).mono ?_;rintro x w' ⟨v,n,d,A,rfl,h1,h2,h3,h4⟩;obtain ⟨a,c,rfl⟩:=h1.slice;exact ⟨a,c,n,d,A,rfl,h1,h2,h3.cong (fun y=>xh5 t k y),h4⟩
 have hpv:∃g c,pv=.slice (some ⟨g,0,none⟩) (xh4 t).2.length c:=by
  obtain ⟨g,c,d,s,e,_⟩:=hfl.at (List.getElem?_eq_getElem (show 0<(xh4 t).2.length by omega));exact ⟨g,c,e⟩
 obtain ⟨pg,pc,rfl⟩:=hpv;obtain ⟨pn,hpn⟩:∃pn,pn=(xh4 t).2.length:=⟨_,rfl⟩;obtain ⟨ps,hps⟩:∃ps:Int,ps=((xh4 t).1:Int):=⟨_,rfl⟩;rw [<-hpn] at c0 HR;rw [<-hps] at c1 HR;have HRT:=hide (xty hn);have HN:=hide hn;obtain ⟨w1,hw1⟩:∃w1,w1=w.alloc (.cells (pkA k) 46):=⟨_,rfl⟩;have B1:pkBlk w1 w.heap.size k:=by rw [hw1];exact pkBlk.alloc w k
 have G1:Hid (w.grownBy w1 none):=by rw [hw1];exact World.grownBy_alloc _ _ _
 have CR:=hide (xtz k w1);obtain ⟨p0,p1,p2,p3,p4,p5⟩:=xtq B1;have HB1:=hide B1;clear hb hfl hlen hgd hst hc hw hk hf hpn hps B1 hn;unfold pkA at hw1;unfold pkV pkA at CR HR ⊢;go_enter Tryz.func16,Tryz.ntmps16;go_wp2_with fail;rw [<-hw1];refine CR.out.mono ?_;rintro x w2 ⟨⟨bb,rfl,hbb⟩,g2⟩;have G2:=hide (xje G1.out g2);have d0:=G2.out.cell c0 (by simp);have d1:=G2.out.cell c1 (by simp);obtain ⟨q0,q1,q2,q3,q4,q5⟩:=xtq (HB1.out.grown g2 (by simp));have hz2:w.heap.size<w2.heap.size:=World.block_lt_of_cell? w2 _ q0;have HBB:=hide hbb;clear hw1 c0 c1 p0 p1 p2 p3 p4 p5 g2 hbb CR;cases bb
 ·go_wp2;go_ret2;exact ⟨.slice none 0 0,0,fun _ _=>0,[],.inr ⟨fun hr=>(by have:=HBB.out.2 hr;cases this),rfl,rfl,rfl⟩,OwnV.nil _ _ _,⟨rfl,fun j hj=>by omega⟩,G2.out⟩
 ·have HRR:=hide (HBB.out.1 rfl);go_upto_region 5 with fail
  go_region_with (go_at_call 56;refine (HR.out _ (by first|exact xi7 G2.out|exact G2.out) (HRT.out.1 HRR.out)).mono ?_;rintro x w3 ⟨a,c,n,d,A,rfl,h1,h2,h3,h4⟩;have K1:=hide h1;have K2:=hide h2;have K3:=hide h3;have K4:=hide (show w2.grownBy w3 none by first|exact xjf h4|exact h4);clear h1 h2 h3 h4)
  all_goals
   go_wp2;go_ret2;refine ⟨_,n,d,A,.inl ⟨HRR.out,rfl,K3.out⟩,K1.out.mono ?_,K2.out,xje G2.out K4.out⟩;show w.heap.size<=w2.heap.size;omega
theorem PolAt.grown{w w':World}{b:Nat}{t:Code}(h:PolAt w b t)(hg:w.grownBy w' none):PolAt w' b t:=by
 obtain ⟨n0,B,pv,r,o,hb,hf,hm⟩:=h;exact ⟨n0,B,pv,r,o,(hg.block b (Array.getElem?_eq_some_iff.1 hb).1 (by simp)).trans hb,hf.grown hg,hm.grown hg⟩
theorem xz9(w:World)(k l:Nat->Int):PkR (w.alloc (.cells (pkA k++pkA l) 46)) (.slice (some ⟨w.heap.size,0,none⟩) 2 2) 2 (fun j=>if j=0 then k else l):=by
 obtain ⟨W,hW⟩:∃W,W=w.alloc (.cells (pkA k++pkA l) 46):=⟨_,rfl⟩;have e:W.heap[w.heap.size]?=some (.cells (pkA k++pkA l) 46 (0,0)):=by rw [hW];exact heap_alloc_new _ _
 have hc:∀j,W.cell? ⟨w.heap.size,j,none⟩=(pkA k++pkA l)[j]?:=fun j=>by simp [World.cell?,e]
 rw [<-hW];refine .inr ⟨w.heap.size,0,2,rfl,by omega,fun j hj i hi=>?_⟩;rw [show 0+j*6+i=j*6+i by omega,hc];rcases (show j=0\/j=1 by omega) with rfl|rfl
 ·rcases (show i=0\/i=1\/i=2\/i=3\/i=4\/i=5 by omega) with rfl|rfl|rfl|rfl|rfl|rfl<;>rfl
 ·rcases (show i=0\/i=1\/i=2\/i=3\/i=4\/i=5 by omega) with rfl|rfl|rfl|rfl|rfl|rfl<;>rfl
end Go.Proofs.YtlhkfafdioakeaaGreatDoor
