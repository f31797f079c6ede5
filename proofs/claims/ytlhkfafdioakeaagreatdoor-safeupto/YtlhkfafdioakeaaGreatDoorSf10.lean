/- Parts of the proof. -/
import Derived.Test.YtlhkfafdioakeaaGreatDoorSf09
import Derived.Deep.RegionLawGrows
import Derived.Laws.OwnMore
import Derived.RangeFuncNested
import Derived.RangeFuncBound
import Derived.RangeFuncCalls
import Derived.RangeFuncLeaves
import Derived.RangeFuncBox
import Derived.Shelf.Abstract
import Derived.Shelf.RegionOpen
import Derived.WalkKit
import Derived.OwnWalkIn
import Derived.TacticsInMore
import Derived.LoopNIn
import Derived.LoopIn
namespace Go
theorem xxc{P:Program}{ops:Array Oper}{o:Oper}{a:Act}{w:World}{K:Act->World->Prop}{Q:Exit->Act->World->Prop}{E:Prop}
  (hg:o.guard=none) (s x:Operand) (t:TypeId) (hop:o.op=Op.call { callee:=Callee.builtin Builtin.append,args:=#[s,x],argTypes:=#[t,t] })
  (base:Nat) (e:TypeId) (i:TypeInfo) (z:Value) (size bytes:Nat) (h1:P.underlying t=some (.slice e)) (h2:P.info? e=some i) (h3:i.zero=some z) (h4:i.size=size) (h5:i.bytes=bytes) (h6:z.cells.size=size) (h7:0<size)
  (v:Value) (n:Nat) (xs:List Value) (hs:a.eval s=v) (hown:w.ownsRow base e size v n xs)
  (ad:Addr) (m c:Nat) (news:List Value) (hx:a.eval x=.slice (some ad) m c) (hn:news.length=m*size) (hc:∀j u,news[j]?=some u->w.cell? (ad.add j)=some u) (h1c:∀u∈news,u.oneCell'=true)
  (b1:n+m<=maxLen) (b2:(n+m)*bytes<=140737488355328) (hbase:base<=w.heap.size)
  (hK:∀v' w',w'.ownsRow base e size v' (n+m) (xs++news)->w.grownBy w' v.ownBlock->(v'.ownBlock=v.ownBlock\/v'.ownBlock=some w.heap.size)->K (a.put o.dst v') w'):
  if Region.wanted o (yielded ops a.tmps)=true then Oper.wp P o a w K Q else E:=by
 have hw:Region.wanted o (yielded ops a.tmps)=true:=by simp [Region.wanted,hg]
 rw [if_pos hw];obtain ⟨v',w',hrun,r1,r2,_,r4⟩:=run_append_own_at (P:=P) w base t o.type e i z size bytes h1 h2 h3 h4 h5 h6 h7 v n xs hown ad m c news hn hc h1c b1 b2 hbase;unfold Oper.wp;simp [execOp,hop,resolve,invoke,builtin,hs,hx,hrun,Result.andThen];exact hK v' w' r1 r2 r4
end Go
namespace Go.Proofs.YtlhkfafdioakeaaGreatDoor
set_option maxRecDepth 100000
set_option maxHeartbeats 2000000
open Go.RowKit Go.Weft
set_option linter.unusedVariables false
set_option linter.unusedSimpArgs false
abbrev Plc:=Option Code×List Nat
def xj3:Code->Bool
 | .loop _=>true
 | _=>false
def lay:Code->(Nat->List Plc->Nat×List Plc)×(Nat->List Plc->List Nat×List Plc)×(Nat->List Plc->Nat×List Plc)
 | .exit n=>(fun nx L=>if n=0 then (nx,L) else if n=1 then (L.length,L++[(none,[])]) else (L.length,L++[(some (.exit n),[nx])]),fun _ L=>([],L),fun nx L=>(nx,L))
 | .scope t=>(fun nx L=>(L.length,L++[(some (.scope t),[nx])]),fun _ L=>([],L),fun nx L=>(nx,L))
 | .loop t=>(fun nx L=>if xj3 t=true then (lay t).1 nx L else
   (L.length,((lay t).1 L.length (L++[(none,[])])).2.set L.length (none,[nx,((lay t).1 L.length (L++[(none,[])])).1])),fun _ L=>([],L),fun nx L=>(nx,L))
 | .block k l=>(fun nx L=>if k=0 then (((lay l).2.1 nx L).2.length,((lay l).2.1 nx L).2++[(none,((lay l).2.1 nx L).1)]) else (lay l).2.2 nx L,fun _ L=>([],L),fun nx L=>(nx,L))
 | .seq t l=>(fun nx L=>(nx,L),fun nx L=>(((lay t).1 nx L).1::((lay l).2.1 nx ((lay t).1 nx L).2).1,((lay l).2.1 nx ((lay t).1 nx L).2).2),fun nx L=>(lay t).1 ((lay l).2.2 nx L).1 ((lay l).2.2 nx L).2)
 | _=>(fun nx L=>(nx,L),fun _ L=>([],L),fun nx L=>(nx,L))
def cn:Code->Nat
 | .exit _=>1
 | .scope _=>1
 | .loop t=>cn t+1
 | .block _ l=>cn l+1
 | .seq a l=>cn a+cn l
 | _=>0
theorem xk5:∀(t:Code) (nx:Nat) (L:List Plc),(L.length<=((lay t).1 nx L).2.length/\((lay t).1 nx L).2.length<=L.length+cn t)/\(L.length<=((lay t).2.1 nx L).2.length/\((lay t).2.1 nx L).2.length<=L.length+cn t)/\(L.length<=((lay t).2.2 nx L).2.length/\((lay t).2.2 nx L).2.length<=L.length+cn t):=by
 intro t;induction t with
 | exit n=>
  intro nx L;refine ⟨?_,⟨Nat.le_refl _,Nat.le_add_right _ _⟩,Nat.le_refl _,Nat.le_add_right _ _⟩;simp only [lay,cn];split
  ·exact ⟨Nat.le_refl _,Nat.le_add_right _ _⟩
  ·split<;>simp
 | scope t ih=>intro nx L;exact ⟨by simp [lay,cn],⟨Nat.le_refl _,Nat.le_add_right _ _⟩,Nat.le_refl _,Nat.le_add_right _ _⟩
 | loop t ih=>
  intro nx L;refine ⟨?_,⟨Nat.le_refl _,Nat.le_add_right _ _⟩,Nat.le_refl _,Nat.le_add_right _ _⟩;simp only [lay,cn];split
  ·have:=(ih nx L).1;omega
  ·have:=(ih L.length (L++[(none,[])])).1;simp only [List.length_set,List.length_append,List.length_singleton] at this ⊢;omega
 | block k l ih=>
  intro nx L;refine ⟨?_,⟨Nat.le_refl _,Nat.le_add_right _ _⟩,Nat.le_refl _,Nat.le_add_right _ _⟩;have:=ih nx L;simp only [lay,cn];split
  ·simp only [List.length_append,List.length_singleton];omega
  ·omega
 | seq a l iha ihl=>
  intro nx L;have h1:=(iha nx L).1;have h2:=(ihl nx ((lay a).1 nx L).2).2.1;have h3:=(ihl nx L).2.2;have h4:=(iha ((lay l).2.2 nx L).1 ((lay l).2.2 nx L).2).1;simp only [lay,cn];exact ⟨⟨Nat.le_refl _,Nat.le_add_right _ _⟩,⟨by omega,by omega⟩,by omega,by omega⟩
 | _=>intro nx L;exact ⟨⟨Nat.le_refl _,Nat.le_add_right _ _⟩,⟨Nat.le_refl _,Nat.le_add_right _ _⟩,Nat.le_refl _,Nat.le_add_right _ _⟩
def plC(dv sv:Nat->Value):Nat->List Value
 | 0=>[]
 | n+1=>plC dv sv n++[dv n,sv n]
theorem xr4(dv sv:Nat->Value):∀n,(plC dv sv n).length=n*2
 | 0=>rfl
 | n+1=>by rw [plC,List.length_append,xr4 dv sv n];simp;omega
theorem xr2{dv sv du su:Nat->Value}:∀n,(∀j,j<n->dv j=du j/\sv j=su j)->plC dv sv n=plC du su n
 | 0,_=>rfl
 | n+1,h=>by rw [plC,plC,xr2 n (fun j hj=>h j (by omega)),(h n (by omega)).1,(h n (by omega)).2]
theorem xr3(dv sv:Nat->Value):∀n j,j<n->(plC dv sv n)[j*2]?=some (dv j)/\(plC dv sv n)[j*2+1]?=some (sv j)
 | 0,_,h=>by omega
 | n+1,j,h=>by
  rw [plC];by_cases e:j=n
  ·subst e;rw [List.getElem?_append_right (by rw [xr4];omega),List.getElem?_append_right (by rw [xr4];omega),xr4,show j*2-j*2=0 by omega,show j*2+1-j*2=1 by omega];exact ⟨rfl,rfl⟩
  ·have hp:=xr3 dv sv n j (by omega);rw [List.getElem?_append_left (by rw [xr4];omega),List.getElem?_append_left (by rw [xr4];omega)];exact hp
theorem xr5(dv sv:Nat->Value)(k:Nat)(u:Value):∀n,k<n->(plC dv sv n).set (k*2+1) u=plC dv (fun j=>if j=k then u else sv j) n
 | 0,h=>by omega
 | n+1,h=>by
  rw [plC,plC];by_cases e:k=n
  ·subst e;rw [List.set_append_right _ _ (by rw [xr4];omega),xr4,show k*2+1-k*2=1 by omega,if_pos rfl];rw [xr2 (du:=dv) (su:=fun j=>if j=k then u else sv j) k (fun j hj=>⟨rfl,by rw [if_neg (by omega)]⟩)];rfl
  ·rw [List.set_append_left _ _ (by rw [xr4];omega),xr5 dv sv k u n (by omega),if_neg (by omega)]
def intL(l:List Nat):List Value:=l.map fun (x:Nat)=>Value.int .i64 (x:Int)
structure LK(n0 fb:Nat)(w w':World):Prop where
 os:w'.os=w.os
 tape:w'.tape=w.tape
 output:w'.output=w.output
 size:w.heap.size<=w'.heap.size
 block:∀k,k<w.heap.size->k≠fb->(k<n0\/∀cur fz,w.heap[k]?≠some (.cells cur 170 fz))->w'.heap[k]?=w.heap[k]?
theorem LK.refl(n0 fb:Nat)(w:World):LK n0 fb w w:=⟨rfl,rfl,rfl,Nat.le_refl _,fun _ _ _ _=>rfl⟩
theorem LK.trans{n0 fb:Nat}{w1 w2 w3:World}(h:LK n0 fb w1 w2)(k:LK n0 fb w2 w3):LK n0 fb w1 w3:=
 ⟨k.os.trans h.os,k.tape.trans h.tape,k.output.trans h.output,Nat.le_trans h.size k.size,fun j hj hf hp=>by
  have h1:=h.block j hj hf hp;exact (k.block j (Nat.lt_of_lt_of_le hj h.size) hf (hp.imp id (fun h2 cur fz e=>h2 cur fz (h1 ▸ e)))).trans h1⟩
theorem LK.grown{n0 fb:Nat}{w w':World}(h:w.grownBy w' none):LK n0 fb w w':=⟨h.os,h.tape,h.output,h.size,fun k hk _ _=>h.block k hk (by simp)⟩
theorem LK.row{n0 fb r:Nat}{w w':World}(h:w.grownBy w' (some r))(hr:r=fb\/(n0<=r/\∃cur fz,w.heap[r]?=some (.cells cur 170 fz))):LK n0 fb w w':=
 ⟨h.os,h.tape,h.output,h.size,fun k hk hf hp=>h.block k hk (fun e=>by
  cases e;rcases hr with rfl|⟨h1,cur,fz,h2⟩
  ·exact hf rfl
  ·rcases hp with hp|hp
   ·omega
   ·exact hp cur fz h2)⟩
theorem LK.below{n0 fb:Nat}{w w':World}(h:LK n0 fb w w')(hn:n0<=fb)(hs:n0<=w.heap.size):Below n0 w w':=⟨h.os,h.tape,h.output,h.size,fun k hk=>h.block k (by omega) (by omega) (.inl hk)⟩
theorem LK.own{n0 fb:Nat}{w0 w w':World}(h0:w0.grownBy w none)(h:LK n0 fb w w')(hn:w0.heap.size<=n0)(hf:n0<=fb):w0.grownBy w' none:=
 ⟨h.os.trans h0.os,h.tape.trans h0.tape,h.output.trans h0.output,Nat.le_trans h0.size h.size,fun k hk _=>(h.block k (Nat.lt_of_lt_of_le hk h0.size) (by omega) (.inl (by omega))).trans (h0.block k hk (by simp))⟩
theorem LK.ints{n0 fb:Nat}{w w':World}(h:LK n0 fb w w'){s:Value}{n:Nat}{xs:List Value}(hr:w.ownsRow n0 3 1 s n xs)(hfb:∃cs fz,w.heap[fb]?=some (.cells cs 108 fz)):w'.ownsRow n0 3 1 s n xs:=by
 refine ⟨hr.1,?_⟩;rcases hr.2 with e|⟨g,cap,cur,e,hb,hg,h4⟩
 ·exact .inl e
 ·refine .inr ⟨g,cap,cur,e,hb,?_,h4⟩
  rw [h.block g (Array.getElem?_eq_some_iff.1 hg).1 (fun e2=>by
   subst e2;obtain ⟨cs,fz,h5⟩:=hfb;rw [hg] at h5;cases h5) (.inr (fun c2 f2 h5=>by rw [hg] at h5;cases h5))]
  exact hg
theorem LK.tree{n0 fb:Nat}{w w':World}(h:LK n0 fb w w')(hn:n0<=fb){t:Code}{v:Value}(ht:(TV (fun b=>b<n0) w t).1 v):(TV (fun b=>b<n0) w' t).1 v:=
 (xao (fun b _ _ hb _=>hb) (fun b i x hb hx=>by
  have hlt:=World.block_lt_of_cell? w _ hx;exact (World.cell?_of_block (h.block b hlt (by show b≠fb;have:b<n0:=hb;omega) (.inl hb))).trans hx) t).1 v ht
def PlS(X:Nat->Prop)(n0:Nat)(w:World)(q:Plc)(d s:Value):Prop:=
 w.ownsRow n0 3 1 s q.2.length (intL q.2)/\(∀b,s.ownBlock=some b->¬X b)/\((q.1=none/\d=.nilIface)\/∃t,q.1=some t/\(TV (fun b=>b<n0) w t).1 d)
def FlS(X:Nat->Prop)(n0:Nat)(w:World)(fb:Nat)(st:Int)(L:List Plc):Prop:=
 ∃pv dv sv,w.heap[fb]?=some (.cells #[pv,.int .i64 st] 108 (0,0))/\n0<=fb/\w.ownsRow n0 170 2 pv L.length (plC dv sv L.length)/\∀j q,L[j]?=some q->PlS X n0 w q (dv j) (sv j)
theorem PlS.keep{X:Nat->Prop}{n0 fb:Nat}{w w':World}{q:Plc}{d s:Value}(h:PlS X n0 w q d s)(hk:LK n0 fb w w')(hn:n0<=fb)(hfb:∃cs fz,w.heap[fb]?=some (.cells cs 108 fz)):PlS X n0 w' q d s:=
 ⟨hk.ints h.1 hfb,h.2.1,h.2.2.imp id (fun ⟨t,e,ht⟩=>⟨t,e,hk.tree hn ht⟩)⟩
theorem FlS.fb{X:Nat->Prop}{n0:Nat}{w:World}{fb:Nat}{st:Int}{L:List Plc}(h:FlS X n0 w fb st L):fb<w.heap.size/\n0<=fb/\∃cs fz,w.heap[fb]?=some (.cells cs 108 fz):=by
 obtain ⟨pv,dv,sv,h1,h2,_⟩:=h;exact ⟨(Array.getElem?_eq_some_iff.1 h1).1,h2,_,_,h1⟩
theorem xql{w w':World}{B:Nat}{T:TypeId}{size:Nat}{v:Value}{n:Nat}{xs:List Value}(h:w.ownsRow B T size v n xs)(hs:∀g cs,v.ownBlock=some g->w.heap[g]?=some (.cells cs T (0,0))->w'.heap[g]?=w.heap[g]?):w'.ownsRow B T size v n xs:=by
 refine ⟨h.1,?_⟩;rcases h.2 with e|⟨g,cap,cur,rfl,hb,hg,h4⟩
 ·exact .inl e
 ·exact .inr ⟨g,cap,cur,rfl,hb,(hs g cur rfl hg).trans hg,h4⟩
theorem FlS.kept{X:Nat->Prop}{n0:Nat}{w w':World}{fb:Nat}{st:Int}{L:List Plc}{row:Option Nat}(h:FlS X n0 w fb st L)(hg:w.grownBy w' row)
  (hr:∀r cs T fz,row=some r->w.heap[r]?=some (.cells cs T fz)->n0<=r/\T≠108/\T≠170/\(T=3->X r)):FlS X n0 w' fb st L:=by
 obtain ⟨pv,dv,sv,h1,h2,h3,h4⟩:=h;refine ⟨pv,dv,sv,(hg.block fb (Array.getElem?_eq_some_iff.1 h1).1 (fun e=>(hr fb _ _ _ e.symm h1).2.1 rfl)).trans h1,h2,xql h3 (fun g cs hv hb=>hg.block g (Array.getElem?_eq_some_iff.1 hb).1 (fun e=>(hr g _ _ _ e.symm hb).2.2.1 rfl)),fun j q hq=>?_⟩;obtain ⟨p1,p2,p3⟩:=h4 j q hq;refine ⟨xql p1 (fun g cs hv hb=>hg.block g (Array.getElem?_eq_some_iff.1 hb).1 (fun e=>p2 g hv ((hr g _ _ _ e.symm hb).2.2.2 rfl))),p2,p3.imp id (fun ⟨t,e,ht⟩=>⟨t,e,?_⟩)⟩;refine (xao (fun b _ _ hb _=>hb) (fun b i x hb hx=>?_) t).1 _ ht;have hlt:=World.block_lt_of_cell? w _ hx;refine (World.cell?_of_block (hg.block b hlt (fun e=>?_))).trans hx;cases hob:w.heap[b]? with
 | none=>exact absurd (Array.getElem?_eq_none_iff.1 hob) (Nat.not_le.2 hlt)
 | some o=>
  cases o with
  | cells cs T fz=>have:=(hr b cs T fz e.symm hob).1;have:b<n0:=hb;omega
  | _=>simp [World.cell?,hob] at hx
theorem FlS.grown{X:Nat->Prop}{n0:Nat}{w w':World}{fb:Nat}{st:Int}{L:List Plc}(h:FlS X n0 w fb st L)(hg:w.grownBy w' none):FlS X n0 w' fb st L:=h.kept hg (fun r _ _ _ e=>by cases e)
theorem FlS.less{X Y:Nat->Prop}{n0:Nat}{w:World}{fb:Nat}{st:Int}{L:List Plc}(h:FlS X n0 w fb st L)(hx:∀b,b<w.heap.size->Y b->X b):FlS Y n0 w fb st L:=by
 obtain ⟨pv,dv,sv,h1,h2,h3,h4⟩:=h;refine ⟨pv,dv,sv,h1,h2,h3,fun j q hq=>?_⟩;obtain ⟨p1,p2,p3⟩:=h4 j q hq;exact ⟨p1,fun b hb hy=>p2 b hb (hx b (p1.lt b hb).2 hy),p3⟩
theorem Tryz.infoPlace:(Tryz.prog.info? 170).map (fun i=>(i.zero,i.size,i.bytes))=some (some (.agg #[.nilIface,.slice none 0 0]),2,40):=by kernel_rfl
theorem FlS.more{X:Nat->Prop}{n0:Nat}{w w1 w2:World}{fb:Nat}{st:Int}{L:List Plc}{pv pv':Value}{dv sv:Nat->Value}{q:Plc}{d s:Value}
  (h1:w.heap[fb]?=some (.cells #[pv,.int .i64 st] 108 (0,0))) (h2:n0<=fb) (h3:w.ownsRow n0 170 2 pv L.length (plC dv sv L.length)) (h4:∀j q,L[j]?=some q->PlS X n0 w q (dv j) (sv j)) (hq:PlS X n0 w q d s)
  (hg1:w.grownBy w1 none) (hg2:w1.grownBy w2 pv.ownBlock) (ho:w2.ownsRow n0 170 2 pv' (L.length+1) (plC dv sv L.length++[d,s])):
  FlS X n0 (w2.setCell ⟨fb,0,none⟩ pv') fb st (L++[q])/\LK n0 fb w (w2.setCell ⟨fb,0,none⟩ pv')/\w2.heap[fb]?=some (.cells #[pv,.int .i64 st] 108 (0,0)):=by
 have hfl:=(Array.getElem?_eq_some_iff.1 h1).1
 have hne:∀g,pv.ownBlock=some g->n0<=g/\∃cur fz,w.heap[g]?=some (.cells cur 170 fz):=by
  intro g hv;rcases h3.2 with ⟨rfl,_⟩|⟨g',cap,cur,rfl,hb,hg,_⟩
  ·cases hv
  ·cases hv;exact ⟨hb,cur,_,hg⟩
 have k1:LK n0 fb w w1:=LK.grown hg1
 have k2:LK n0 fb w1 w2:=by
  cases hv:pv.ownBlock with
  | none=>rw [hv] at hg2;exact LK.grown hg2
  | some g=>
   rw [hv] at hg2;obtain ⟨hb,cur,fz,hg⟩:=hne g hv;exact LK.row hg2 (.inr ⟨hb,cur,fz,(hg1.block g (Array.getElem?_eq_some_iff.1 hg).1 (by simp)).trans hg⟩)
 have hset:=xjc w2 fb 0 pv';have k3:LK n0 fb w2 (w2.setCell ⟨fb,0,none⟩ pv'):=LK.row hset (.inl rfl);have hb1:w1.heap[fb]?=some (.cells #[pv,.int .i64 st] 108 (0,0)):=(hg1.block fb hfl (by simp)).trans h1
 have hb2:w2.heap[fb]?=some (.cells #[pv,.int .i64 st] 108 (0,0)):=by
  refine (hg2.block fb (Nat.lt_of_lt_of_le hfl hg1.size) (fun e=>?_)).trans hb1;obtain ⟨_,cur,fz,hg⟩:=hne fb e.symm;rw [h1] at hg;cases hg
 have hk:=(k1.trans k2).trans k3;have hpl:∀q d s,PlS X n0 w q d s->PlS X n0 (w2.setCell ⟨fb,0,none⟩ pv') q d s:=fun q d s hp=>hp.keep hk h2 ⟨_,_,h1⟩
 refine ⟨⟨pv',fun j=>if j=L.length then d else dv j,fun j=>if j=L.length then s else sv j,xjh hb2 0 pv',h2,?_,fun j r hr=>?_⟩,hk,hb2⟩
 ·rw [List.length_append,List.length_singleton]
  have e:plC (fun j=>if j=L.length then d else dv j) (fun j=>if j=L.length then s else sv j) (L.length+1)=plC dv sv L.length++[d,s]:=by
   rw [plC,if_pos rfl,if_pos rfl,xr2 L.length (fun j hj=>⟨by rw [if_neg (by omega)],by rw [if_neg (by omega)]⟩)]
  rw [e];refine xql ho (fun g cs hv hb=>hset.block g (Array.getElem?_eq_some_iff.1 hb).1 (fun e2=>?_));cases e2;rw [hb2] at hb;cases hb
 ·by_cases e:j<L.length
  ·rw [List.getElem?_append_left e] at hr;simp only [if_neg (show ¬j=L.length by omega)];exact hpl _ _ _ (h4 j r hr)
  ·have hj:j=L.length:=by
    have:=(List.getElem?_eq_some_iff.1 hr).1;simp at this;omega
   subst hj;rw [List.getElem?_append_right (Nat.le_refl _),Nat.sub_self] at hr;cases hr;simp only [if_true];exact hpl _ _ _ hq
theorem xef(w:World)(a b:Value)(T:TypeId):∀j u,([a,b]:List Value)[j]?=some u->(w.alloc (.cells #[a,b] T)).cell? ((⟨w.heap.size,0,none⟩:Addr).add j)=some u:=by
 intro j u hj;have hadd:(⟨w.heap.size,0,none⟩:Addr).add j=⟨w.heap.size,j,none⟩:=by unfold Addr.add;split<;>simp_all
 rw [hadd];simp only [World.cell?,heap_alloc_new];simpa using hj
theorem PlS.one{X:Nat->Prop}{n0:Nat}{w:World}{q:Plc}{d s:Value}(h:PlS X n0 w q d s):d.oneCell'=true/\s.oneCell'=true:=by
 refine ⟨?_,?_⟩
 ·rcases h.2.2 with ⟨_,rfl⟩|⟨t,_,ht⟩
  ·rfl
  ·obtain ⟨T,u,rfl⟩:=xam ht;rfl
 ·rcases h.1.2 with ⟨rfl,_⟩|⟨g,cap,cur,rfl,_⟩
  ·rfl
  ·rfl
theorem xqm{w:World}{B:Nat}{T:TypeId}{size:Nat}{v:Value}{n:Nat}{xs:List Value}(h:w.ownsRow B T size v n xs):∃a c,v=.slice a n c:=by
 rcases h.2 with ⟨rfl,rfl⟩|⟨g,cap,cur,rfl,_⟩
 ·exact ⟨_,_,rfl⟩
 ·exact ⟨_,_,rfl⟩
theorem xbk(X:Nat->Prop)(n0 fb:Nat)(st:Int)(L:List Plc)(q:Plc)(d s:Value)(w:World)(h:FlS X n0 w fb st L)(hq:PlS X n0 w q d s)(hl:L.length<=2000000000000):
  Calls Tryz.prog 141 #[.pointer (some ⟨fb,0,none⟩),d,s] w fun x w'=>x=.returned (.int .i64 (L.length:Int))/\FlS X n0 w' fb st (L++[q])/\LK n0 fb w w':=by
 obtain ⟨i0,hi0,hz0,hz1,hz2⟩:=info_parts Tryz.infoPlace;obtain ⟨hfb,hnf,_⟩:=h.fb;obtain ⟨pv,dv,sv,h1,h2,h3,h4⟩:=h;obtain ⟨o1,o2⟩:=hq.one;have c0:w.cell? ⟨fb,0,none⟩=some pv:=by simp [World.cell?,h1]
 have f0:w.frozen? ⟨fb,0,none⟩=false:=by simp [World.frozen?,h1]
 have H1:=hide h1;have H3:=hide h3;have H4:=hide h4;have HQ:=hide hq;obtain ⟨pa,pc,rfl⟩:=xqm h3;obtain ⟨sa,sc,rfl⟩:=xqm hq.1
 have hd:d=.nilIface\/∃T u,d=.iface T u:=by
  rcases hq.2.2 with ⟨_,rfl⟩|⟨t,_,ht⟩
  ·exact .inl rfl
  ·exact .inr (xam ht)
 clear h1 h3 h4 hq;rcases hd with rfl|⟨T,u,rfl⟩
 all_goals
  go_enter Tryz.func141,Tryz.ntmps141;go_wp2_with (at_builtin;refine wpList_append_own_at _ rfl _ _ 106 rfl n0 170 i0 _ 2 40 Tryz.underlying106 hi0 hz0 hz1 hz2 rfl (by decide) _ _ _ rfl (H3.out.alloc _) ⟨w.heap.size,0,none⟩ 1 1 [_,.slice sa q.2.length sc] rfl rfl (xef _ _ _ _) ?d2 ?d3 ?d4 ?d5 ?_)
  case d2=>intro u hu;simp at hu;rcases hu with rfl|rfl<;>rfl
  case d3=>unfold maxLen;omega
  case d4=>omega
  case d5=>simp;omega
  intro v' w2 hown' hgrow _ _;obtain ⟨m1,m2,m3⟩:=FlS.more H1.out h2 H3.out H4.out HQ.out (World.grownBy_alloc w _ none) hgrow hown';obtain ⟨va,vc,rfl⟩:=xqm hown';have e0:w2.cell? ⟨fb,0,none⟩=some (.slice pa L.length pc):=by simp [World.cell?,m3]
  have e1:w2.frozen? ⟨fb,0,none⟩=false:=by simp [World.frozen?,m3]
  have M1:=hide m1;have M2:=hide m2;clear m1 m2 m3 hown' hgrow;go_wp2;go_ret;exact ⟨by go_num,M1.out,M2.out⟩
def LayO(X:Nat->Prop)(n0 fb:Nat)(st:Int)(r:Nat×List Plc)(w:World)(x:Ending)(w':World):Prop:=x=.returned (.int .i64 (r.1:Int))/\FlS X n0 w' fb st r.2/\LK n0 fb w w'
theorem xjw(X:Nat->Prop)(n0:Nat)(w:World)(nx:Nat)(hn:n0<=w.heap.size)(hX:∀b,X b->b<w.heap.size):(w.alloc (.cells #[.int .i64 (nx:Int)] 3)).ownsRow n0 3 1 (.slice (some ⟨w.heap.size,0,none⟩) 1 1) 1 (intL [nx])/\∀b,(Value.slice (some ⟨w.heap.size,0,none⟩) 1 1).ownBlock=some b->¬X b:=
 ⟨⟨rfl,.inr ⟨w.heap.size,1,#[.int .i64 (nx:Int)],rfl,hn,heap_alloc_new _ _,Nat.le_refl _,by decide,rfl,rfl⟩⟩,fun b e hb=>by cases e;exact Nat.lt_irrefl _ (hX _ hb)⟩
theorem xr7{X:Nat->Prop}{n0 fb:Nat}{st:Int}{L:List Plc}{t:Code}{d:Value}{w w1:World}(nx:Nat)(h:FlS X n0 w fb st L)(hX:∀b,X b->b<w.heap.size)(ht:(TV (fun b=>b<n0) w t).1 d)(hg:w.grownBy w1 none):
  FlS X n0 (w1.alloc (.cells #[.int .i64 (nx:Int)] 3)) fb st L/\PlS X n0 (w1.alloc (.cells #[.int .i64 (nx:Int)] 3)) (some t,[nx]) d (.slice (some ⟨w1.heap.size,0,none⟩) 1 1)/\w.grownBy (w1.alloc (.cells #[.int .i64 (nx:Int)] 3)) none:=by
 have hg2:w.grownBy (w1.alloc (.cells #[.int .i64 (nx:Int)] 3)) none:=xje hg (World.grownBy_alloc _ _ _);have hs:=hg.size;have h0:=h.fb;have ho:=xjw X n0 w1 nx (by omega) (fun b hb=>Nat.lt_of_lt_of_le (hX b hb) hs);exact ⟨h.grown hg2,⟨ho.1,ho.2,.inr ⟨t,rfl,xan ht hg2⟩⟩,hg2⟩
theorem xr6{X:Nat->Prop}{n0:Nat}{w:World}:PlS X n0 w (none,[]) .nilIface (.slice none 0 0):=⟨World.ownsRow_nil _ _ _ _,fun b e=>(by cases e),.inl ⟨rfl,rfl⟩⟩
theorem xbq(X:Nat->Prop)(n0 fb nx:Nat)(st:Int)(L:List Plc)(w:World)(h:FlS X n0 w fb st L):
  Calls Tryz.prog 89 #[.pointer (some ⟨fb,0,none⟩),.iface 317 (.agg #[.int .i64 4]),.int .i64 (nx:Int)] w (LayO X n0 fb st (nx,L) w):=by
 have H:=hide h;clear h;go_enter Tryz.func89,Tryz.ntmps89;go_wp2_with (go_at_call 329;refine (xkr 4 _).mono ?_;rintro x w1 ⟨rfl,hg⟩;have G:=hide hg;clear hg);go_ret;exact ⟨rfl,H.out.grown G.out,LK.grown G.out⟩
theorem xbp(X:Nat->Prop)(n0 fb nx:Nat)(st:Int)(L:List Plc)(w:World)(h:FlS X n0 w fb st L)(hl:L.length<=2000000000000):
  Calls Tryz.prog 89 #[.pointer (some ⟨fb,0,none⟩),.iface 317 (.agg #[.int .i64 5]),.int .i64 (nx:Int)] w (LayO X n0 fb st (L.length,L++[(none,[])]) w):=by
 have H:=hide h;clear h;go_enter Tryz.func89,Tryz.ntmps89;go_wp2_with (go_at_call 329;refine (xkr 5 _).mono ?_;rintro x w1 ⟨rfl,hg⟩;have G:=hide hg;clear hg);refine (xbk X n0 fb st L (none,[]) _ _ w1 (H.out.grown G.out) xr6 hl).mono ?_;rintro x w2 ⟨rfl,hf,hk⟩;have F:=hide hf;have K:=hide (LK.trans (LK.grown G.out) hk);clear hf hk;go_wp2;go_ret;exact ⟨rfl,F.out,K.out⟩
theorem xbw(X:Nat->Prop)(n0 fb nx:Nat)(st a b:Int)(t:Code)(L:List Plc)(w:World)(h:FlS X n0 w fb st L)(hX:∀b,X b->b<w.heap.size)(hl:L.length<=2000000000000)(ht:(TV (fun b=>b<n0) w t).1 (.iface 177 (.agg #[.int .i64 a,.int .i64 b]))):
  Calls Tryz.prog 89 #[.pointer (some ⟨fb,0,none⟩),.iface 177 (.agg #[.int .i64 a,.int .i64 b]),.int .i64 (nx:Int)] w (LayO X n0 fb st (L.length,L++[(some t,[nx])]) w):=by
 have H:=hide h;have HX:=hide hX;have HT:=hide ht;clear h hX ht;go_enter Tryz.func89,Tryz.ntmps89;go_wp2_with (go_at_call 301;refine (xku a b _).mono ?_;rintro x w1 ⟨rfl,hg⟩;have G:=hide hg;clear hg);obtain ⟨p1,p2,p3⟩:=xr7 nx H.out HX.out HT.out G.out;refine (xbk X n0 fb st L _ _ _ _ p1 p2 hl).mono ?_;rintro x w2 ⟨rfl,hf,hk⟩;have F:=hide hf;have K:=hide (LK.trans (LK.grown p3) hk);clear hf hk p1 p2 p3;go_wp2;go_ret;exact ⟨rfl,F.out,K.out⟩
theorem xbt(X:Nat->Prop)(n0 fb nx:Nat)(st a b:Int)(t:Code)(L:List Plc)(w:World)(h:FlS X n0 w fb st L)(hX:∀b,X b->b<w.heap.size)(hl:L.length<=2000000000000)(ht:(TV (fun b=>b<n0) w t).1 (.iface 178 (.agg #[.int .i64 a,.int .i64 b]))):
  Calls Tryz.prog 89 #[.pointer (some ⟨fb,0,none⟩),.iface 178 (.agg #[.int .i64 a,.int .i64 b]),.int .i64 (nx:Int)] w (LayO X n0 fb st (L.length,L++[(some t,[nx])]) w):=by
 have H:=hide h;have HX:=hide hX;have HT:=hide ht;clear h hX ht;go_enter Tryz.func89,Tryz.ntmps89;go_wp2_with (go_at_call 316;refine (xkt a b _).mono ?_;rintro x w1 ⟨rfl,hg⟩;have G:=hide hg;clear hg);obtain ⟨p1,p2,p3⟩:=xr7 nx H.out HX.out HT.out G.out;refine (xbk X n0 fb st L _ _ _ _ p1 p2 hl).mono ?_;rintro x w2 ⟨rfl,hf,hk⟩;have F:=hide hf;have K:=hide (LK.trans (LK.grown p3) hk);clear hf hk p1 p2 p3;go_wp2;go_ret;exact ⟨rfl,F.out,K.out⟩
theorem xbr(X:Nat->Prop)(n0 fb nx g n cap:Nat)(st:Int)(t:Code)(L:List Plc)(w:World)(h:FlS X n0 w fb st L)(hX:∀b,X b->b<w.heap.size)(hl:L.length<=2000000000000)(ht:(TV (fun b=>b<n0) w t).1 (xi2 3 g n cap)):
  Calls Tryz.prog 89 #[.pointer (some ⟨fb,0,none⟩),xi2 3 g n cap,.int .i64 (nx:Int)] w (LayO X n0 fb st (L.length,L++[(some t,[nx])]) w):=by
 have H:=hide h;have HX:=hide hX;have HT:=hide ht;clear h hX ht;unfold xi2 at HT ⊢;go_enter Tryz.func89,Tryz.ntmps89;go_wp2_with (go_at_call 318;refine (xkq 3 undef g n cap _).mono ?_;rintro x w1 ⟨rfl,hg⟩;have G:=hide hg;clear hg);obtain ⟨p1,p2,p3⟩:=xr7 nx H.out HX.out HT.out G.out;refine (xbk X n0 fb st L _ _ _ _ p1 p2 hl).mono ?_;rintro x w2 ⟨rfl,hf,hk⟩;have F:=hide hf;have K:=hide (LK.trans (LK.grown p3) hk);clear hf hk p1 p2 p3;go_wp2;go_ret;exact ⟨rfl,F.out,K.out⟩
theorem xq4(k:Int)(g n cap:Nat)(w:World):Calls Tryz.prog 143 #[.agg #[.int .i64 k,.slice (some ⟨g,0,none⟩) n cap]] w fun x w'=>x=.returned (.slice (some ⟨g,0,none⟩) n cap)/\w.grownBy w' none:=by
 go_enter Tryz.func143,Tryz.ntmps143;go_wp2;go_ret;exact ⟨rfl,World.grownBy_alloc _ _ _⟩
theorem xbv(X:Nat->Prop)(n0 fb nx g n cap:Nat)(st:Int)(r:Nat×List Plc)(w:World)
  (hS:∀ww,w.grownBy ww none->Calls Tryz.prog 142 #[.pointer (some ⟨fb,0,none⟩),.slice (some ⟨g,0,none⟩) n cap,.int .i64 (nx:Int)] ww (LayO X n0 fb st r ww)):
  Calls Tryz.prog 89 #[.pointer (some ⟨fb,0,none⟩),xi2 0 g n cap,.int .i64 (nx:Int)] w (LayO X n0 fb st r w):=by
 have HS:=hide hS;clear hS;unfold xi2;go_enter Tryz.func89,Tryz.ntmps89;go_wp2_with (go_at_call 318;refine (xkq 0 undef g n cap _).mono ?_;rintro x w1 ⟨rfl,hg⟩;have G:=hide hg;clear hg);refine (xq4 0 g n cap _).mono ?_;rintro x w2 ⟨rfl,hg2⟩;have G2:=hide (xje G.out hg2);clear hg2;go_wp2_with fail;refine (HS.out w2 G2.out).mono ?_;rintro x w3 ⟨rfl,hf,hk⟩;have F:=hide hf;have K:=hide (LK.trans (LK.grown G2.out) hk);clear hf hk;go_wp2;go_ret;exact ⟨rfl,F.out,K.out⟩
theorem xbs(X:Nat->Prop)(n0 fb nx g n cap:Nat)(st:Int)(r:Nat×List Plc)(w:World)
  (hS:∀ww,w.grownBy ww none->Calls Tryz.prog 144 #[.pointer (some ⟨fb,0,none⟩),.slice (some ⟨g,0,none⟩) n cap,.int .i64 (nx:Int)] ww (LayO X n0 fb st r ww)):
  Calls Tryz.prog 89 #[.pointer (some ⟨fb,0,none⟩),xi2 1 g n cap,.int .i64 (nx:Int)] w (LayO X n0 fb st r w):=by
 have HS:=hide hS;clear hS;unfold xi2;go_enter Tryz.func89,Tryz.ntmps89;go_wp2_with (go_at_call 318;refine (xkq 1 undef g n cap _).mono ?_;rintro x w1 ⟨rfl,hg⟩;have G:=hide hg;clear hg);refine (xq4 1 g n cap _).mono ?_;rintro x w2 ⟨rfl,hg2⟩;have G2:=hide (xje G.out hg2);clear hg2;go_wp2_with fail;refine (HS.out w2 G2.out).mono ?_;rintro x w3 ⟨rfl,hf,hk⟩;have F:=hide hf;have K:=hide (LK.trans (LK.grown G2.out) hk);clear hf hk;go_wp2;go_ret;exact ⟨rfl,F.out,K.out⟩
theorem xbu(X:Nat->Prop)(n0 fb nx g cap:Nat)(st:Int)(T:TypeId)(u:Value)(r:Nat×List Plc)(w:World)(hx:w.cell? ⟨g,0,none⟩=some (.iface T u))
  (hS:∀ww,w.grownBy ww none->Calls Tryz.prog 145 #[.pointer (some ⟨fb,0,none⟩),.iface T u,.int .i64 (nx:Int)] ww (LayO X n0 fb st r ww)):
  Calls Tryz.prog 89 #[.pointer (some ⟨fb,0,none⟩),xi2 2 g 1 cap,.int .i64 (nx:Int)] w (LayO X n0 fb st r w):=by
 have HS:=hide hS;have HX:=hide hx;clear hS hx;unfold xi2;go_enter Tryz.func89,Tryz.ntmps89;go_wp2_with (go_at_call 318;refine (xkq 2 undef g 1 cap _).mono ?_;rintro x w1 ⟨rfl,hg⟩;have G:=hide hg;clear hg);refine (xq4 2 g 1 cap _).mono ?_;rintro x w2 ⟨rfl,hg2⟩;have G2:=hide (xje G.out hg2);have hx2:w2.cell? ⟨g,0,none⟩=some (.iface T u):=G2.out.cell HX.out (by simp);clear hg2;go_wp2_with fail;refine (HS.out w2 G2.out).mono ?_;rintro x w3 ⟨rfl,hf,hk⟩;have F:=hide hf;have K:=hide (LK.trans (LK.grown G2.out) hk);clear hf hk;go_wp2;go_ret;exact ⟨rfl,F.out,K.out⟩
theorem xk3:∀(t:Code) (nx:Nat) (L:List Plc),(∀j,j<L.length->((lay t).1 nx L).2[j]?=L[j]?)/\(∀j,j<L.length->((lay t).2.1 nx L).2[j]?=L[j]?)/\(∀j,j<L.length->((lay t).2.2 nx L).2[j]?=L[j]?):=by
 intro t;induction t with
 | exit n=>
  intro nx L;refine ⟨fun j hj=>?_,fun j hj=>rfl,fun j hj=>rfl⟩;simp only [lay];split
  ·rfl
  ·split<;>exact List.getElem?_append_left hj
 | scope t ih=>intro nx L;exact ⟨fun j hj=>List.getElem?_append_left hj,fun j hj=>rfl,fun j hj=>rfl⟩
 | loop t ih=>
  intro nx L;refine ⟨fun j hj=>?_,fun j hj=>rfl,fun j hj=>rfl⟩;simp only [lay];split
  ·exact (ih nx L).1 j hj
  ·show (((lay t).1 L.length (L++[(none,[])])).2.set L.length _)[j]?=_;rw [List.getElem?_set_ne (by omega),(ih L.length (L++[(none,[])])).1 j (by simp;omega),List.getElem?_append_left hj]
 | block k l ih=>
  intro nx L;refine ⟨fun j hj=>?_,fun j hj=>rfl,fun j hj=>rfl⟩;simp only [lay];split
  ·show (((lay l).2.1 nx L).2++_)[j]?=_;rw [List.getElem?_append_left (by have:=((xk5 l nx L).2.1).1;omega)];exact (ih nx L).2.1 j hj
  ·exact (ih nx L).2.2 j hj
 | seq a l iha ihl=>
  intro nx L;refine ⟨fun j hj=>rfl,fun j hj=>?_,fun j hj=>?_⟩
  ·show ((lay l).2.1 nx ((lay a).1 nx L).2).2[j]?=_;rw [(ihl nx ((lay a).1 nx L).2).2.1 j (by have:=((xk5 a nx L).1).1;omega)];exact (iha nx L).1 j hj
  ·show ((lay a).1 ((lay l).2.2 nx L).1 ((lay l).2.2 nx L).2).2[j]?=_;rw [(iha ((lay l).2.2 nx L).1 ((lay l).2.2 nx L).2).1 j (by have:=((xk5 l nx L).2.2).1;omega)];exact (ihl nx L).2.2 j hj
 | _=>intro nx L;exact ⟨fun j hj=>rfl,fun j hj=>rfl,fun j hj=>rfl⟩
theorem FlS.setNext{X:Nat->Prop}{n0:Nat}{w w1:World}{fb:Nat}{st:Int}{L:List Plc}{g pc:Nat}{dv sv:Nat->Value}{d:Option Code}{ns ms:List Nat}{s:Value}{k:Nat}
  (h1:w.heap[fb]?=some (.cells #[.slice (some ⟨g,0,none⟩) L.length pc,.int .i64 st] 108 (0,0))) (h2:n0<=fb) (h3:w.ownsRow n0 170 2 (.slice (some ⟨g,0,none⟩) L.length pc) L.length (plC dv sv L.length)) (h4:∀j q,L[j]?=some q->PlS X n0 w q (dv j) (sv j))
  (hk:L[k]?=some (d,ns)) (hg1:w.grownBy w1 none) (hs:w1.ownsRow n0 3 1 s ms.length (intL ms)) (hsX:∀b,s.ownBlock=some b->¬X b):
  FlS X n0 (w1.setCell ⟨g,k*2+1,none⟩ s) fb st (L.set k (d,ms))/\LK n0 fb w (w1.setCell ⟨g,k*2+1,none⟩ s):=by
 have hfl:=(Array.getElem?_eq_some_iff.1 h1).1;have hkl:k<L.length:=(List.getElem?_eq_some_iff.1 hk).1
 have hgb:n0<=g/\∃cur fz,w.heap[g]?=some (.cells cur 170 fz):=by
  rcases h3.2 with ⟨e,_⟩|⟨g',cap,cur,e,hb,hg,_⟩
  ·cases e
  ·cases e;exact ⟨hb,cur,_,hg⟩
 obtain ⟨hgn,cur,fz,hgw⟩:=hgb;have hgl:=(Array.getElem?_eq_some_iff.1 hgw).1;have hg1w:w1.heap[g]?=some (.cells cur 170 fz):=(hg1.block g hgl (by simp)).trans hgw;have hset:=xjc w1 g (k*2+1) s;have k1:LK n0 fb w w1:=LK.grown hg1;have k2:LK n0 fb w1 (w1.setCell ⟨g,k*2+1,none⟩ s):=LK.row hset (.inr ⟨hgn,cur,fz,hg1w⟩);have hkk:=k1.trans k2;have hb1:w1.heap[fb]?=some (.cells #[.slice (some ⟨g,0,none⟩) L.length pc,.int .i64 st] 108 (0,0)):=(hg1.block fb hfl (by simp)).trans h1;have hne:fb≠g:=fun e=>by subst e;rw [h1] at hgw;cases hgw
 have hrow1:w1.ownsRow n0 170 2 (.slice (some ⟨g,0,none⟩) L.length pc) L.length (plC dv sv L.length):=h3.kept hg1 (.inr (by simp [Value.ownBlock]));have hst:=hrow1.stored (k*2+1) s;refine ⟨⟨.slice (some ⟨g,0,none⟩) L.length pc,dv,fun j=>if j=k then s else sv j,(hset.block fb (Nat.lt_of_lt_of_le hfl hg1.size) (by simp [hne])).trans hb1,h2,?_,fun j q hq=>?_⟩,hkk⟩
 ·rw [List.length_set,<-xr5 dv sv k s L.length hkl];exact hst.1
 ·rw [List.getElem?_set] at hq;by_cases e:k=j
  ·subst e;rw [if_pos rfl,if_pos hkl] at hq;cases hq;simp only [if_true];have hp:=(h4 k _ hk).keep hkk h2 ⟨_,_,h1⟩;exact ⟨k2.ints hs ⟨_,_,hb1⟩,hsX,hp.2.2⟩
  ·rw [if_neg e] at hq;simp only [if_neg (show ¬j=k from fun h=>e h.symm)];exact (h4 j q hq).keep hkk h2 ⟨_,_,h1⟩
theorem xjx(X:Nat->Prop)(n0:Nat)(w:World)(a b:Nat)(hn:n0<=w.heap.size)(hX:∀b,X b->b<w.heap.size):(w.alloc (.cells #[.int .i64 (a:Int),.int .i64 (b:Int)] 3)).ownsRow n0 3 1 (.slice (some ⟨w.heap.size,0,none⟩) 2 2) 2 (intL [a,b])/\∀b,(Value.slice (some ⟨w.heap.size,0,none⟩) 2 2).ownBlock=some b->¬X b:=
 ⟨⟨rfl,.inr ⟨w.heap.size,2,#[.int .i64 (a:Int),.int .i64 (b:Int)],rfl,hn,heap_alloc_new _ _,Nat.le_refl _,by decide,rfl,rfl⟩⟩,fun b e hb=>by cases e;exact Nat.lt_irrefl _ (hX _ hb)⟩
theorem xxa(X:Nat->Prop)(n0 fb nx g n cap:Nat)(st:Int)(r:Nat×List Plc)(w:World)
  (hS:∀ww,w.grownBy ww none->Calls Tryz.prog 89 #[.pointer (some ⟨fb,0,none⟩),xi2 2 g n cap,.int .i64 (nx:Int)] ww (LayO X n0 fb st r ww)):
  Calls Tryz.prog 145 #[.pointer (some ⟨fb,0,none⟩),xi2 2 g n cap,.int .i64 (nx:Int)] w (LayO X n0 fb st r w):=by
 have HS:=hide hS;clear hS;unfold xi2 at HS ⊢;go_enter Tryz.func145,Tryz.ntmps145;go_wp2_with (go_at_call 318;refine (xkq 2 undef g n cap _).mono ?_;rintro x w1 ⟨rfl,hg⟩;have G:=hide hg;clear hg);refine (HS.out w1 G.out).mono ?_;rintro x w3 ⟨rfl,hf,hk⟩;have F:=hide hf;have K:=hide (LK.trans (LK.grown G.out) hk);clear hf hk;go_wp2;go_ret;exact ⟨rfl,F.out,K.out⟩
theorem xw8(X:Nat->Prop)(n0 fb nx:Nat)(st kd:Int)(a:Array Value)(L:List Plc)(r:Nat×List Plc)(ns:List Nat)(w:World)(h:FlS X n0 w fb st L)(hX:∀b,X b->b<w.heap.size)(hl:r.2.length<=2000000000000)(hl2:L.length<=2000000000000)(hr:r.2[L.length]?=some (none,ns))(hkd:(kd == 2)=false)
  (hK:∀w,Calls Tryz.prog 329 #[.agg a] w fun x w'=>x=.returned (.int .i64 kd)/\w.grownBy w' none)
  (hS:∀ww,LK n0 fb w ww->FlS X n0 ww fb st (L++[(none,[])])->Calls Tryz.prog 89 #[.pointer (some ⟨fb,0,none⟩),.iface 317 (.agg a),.int .i64 (L.length:Int)] ww (LayO X n0 fb st r ww)):
  Calls Tryz.prog 145 #[.pointer (some ⟨fb,0,none⟩),.iface 317 (.agg a),.int .i64 (nx:Int)] w (LayO X n0 fb st (L.length,r.2.set L.length (none,[nx,r.1])) w):=by
 have HS:=hide hS;have H:=hide h;have HX:=hide hX;have HK:=hide hK;have HR:=hide hr;clear hS h hX hK hr;go_enter Tryz.func145,Tryz.ntmps145;go_wp2_with (go_at_call 329;refine (HK.out _).mono ?_;rintro x w1 ⟨rfl,hg⟩;have G:=hide hg;clear hg);refine (xbk X n0 fb st L (none,[]) _ _ w1 (H.out.grown G.out) xr6 hl2).mono ?_;rintro x w2 ⟨rfl,hf2,hk2⟩;have F2:=hide hf2;have K2:=hide (LK.trans (LK.grown G.out) hk2);clear hf2 hk2;go_wp2_with fail;refine (HS.out w2 K2.out F2.out).mono ?_;rintro x w3 ⟨rfl,hf3,hk3⟩;have F3:=hide hf3;have K3:=hide (LK.trans K2.out hk3);clear hf3 hk3 F2 K2;obtain ⟨pv,dv,sv,h1,h2,h3,h4⟩:=F3.out;have hrl:L.length<r.2.length:=(List.getElem?_eq_some_iff.1 HR.out).1
 obtain ⟨g,pc,rfl,hown⟩:∃g pc,pv=.slice (some ⟨g,0,none⟩) r.2.length pc/\w3.ownsRow n0 170 2 (.slice (some ⟨g,0,none⟩) r.2.length pc) r.2.length (plC dv sv r.2.length):=by
  rcases h3.2 with ⟨_,e⟩|⟨g,cap,cur,rfl,_⟩
  ·omega
  ·exact ⟨g,cap,rfl,h3⟩
 have c0:w3.cell? ⟨fb,0,none⟩=some (.slice (some ⟨g,0,none⟩) r.2.length pc):=by simp [World.cell?,h1]
 have hfb3:fb<w3.heap.size:=(Array.getElem?_eq_some_iff.1 h1).1;have d1:w3.cell? ⟨g,L.length*2+1,none⟩=some (sv L.length):=(hown.cellAt _ (by omega)).trans (xr3 dv sv _ _ hrl).2;have z1:w3.frozen? ⟨g,L.length*2+1,none⟩=false:=hown.frozenAt _;have hgl:g<w3.heap.size:=World.block_lt_of_cell? w3 _ d1
 have hpc:r.2.length<=pc:=by
  rcases hown.2 with ⟨e,_⟩|⟨_,_,_,e,_,_,h5,_⟩
  ·cases e
  ·cases e;exact h5
 have hsz:w.heap.size<=w3.heap.size:=K3.out.size;have hn0:n0<=w3.heap.size:=by omega
 obtain ⟨s1,s2⟩:=xjx X n0 w3 nx r.1 hn0 (fun b hb=>Nat.lt_of_lt_of_le (HX.out b hb) hsz);obtain ⟨m1,m2⟩:=FlS.setNext h1 h2 hown h4 HR.out (World.grownBy_alloc w3 _ none) s1 s2;rw [World.setCell_alloc_past _ _ _ _ hgl] at m1 m2;have M1:=hide m1;have M2:=hide (LK.trans K3.out m2);have hrI:(L.length:Int)<r.2.length:=by omega
 clear h1 h3 h4 hown m1 m2 s1 s2 F3 K3;go_wp2;go_ret;exact ⟨rfl,M1.out,M2.out⟩
theorem xxb(X:Nat->Prop)(n0 fb nx:Nat)(st kd:Int)(a:Array Value)(L:List Plc)(r:Nat×List Plc)(ns:List Nat)(w:World)(h:FlS X n0 w fb st L)(hX:∀b,X b->b<w.heap.size)(hl:r.2.length<=2000000000000)(hl2:L.length<=2000000000000)(hr:r.2[L.length]?=some (none,ns))(hkd:(kd == 2)=false)
  (hK:∀w,Calls Tryz.prog 301 #[.agg a] w fun x w'=>x=.returned (.int .i64 kd)/\w.grownBy w' none)
  (hS:∀ww,LK n0 fb w ww->FlS X n0 ww fb st (L++[(none,[])])->Calls Tryz.prog 89 #[.pointer (some ⟨fb,0,none⟩),.iface 177 (.agg a),.int .i64 (L.length:Int)] ww (LayO X n0 fb st r ww)):
  Calls Tryz.prog 145 #[.pointer (some ⟨fb,0,none⟩),.iface 177 (.agg a),.int .i64 (nx:Int)] w (LayO X n0 fb st (L.length,r.2.set L.length (none,[nx,r.1])) w):=by
 have HS:=hide hS;have H:=hide h;have HX:=hide hX;have HK:=hide hK;have HR:=hide hr;clear hS h hX hK hr;go_enter Tryz.func145,Tryz.ntmps145;go_wp2_with (go_at_call 301;refine (HK.out _).mono ?_;rintro x w1 ⟨rfl,hg⟩;have G:=hide hg;clear hg);refine (xbk X n0 fb st L (none,[]) _ _ w1 (H.out.grown G.out) xr6 hl2).mono ?_;rintro x w2 ⟨rfl,hf2,hk2⟩;have F2:=hide hf2;have K2:=hide (LK.trans (LK.grown G.out) hk2);clear hf2 hk2;go_wp2_with fail;refine (HS.out w2 K2.out F2.out).mono ?_;rintro x w3 ⟨rfl,hf3,hk3⟩;have F3:=hide hf3;have K3:=hide (LK.trans K2.out hk3);clear hf3 hk3 F2 K2;obtain ⟨pv,dv,sv,h1,h2,h3,h4⟩:=F3.out;have hrl:L.length<r.2.length:=(List.getElem?_eq_some_iff.1 HR.out).1
 obtain ⟨g,pc,rfl,hown⟩:∃g pc,pv=.slice (some ⟨g,0,none⟩) r.2.length pc/\w3.ownsRow n0 170 2 (.slice (some ⟨g,0,none⟩) r.2.length pc) r.2.length (plC dv sv r.2.length):=by
  rcases h3.2 with ⟨_,e⟩|⟨g,cap,cur,rfl,_⟩
  ·omega
  ·exact ⟨g,cap,rfl,h3⟩
 have c0:w3.cell? ⟨fb,0,none⟩=some (.slice (some ⟨g,0,none⟩) r.2.length pc):=by simp [World.cell?,h1]
 have hfb3:fb<w3.heap.size:=(Array.getElem?_eq_some_iff.1 h1).1;have d1:w3.cell? ⟨g,L.length*2+1,none⟩=some (sv L.length):=(hown.cellAt _ (by omega)).trans (xr3 dv sv _ _ hrl).2;have z1:w3.frozen? ⟨g,L.length*2+1,none⟩=false:=hown.frozenAt _;have hgl:g<w3.heap.size:=World.block_lt_of_cell? w3 _ d1
 have hpc:r.2.length<=pc:=by
  rcases hown.2 with ⟨e,_⟩|⟨_,_,_,e,_,_,h5,_⟩
  ·cases e
  ·cases e;exact h5
 have hsz:w.heap.size<=w3.heap.size:=K3.out.size;have hn0:n0<=w3.heap.size:=by omega
 obtain ⟨s1,s2⟩:=xjx X n0 w3 nx r.1 hn0 (fun b hb=>Nat.lt_of_lt_of_le (HX.out b hb) hsz);obtain ⟨m1,m2⟩:=FlS.setNext h1 h2 hown h4 HR.out (World.grownBy_alloc w3 _ none) s1 s2;rw [World.setCell_alloc_past _ _ _ _ hgl] at m1 m2;have M1:=hide m1;have M2:=hide (LK.trans K3.out m2);have hrI:(L.length:Int)<r.2.length:=by omega
 clear h1 h3 h4 hown m1 m2 s1 s2 F3 K3;go_wp2;go_ret;exact ⟨rfl,M1.out,M2.out⟩
theorem xw9(X:Nat->Prop)(n0 fb nx:Nat)(st kd:Int)(a:Array Value)(L:List Plc)(r:Nat×List Plc)(ns:List Nat)(w:World)(h:FlS X n0 w fb st L)(hX:∀b,X b->b<w.heap.size)(hl:r.2.length<=2000000000000)(hl2:L.length<=2000000000000)(hr:r.2[L.length]?=some (none,ns))(hkd:(kd == 2)=false)
  (hK:∀w,Calls Tryz.prog 316 #[.agg a] w fun x w'=>x=.returned (.int .i64 kd)/\w.grownBy w' none)
  (hS:∀ww,LK n0 fb w ww->FlS X n0 ww fb st (L++[(none,[])])->Calls Tryz.prog 89 #[.pointer (some ⟨fb,0,none⟩),.iface 178 (.agg a),.int .i64 (L.length:Int)] ww (LayO X n0 fb st r ww)):
  Calls Tryz.prog 145 #[.pointer (some ⟨fb,0,none⟩),.iface 178 (.agg a),.int .i64 (nx:Int)] w (LayO X n0 fb st (L.length,r.2.set L.length (none,[nx,r.1])) w):=by
 have HS:=hide hS;have H:=hide h;have HX:=hide hX;have HK:=hide hK;have HR:=hide hr;clear hS h hX hK hr;go_enter Tryz.func145,Tryz.ntmps145;go_wp2_with (go_at_call 316;refine (HK.out _).mono ?_;rintro x w1 ⟨rfl,hg⟩;have G:=hide hg;clear hg);refine (xbk X n0 fb st L (none,[]) _ _ w1 (H.out.grown G.out) xr6 hl2).mono ?_;rintro x w2 ⟨rfl,hf2,hk2⟩;have F2:=hide hf2;have K2:=hide (LK.trans (LK.grown G.out) hk2);clear hf2 hk2;go_wp2_with fail;refine (HS.out w2 K2.out F2.out).mono ?_;rintro x w3 ⟨rfl,hf3,hk3⟩;have F3:=hide hf3;have K3:=hide (LK.trans K2.out hk3);clear hf3 hk3 F2 K2;obtain ⟨pv,dv,sv,h1,h2,h3,h4⟩:=F3.out;have hrl:L.length<r.2.length:=(List.getElem?_eq_some_iff.1 HR.out).1
 obtain ⟨g,pc,rfl,hown⟩:∃g pc,pv=.slice (some ⟨g,0,none⟩) r.2.length pc/\w3.ownsRow n0 170 2 (.slice (some ⟨g,0,none⟩) r.2.length pc) r.2.length (plC dv sv r.2.length):=by
  rcases h3.2 with ⟨_,e⟩|⟨g,cap,cur,rfl,_⟩
  ·omega
  ·exact ⟨g,cap,rfl,h3⟩
 have c0:w3.cell? ⟨fb,0,none⟩=some (.slice (some ⟨g,0,none⟩) r.2.length pc):=by simp [World.cell?,h1]
 have hfb3:fb<w3.heap.size:=(Array.getElem?_eq_some_iff.1 h1).1;have d1:w3.cell? ⟨g,L.length*2+1,none⟩=some (sv L.length):=(hown.cellAt _ (by omega)).trans (xr3 dv sv _ _ hrl).2;have z1:w3.frozen? ⟨g,L.length*2+1,none⟩=false:=hown.frozenAt _;have hgl:g<w3.heap.size:=World.block_lt_of_cell? w3 _ d1
 have hpc:r.2.length<=pc:=by
  rcases hown.2 with ⟨e,_⟩|⟨_,_,_,e,_,_,h5,_⟩
  ·cases e
  ·cases e;exact h5
 have hsz:w.heap.size<=w3.heap.size:=K3.out.size;have hn0:n0<=w3.heap.size:=by omega
 obtain ⟨s1,s2⟩:=xjx X n0 w3 nx r.1 hn0 (fun b hb=>Nat.lt_of_lt_of_le (HX.out b hb) hsz);obtain ⟨m1,m2⟩:=FlS.setNext h1 h2 hown h4 HR.out (World.grownBy_alloc w3 _ none) s1 s2;rw [World.setCell_alloc_past _ _ _ _ hgl] at m1 m2;have M1:=hide m1;have M2:=hide (LK.trans K3.out m2);have hrI:(L.length:Int)<r.2.length:=by omega
 clear h1 h3 h4 hown m1 m2 s1 s2 F3 K3;go_wp2;go_ret;exact ⟨rfl,M1.out,M2.out⟩
theorem xw7(X:Nat->Prop)(n0 fb nx:Nat)(st kd:Int)(a:Array Value)(L:List Plc)(r:Nat×List Plc)(ns:List Nat)(w:World)(h:FlS X n0 w fb st L)(hX:∀b,X b->b<w.heap.size)(hl:r.2.length<=2000000000000)(hl2:L.length<=2000000000000)(hr:r.2[L.length]?=some (none,ns))(hkd:(kd == 2)=false)
  (hK:∀w,Calls Tryz.prog 318 #[.agg a] w fun x w'=>x=.returned (.int .i64 kd)/\w.grownBy w' none)
  (hS:∀ww,LK n0 fb w ww->FlS X n0 ww fb st (L++[(none,[])])->Calls Tryz.prog 89 #[.pointer (some ⟨fb,0,none⟩),.iface 234 (.agg a),.int .i64 (L.length:Int)] ww (LayO X n0 fb st r ww)):
  Calls Tryz.prog 145 #[.pointer (some ⟨fb,0,none⟩),.iface 234 (.agg a),.int .i64 (nx:Int)] w (LayO X n0 fb st (L.length,r.2.set L.length (none,[nx,r.1])) w):=by
 have HS:=hide hS;have H:=hide h;have HX:=hide hX;have HK:=hide hK;have HR:=hide hr;clear hS h hX hK hr;go_enter Tryz.func145,Tryz.ntmps145;go_wp2_with (go_at_call 318;refine (HK.out _).mono ?_;rintro x w1 ⟨rfl,hg⟩;have G:=hide hg;clear hg);refine (xbk X n0 fb st L (none,[]) _ _ w1 (H.out.grown G.out) xr6 hl2).mono ?_;rintro x w2 ⟨rfl,hf2,hk2⟩;have F2:=hide hf2;have K2:=hide (LK.trans (LK.grown G.out) hk2);clear hf2 hk2;go_wp2_with fail;refine (HS.out w2 K2.out F2.out).mono ?_;rintro x w3 ⟨rfl,hf3,hk3⟩;have F3:=hide hf3;have K3:=hide (LK.trans K2.out hk3);clear hf3 hk3 F2 K2;obtain ⟨pv,dv,sv,h1,h2,h3,h4⟩:=F3.out;have hrl:L.length<r.2.length:=(List.getElem?_eq_some_iff.1 HR.out).1
 obtain ⟨g,pc,rfl,hown⟩:∃g pc,pv=.slice (some ⟨g,0,none⟩) r.2.length pc/\w3.ownsRow n0 170 2 (.slice (some ⟨g,0,none⟩) r.2.length pc) r.2.length (plC dv sv r.2.length):=by
  rcases h3.2 with ⟨_,e⟩|⟨g,cap,cur,rfl,_⟩
  ·omega
  ·exact ⟨g,cap,rfl,h3⟩
 have c0:w3.cell? ⟨fb,0,none⟩=some (.slice (some ⟨g,0,none⟩) r.2.length pc):=by simp [World.cell?,h1]
 have hfb3:fb<w3.heap.size:=(Array.getElem?_eq_some_iff.1 h1).1;have d1:w3.cell? ⟨g,L.length*2+1,none⟩=some (sv L.length):=(hown.cellAt _ (by omega)).trans (xr3 dv sv _ _ hrl).2;have z1:w3.frozen? ⟨g,L.length*2+1,none⟩=false:=hown.frozenAt _;have hgl:g<w3.heap.size:=World.block_lt_of_cell? w3 _ d1
 have hpc:r.2.length<=pc:=by
  rcases hown.2 with ⟨e,_⟩|⟨_,_,_,e,_,_,h5,_⟩
  ·cases e
  ·cases e;exact h5
 have hsz:w.heap.size<=w3.heap.size:=K3.out.size;have hn0:n0<=w3.heap.size:=by omega
 obtain ⟨s1,s2⟩:=xjx X n0 w3 nx r.1 hn0 (fun b hb=>Nat.lt_of_lt_of_le (HX.out b hb) hsz);obtain ⟨m1,m2⟩:=FlS.setNext h1 h2 hown h4 HR.out (World.grownBy_alloc w3 _ none) s1 s2;rw [World.setCell_alloc_past _ _ _ _ hgl] at m1 m2;have M1:=hide m1;have M2:=hide (LK.trans K3.out m2);have hrI:(L.length:Int)<r.2.length:=by omega
 clear h1 h3 h4 hown m1 m2 s1 s2 F3 K3;go_wp2;go_ret;exact ⟨rfl,M1.out,M2.out⟩
theorem Tryz.infoIntF:(Tryz.prog.info? 3).map (fun i=>(i.zero,i.size,i.bytes))=some (some (.int .i64 0),1,8):=by kernel_rfl
def sumTo(nx:Nat):List Code->List Plc->List Nat×List Plc
 | [],L=>([],L)
 | t::es,L=>(((lay t).1 nx L).1::(sumTo nx es ((lay t).1 nx L).2).1,(sumTo nx es ((lay t).1 nx L).2).2)
theorem xx4(nx:Nat)(t:Code):∀(es:List Code) (L:List Plc),sumTo nx (es++[t]) L=((sumTo nx es L).1++[((lay t).1 nx (sumTo nx es L).2).1],((lay t).1 nx (sumTo nx es L).2).2)
 | [],L=>rfl
 | a::es,L=>by
  show (((lay a).1 nx L).1::(sumTo nx (es++[t]) ((lay a).1 nx L).2).1,(sumTo nx (es++[t]) ((lay a).1 nx L).2).2)=_;rw [xx4 nx t es];rfl
theorem xx2(nx:Nat):∀(es:List Code) (L:List Plc),(sumTo nx es L).1.length=es.length
 | [],L=>rfl
 | a::es,L=>by show (_::_).length=_;rw [List.length_cons,xx2 nx es,List.length_cons]
def cnL:List Code->Nat
 | []=>0
 | t::es=>cn t+cnL es
theorem xx3(nx:Nat):∀(es:List Code) (L:List Plc),L.length<=(sumTo nx es L).2.length/\(sumTo nx es L).2.length<=L.length+cnL es
 | [],L=>⟨Nat.le_refl _,Nat.le_refl _⟩
 | a::es,L=>by
  have h1:=(xk5 a nx L).1;have h2:=xx3 nx es ((lay a).1 nx L).2;show L.length<=(sumTo nx es ((lay a).1 nx L).2).2.length/\(sumTo nx es ((lay a).1 nx L).2).2.length<=L.length+(cn a+cnL es);omega
theorem xex(es:List Code):∀k,cnL (es.take k)<=cnL es:=by
 induction es with
 | nil=>intro k;simp [cnL]
 | cons a es ih=>
  intro k;cases k with
  | zero=>simp [cnL]
  | succ k=>simp only [List.take_succ_cons,cnL];have:=ih k;omega
theorem xew:∀l:Code,cnL (elems l)<=cn l:=by
 intro l;induction l with
 | seq a b _ ih=>simp only [elems,cnL,cn];omega
 | _=>simp [elems,cnL]
theorem xk9:∀(l:Code) (nx:Nat) (L:List Plc),(lay l).2.1 nx L=sumTo nx (elems l) L:=by
 intro l;induction l with
 | seq a b _ ih=>intro nx L;simp only [lay,elems,sumTo,ih]
 | _=>intro nx L;rfl
def xad(n0 fb:Nat)(st:Int)(w:World)(M:Nat)(t:Code)(v:Value):Prop:=
 ∀(X:Nat->Prop) (nx:Nat) (L:List Plc) (ww:World),FlS X n0 ww fb st L->(∀b,X b->b<ww.heap.size)->LK n0 fb w ww->L.length<=M->
  Calls Tryz.prog 89 #[.pointer (some ⟨fb,0,none⟩),v,.int .i64 (nx:Int)] ww (LayO X n0 fb st ((lay t).1 nx L) ww)
theorem LK.newer{n0 fb:Nat}{w w1 w2:World}{row:Option Nat}(h:LK n0 fb w w1)(hg:w1.grownBy w2 row)(hr:∀b,row=some b->w.heap.size<=b):LK n0 fb w w2:=
 ⟨hg.os.trans h.os,hg.tape.trans h.tape,hg.output.trans h.output,Nat.le_trans h.size hg.size,fun k hk hf hp=>(hg.block k (Nat.lt_of_lt_of_le hk h.size) (fun e=>by have:=hr k e.symm;omega)).trans (h.block k hk hf hp)⟩
theorem xih(X:Nat->Prop)(n0 fb nx g cap M:Nat)(st:Int)(es:List Code)(vals:Nat->Value)(L:List Plc)(w:World)(h:FlS X n0 w fb st L)(hX:∀b,X b->b<w.heap.size)(hg:g<n0)(hn:es.length<=1000)(hM:L.length+cnL es<=M)(hM2:M<=2000000000000)
  (hc:∀j,j<es.length->w.cell? ⟨g,j,none⟩=some (vals j)) (hv:∀j,j<es.length->∃T u,vals j=.iface T u)
  (ih:∀j (hj:j<es.length),xad n0 fb st w M es[j] (vals j)):
  Calls Tryz.prog 142 #[.pointer (some ⟨fb,0,none⟩),.slice (some ⟨g,0,none⟩) es.length cap,.int .i64 (nx:Int)] w (LayO X n0 fb st ((sumTo nx es L).2.length,(sumTo nx es L).2++[(none,(sumTo nx es L).1)]) w):=by
 obtain ⟨i0,hi0,hz0,hz1,hz2⟩:=info_parts Tryz.infoIntF;have H:=hide h;have HX:=hide hX;have HC:=hide hc;have HV:=hide hv;have IH:=hide ih;have hfb:=h.fb;have hn0:n0<=w.heap.size:=by omega
 have hnf:n0<=fb:=hfb.2.1;clear h hX hc hv ih hfb;go_enter Tryz.func142,Tryz.ntmps142;go_wp2_with fail;go_loopw [7,12] (fun s7 s12 wr=>∃k:Nat,k<=es.length/\s12=.int .i64 k/\FlS (fun b=>X b\/s7.ownBlock=some b) n0 wr fb st (sumTo nx (es.take k) L).2/\wr.ownsRow n0 3 1 s7 k (intL (sumTo nx (es.take k) L).1)/\(∀b,s7.ownBlock=some b->w.heap.size<=b)/\LK n0 fb w wr) (fun _ s12 _=>es.length-(intOf s12).toNat)
 case atStart=>exact ⟨0,by omega,rfl,H.out.less (fun b _ hb=>hb.elim id (fun e=>by cases e)),World.ownsRow_nil _ _ _ _,fun b e=>(by cases e),LK.refl _ _ _⟩
 case round=>
  obtain ⟨k,hk,rfl,hf,ho,hnb,hlk⟩:=hrel;obtain ⟨LS,hLS⟩:∃LS,LS=sumTo nx (es.take k) L:=⟨_,rfl⟩;rw [<-hLS] at hf ho;have F:=hide hf;have O:=hide ho;have NB:=hide hnb;have K:=hide hlk;have HLS:=hide hLS;obtain ⟨oa,oc,rfl⟩:=xqm ho;clear hf ho hnb hlk hLS;by_cases hlt:k<es.length
  ·obtain ⟨T,u,hTu⟩:=HV.out k hlt
   have hcx:wr.cell? ⟨g,k,none⟩=some (.iface T u):=by
    rw [<-hTu];have h1:=HC.out k hlt;exact (World.cell?_of_block (K.out.block g (World.block_lt_of_cell? w _ h1) (by show g≠fb;omega) (.inl hg))).trans h1
   have hsz:=K.out.size
   have hLl:LS.2.length<=L.length+cnL es:=by
    rw [HLS.out];have h1:=(xx3 nx (es.take k) L).2;have h2:=xex es k;omega
   have CALL:Hid (Calls Tryz.prog 89 #[.pointer (some ⟨fb,0,none⟩),.iface T u,.int .i64 (nx:Int)] wr (LayO (fun b=>X b\/(Value.slice oa k oc).ownBlock=some b) n0 fb st ((lay es[k]).1 nx LS.2) wr)):=by
    have h1:=IH.out k hlt (fun b=>X b\/(Value.slice oa k oc).ownBlock=some b) nx LS.2 wr F.out (fun b hb=>hb.elim (fun h=>Nat.lt_of_lt_of_le (HX.out b h) hsz) (fun h=>(O.out.lt b h).2)) K.out (by omega);rw [hTu] at h1;exact h1
   have SN:Hid (sumTo nx (es.take (k+1)) L=(LS.1++[((lay es[k]).1 nx LS.2).1],((lay es[k]).1 nx LS.2).2)):=by
    show _=_;rw [List.take_succ_eq_append_getElem hlt,xx4,<-HLS.out]
   obtain ⟨r,hr⟩:∃r,r=(lay es[k]).1 nx LS.2:=⟨_,rfl⟩;rw [<-hr] at CALL SN;clear hr hTu
   have hlen1:Hid (LS.1.length=k):=by
    show _=_;rw [HLS.out,xx2];simp;omega
   go_wp2_with fail;refine CALL.out.mono ?_;rintro x w1 ⟨rfl,hf1,hk1⟩;have hfb1:=F.out.fb;have O1:=hide (hk1.ints O.out ⟨_,_,hfb1.2.2.choose_spec.choose_spec⟩);have F1:=hide hf1;have K1:=hide (LK.trans K.out hk1);have hsz1:=K1.out.size;clear hf1 hk1 hfb1;go_wp2_with (at_builtin;refine wpList_append_own_at _ rfl _ _ 38 rfl n0 3 i0 _ 1 8 Tryz.underlying38 hi0 hz0 hz1 hz2 rfl (by decide) _ _ _ rfl (O1.out.alloc _) ⟨w1.heap.size,0,none⟩ 1 1 [.int .i64 (r.1:Int)] rfl rfl (cell_one_new _ _ _) ?d2 ?d3 ?d4 ?d5 ?_)
   case d2=>intro u hu;simp at hu;subst hu;rfl
   case d3=>unfold maxLen;omega
   case d4=>omega
   case d5=>simp;omega
   intro v' w2 hown' hgrow _ hat;obtain ⟨va,vc,rfl⟩:=xqm hown';have hga:w1.grownBy (w1.alloc (.cells #[.int .i64 (r.1:Int)] 3)) none:=World.grownBy_alloc _ _ _
   have FN:Hid (FlS (fun b=>X b\/(Value.slice va (k+1) vc).ownBlock=some b) n0 w2 fb st r.2/\LK n0 fb w w2/\(∀b,(Value.slice va (k+1) vc).ownBlock=some b->w.heap.size<=b)):=by
    have f1:FlS (fun b=>(X b\/(Value.slice oa k oc).ownBlock=some b)\/w1.heap.size<=b) n0 w1 fb st r.2:=F1.out.less (fun b hb hy=>hy.elim id (fun h=>absurd hb (Nat.not_lt.2 h)))
    have tagged:∀q cs T fz,(Value.slice oa k oc).ownBlock=some q->(w1.alloc (.cells #[.int .i64 (r.1:Int)] 3)).heap[q]?=some (.cells cs T fz)->n0<=q/\T=3:=by
     intro q cs T fz e hh;rcases (O1.out.alloc (.cells #[.int .i64 (r.1:Int)] 3)).2 with ⟨e2,_⟩|⟨g2,c2,cur2,e2,hb2,hg2,_⟩
     ·rw [e2] at e;cases e
     ·rw [e2] at e;cases e;rw [hg2] at hh;cases hh;exact ⟨hb2,rfl⟩
    have f2:=(f1.grown hga).kept hgrow (fun q cs T fz e hh=>by
     obtain ⟨t1,t2⟩:=tagged q cs T fz e hh;subst t2;exact ⟨t1,by decide,by decide,fun _=>.inl (.inr e)⟩)
    have hB:∀b,(Value.slice va (k+1) vc).ownBlock=some b->(Value.slice oa k oc).ownBlock=some b\/w1.heap.size<=b:=by
     intro b e;rcases hat with h1|h1
     ·exact .inl (h1 ▸ e)
     ·right;rw [h1] at e;cases e;simp
    refine ⟨f2.less (fun b _ hy=>hy.elim (fun h=>.inl (.inl h)) (fun h=>(hB b h).elim (fun h2=>.inl (.inr h2)) .inr)),LK.newer (LK.newer K1.out hga (fun b e=>by cases e)) hgrow (fun b e=>NB.out b e),fun b e=>?_⟩;rcases hB b e with h1|h1
    ·exact NB.out b h1
    ·omega
   have OW:=hide hown';clear hown' hgrow hat hga;go_wp2;go_roundw
   case rel=>
    refine ⟨k+1,by omega,by go_num,?_,?_,FN.out.2.2,FN.out.2.1⟩
    ·rw [SN.out];exact FN.out.1
    ·rw [SN.out];have:=OW.out;simpa [intL] using this
   case measure=>simp [intOf];omega
  ·obtain rfl:k=es.length:=by omega
   have EL:Hid (LS=sumTo nx es L):=by
    show _=_;rw [HLS.out,List.take_length]
   have hl1:LS.1.length=es.length:=by rw [EL.out,xx2]
   have hLl:LS.2.length<=L.length+cnL es:=by
    rw [EL.out];exact (xx3 nx es L).2
   have ho:=O.out;have ff:FlS X n0 wr fb st LS.2:=F.out.less (fun b _ hb=>.inl hb)
   have hp:PlS X n0 wr (none,LS.1) .nilIface (.slice oa es.length oc):=by
    refine ⟨?_,fun b e hx=>?_,.inl ⟨rfl,rfl⟩⟩
    ·show wr.ownsRow n0 3 1 (.slice oa es.length oc) LS.1.length (intL LS.1);rw [hl1];exact ho
    ·have h1:=NB.out b e;have h2:=HX.out b hx;omega
   have CALL:=hide (xbk X n0 fb st LS.2 (none,LS.1) .nilIface (.slice oa es.length oc) wr ff hp (by omega));clear ff hp ho hl1;go_wp2_with fail;refine CALL.out.mono ?_;rintro x w2 ⟨rfl,hf2,hk2⟩;have F2:=hide hf2;have K2:=hide (LK.trans K.out hk2);clear hf2 hk2;go_wp2;go_ret;rw [<-EL.out];exact ⟨rfl,F2.out,K2.out⟩
open Go.RowKit Go.Shelf Go.Weft
attribute [local go_sem] Oper.semAt_some
def bk(len:Nat)(hp:0<len)(k:Nat):List { j:Nat // j<len }:=(List.range k).map fun i=>⟨len-1-i,by omega⟩
theorem xc6(len:Nat)(hp:0<len)(k m:Nat)(hm:m+1+k=len):bk len hp (k+1)=bk len hp k++[⟨m,by omega⟩]:=by
 unfold bk;rw [List.range_succ,List.map_append];simp only [List.map_cons,List.map_nil];congr 2;apply Subtype.ext;show len-1-k=m;omega
theorem xc5(len:Nat)(hp:0<len)(k:Nat):(bk len hp k).length=k:=by simp [bk]
def KB(n₀ Bs:Nat)(W W':World):Prop:=Below n₀ W W'/\W'.heap[Bs]?=W.heap[Bs]?
theorem KB.refl(n₀ Bs:Nat)(W:World):KB n₀ Bs W W:=⟨Below.refl _ _,rfl⟩
theorem KB.trans{n₀ Bs:Nat}{A B C:World}(h:KB n₀ Bs A B)(k:KB n₀ Bs B C):KB n₀ Bs A C:=⟨h.1.trans k.1,k.2.trans h.2⟩
theorem KB.put{n₀ Bs:Nat}{w:World}(hn:n₀<=w.heap.size)(hB:Bs<w.heap.size)(W:World)(l:Nat)(o o':Obj)(hl:w.heap.size<=l)(h:W.heap[l]?=some o)(h1:o.isCells=false)(h2:o.isWalk=false):KB n₀ Bs W (W.putObj l o'):=
 ⟨belowK_b hn W l o o' hl h h1 h2,World.putObj_heap_other (by omega)⟩
theorem xcu(n:Nat)(hn:1<=n)(l Bs n₀ b len cap:Nat)(hp:0<len)(vals:Nat->Value)(hlen:len<=1000)(hb:b<n₀)(hv:∀j,j<len->∃T u,vals j=.iface T u)(J Jx:List { j:Nat // j<len }->World->Prop)
  (hY:∀pre x W,J pre W->pre.length<len->YieldAt Fence.wide (n-1) Tryz.prog l #[.int .i64 ((x.1:Nat):Int),vals x.1] W fun e W'=>
   (e=.returned (.bool true)/\J (pre++[x]) W'/\KB n₀ Bs W W')\/(e=.returned (.bool false)/\Jx (pre++[x]) W'))
  (W:World) (hBs:W.cell? ⟨Bs,0,none⟩=some (.slice (some ⟨b,0,none⟩) len cap)) (hc:∀j,j<len->W.cell? ⟨b,j,none⟩=some (vals j)) (h0:J [] W):
  CallsIn Fence.wide n Tryz.prog 235 #[.func (.yield l) #[] #[],.pointer (some ⟨Bs,0,none⟩)] W fun e W'=>(∃v,e=.returned v)/\
   ((∃ys,ys=bk len hp len/\J ys W')\/(∃pre,(∃k,k<=len/\pre=bk len hp k)/\Jx pre W')):=by
 refine callsIn_of_wp Tryz.func235 rfl trivial ?_ rfl;simp only [Tryz.ntmps235,List.size_toArray,List.length_cons,List.length_nil,Nat.reduceAdd,Nat.reduceSub,Array.replicate_succ,Array.replicate_zero,List.push_toArray,List.append_toArray,List.nil_append,List.cons_append]
 gi_wp2
 gi_loopw [3] (fun i wr=>∃k m:Nat,m+k=len/\i=.int .i64 ((m:Int)-1)/\J (bk len hp k) wr/\KB n₀ Bs W wr)
  (fun i _=>(intOf i+1).toNat)
 case atStart=>exact ⟨0,len,by omega,by go_num,h0,KB.refl _ _ _⟩
 case round=>
  obtain ⟨k,m,hm,rfl,hJs,hnx⟩:=hrel;have hbs:wr.cell? ⟨Bs,0,none⟩=some (.slice (some ⟨b,0,none⟩) len cap):=(World.cell?_of_block hnx.2).trans hBs;cases m with
  | succ m=>
   have hmm:(((m+1:Nat):Int)-1)=(m:Int):=by omega
   have hml:m<len:=by omega
   obtain ⟨T,u,hTu⟩:=hv m hml;have hcx:wr.cell? ⟨b,m,none⟩=some (.iface T u):=by rw [<-hTu];exact (hnx.1.cell (p:=⟨b,m,none⟩) hb).trans (hc m hml)
   obtain ⟨fn,tmps,assign,body,hy,hR⟩:=hY _ ⟨m,hml⟩ wr hJs (by rw [xc5];omega);dsimp only at hy;rw [hTu] at hy;rw [hmm];have hmI:(m:Int)<len:=by omega
   have BS:=xc6 len hp k m (by omega)
   gi_wp2
   refine hR.mono ?_;rintro e W3 (⟨rfl,hJ3,hk3⟩|⟨rfl,hJx3⟩)
   ·gi_wp2
    go_roundw
    case rel=>exact ⟨k+1,m,by omega,by go_num,by rw [BS];exact hJ3,hnx.trans hk3⟩
    case measure=>simp [intOf]
   ·gi_wp2
    refine bodyPost_ret (results_none rfl _ _ _) rfl ?_;exact ⟨⟨_,rfl⟩,.inr ⟨_,⟨k+1,by omega,BS.symm⟩,hJx3⟩⟩
  | zero=>
   obtain rfl:k=len:=by omega
   gi_wp2
   go_end0
   exact ⟨⟨_,rfl⟩,.inl ⟨_,rfl,hJs⟩⟩
theorem xcv(n:Nat)(a:Option Addr)(len cap:Nat)(w:World):
  CallsIn Fence.wide n Tryz.prog 190 #[.slice a len cap] w fun e w'=>e=.returned (.func (.func 235) #[] #[.pointer (some ⟨w.heap.size,0,none⟩)])/\w'=w.alloc (.cells #[.slice a len cap] 172):=by
 refine callsIn_of_wp Tryz.func190 rfl trivial ?_ rfl;simp only [Tryz.ntmps190,List.size_toArray,List.length_cons,List.length_nil,Nat.reduceAdd,Nat.reduceSub,Array.replicate_succ,Array.replicate_zero,List.push_toArray,List.append_toArray,List.nil_append,List.cons_append]
 gi_wp2
 go_ret;exact ⟨rfl,rfl⟩
theorem xcw(n:Nat)(hn:1<=n)(Bs n₀ b len cap:Nat)(hp:0<len)(vals:Nat->Value)(hlen:len<=1000)(hb:b<n₀)(hv:∀j,j<len->∃T u,vals j=.iface T u)(w:World)(hBs:Bs<w.heap.size)(hn₀:n₀<=w.heap.size)
  (hc:w.cell? ⟨Bs,0,none⟩=some (.slice (some ⟨b,0,none⟩) len cap)) (hI:∀j,j<len->w.cell? ⟨b,j,none⟩=some (vals j)):
  SeqStopsK Fence.wide n Tryz.prog 235 #[.pointer (some ⟨Bs,0,none⟩)] (fun x:{ j:Nat // j<len }=>#[Value.int .i64 ((x.1:Nat):Int),vals x.1]) (KB n₀ Bs) (fun ys=>ys=bk len hp len)
   (fun pre=>∃k,k<=len/\pre=bk len hp k) len w:=fun l J Jx W hW _ _ hY h0=>
 xcu n hn l Bs n₀ b len cap hp vals hlen hb hv J Jx hY W ((hW.cell (p:=⟨Bs,0,none⟩) hBs).trans hc) (fun j hj=>((hW.cell (p:=⟨b,j,none⟩) (by show b<_;omega)).trans (hI j hj))) h0
attribute [local go_sem] Oper.semAt_some
def seqTo(nx:Nat):List Code->List Plc->Nat×List Plc
 | [],L=>(nx,L)
 | t::es,L=>(lay t).1 (seqTo nx es L).1 (seqTo nx es L).2
theorem xk8:∀(l:Code) (nx:Nat) (L:List Plc),(lay l).2.2 nx L=seqTo nx (elems l) L:=by
 intro l;induction l with
 | seq a b _ ih=>intro nx L;simp only [lay,elems,seqTo,ih]
 | _=>intro nx L;rfl
def seqF(es:List Code)(nx:Nat)(L:List Plc)(pre:List { j:Nat // j<es.length }):Nat×List Plc:=pre.foldl (fun s x=>(lay es[x.1]).1 s.1 s.2) (nx,L)
theorem xvt(es:List Code)(nx:Nat)(L:List Plc)(pre:List { j:Nat // j<es.length })(x:{ j:Nat // j<es.length }):seqF es nx L (pre++[x])=(lay es[x.1]).1 (seqF es nx L pre).1 (seqF es nx L pre).2:=by
 unfold seqF;rw [List.foldl_append];rfl
theorem xvs(es:List Code)(nx:Nat)(L:List Plc)(hp:0<es.length):∀k m,m+k=es.length->seqF es nx L (bk es.length hp k)=seqTo nx (es.drop m) L
 | 0,m,hm=>by
  rw [List.drop_of_length_le (by omega)];rfl
 | k+1,m,hm=>by
  rw [xc6 es.length hp k m (by omega),xvt,xvs es nx L hp k (m+1) (by omega),List.drop_eq_getElem_cons (show m<es.length by omega)];rfl
def SeqI(X:Nat->Prop)(n0 fb:Nat)(st:Int)(w:World)(C:Nat)(es:List Code)(nx:Nat)(L:List Plc)(sl:Value)(pre:List { j:Nat // j<es.length })(W:World):Prop:=
 FlS (fun b=>X b\/b=w.heap.size+1) n0 W fb st (seqF es nx L pre).2/\Boxed W w.heap.size 228 (.pointer (some ⟨fb,0,none⟩))/\Boxed W (w.heap.size+1) 3 (.int .i64 ((seqF es nx L pre).1:Int))/\Boxed W (w.heap.size+2) 172 sl/\LK n0 fb w W/\(seqF es nx L pre).2.length<=L.length+pre.length*C
theorem xdi{W W':World}{B:Nat}{T:TypeId}{v:Value}{row:Option Nat}(h:Boxed W B T v)(hg:W.grownBy W' row)(hr:∀r,row=some r->∃o:Obj,W.heap[r]?=some o/\o.isCells=false):Boxed W' B T v:=
 h.kept hg (fun e=>by
  obtain ⟨o,ho,hc⟩:=hr B e.symm;rw [show W.heap[B]?=_ from h] at ho;cases ho;cases hc)
theorem xdh{n0 fb:Nat}{W W':World}{B:Nat}{T:TypeId}{v:Value}(h:Boxed W B T v)(hk:LK n0 fb W W')(hT:T≠108/\T≠170)(hfb:∃cs fz,W.heap[fb]?=some (.cells cs 108 fz)):Boxed W' B T v:=
 (hk.block B h.lt (fun e=>by
  subst e;obtain ⟨cs,fz,h2⟩:=hfb;rw [show W.heap[B]?=_ from h] at h2;cases h2;exact hT.1 rfl) (.inr (fun cs fz h2=>by
  rw [show W.heap[B]?=_ from h] at h2;cases h2;exact hT.2 rfl))).trans h
theorem SeqI.own(X:Nat->Prop)(n0 fb:Nat)(st:Int)(w:World)(C:Nat)(es:List Code)(nx:Nat)(L:List Plc)(sl:Value)(B:Nat)(hB:w.heap.size<=B):OwnFrom B (SeqI X n0 fb st w C es nx L sl):=by
 rintro pre W W' row ⟨h1,h2,h3,h4,h5,h6⟩ hg hr;have hr':∀r,row=some r->∃o:Obj,W.heap[r]?=some o/\o.isCells=false:=fun r e=>(hr r e).2
 refine ⟨h1.kept hg (fun r cs T fz e hh=>?_),xdi h2 hg hr',xdi h3 hg hr',xdi h4 hg hr',LK.newer h5 hg (fun b e=>Nat.le_trans hB (hr b e).1),h6⟩;obtain ⟨o,ho,hc⟩:=hr' r e;rw [hh] at ho;cases ho;cases hc
theorem LK.others{n0 fb:Nat}{W W':World}(h:LK n0 fb W W')(hfb:∃cs fz,W.heap[fb]?=some (.cells cs 108 fz)):KeepsOthers W W':=
 ⟨h.size,fun k o hk ho=>(h.block k (Array.getElem?_eq_some_iff.1 hk).1 (fun e=>by
  subst e;obtain ⟨cs,fz,h2⟩:=hfb;rw [hk] at h2;cases h2;cases ho) (.inr (fun cs fz h2=>by rw [hk] at h2;cases h2;cases ho))).trans hk⟩
theorem xig(X:Nat->Prop)(n0 fb nx g cap M C:Nat)(st:Int)(es:List Code)(vals:Nat->Value)(L:List Plc)(w:World)(h:FlS X n0 w fb st L)(hX:∀b,X b->b<w.heap.size)(hg:g<n0)(hp:0<es.length)(hn:es.length<=1000)(hM:L.length+es.length*C<=M)(hC:∀j (hj:j<es.length),cn es[j]<=C)
  (hc:∀j,j<es.length->w.cell? ⟨g,j,none⟩=some (vals j)) (hv:∀j,j<es.length->∃T u,vals j=.iface T u)
  (ih:∀j (hj:j<es.length),xad n0 fb st w M es[j] (vals j)):
  Calls Tryz.prog 144 #[.pointer (some ⟨fb,0,none⟩),.slice (some ⟨g,0,none⟩) es.length cap,.int .i64 (nx:Int)] w (LayO X n0 fb st (seqTo nx es L) w):=by
 obtain ⟨hfb,hnf,hfc⟩:=h.fb;have hn0:n0<=w.heap.size:=by omega
 refine (callsIn_wide (n:=3)).1 ?_;refine callsIn_of_wp_marks Tryz.func144 rfl trivial ?_ rfl;simp only [Tryz.ntmps144,List.size_toArray,List.length_cons,List.length_nil,Nat.reduceAdd,Nat.reduceSub,Array.replicate_succ,Array.replicate_zero,List.push_toArray,List.append_toArray,List.nil_append,List.cons_append]
 gi_wp2_with (refine ⟨trivial,?_⟩;gi_at_call 190;refine (xcv _ _ _ _ _).mono ?_;rintro e w' ⟨rfl,rfl⟩)
 obtain ⟨W0,hW0⟩:∃W0,W0=((w.alloc (.cells #[.pointer (some ⟨fb,0,none⟩)] 228)).alloc (.cells #[.int .i64 (nx:Int)] 3)).alloc (.cells #[.slice (some ⟨g,0,none⟩) es.length cap] 172):=⟨_,rfl⟩;have b0:=Boxed.new w 228 (.pointer (some ⟨fb,0,none⟩));have b1:=Boxed.new (w.alloc (.cells #[.pointer (some ⟨fb,0,none⟩)] 228)) 3 (.int .i64 (nx:Int));rw [World.size_alloc] at b1;have b2:=Boxed.new ((w.alloc (.cells #[.pointer (some ⟨fb,0,none⟩)] 228)).alloc (.cells #[.int .i64 (nx:Int)] 3)) 172 (.slice (some ⟨g,0,none⟩) es.length cap);rw [World.size_alloc,World.size_alloc] at b2;have b0':=(b0.alloc (.cells #[.int .i64 (nx:Int)] 3)).alloc (.cells #[.slice (some ⟨g,0,none⟩) es.length cap] 172);have b1':=b1.alloc (.cells #[.slice (some ⟨g,0,none⟩) es.length cap] 172);have hg0:w.grownBy W0 none:=by rw [hW0];exact xje (xje (World.grownBy_alloc _ _ _) (World.grownBy_alloc _ _ _)) (World.grownBy_alloc _ _ _)
 have hs0:W0.heap.size=w.heap.size+3:=by rw [hW0];simp
 rw [<-hW0] at b0' b1' b2 ⊢;clear b0 b1 hW0
 have h0:SeqI X n0 fb st w C es nx L (.slice (some ⟨g,0,none⟩) es.length cap) [] W0:=
  ⟨(h.less (Y:=fun b=>X b\/b=w.heap.size+1) (fun b hb hy=>hy.elim id (fun e=>by omega))).grown hg0,b0',b1',b2,LK.grown hg0,by simp [seqF]⟩
 refine wpIn_rangeFunc_ownF rfl (by omega) (gf:=235) (lb:=#[.pointer (some ⟨w.heap.size+2,0,none⟩)]) rfl trivial (enters_of Tryz.func235 (by kernel_rfl) rfl)
  (xcw _ (by omega) (w.heap.size+2) n0 g es.length cap hp vals hn hg hv W0 (by omega) (by omega) b2.cell (fun j hj=>hg0.cell (hc j hj) (by simp))) KB.trans (KB.put (by omega) (by omega)) (Below.refl _ _) (fun _=>rfl)
  (SeqI X n0 fb st w C es nx L (.slice (some ⟨g,0,none⟩) es.length cap)) (fun _ _ _=>False)
  (SeqI.own X n0 fb st w C es nx L _ _ (by omega)) (fun _ _ _ _ _ hs _ _=>hs) h0
  (fun x=>{ tmps:=#[.pointer (some ⟨fb,0,none⟩),.slice (some ⟨g,0,none⟩) es.length cap,.int .i64 (nx:Int),.pointer (some ⟨w.heap.size,0,none⟩),undef,.pointer (some ⟨w.heap.size+1,0,none⟩),.int .i64 0,undef,vals x.1,.slice (some ⟨g,0,none⟩) es.length cap,.func (.func 235) #[] #[.pointer (some ⟨w.heap.size+1+1,0,none⟩)],.int .i64 ((x.1:Nat):Int),vals x.1,undef,undef,undef,undef,undef],defers:=[] }) ?assign ?body ?done ?stop
 case assign=>
  intro l x W K hK
  gi_wp2
  exact hK
 case body=>
  rintro l pre x W ⟨h1,h2,h3,h4,h5,h6⟩ hlen;have hsz:=h5.size;have hcx:=hC x.1 x.2
  have hCALL:=ih x.1 x.2 (fun b=>X b\/b=w.heap.size+1) (seqF es nx L pre).1 (seqF es nx L pre).2 W h1 (fun b hb=>hb.elim (fun e=>Nat.lt_of_lt_of_le (hX b e) hsz) (fun e=>by have:=h3.lt;omega)) h5 (by
   have:pre.length*C<=es.length*C:=Nat.mul_le_mul_right _ (Nat.le_of_lt hlen);omega)
  have hs:=xvt es nx L pre x;have hll:=(xk5 es[x.1] (seqF es nx L pre).1 (seqF es nx L pre).2).1.2;have c2:=h2.cell;have c3:=h3.cell;generalize seqF es nx L pre=s at h1 h3 h6 hCALL hs hll c3;generalize (lay es[x.1]).1 s.1 s.2=r at hCALL hs hll;obtain ⟨_,_,hfc2⟩:=h1.fb
  gi_wp2_with (refine ⟨trivial,?_⟩;gi_at_call 89;refine (CallsIn.inRound l (callsIn_wide.2 hCALL)).mono ?_;clear hCALL;rintro e W1 ⟨rfl,f1,k1⟩;have d3:=(xdh h3 k1 (by decide) hfc2).cell;have z3:=(xdh h3 k1 (by decide) hfc2).frozen)
  have hgs:=xjc W1 (w.heap.size+1) 0 (.int .i64 (r.1:Int));have e0:=xdh h2 k1 (by decide) hfc2;have e1:=xdh h3 k1 (by decide) hfc2;have e2:=xdh h4 k1 (by decide) hfc2;refine ⟨(LK.others k1 hfc2).trans (KeepsOthers.setCell _ _ _),⟨(k1.below hnf (by omega)).setCell (p:=⟨w.heap.size+1,0,none⟩) (by show n0<=w.heap.size+1;omega) _,?_⟩,?_⟩
  ·exact (xjj (by omega) 0 _).trans (Eq.trans (show _=_ from e2) (Eq.symm (show _=_ from h4)))
  ·unfold SeqI;rw [hs];refine ⟨f1.kept hgs (fun q cs T fz e hh=>?_),e0.kept hgs (by simp),e1.set _,e2.kept hgs (by simp),LK.newer (h5.trans k1) hgs (fun b e=>by cases e;omega),?_⟩
   ·cases e;rw [show W1.heap[w.heap.size+1]?=_ from e1] at hh;cases hh;exact ⟨by omega,by decide,by decide,fun _=>.inr rfl⟩
   ·rw [List.length_append,List.length_singleton,Nat.add_mul];omega
 case done=>
  rintro D ys W hD rfl ⟨h1,h2,h3,h4,h5,h6⟩ hK;have c3:=h3.cell
  gi_wp2
  refine ⟨by simp,.inl ⟨_,_,rfl,run_takeDeferred hK,?_⟩⟩;have hsq:=xvs es nx L hp es.length 0 (by omega);rw [List.drop_zero] at hsq;rw [hsq] at h1;refine ⟨_,results_tmp rfl _ _ _,?_,?_,?_⟩
  ·rw [<-hsq];rfl
  ·refine (h1.less (Y:=X) (fun b _ hb=>.inl hb)).kept (grownBy_putObj' W D (.deferred none)) (fun r cs T fz e hh=>?_);cases e;rw [hK] at hh;cases hh
  ·exact LK.newer h5 (grownBy_putObj' W D (.deferred none)) (fun b e=>by cases e;omega)
 case stop=>
  rintro D c pre W _ _ h _;exact h.elim
theorem xey{t l:Code}(h:t∈elems l):cn t<=cn l:=by
 induction l with
 | seq a b _ ih=>
  simp only [elems,List.mem_cons] at h;simp only [cn];rcases h with rfl|h
  ·omega
  ·have:=ih h;omega
 | _=>cases h
def x0o(w:World)(g j:Nat):Value:=(w.cell? ⟨g,j,none⟩).getD undef
theorem xk6{t:Code}(h:xj3 t=true)(nx:Nat)(L:List Plc):(lay (.loop t)).1 nx L=(lay t).1 nx L:=by
 show (if xj3 t=true then _ else _)=_;rw [if_pos h]
theorem xk7{t:Code}(h:xj3 t=false)(nx:Nat)(L:List Plc):(lay (.loop t)).1 nx L=(L.length,((lay t).1 L.length (L++[(none,[])])).2.set L.length (none,[nx,((lay t).1 L.length (L++[(none,[])])).1])):=by
 show (if xj3 t=true then _ else _)=_;rw [if_neg (by rw [h];decide)]
theorem xk1(t:Code)(L:List Plc):((lay t).1 L.length (L++[(none,[])])).2[L.length]?=some (none,[]):=by
 rw [(xk3 t L.length (L++[(none,[])])).1 L.length (by simp)];simp
theorem xla(n0 fb:Nat)(st:Int):∀(n:Nat) (t:Code) (v:Value) (w:World) (M:Nat),szC t<=n->(TV (fun b=>b<n0) w t).1 v->M+(szC t+1)*11000000<=1900000000000->cn t<=10000->xad n0 fb st w M t v:=by
 intro n;induction n using Nat.strongRecOn with
 | ind n IH=>
  intro t v w M hn h hM hcn X nx L ww hF hX hLK hL;obtain ⟨hfb,hnf,_⟩:=hF.fb;have hw:=hLK.tree hnf h
  have hL2:L.length<=1900000000000:=by
   have:0<=(szC t+1)*11000000:=Nat.zero_le _;omega
  cases t with
  | exit m=>
   have hv:=hw.1;subst hv;have hl:(lay (.exit m)).1 nx L=if m=0 then (nx,L) else if m=1 then (L.length,L++[(none,[])]) else (L.length,L++[(some (.exit m),[nx])]):=rfl
   rw [hl];unfold leafV at hw ⊢;by_cases h0:m=0
   ·rw [if_pos h0] at hw ⊢;rw [if_pos h0];exact xbq X n0 fb nx st L ww hF
   rw [if_neg h0] at hw ⊢;rw [if_neg h0];by_cases h1:m=1
   ·rw [if_pos h1] at hw ⊢;rw [if_pos h1];exact xbp X n0 fb nx st L ww hF (by omega)
   rw [if_neg h1] at hw ⊢;rw [if_neg h1];by_cases h2:m%2=0
   ·rw [if_pos h2] at hw ⊢;exact xbw X n0 fb nx st _ _ (.exit m) L ww hF hX (by omega) hw
   ·rw [if_neg h2] at hw ⊢;exact xbt X n0 fb nx st _ _ (.exit m) L ww hF hX (by omega) hw
  | scope t=>
   have hw':=hw;obtain ⟨g,cap,x,rfl,_⟩:=hw;exact xbr X n0 fb nx g 1 cap st (.scope t) L ww hF hX (by omega) hw'
  | loop t=>
   obtain ⟨g,cap,x,rfl,hg,hc,hx⟩:=hw;obtain ⟨T,u,rfl⟩:=xam hx;simp only [szC] at hn hM;simp only [cn] at hcn;refine xbu X n0 fb nx g cap st T u _ ww hc (fun w1 hg1=>?_);have hF1:=hF.grown hg1;have hX1:∀b,X b->b<w1.heap.size:=fun b hb=>Nat.lt_of_lt_of_le (hX b hb) hg1.size
   have ih:∀w2 M2,LK n0 fb w1 w2->M2<=M+1->xad n0 fb st w2 M2 t (.iface T u):=fun w2 M2 hk h2=>
    IH (szC t) (by omega) t _ w2 M2 (Nat.le_refl _) (hk.tree hnf (xan hx hg1)) (by omega) (by omega)
   by_cases hlp:xj3 t=true
   ·rw [xk6 hlp];cases t with
    | loop t2=>
     obtain ⟨g2,cap2,x2,hv2,_⟩:=hx;rw [hv2];refine xxa X n0 fb nx g2 1 cap2 st _ w1 (fun w2 hg2=>?_);have:=ih w2 M (LK.grown hg2) (by omega) X nx L w2 (hF1.grown hg2) (fun b hb=>Nat.lt_of_lt_of_le (hX1 b hb) hg2.size) (LK.refl _ _ _) hL;rw [hv2] at this;exact this
    | _=>cases hlp
   ·have hlp':xj3 t=false:=by simpa using hlp
    rw [xk7 hlp'];have hlen:=(xk5 t L.length (L++[(none,[])])).1;have hfork:=xk1 t L;simp only [List.length_append,List.length_singleton] at hlen
    have hS:∀w2,LK n0 fb w1 w2->FlS X n0 w2 fb st (L++[(none,[])])->Calls Tryz.prog 89 #[.pointer (some ⟨fb,0,none⟩),.iface T u,.int .i64 (L.length:Int)] w2 (LayO X n0 fb st ((lay t).1 L.length (L++[(none,[])])) w2):=
     fun w2 hk hf2=>ih w2 (M+1) hk (by omega) X L.length (L++[(none,[])]) w2 hf2 (fun b hb=>Nat.lt_of_lt_of_le (hX1 b hb) hk.size) (LK.refl _ _ _) (by simp;omega)
    cases t with
    | exit m=>
     have hv:=hx.1;unfold leafV at hv;by_cases h0:m=0
     ·rw [if_pos h0] at hv;cases hv;exact xw8 X n0 fb nx st 4 _ L _ [] w1 hF1 hX1 (by omega) (by omega) hfork rfl (fun w=>xkr 4 w) hS
     rw [if_neg h0] at hv;by_cases h1:m=1
     ·rw [if_pos h1] at hv;cases hv;exact xw8 X n0 fb nx st 5 _ L _ [] w1 hF1 hX1 (by omega) (by omega) hfork rfl (fun w=>xkr 5 w) hS
     rw [if_neg h1] at hv;by_cases h2:m%2=0
     ·rw [if_pos h2] at hv;cases hv;exact xxb X n0 fb nx st 6 _ L _ [] w1 hF1 hX1 (by omega) (by omega) hfork rfl (fun w=>xku _ _ w) hS
     ·rw [if_neg h2] at hv;cases hv;exact xw9 X n0 fb nx st 7 _ L _ [] w1 hF1 hX1 (by omega) (by omega) hfork rfl (fun w=>xkt _ _ w) hS
    | scope t2=>
     obtain ⟨g2,cap2,x2,hv2,_⟩:=hx;unfold xi2 at hv2;cases hv2;exact xw7 X n0 fb nx st 3 _ L _ [] w1 hF1 hX1 (by omega) (by omega) hfork rfl (fun w=>xkq 3 undef g2 1 cap2 w) hS
    | block k l=>
     obtain ⟨g2,n2,cap2,hv2,hk2,_⟩:=hx;unfold xi2 at hv2;cases hv2;exact xw7 X n0 fb nx st (k:Int) _ L _ [] w1 hF1 hX1 (by omega) (by omega) hfork (by rw [beq_eq_false_iff_ne];omega) (fun w=>xkq k undef g2 n2 cap2 w) hS
    | loop t2=>cases hlp'
    | _=>exact hx.elim
  | block k l=>
   obtain ⟨g,m,cap,rfl,hk,hg,hm,hm2,hl⟩:=hw;simp only [szC] at hn hM;simp only [cn] at hcn;have hlen:=(xak hl).1;have hcl:=xew l
   have parts:∀w1,ww.grownBy w1 none->∀j (hj:j<(elems l).length),w1.cell? ⟨g,j,none⟩=some (x0o w1 g j)/\(∃T u,x0o w1 g j=.iface T u)/\xad n0 fb st w1 (M+10010000) (elems l)[j] (x0o w1 g j):=by
    intro w1 hg1 j hj;obtain ⟨x,hx1,hx2⟩:=(xak hl).2 j hj;rw [Nat.zero_add] at hx1;have hx3:w1.cell? ⟨g,j,none⟩=some x:=hg1.cell hx1 (by simp);have hv:x0o w1 g j=x:=by unfold x0o;rw [hx3];rfl
    rw [hv];have hme:(elems l)[j]∈elems l:=List.getElem_mem _;have hse:=xyh hme;have hce:=xey hme;refine ⟨hx3,xam hx2,IH (szC (elems l)[j]) (by omega) _ x w1 _ (Nat.le_refl _) (xan hx2 hg1) ?_ (by omega)⟩;have h1:(szC (elems l)[j]+1)*11000000<=szC l*11000000:=Nat.mul_le_mul_right _ (by omega);have h2:(szC l+1+1)*11000000=szC l*11000000+22000000:=by omega
    omega
   rcases (show k=0\/k=1 by omega) with rfl|rfl
   ·have e:(lay (.block 0 l)).1 nx L=((sumTo nx (elems l) L).2.length,(sumTo nx (elems l) L).2++[(none,(sumTo nx (elems l) L).1)]):=by
     simp only [lay,if_true,xk9]
    rw [e,<-hlen];refine xbv X n0 fb nx g _ cap st _ ww (fun w1 hg1=>?_);exact xih X n0 fb nx g cap (M+10010000) st (elems l) (x0o w1 g) L w1 (hF.grown hg1) (fun b hb=>Nat.lt_of_lt_of_le (hX b hb) hg1.size) hg (by omega) (by omega) (by omega) (fun j hj=>(parts w1 hg1 j hj).1) (fun j hj=>(parts w1 hg1 j hj).2.1) (fun j hj=>(parts w1 hg1 j hj).2.2)
   ·have e:(lay (.block 1 l)).1 nx L=seqTo nx (elems l) L:=by
     simp only [lay,Nat.one_ne_zero,if_false,xk8]
    rw [e,<-hlen];refine xbs X n0 fb nx g _ cap st _ ww (fun w1 hg1=>?_);have hmul:(elems l).length*10000<=10000000:=by omega
    exact xig X n0 fb nx g cap (M+10010000) 10000 st (elems l) (x0o w1 g) L w1 (hF.grown hg1) (fun b hb=>Nat.lt_of_lt_of_le (hX b hb) hg1.size) hg (by omega) (by omega) (by omega) (fun j hj=>Nat.le_trans (xey (List.getElem_mem _)) (by omega)) (fun j hj=>(parts w1 hg1 j hj).1) (fun j hj=>(parts w1 hg1 j hj).2.1) (fun j hj=>(parts w1 hg1 j hj).2.2)
  | _=>exact h.elim
def FlV(n0:Nat)(w:World)(pv:Value)(L:List Plc):Prop:=
 ∃dv sv,w.ownsRow n0 170 2 pv L.length (plC dv sv L.length)/\∀j q,L[j]?=some q->PlS (fun _=>False) n0 w q (dv j) (sv j)
def xh4(t:Code):Nat×List Plc:=(lay t).1 0 [(none,[])]
theorem xh9{X:Nat->Prop}{n0:Nat}{w:World}{fb g:Nat}(h1:w.heap[fb]?=some (.cells #[.slice (some ⟨g,0,none⟩) 1 1,.int .i64 0] 108 (0,0)))(h2:n0<=fb)(h3:w.heap[g]?=some (.cells #[.nilIface,.slice none 0 0] 170 (0,0)))(h4:n0<=g):FlS X n0 w fb 0 [(none,[])]:=by
 refine ⟨_,fun _=>.nilIface,fun _=>.slice none 0 0,h1,h2,⟨rfl,.inr ⟨g,1,_,rfl,h4,h3,Nat.le_refl _,by decide,rfl,rfl⟩⟩,fun j q hq=>?_⟩;cases j with
 | zero=>cases hq;exact xr6
 | succ j=>simp at hq
theorem FlV.kept{n0:Nat}{w w':World}{pv:Value}{L:List Plc}{row:Option Nat}(h:FlV n0 w pv L)(hg:w.grownBy w' row)
  (hr:∀r cs T fz,row=some r->w.heap[r]?=some (.cells cs T fz)->n0<=r/\T≠170/\T≠3):FlV n0 w' pv L:=by
 obtain ⟨dv,sv,h3,h4⟩:=h;refine ⟨dv,sv,xql h3 (fun g cs hv hb=>hg.block g (Array.getElem?_eq_some_iff.1 hb).1 (fun e=>(hr g _ _ _ e.symm hb).2.1 rfl)),fun j q hq=>?_⟩;obtain ⟨p1,p2,p3⟩:=h4 j q hq;refine ⟨xql p1 (fun g cs hv hb=>hg.block g (Array.getElem?_eq_some_iff.1 hb).1 (fun e=>(hr g _ _ _ e.symm hb).2.2 rfl)),p2,p3.imp id (fun ⟨t,e,ht⟩=>⟨t,e,?_⟩)⟩;refine (xao (fun b _ _ hb _=>hb) (fun b i x hb hx=>?_) t).1 _ ht;have hlt:=World.block_lt_of_cell? w _ hx;refine (World.cell?_of_block (hg.block b hlt (fun e=>?_))).trans hx;cases hob:w.heap[b]? with
 | none=>exact absurd (Array.getElem?_eq_none_iff.1 hob) (Nat.not_le.2 hlt)
 | some o=>
  cases o with
  | cells cs T fz=>have:=(hr b cs T fz e.symm hob).1;have:b<n0:=hb;omega
  | _=>simp [World.cell?,hob] at hx
theorem FlV.grown{n0:Nat}{w w':World}{pv:Value}{L:List Plc}(h:FlV n0 w pv L)(hg:w.grownBy w' none):FlV n0 w' pv L:=h.kept hg (fun r _ _ _ e=>by cases e)
theorem FlV.flowSet{n0:Nat}{w:World}{pv:Value}{L:List Plc}(h:FlV n0 w pv L){b:Nat}{cs:Array Value}(hb:w.heap[b]?=some (.cells cs 108 (0,0)))(hn:n0<=b)(j:Nat)(v:Value):FlV n0 (w.setCell ⟨b,j,none⟩ v) pv L:=
 h.kept (xjc w b j v) (fun r cs T fz e hh=>by cases e;rw [hb] at hh;cases hh;exact ⟨hn,by decide,by decide⟩)
theorem xn4(ok:Nat->Prop)(t:Code)(v:Value)(w:World)(h:(TV ok w t).1 v)(hs:szC t<=10000)(hc:cn t<=10000):
  Calls Tryz.prog 50 #[v] w fun x w'=>∃pv,x=.returned (.agg #[pv,.int .i64 ((xh4 t).1:Int)])/\FlV w.heap.size w' pv (xh4 t).2/\w.grownBy w' none:=by
 have h':(TV (fun b=>b<w.heap.size) w t).1 v:=xaq h (fun b hb _=>hb);obtain ⟨T,u,rfl⟩:=xam h;have HT:=hide h';clear h h';go_enter Tryz.func50,Tryz.ntmps50;go_wp2_with fail;obtain ⟨W1,hW1⟩:∃W1,W1=((w.alloc (.cells #[.slice none 0 0,.int .i64 0] 108)).alloc (.cells #[.nilIface,.slice none 0 0] 170)).alloc (.cells #[.slice (some ⟨w.heap.size+1,0,none⟩) 1 1,.int .i64 0] 108):=⟨_,rfl⟩;have hg1:w.grownBy W1 none:=by rw [hW1];exact xje (xje (World.grownBy_alloc _ _ _) (World.grownBy_alloc _ _ _)) (World.grownBy_alloc _ _ _)
 have z0:(w.alloc (.cells #[.slice none 0 0,.int .i64 0] 108)).heap.size=w.heap.size+1:=by simp
 have z1:((w.alloc (.cells #[.slice none 0 0,.int .i64 0] 108)).alloc (.cells #[.nilIface,.slice none 0 0] 170)).heap.size=w.heap.size+2:=by simp
 have q0:W1.heap[w.heap.size]?=some (.cells #[.slice none 0 0,.int .i64 0] 108 (0,0)):=by
  rw [hW1];exact ((Below.heap_alloc _ _ _ (by omega)).trans (Below.heap_alloc _ _ _ (by omega))).trans (heap_alloc_new _ _)
 have q1:W1.heap[w.heap.size+1]?=some (.cells #[.nilIface,.slice none 0 0] 170 (0,0)):=by
  rw [hW1];have h9:=heap_alloc_new (w.alloc (.cells #[.slice none 0 0,.int .i64 0] 108)) (.cells #[.nilIface,.slice none 0 0] 170);rw [z0] at h9;exact (Below.heap_alloc _ _ _ (by omega)).trans h9
 have q2:W1.heap[w.heap.size+2]?=some (.cells #[.slice (some ⟨w.heap.size+1,0,none⟩) 1 1,.int .i64 0] 108 (0,0)):=by
  rw [hW1];have:=heap_alloc_new ((w.alloc (.cells #[.slice none 0 0,.int .i64 0] 108)).alloc (.cells #[.nilIface,.slice none 0 0] 170)) (.cells #[.slice (some ⟨w.heap.size+1,0,none⟩) 1 1,.int .i64 0] 108);rwa [z1] at this
 rw [<-hW1];have F1:FlS (fun _=>False) w.heap.size W1 (w.heap.size+2) 0 [(none,[])]:=xh9 q2 (by omega) q1 (by omega);have C1:=xla w.heap.size (w.heap.size+2) 0 (szC t) t (.iface T u) W1 1 (Nat.le_refl _) (xan HT.out hg1) (by omega) hc (fun _=>False) 0 [(none,[])] W1 F1 (fun b hb=>hb.elim) (LK.refl _ _ _) (by simp);refine C1.mono ?_;clear C1 F1 hW1 z0 z1;rintro x w2 ⟨rfl,f2,k2⟩;have p0:w2.heap[w.heap.size]?=some (.cells #[.slice none 0 0,.int .i64 0] 108 (0,0)):=(k2.block _ (Array.getElem?_eq_some_iff.1 q0).1 (by omega) (.inr (fun cs fz e=>by rw [q0] at e;cases e))).trans q0;have g2:=LK.own hg1 k2 (Nat.le_refl _) (by omega);clear q0 q1 q2 k2;obtain ⟨pv,dv,sv,h1,_,h3,h4⟩:=f2;obtain ⟨pa,pc,rfl⟩:=xqm h3;have fv:FlV w.heap.size w2 (.slice pa (xh4 t).2.length pc) (xh4 t).2:=⟨dv,sv,h3,h4⟩;have c0:w2.cell? ⟨w.heap.size+2,0,none⟩=some (.slice pa (xh4 t).2.length pc):=by simp only [World.cell?,h1];rfl
 have c1:w2.cell? ⟨w.heap.size+2,1,none⟩=some (.int .i64 0):=by simp only [World.cell?,h1];rfl
 have f1:w2.frozen? ⟨w.heap.size+2,1,none⟩=false:=by simp [World.frozen?,h1]
 have d0:w2.cell? ⟨w.heap.size,0,none⟩=some (.slice none 0 0):=by simp [World.cell?,p0]
 have d1:w2.cell? ⟨w.heap.size,1,none⟩=some (.int .i64 0):=by simp [World.cell?,p0]
 have e0:w2.frozen? ⟨w.heap.size,0,none⟩=false:=by simp [World.frozen?,p0]
 have e1:w2.frozen? ⟨w.heap.size,1,none⟩=false:=by simp [World.frozen?,p0]
 have H1:=hide h1;have P0:=hide p0;have FV:=hide fv;have G2:=hide g2;rw [show (lay t).1 0 [(none,[])]=xh4 t from rfl];clear h1 h3 h4 p0 fv g2 hg1;obtain ⟨r,hr⟩:∃r,r=xh4 t:=⟨_,rfl⟩;rw [<-hr];rw [<-hr] at c0 FV;have H1':Hid (w2.heap[w.heap.size+2]?=some (.cells #[.slice pa r.2.length pc,.int .i64 0] 108 (0,0))):=by rw [hr];exact H1.out
 have HR:=hide hr;clear H1 hr;go_wp2;obtain ⟨w3,hw3⟩:∃w3,w3=w2.setCell ⟨w.heap.size+2,1,none⟩ (.int .i64 (r.1:Int)):=⟨_,rfl⟩;have P3:w3.heap[w.heap.size]?=some (.cells #[.slice none 0 0,.int .i64 0] 108 (0,0)):=by rw [hw3];exact (xjj (by omega) 1 _).trans P0.out
 have FV3:FlV w.heap.size w3 (.slice pa r.2.length pc) r.2:=by rw [hw3];exact FV.out.flowSet H1'.out (by omega) 1 _
 have G3:w.grownBy w3 none:=by rw [hw3];exact xi9 G2.out (xjc _ _ _ _) (by omega)
 have P4:=xjh P3 0 (.slice pa r.2.length pc);have P5:=xjh P4 1 (.int .i64 (r.1:Int));have FV5:=(FV3.flowSet P3 (Nat.le_refl _) 0 (.slice pa r.2.length pc)).flowSet P4 (Nat.le_refl _) 1 (.int .i64 (r.1:Int));have G5:=xi9 (xi9 G3 (xjc w3 w.heap.size 0 (.slice pa r.2.length pc)) (Nat.le_refl _)) (xjc _ w.heap.size 1 (.int .i64 (r.1:Int))) (Nat.le_refl _);rw [show (⟨w.heap.size+1+1,1,none⟩:Addr)=⟨w.heap.size+2,1,none⟩ from rfl,<-hw3];generalize (w3.setCell ⟨w.heap.size,0,none⟩ (.slice pa r.2.length pc)).setCell ⟨w.heap.size,1,none⟩ (.int .i64 (r.1:Int))=w5 at *;have y0:w5.cell? ⟨w.heap.size,0,none⟩=some (.slice pa r.2.length pc):=by simp [World.cell?,P5]
 have y1:w5.cell? ⟨w.heap.size,1,none⟩=some (.int .i64 (r.1:Int)):=by simp [World.cell?,P5]
 refine bodyPost_ret (v:=.agg #[.slice pa r.2.length pc,.int .i64 (r.1:Int)]) (by simp [results,Tryz.results50,go_sem,y0,y1]) rfl ?_;exact ⟨_,by rw [<-HR.out],by rw [<-HR.out];exact FV5,G5⟩
end Go.Proofs.YtlhkfafdioakeaaGreatDoor
