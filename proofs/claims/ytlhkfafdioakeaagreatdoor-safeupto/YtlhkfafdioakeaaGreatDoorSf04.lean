/- Parts of the proof. -/
import Derived.Test.YtlhkfafdioakeaaGreatDoorSf02
import Derived.Test.YtlhkfafdioakeaaGreatDoorSf03
import Derived.Laws.AppendOwnNone
import Derived.Deep.RegionWith
import Derived.Deep.CutBlock
import Derived.Deep.RegionHeld3
import Derived.Deep.RegionLaw
import Derived.Deep.RegionLawGrows
import Derived.Handy
namespace Go.Proofs.YtlhkfafdioakeaaGreatDoor
set_option maxRecDepth 100000
set_option maxHeartbeats 4000000
open Go.RowKit
set_option linter.unusedVariables false
set_option linter.unusedSimpArgs false
inductive Role where
 | free|net|dev|row (s j:Nat)|del|ro
structure RowAt(w:World)(role:Nat->Role)(r:Role)(T:TypeId)(size:Nat)(v:Value)(n:Nat)(xs:List Value):Prop where
 q:QRow 0 w T size v n xs
 rl:∀b,v.ownBlock=some b->role b=r
theorem RowAt.kept{w w':World}{role:Nat->Role}{r:Role}{T:TypeId}{size:Nat}{v:Value}{n:Nat}{xs:List Value}{row:Option Nat}(h:RowAt w role r T size v n xs)(hg:w.grownBy w' row)(hr:∀b,row=some b->b<w.heap.size->role b≠r):RowAt w' role r T size v n xs:=
 ⟨h.q.kept hg (fun b e k=>hr b e (h.q.lt b k).2 (h.rl b k)),h.rl⟩
def pkC(k:Nat->Int):List Value:=[.int .i64 (k 0),.int .i64 (k 1),.int .i64 (k 2),.int .i64 (k 3),.int .i64 (k 4),.int .i64 (k 5)]
def rlCs(r:Rl):List Value:=[.int .i64 r.prio,.int .i64 (r.mt 0),.int .i64 (r.mt 1),.int .i64 (r.mt 2),.int .i64 (r.mt 3),.int .i64 (r.mt 4),.int .i64 (r.mt 5),r.av]
def pksC(L:List (Nat->Int)):List Value:=L.flatMap pkC
def rlsC(L:List Rl):List Value:=L.flatMap rlCs
def stC(L:List ByteArray):List Value:=L.map .string
theorem xrx(L:List (Nat->Int)):(pksC L).length=L.length*6:=by
 unfold pksC;induction L with
 | nil=>rfl
 | cons k r ih=>rw [List.flatMap_cons,List.length_append,ih,List.length_cons];simp [pkC];omega
theorem xrv(L M:List (Nat->Int)):pksC (L++M)=pksC L++pksC M:=by simp [pksC]
theorem xua(L M:List Rl):rlsC (L++M)=rlsC L++rlsC M:=by simp [rlsC]
theorem xry(L:List (Nat->Int)):∀u∈pksC L,u.oneCell'=true:=by
 intro u hu;obtain ⟨k,_,hk⟩:=List.mem_flatMap.1 hu;simp [pkC] at hk;rcases hk with rfl|rfl|rfl|rfl|rfl|rfl<;>rfl
structure RuAt(w:World)(role:Nat->Role)(r:Rl):Prop where
 pk:PkRow w r.av r.na r.acts
 rl:∀b,r.av.ownBlock=some b->role b=.ro/\b<w.heap.size
theorem PkRow.same{w w':World}{v:Value}{n:Nat}{ps:Nat->Nat->Int}(h:PkRow w v n ps)(hs:∀b,v.ownBlock=some b->w'.heap[b]?=w.heap[b]?):PkRow w' v n ps:=by
 rcases h with h|⟨g,off,cap,rfl,h2,h3⟩
 ·exact .inl h
 ·refine .inr ⟨g,off,cap,rfl,h2,fun j hj i hi=>?_⟩;have:=hs g rfl;have h4:=h3 j hj i hi;simp only [World.cell?] at h4 ⊢;rw [this];exact h4
theorem RuAt.kept{w w':World}{role:Nat->Role}{r:Rl}{row:Option Nat}(h:RuAt w role r)(hg:w.grownBy w' row)(hr:∀b,row=some b->b<w.heap.size->role b ≠ .ro):RuAt w' role r:=
 ⟨h.pk.same (fun b k=>hg.block b (h.rl b k).2 (fun e=>hr b e.symm (h.rl b k).2 (h.rl b k).1)),fun b k=>⟨(h.rl b k).1,Nat.lt_of_lt_of_le (h.rl b k).2 hg.size⟩⟩
structure DvM where
 rl:List Rl
 wl:List (Nat->Int)
 dl:List ByteArray
 ul:List ByteArray
 nl:List Rl
 vs:Nat->Value
def DvM.xs(d:DvM):Nat->List Value
 | 0=>rlsC d.rl
 | 1=>pksC d.wl
 | 2=>stC d.dl
 | 3=>stC d.ul
 | _=>rlsC d.nl
def DvM.len(d:DvM):Nat->Nat
 | 0=>d.rl.length
 | 1=>d.wl.length
 | 2=>d.dl.length
 | 3=>d.ul.length
 | _=>d.nl.length
def tyJ:Nat->TypeId
 | 0=>68
 | 1=>46
 | 2=>9
 | 3=>9
 | _=>68
def szJ:Nat->Nat
 | 0=>8
 | 1=>6
 | 2=>1
 | 3=>1
 | _=>8
structure DvAt(w:World)(role:Nat->Role)(s:Nat)(d:DvM):Prop where
 row:∀j,j<5->RowAt w role (.row s j) (tyJ j) (szJ j) (d.vs j) (d.len j) (d.xs j)
 ru:∀r,r∈d.rl\/r∈d.nl->RuAt w role r
theorem DvAt.kept{w w':World}{role:Nat->Role}{s:Nat}{d:DvM}{row:Option Nat}(h:DvAt w role s d)(hg:w.grownBy w' row)(hr:∀b,row=some b->b<w.heap.size->role b ≠ .ro/\∀j,role b ≠ .row s j):DvAt w' role s d:=
 ⟨fun j hj=>(h.row j hj).kept hg (fun b e hb=>(hr b e hb).2 j),fun r hm=>(h.ru r hm).kept hg (fun b e hb=>(hr b e hb).1)⟩
structure NetM where
 D:Nat
 db:Nat
 dv:Nat->DvM
 fl:Value
 fq:Int
 lv:Value
 ln:Nat
 ld:Nat->Nat->Int
 room:Int
 delv:Value
 del:List (Nat->Int)
 nt:TypeId
structure NetAt(w:World)(B nb:Nat)(role:Nat->Role)(N:NetM):Prop where
 nbR:role nb=.net
 net:w.heap[nb]?=some (.cells #[N.fl,.int .i64 N.fq,N.lv,.int .i64 N.room,.slice (some ⟨N.db,0,none⟩) N.D N.D,N.delv] N.nt (0,0))
 dbR:role N.db=.dev
 dev:∃cur:Array Value,w.heap[N.db]?=some (.cells cur 250 (0,0))/\cur.size=N.D*5/\∀s,s<N.D->∀j,j<5->cur[s*5+j]?=some ((N.dv s).vs j)
 dvs:∀s,s<N.D->DvAt w role s (N.dv s)
 dels:RowAt w role .del 46 6 N.delv N.del.length (pksC N.del)
 lnk:LnR w N.lv N.ln N.ld
 lnr:∀b,N.lv.ownBlock=some b->role b=.ro/\b<w.heap.size
 low:∀b,role b ≠ .free->B<=b/\b<w.heap.size
 dsz:N.D<=6
theorem NetAt.new{w:World}{B nb:Nat}{role:Nat->Role}{N:NetM}(h:NetAt w B nb role N){b:Nat}(hb:w.heap.size<=b):role b=.free:=by
 cases hr:role b with
 | free=>rfl
 | _=>have:=(h.low b (by rw [hr];exact fun e=>by cases e)).2;omega
theorem LnR.same{w w':World}{v:Value}{n:Nat}{d:Nat->Nat->Int}(h:LnR w v n d)(hs:∀b,v.ownBlock=some b->w'.heap[b]?=w.heap[b]?):LnR w' v n d:=by
 rcases h with h|⟨g,off,cap,rfl,h2,h3⟩
 ·exact .inl h
 ·refine .inr ⟨g,off,cap,rfl,h2,fun j hj i hi=>?_⟩;have:=hs g rfl;have h4:=h3 j hj i hi;simp only [World.cell?] at h4 ⊢;rw [this];exact h4
theorem NetAt.grown{w w':World}{B nb:Nat}{role:Nat->Role}{N:NetM}(h:NetAt w B nb role N){row:Option Nat}(hg:w.grownBy w' row)(hr:∀b,row=some b->role b=.free):NetAt w' B nb role N:=by
 have hne:∀b,role b ≠ .free->some b≠row:=fun b hb e=>hb (hr b e.symm)
 obtain ⟨cur,d1,d2,d3⟩:=h.dev;have hx:∀b r,row=some b->r≠Role.free->role b≠r:=fun b r e hrr=>by rw [hr b e];exact fun e=>hrr e.symm
 refine ⟨h.nbR,?_,h.dbR,⟨cur,?_,d2,d3⟩,fun s hs=>(h.dvs s hs).kept hg (fun b e _=>⟨hx b _ e (fun e=>by cases e),fun j=>hx b _ e (fun e=>by cases e)⟩),h.dels.kept hg (fun b e _=>hx b _ e (fun e=>by cases e)),h.lnk.same (fun b k=>?_),fun b k=>⟨(h.lnr b k).1,Nat.lt_of_lt_of_le (h.lnr b k).2 hg.size⟩,fun b hb=>⟨(h.low b hb).1,Nat.lt_of_lt_of_le (h.low b hb).2 hg.size⟩,h.dsz⟩
 ·have hb:role nb ≠ .free:=by rw [h.nbR];exact fun e=>by cases e
  rw [hg.block nb (h.low nb hb).2 (hne nb hb),h.net]
 ·have hb:role N.db ≠ .free:=by rw [h.dbR];exact fun e=>by cases e
  rw [hg.block N.db (h.low _ hb).2 (hne _ hb),d1]
 ·have hb:role b ≠ .free:=by rw [(h.lnr b k).1];exact fun e=>by cases e
  exact hg.block b (h.lnr b k).2 (hne b hb)
def updN{α:Type}(f:Nat->α)(s:Nat)(x:α):Nat->α:=fun i=>if i=s then x else f i
theorem x0l{α:Type}(f:Nat->α)(s:Nat)(x:α):updN f s x s=x:=by unfold updN;rw [if_pos rfl]
theorem x0k{α:Type}{f:Nat->α}{s i:Nat}{x:α}(h:i≠s):updN f s x i=f i:=by unfold updN;rw [if_neg h]
open Classical in
theorem NetAt.setRow{w w1 w2:World}{B nb:Nat}{role:Nat->Role}{N:NetM}(h:NetAt w B nb role N)(hB:B<=w.heap.size){s j:Nat}(hs:s<N.D)(hj:j<5){row:Option Nat}(g1:w.grownBy w1 row)(hrow:∀b,row=some b->b<w.heap.size->role b=.row s j){d':DvM}
  (hv:∀i,i<5->i≠j->d'.vs i=(N.dv s).vs i/\d'.len i=(N.dv s).len i/\d'.xs i=(N.dv s).xs i) (q:QRow 0 w1 (tyJ j) (szJ j) (d'.vs j) (d'.len j) (d'.xs j)) (hat:∀b,(d'.vs j).ownBlock=some b->b<w.heap.size->role b=.row s j) (ru:∀r,r∈d'.rl\/r∈d'.nl->RuAt w role r) (g2:w1.grownBy w2 (some N.db)) (he2:∀cur:Array Value,w1.heap[N.db]?=some (.cells cur 250 (0,0))->w2.heap[N.db]?=some (.cells (cur.setIfInBounds (s*5+j) (d'.vs j)) 250 (0,0))):
  ∃role',(∀b,b<w.heap.size->role' b=role b)/\NetAt w2 B nb role' { N with dv:=updN N.dv s d' }:=by
 obtain ⟨cur,c1,c2,c3⟩:=h.dev;have hdbl:N.db<w.heap.size:=(h.low N.db (by rw [h.dbR];exact fun e=>by cases e)).2;have hnbl:nb<w.heap.size:=(h.low nb (by rw [h.nbR];exact fun e=>by cases e)).2;have hne:∀b,b<w.heap.size->role b ≠ .row s j->some b≠row:=fun b hb hr e=>hr (hrow b e.symm hb)
 have hdr:some N.db≠row:=hne _ hdbl (by rw [h.dbR];exact fun e=>by cases e);have hnr:some nb≠row:=hne _ hnbl (by rw [h.nbR];exact fun e=>by cases e);have e1:w1.heap[N.db]?=some (.cells cur 250 (0,0)):=by rw [g1.block _ hdbl hdr,c1]
 have e2:=he2 cur e1;obtain ⟨role',hrole⟩:∃role':Nat->Role,role'=fun b=>if w.heap.size<=b/\(d'.vs j).ownBlock=some b then .row s j else role b:=⟨_,rfl⟩
 have hold:∀b,b<w.heap.size->role' b=role b:=fun b hb=>by rw [hrole];exact if_neg (fun e=>by omega)
 have hs1:=g1.size;have hs2:=g2.size;have hdb2:∀b r,some N.db=some b->r≠Role.dev->role b≠r:=fun b r e hr=>by cases e;rw [h.dbR];exact fun e=>hr e.symm
 -- what isn't row (s,j) stands in both steps
 have two:∀{r:Role} {T:TypeId} {size:Nat} {v:Value} {n:Nat} {xs:List Value},r ≠ .row s j->r ≠ .dev->RowAt w role r T size v n xs->RowAt w2 role' r T size v n xs:=by
  intro r T size v n xs hr1 hr2 hR;have a1:=hR.kept g1 (fun b e hb=>by rw [hrow b e hb];exact fun e=>hr1 e.symm);have a2:=a1.kept g2 (fun b e hb=>hdb2 b r e hr2);exact ⟨a2.q,fun b k=>by rw [hold b (hR.q.lt b k).2];exact hR.rl b k⟩
 have twoR:∀{r:Rl},RuAt w role r->RuAt w2 role' r:=by
  intro r hR;have a1:=hR.kept g1 (fun b e hb=>by rw [hrow b e hb];exact fun e=>by cases e);have a2:=a1.kept g2 (fun b e hb=>hdb2 b .ro e (fun e=>by cases e));exact ⟨a2.pk,fun b k=>⟨by rw [hold b (hR.rl b k).2];exact (hR.rl b k).1,(a2.rl b k).2⟩⟩
 refine ⟨role',hold,⟨by rw [hold nb hnbl];exact h.nbR,?_,by show role' N.db=_;rw [hold _ hdbl];exact h.dbR,⟨_,e2,by simpa using c2,fun s1 hs1 j1 hj1=>?_⟩,fun s1 hs1=>?_,?_,?_,fun b k=>?_,fun b hb=>?_,h.dsz⟩⟩
 ·have:some nb≠some N.db:=fun e=>by
   have e:=Option.some.inj e;have h1:=h.nbR;rw [e,h.dbR] at h1;cases h1
  rw [g2.block nb (by omega) this,g1.block nb hnbl hnr,h.net]
 ·show _=some ((updN N.dv s d' s1).vs j1);rw [Array.getElem?_setIfInBounds];by_cases es:s1=s
  ·subst es;rw [x0l];by_cases ej:j1=j
   ·subst ej;rw [if_pos rfl,if_pos (by rw [c2];have:=hs;omega)]
   ·rw [if_neg (by omega),c3 s1 hs j1 hj1,(hv j1 hj1 ej).1]
  ·rw [x0k es,if_neg (by omega),c3 s1 hs1 j1 hj1]
 ·show DvAt w2 role' s1 (updN N.dv s d' s1);by_cases es:s1=s
  ·subst es;rw [x0l];refine ⟨fun i hi=>?_,fun r hm=>twoR (ru r hm)⟩;by_cases ei:i=j
   ·subst ei;refine ⟨q.kept g2 (fun b e k=>?_),fun b k=>?_⟩
    ·cases e;have:=hat _ k hdbl;rw [h.dbR] at this;cases this
    ·by_cases hb:b<w.heap.size
     ·rw [hold b hb];exact hat b k hb
     ·rw [hrole];exact if_pos ⟨by omega,k⟩
   ·obtain ⟨k1,k2,k3⟩:=hv i hi ei;rw [k1,k2,k3];exact two (fun e=>by cases e;exact ei rfl) (fun e=>by cases e) ((h.dvs s1 hs).row i hi)
  ·rw [x0k es];exact ⟨fun i hi=>two (fun e=>by cases e;exact es rfl) (fun e=>by cases e) ((h.dvs s1 hs1).row i hi),fun r hm=>twoR ((h.dvs s1 hs1).ru r hm)⟩
 ·exact two (fun e=>by cases e) (fun e=>by cases e) h.dels
 ·refine h.lnk.same (fun b k=>?_);have hb:=h.lnr b k;rw [g2.block b (by omega) (fun e=>hdb2 b .ro e.symm (fun e=>by cases e) hb.1),g1.block b hb.2 (hne b hb.2 (by rw [hb.1];exact fun e=>by cases e))]
 ·have hb:=h.lnr b k;exact ⟨by rw [hold b hb.2];exact hb.1,by omega⟩
 ·by_cases hb2:b<w.heap.size
  ·rw [hold b hb2] at hb;exact ⟨(h.low b hb).1,by omega⟩
  ·rw [hrole] at hb;by_cases hc:w.heap.size<=b/\(d'.vs j).ownBlock=some b
   ·exact ⟨by omega,by have:=(q.lt b hc.2).2;omega⟩
   ·have hb3:role b ≠ .free:=by
     have:=hb;simp only at this;rw [if_neg hc] at this;exact this
    exact absurd (h.new (by omega)) hb3
open Classical in
theorem NetAt.setDel{w w1:World}{B nb:Nat}{role:Nat->Role}{N:NetM}(h:NetAt w B nb role N)(hB:B<=w.heap.size){row:Option Nat}(g1:w.grownBy w1 row)(hrow:∀b,row=some b->b<w.heap.size->role b=.del){v:Value}{L:List (Nat->Int)}
  (q:QRow 0 w1 46 6 v L.length (pksC L)) (hat:∀b,v.ownBlock=some b->b<w.heap.size->role b=.del):
  ∃role',(∀b,b<w.heap.size->role' b=role b)/\NetAt (w1.setCell ⟨nb,5,none⟩ v) B nb role' { N with delv:=v,del:=L }:=by
 obtain ⟨cur,c1,c2,c3⟩:=h.dev;have hdbl:N.db<w.heap.size:=(h.low N.db (by rw [h.dbR];exact fun e=>by cases e)).2;have hnbl:nb<w.heap.size:=(h.low nb (by rw [h.nbR];exact fun e=>by cases e)).2;have hne:∀b,b<w.heap.size->role b ≠ .del->some b≠row:=fun b hb hr e=>hr (hrow b e.symm hb)
 have hdr:some N.db≠row:=hne _ hdbl (by rw [h.dbR];exact fun e=>by cases e);have hnr:some nb≠row:=hne _ hnbl (by rw [h.nbR];exact fun e=>by cases e);have e1:=h.net;rw [<-g1.block nb hnbl hnr] at e1;obtain ⟨w2,hw2⟩:∃w2,w2=w1.setCell ⟨nb,5,none⟩ v:=⟨_,rfl⟩;have g2:w1.grownBy w2 (some nb):=by rw [hw2];exact xjc _ _ _ _
 have e2:=xjh e1 5 v;rw [<-hw2] at e2 ⊢;obtain ⟨role',hrole⟩:∃role':Nat->Role,role'=fun b=>if w.heap.size<=b/\v.ownBlock=some b then .del else role b:=⟨_,rfl⟩
 have hold:∀b,b<w.heap.size->role' b=role b:=fun b hb=>by rw [hrole];exact if_neg (fun e=>by omega)
 have hs1:=g1.size;have hs2:=g2.size;have hdb2:∀b r,some nb=some b->r≠Role.net->role b≠r:=fun b r e hr=>by cases e;rw [h.nbR];exact fun e=>hr e.symm
 have two:∀{r:Role} {T:TypeId} {size:Nat} {v:Value} {n:Nat} {xs:List Value},r ≠ .del->r ≠ .net->RowAt w role r T size v n xs->RowAt w2 role' r T size v n xs:=by
  intro r T size v n xs hr1 hr2 hR;have a1:=hR.kept g1 (fun b e hb=>by rw [hrow b e hb];exact fun e=>hr1 e.symm);have a2:=a1.kept g2 (fun b e hb=>hdb2 b r e hr2);exact ⟨a2.q,fun b k=>by rw [hold b (hR.q.lt b k).2];exact hR.rl b k⟩
 have twoR:∀{r:Rl},RuAt w role r->RuAt w2 role' r:=by
  intro r hR;have a1:=hR.kept g1 (fun b e hb=>by rw [hrow b e hb];exact fun e=>by cases e);have a2:=a1.kept g2 (fun b e hb=>hdb2 b .ro e (fun e=>by cases e));exact ⟨a2.pk,fun b k=>⟨by rw [hold b (hR.rl b k).2];exact (hR.rl b k).1,(a2.rl b k).2⟩⟩
 refine ⟨role',hold,⟨by rw [hold nb hnbl];exact h.nbR,e2,by show role' N.db=_;rw [hold _ hdbl];exact h.dbR,⟨cur,?_,c2,c3⟩,fun s1 hs1=>⟨fun i hi=>two (fun e=>by cases e) (fun e=>by cases e) ((h.dvs s1 hs1).row i hi),fun r hm=>twoR ((h.dvs s1 hs1).ru r hm)⟩,⟨q.kept g2 (fun b e k=>?_),fun b k=>?_⟩,?_,fun b k=>?_,fun b hb=>?_,h.dsz⟩⟩
 ·have:some N.db≠some nb:=fun e=>by
   have e:=Option.some.inj e;have h1:=h.nbR;rw [<-e,h.dbR] at h1;cases h1
  show w2.heap[N.db]?=_;rw [g2.block N.db (by omega) this,g1.block N.db hdbl hdr,c1]
 ·cases e;have:=hat _ k hnbl;rw [h.nbR] at this;cases this
 ·by_cases hb:b<w.heap.size
  ·rw [hold b hb];exact hat b k hb
  ·rw [hrole];exact if_pos ⟨by omega,k⟩
 ·refine h.lnk.same (fun b k=>?_);have hb:=h.lnr b k;rw [g2.block b (by omega) (fun e=>hdb2 b .ro e.symm (fun e=>by cases e) hb.1),g1.block b hb.2 (hne b hb.2 (by rw [hb.1];exact fun e=>by cases e))]
 ·have hb:=h.lnr b k;exact ⟨by rw [hold b hb.2];exact hb.1,by omega⟩
 ·by_cases hb2:b<w.heap.size
  ·rw [hold b hb2] at hb;exact ⟨(h.low b hb).1,by omega⟩
  ·rw [hrole] at hb;by_cases hc:w.heap.size<=b/\v.ownBlock=some b
   ·exact ⟨by omega,by have:=(q.lt b hc.2).2;omega⟩
   ·have hb3:role b ≠ .free:=by
     have:=hb;simp only at this;rw [if_neg hc] at this;exact this
    exact absurd (h.new (by omega)) hb3
open Classical in
theorem NetAt.mark{w:World}{B nb:Nat}{role:Nat->Role}{N:NetM}(h:NetAt w B nb role N)(P:Nat->Prop)(hP:∀b,P b->role b=.free/\B<=b/\b<w.heap.size):NetAt w B nb (fun b=>if P b then .ro else role b) N/\∀b,role b ≠ .free->(if P b then Role.ro else role b)=role b:=by
 have hk:∀b,role b ≠ .free->(if P b then Role.ro else role b)=role b:=fun b hb=>if_neg (fun e=>hb (hP b e).1)
 have key:∀b r,role b=r->r ≠ .free->(if P b then Role.ro else role b)=r:=fun b r e hr=>by rw [hk b (by rw [e];exact hr),e]
 refine ⟨⟨key _ _ h.nbR (fun e=>by cases e),h.net,key _ _ h.dbR (fun e=>by cases e),h.dev,fun s hs=>⟨fun j hj=>⟨((h.dvs s hs).row j hj).q,fun b k=>key b _ (((h.dvs s hs).row j hj).rl b k) (fun e=>by cases e)⟩,fun r hm=>⟨((h.dvs s hs).ru r hm).pk,fun b k=>⟨key b _ (((h.dvs s hs).ru r hm).rl b k).1 (fun e=>by cases e),(((h.dvs s hs).ru r hm).rl b k).2⟩⟩⟩,⟨h.dels.q,fun b k=>key b _ (h.dels.rl b k) (fun e=>by cases e)⟩,h.lnk,fun b k=>⟨key b _ (h.lnr b k).1 (fun e=>by cases e),(h.lnr b k).2⟩,fun b hb=>?_,h.dsz⟩,hk⟩;by_cases hp:P b
 ·exact (hP b hp).2
 ·rw [if_neg hp] at hb;exact h.low b hb
def fl(ps:Nat->Nat->Int):Nat->List Value
 | 0=>[]
 | n+1=>fl ps n++pkCs (ps n)
theorem xht(ps:Nat->Nat->Int):∀n,(fl ps n).length=n*6
 | 0=>rfl
 | n+1=>by rw [fl,List.length_append,xht ps n];simp [pkCs];omega
theorem pkCs_get?(k:Nat->Int)(i:Nat)(h:i<6):(pkCs k)[i]?=some (.int .i64 (k i)):=by
 rcases (show i=0\/i=1\/i=2\/i=3\/i=4\/i=5 by omega) with rfl|rfl|rfl|rfl|rfl|rfl<;>rfl
theorem xhs(ps:Nat->Nat->Int):∀n j i,j<n->i<6->(fl ps n)[j*6+i]?=some (.int .i64 (ps j i))
 | 0,_,_,h,_=>by omega
 | n+1,j,i,h,hi=>by
  rw [fl];by_cases e:j=n
  ·subst e;rw [List.getElem?_append_right (by rw [xht];omega),xht,show j*6+i-j*6=i by omega,pkCs_get? _ _ hi]
  ·rw [List.getElem?_append_left (by rw [xht];omega)];exact xhs ps n j i (by omega) hi
theorem xhu(ps:Nat->Nat->Int)(n:Nat):∀v∈fl ps n,v.oneCell'=true:=by
 induction n with
 | zero=>intro v hv;simp [fl] at hv
 | succ n ih=>
  intro v hv;rw [fl,List.mem_append] at hv;rcases hv with h|h
  ·exact ih v h
  ·simp [pkCs] at h;rcases h with rfl|rfl|rfl|rfl|rfl|rfl<;>rfl
theorem xhr{ps qs:Nat->Nat->Int}:∀{n:Nat},(∀j,j<n->∀i,i<6->ps j i=qs j i)->fl ps n=fl qs n
 | 0,_=>rfl
 | n+1,h=>by
  rw [fl,fl,xhr (n:=n) (fun j hj=>h j (by omega))];unfold pkCs;rw [h n (by omega) 0 (by omega),h n (by omega) 1 (by omega),h n (by omega) 2 (by omega),h n (by omega) 3 (by omega),h n (by omega) 4 (by omega),h n (by omega) 5 (by omega)]
def cat(n:Nat)(ps qs:Nat->Nat->Int):Nat->Nat->Int:=fun j=>if j<n then ps j else qs (j-n)
theorem xhq(ps qs:Nat->Nat->Int)(n:Nat):∀m,fl (cat n ps qs) (n+m)=fl ps n++fl qs m
 | 0=>by
  rw [Nat.add_zero,fl,List.append_nil];exact xhr (fun j hj i hi=>by unfold cat;rw [if_pos hj])
 | m+1=>by
  rw [<-Nat.add_assoc,fl,xhq ps qs n m,fl,List.append_assoc];unfold cat;rw [if_neg (by omega),Nat.add_sub_cancel_left]
theorem OwnV.owns{B:Nat}{w:World}{v:Value}{n:Nat}{d:Nat->Nat->Int}(h:OwnV B w v n d):w.ownsRow B 46 6 v n (fl d n):=by
 rcases h with ⟨rfl,rfl⟩|⟨g,cap,h1,rfl,cur,g1,g2,g3,g4,g5⟩
 ·exact ⟨rfl,.inl ⟨rfl,rfl⟩⟩
 ·refine ⟨xht d n,.inr ⟨g,cap,cur,rfl,h1,g1,g3,by unfold maxLen;omega,g2,?_⟩⟩;apply List.ext_getElem?;intro t;by_cases ht:t<n*6
  ·rw [List.getElem?_take_of_lt ht,Array.getElem?_toList];have h1:=g5 (t/6) (by omega) (t%6) (by omega);have h2:=xhs d n (t/6) (t%6) (by omega) (by omega);rw [show t/6*6+t%6=t by omega] at h1 h2;rw [h1,h2]
  ·rw [List.getElem?_eq_none (by rw [List.length_take];omega),List.getElem?_eq_none (by rw [xht];omega)]
theorem OwnV.of{B:Nat}{w:World}{v:Value}{n:Nat}{d:Nat->Nat->Int}(h:w.ownsRow B 46 6 v n (fl d n))(hn:n<=3000000000000):OwnV B w v n d:=by
 rcases h.2 with ⟨h1,h2⟩|⟨g,cap,cur,h1,h2,h3,h4,h5,h6,h7⟩
 ·exact .inl ⟨h1,h2⟩
 ·refine .inr ⟨g,cap,h2,h1,cur,h3,h6,h4,⟨by unfold maxLen at h5;omega,hn⟩,fun j hj i hi=>?_⟩;have:=xhs d n j i hj hi;rw [<-h7,List.getElem?_take_of_lt (by omega),Array.getElem?_toList] at this;exact this
theorem OwnV.row{B:Nat}{w:World}{v:Value}{n:Nat}{d:Nat->Nat->Int}(h:OwnV B w v n d):PkRow w v n d:=by
 rcases h with h|⟨g,cap,_,rfl,h⟩
 ·exact .inl h
 ·exact h.row
theorem OwnV.slice{B:Nat}{w:World}{v:Value}{n:Nat}{d:Nat->Nat->Int}(h:OwnV B w v n d):∃a c,v=.slice a n c:=by
 rcases h with ⟨rfl,rfl⟩|⟨g,cap,_,rfl,h⟩
 ·exact ⟨_,_,rfl⟩
 ·exact ⟨_,_,rfl⟩
theorem OwnV.grown{B:Nat}{w w':World}{v:Value}{n:Nat}{d:Nat->Nat->Int}{row:Option Nat}(h:OwnV B w v n d)(hg:w.grownBy w' row)(hr:∀b,row=some b->v.ownBlock≠some b):OwnV B w' v n d:=by
 rcases h with h|⟨g,cap,h1,h2,h3⟩
 ·exact .inl h
 ·refine .inr ⟨g,cap,h1,h2,h3.grown hg (fun e=>hr g e (by rw [h2];rfl))⟩
theorem OwnV.mono{B C:Nat}{w:World}{v:Value}{n:Nat}{d:Nat->Nat->Int}(h:OwnV B w v n d)(hc:C<=B):OwnV C w v n d:=by
 rcases h with h|⟨g,cap,h1,h2,h3⟩
 ·exact .inl h
 ·exact .inr ⟨g,cap,by omega,h2,h3⟩
theorem OwnV.cong{B:Nat}{w:World}{v:Value}{n:Nat}{d e:Nat->Nat->Int}(h:OwnV B w v n d)(he:∀j,j<n->∀i,i<6->d j i=e j i):OwnV B w v n e:=by
 rcases h with h|⟨g,cap,h1,h2,h3⟩
 ·exact .inl h
 ·exact .inr ⟨g,cap,h1,h2,h3.cong he⟩
theorem OwnV.nil(B:Nat)(w:World)(d:Nat->Nat->Int):OwnV B w (.slice none 0 0) 0 d:=.inl ⟨rfl,rfl⟩
theorem OwnV.lt{B:Nat}{w:World}{v:Value}{n:Nat}{d:Nat->Nat->Int}(h:OwnV B w v n d):∀b,v.ownBlock=some b->B<=b/\b<w.heap.size:=by
 intro b hb;rcases h with ⟨rfl,_⟩|⟨g,cap,h1,rfl,h3⟩
 ·cases hb
 ·cases hb;exact ⟨h1,h3.lt⟩
theorem x1d{ops:Array Oper}{rest:List Oper}{o:Oper}{a:Act}{Q:Exit->Act->World->Prop}(w:World)(hgd:o.guard=none)(s x:Operand)
  (ho:o.op=.call { callee:=.builtin .append,args:=#[s,x],argTypes:=#[29,29] })
  (B:Nat) (v:Value) (n:Nat) (d:Nat->Nat->Int) (hs:a.eval s=v) (hown:OwnV B w v n d) (u:Value) (m:Nat) (qs:Nat->Nat->Int) (hx:a.eval x=u) (hsrc:PkR w u m qs) (hb:n+m<=2000000000000) (hB:B<=w.heap.size)
  (h:∀v' w',OwnV B w' v' (n+m) (cat n d qs)->w.grownBy w' v.ownBlock->(v'.ownBlock=v.ownBlock\/v'.ownBlock=some w.heap.size)->wpList Tryz.prog ops Q rest (a.put o.dst v') w'):
  wpList Tryz.prog ops Q (o::rest) a w:=by
 obtain ⟨i0,hi,hz0,hz1,hz2⟩:=info_parts Tryz.infoPk6
 have key:∀ad c,u=.slice (some ad) m c->(∀j t,(fl qs m)[j]?=some t->w.cell? (ad.add j)=some t)->wpList Tryz.prog ops Q (o::rest) a w:=by
  intro ad c hu hc;refine wpList_append_own_at w hgd s x 29 ho B 46 i0 _ 6 48 Tryz.underlying29 hi hz0 hz1 hz2 rfl (by decide) v n (fl d n) hs hown.owns ad m c (fl qs m) (by rw [hx,hu]) (xht qs m) hc (xhu qs m) (by unfold maxLen;omega) (by omega) hB ?_;intro v' w' h1 h2 _ h4;rw [<-xhq] at h1;exact h v' w' (OwnV.of h1 (by omega)) h2 h4
 rcases hsrc with ⟨ao,c,hu,hm,hnone⟩|⟨g,off,cap,hu,hm,hc⟩
 ·subst hm;cases ao with
  | none=>
   obtain rfl:=hnone rfl;refine wpList_append_own_none hgd s x 29 ho B 46 i0 6 Tryz.underlying29 hi v n (fl d n) hs hown.owns (by rw [hx,hu]) ?_;exact h v w (hown.cong (fun j hj i hi=>by unfold cat;rw [if_pos hj])) (xjb _ _) (.inl rfl)
  | some ad=>exact key ad c hu (fun j t hj=>by simp [fl] at hj)
 ·refine key ⟨g,off,none⟩ cap hu (fun j t hj=>?_)
  have hlt:j<m*6:=by
   rcases Nat.lt_or_ge j (m*6) with e|e
   ·exact e
   ·rw [List.getElem?_eq_none (by rw [xht];exact e)] at hj;cases hj
  have h2:=xhs qs m (j/6) (j%6) (by omega) (by omega);rw [show j/6*6+j%6=j by omega,hj] at h2;rw [h2,show (⟨g,off,none⟩:Addr).add j=⟨g,off+j,none⟩ by unfold Addr.add;split<;>simp_all];have:=hc (j/6) (by omega) (j%6) (by omega);rw [show off+j/6*6+j%6=off+j by omega] at this;exact this
theorem xml{x y:Nat->Int}{j:Nat}(hj:j<6)(h:∀t,t<j->x t=y t)(hne:x j≠y j):ltP x y↔x j<y j:=by
 constructor
 ·rintro ⟨i,h1,h2,h3⟩;rcases Nat.lt_trichotomy i j with e|e|e
  ·rw [h i e] at h3;omega
  ·subst e;exact h3
  ·exact absurd (h2 j e) hne
 ·intro g;exact ⟨j,hj,h,g⟩
def rlV(p:Int)(mt:Nat->Int)(v:Value):Value:=.agg (rlA p mt v)
theorem xpp(w:World)(k:Nat->Int):PkR (w.alloc (.cells (pkA k) 46)) (.slice (some ⟨w.heap.size,0,none⟩) 1 1) 1 (fun _=>k):=
 .inr ⟨w.heap.size,0,1,rfl,by omega,fun j hj i hi=>by
  obtain rfl:j=0:=by omega
  rw [Nat.zero_mul,Nat.add_zero,Nat.zero_add];exact (pkBlk.alloc w k).cell i hi⟩
def xav(w:World)(v:Value)(T:TypeId):Prop:=∀b,v.ownBlock=some b->∃cur,w.heap[b]?=some (.cells cur T (0,0))
theorem OwnV.tagged{B:Nat}{w:World}{v:Value}{n:Nat}{d:Nat->Nat->Int}(h:OwnV B w v n d):xav w v 46:=by
 intro b hb;rcases h with ⟨rfl,_⟩|⟨g,cap,_,rfl,cur,h1,_⟩
 ·cases hb
 ·cases hb;exact ⟨cur,h1⟩
theorem xqn{w:World}{B:Nat}{T:TypeId}{size:Nat}{v:Value}{n:Nat}{xs:List Value}(h:w.ownsRow B T size v n xs):xav w v T:=by
 intro b hb;rcases h.2 with ⟨rfl,_⟩|⟨g,cap,cur,rfl,_,h1,_⟩
 ·cases hb
 ·cases hb;exact ⟨cur,h1⟩
def Kp(S:Nat->Prop)(w w':World):Prop:=w'.os=w.os/\w'.tape=w.tape/\w'.output=w.output/\w.heap.size<=w'.heap.size/\∀b,b<w.heap.size->¬S b->w'.heap[b]?=w.heap[b]?
theorem Kp.refl(S:Nat->Prop)(w:World):Kp S w w:=⟨rfl,rfl,rfl,Nat.le_refl _,fun _ _ _=>rfl⟩
theorem Kp.size{S:Nat->Prop}{w w':World}(h:Kp S w w'):w.heap.size<=w'.heap.size:=h.2.2.2.1
theorem Kp.step{S:Nat->Prop}{w w1 w2:World}{row:Option Nat}(h:Kp S w w1)(k:w1.grownBy w2 row)(hr:∀b,row=some b->S b\/w.heap.size<=b):Kp S w w2:=
 ⟨k.os.trans h.1,k.tape.trans h.2.1,k.output.trans h.2.2.1,Nat.le_trans h.size k.size,fun b hb hn=>by
  rw [k.block b (Nat.lt_of_lt_of_le hb h.size) (fun e=>by
   rcases hr b e.symm with c|c
   ·exact hn c
   ·omega)]
  exact h.2.2.2.2 b hb hn⟩
def blkT(w:World)(b:Nat)(T:TypeId):Prop:=∃cur,w.heap[b]?=some (.cells cur T (0,0))
theorem blkT.ne{w:World}{b c:Nat}{T U:TypeId}(h:blkT w b T)(g:blkT w c U)(hne:T≠U):b≠c:=by
 rintro rfl;obtain ⟨c1,h1⟩:=h;obtain ⟨c2,h2⟩:=g;rw [h1] at h2;cases h2;exact hne rfl
theorem xqi{w w':World}{B:Nat}{T U:TypeId}{size:Nat}{v:Value}{n:Nat}{xs:List Value}{row:Option Nat}(h:w.ownsRow B T size v n xs)(hg:w.grownBy w' row)(ht:∀b,row=some b->blkT w b U)(hU:U≠T):w'.ownsRow B T size v n xs:=by
 refine h.kept hg ?_;cases hv:v.ownBlock with
 | none=>exact .inl rfl
 | some b=>
  right;intro e;exact (ht b e.symm).ne (xqn h b hv) hU rfl
theorem xqa{w w':World}{B:Nat}{U:TypeId}{v:Value}{n:Nat}{d:Nat->Nat->Int}{row:Option Nat}(h:OwnV B w v n d)(hg:w.grownBy w' row)(ht:∀b,row=some b->blkT w b U)(hU:U≠46):OwnV B w' v n d:=
 h.grown hg (fun b e hb=>((ht b e).ne (h.tagged b hb) hU) rfl)
structure Msg where
 kind:Int
 prio:Int
 mt:Nat->Int
 na:Nat
 acts:Nat->Nat->Int
 np:Nat
 pks:Nat->Nat->Int
def xos(m:Msg):Prop:=m.prio=0/\(∀i,i<6->m.mt i=0)/\m.na=0
def ruleS(m:Msg):Prop:=0<=m.prio/\m.prio<=65535/\openS m.mt/\∀j,j<m.na->openS (m.acts j)
def msgS(m:Msg):Prop:=
 (m.kind=1/\ruleS m/\m.np=0)\/(m.kind=4/\xos m/\m.np=1/\∀j,j<m.np->xtx (m.pks j))\/(m.kind=5/\xos m/\∀j,j<m.np->xtx (m.pks j))\/
 ((m.kind=2\/m.kind=3\/m.kind=6)/\xos m/\m.np=0)
def ruleV(m:Msg)(av:Value):Value:=.agg #[.int .i64 m.prio,.int .i64 (m.mt 0),.int .i64 (m.mt 1),.int .i64 (m.mt 2),.int .i64 (m.mt 3),.int .i64 (m.mt 4),.int .i64 (m.mt 5),av]
def msgV(m:Msg)(av pv:Value):Value:=.agg #[.int .i64 m.kind,.int .i64 m.prio,.int .i64 (m.mt 0),.int .i64 (m.mt 1),.int .i64 (m.mt 2),.int .i64 (m.mt 3),.int .i64 (m.mt 4),.int .i64 (m.mt 5),av,pv]
theorem PkRow.slice{w:World}{v:Value}{n:Nat}{ps:Nat->Nat->Int}(h:PkRow w v n ps):∃a cap,v=.slice a n cap:=by
 rcases h with ⟨rfl,rfl⟩|⟨g,off,cap,rfl,_⟩
 ·exact ⟨_,_,rfl⟩
 ·exact ⟨_,_,rfl⟩
theorem PkRow.few{w:World}{v:Value}{n:Nat}{ps:Nat->Nat->Int}(h:PkRow w v n ps):n<=3000000000000:=by
 rcases h with ⟨rfl,rfl⟩|⟨g,off,cap,rfl,h,_⟩<;>omega
theorem xgn(a0 a1 a2 a3 a4 a5 b0 b1 b2 b3 b4 b5:Int):eq6 a0 a1 a2 a3 a4 a5 b0 b1 b2 b3 b4 b5=true↔a0=b0/\a1=b1/\a2=b2/\a3=b3/\a4=b4/\a5=b5:=by
 simp [eq6]
theorem all6(p:Nat->Prop):(∀i,i<6->p i)↔p 0/\p 1/\p 2/\p 3/\p 4/\p 5:=by
 constructor
 ·intro h;exact ⟨h 0 (by omega),h 1 (by omega),h 2 (by omega),h 3 (by omega),h 4 (by omega),h 5 (by omega)⟩
 ·rintro ⟨h0,h1,h2,h3,h4,h5⟩ i hi;rcases (show i=0\/i=1\/i=2\/i=3\/i=4\/i=5 by omega) with rfl|rfl|rfl|rfl|rfl|rfl<;>assumption
theorem xvl{p:Prop}{w w':World}(h:¬p)(hg:w.grownBy w' none):Says p w (.returned (.bool false)) w':=⟨⟨false,rfl,⟨fun e=>(by cases e),fun e=>absurd e h⟩⟩,hg⟩
theorem xvn{p:Prop}{w w':World}(h:p)(hg:w.grownBy w' none):Says p w (.returned (.bool true)) w':=⟨⟨true,rfl,⟨fun _=>h,fun _=>rfl⟩⟩,hg⟩
theorem xvk{p:Prop}{w w':World}{b:Bool}(hb:b=false)(h:¬p)(hg:w.grownBy w' none):Says p w (.returned (.bool b)) w':=by subst hb;exact xvl h hg
theorem xvm{p:Prop}{w w':World}{b:Bool}(hb:b=true)(h:p)(hg:w.grownBy w' none):Says p w (.returned (.bool b)) w':=by subst hb;exact xvn h hg
theorem xvi{p q:Prop}{w w':World}{b:Bool}(h:b=true↔q)(hpq:q↔p)(hg:w.grownBy w' none):Says p w (.returned (.bool b)) w':=⟨⟨b,rfl,h.trans hpq⟩,hg⟩
theorem xot(m:Msg)(a:Option Addr)(cap:Nat)(w:World):Calls Tryz.prog 279 #[ruleV m (.slice a m.na cap)] w (Says (xos m) w):=by
 obtain ⟨kind,p,mt,na,acts,np,pks⟩:=m;unfold ruleV xos;simp only;generalize hP:(p=0/\(∀i,i<6->mt i=0)/\na=0)=P;have HP:=hide hP;clear hP;have H6:=hide (xgn (mt 0) (mt 1) (mt 2) (mt 3) (mt 4) (mt 5) 0 0 0 0 0 0);by_cases h0:p=0
 ·have H0:=hide h0;have h1:p<=0:=by omega
  have h2:0<=p:=by omega
  clear h0;cases h3:eq6 (mt 0) (mt 1) (mt 2) (mt 3) (mt 4) (mt 5) 0 0 0 0 0 0 with
  | false=>
   rw [h3] at H6;go_enter Tryz.func279,Tryz.ntmps279;go_wp2;go_ret;exact xvl (fun h=>by rw [<-HP.out] at h;have:=H6.out.2 ((all6 (fun i=>mt i=0)).1 h.2.1);simp at this) (World.grownBy_alloc _ _ _)
  | true=>
   rw [h3] at H6;by_cases h4:na=0
   ·have H4:=hide h4;have h5:na<=0:=by omega
    clear h4;go_enter Tryz.func279,Tryz.ntmps279;go_wp2;go_ret;exact xvm (by simp [H4.out]) (by rw [<-HP.out];exact ⟨H0.out,(all6 (fun i=>mt i=0)).2 (H6.out.1 (by simp)),H4.out⟩) (World.grownBy_alloc _ _ _)
   ·go_enter Tryz.func279,Tryz.ntmps279;go_wp2;go_ret;exact xvk (by simp [h4]) (fun h=>by rw [<-HP.out] at h;exact h4 h.2.2) (World.grownBy_alloc _ _ _)
 ·go_enter Tryz.func279,Tryz.ntmps279;go_wp2;go_ret;exact xvl (fun h=>by rw [<-HP.out] at h;exact h0 h.1) (World.grownBy_alloc _ _ _)
theorem xtw(m:Msg)(av:Value)(w:World)(hav:PkRow w av m.na m.acts):Calls Tryz.prog 278 #[ruleV m av] w (Says (ruleS m) w):=by
 obtain ⟨kind,p,mt,na,acts,np,pks⟩:=m;unfold ruleV ruleS;simp only at hav ⊢;have HAV:=hide hav;have HM:=hide (fun w=>xra mt w);have HA:=hide (fun w h=>xbx openS xra av na acts w h);clear hav;unfold pkV pkA at HM;by_cases h0:0<=p
 ·by_cases h1:p<=65535
  ·go_enter Tryz.func278,Tryz.ntmps278;go_wp2_with fail;refine (HM.out _).mono ?_;rintro e w1 ⟨⟨b,rfl,hb⟩,hg1⟩;have G1:=hide hg1;have HB:=hide hb;have c7:w1.cell? ⟨w.heap.size,7,none⟩=some av:=hg1.cell (by simp) (by simp);clear hb hg1;cases b
   ·go_wp2;go_ret;exact ⟨⟨false,rfl,by simp;intro _ _ hh;have:=HB.out.2 hh;simp at this⟩,xje (World.grownBy_alloc _ _ _) G1.out⟩
   ·go_wp2_with fail;refine (HA.out _ (HAV.out.grown (xje (World.grownBy_alloc _ _ _) G1.out))).mono ?_;rintro e w2 ⟨⟨b,rfl,hb⟩,hg2⟩;have G2:=hide hg2;have HB2:=hide hb;clear hb hg2;go_wp2;go_ret
    exact ⟨⟨b,rfl,by rw [HB2.out];constructor
                     ·intro h;exact ⟨h0,h1,HB.out.1 (by simp),h⟩
                     ·intro h;exact h.2.2.2⟩,xje (xje (World.grownBy_alloc _ _ _) G1.out) G2.out⟩
  ·go_enter Tryz.func278,Tryz.ntmps278;go_wp2;go_ret;exact ⟨⟨false,rfl,by simp;intro _ e;omega⟩,World.grownBy_alloc _ _ _⟩
 ·go_enter Tryz.func278,Tryz.ntmps278;go_wp2;go_ret;exact ⟨⟨false,rfl,by simp;intro e;omega⟩,World.grownBy_alloc _ _ _⟩
theorem xts(m:Msg)(a b:Option Addr)(ca cb:Nat)(w:World)(hav:PkRow w (.slice a m.na ca) m.na m.acts)(hk:m.kind=1):
  Calls Tryz.prog 267 #[msgV m (.slice a m.na ca) (.slice b m.np cb)] w (Says (ruleS m/\m.np=0) w):=by
 generalize hP:(ruleS m/\m.np=0)=P;have HP:=hide hP;clear hP;have HR:=hide (fun w h=>xtw m (.slice a m.na ca) w h);have HAV:=hide hav;clear hav;obtain ⟨kind,p,mt,na,acts,np,pks⟩:=m;unfold ruleV at HR;unfold msgV;simp only at hk HR HAV HP ⊢;subst hk;generalize (Msg.mk 1 p mt na acts np pks)=m at *;go_enter Tryz.func267,Tryz.ntmps267;go_wp2_with fail;refine (HR.out _ (HAV.out.grown (World.grownBy_alloc _ _ _))).mono ?_;rintro e w1 ⟨⟨b,rfl,hb⟩,hg1⟩;have G1:=hide hg1;have HB:=hide hb;have c9:w1.cell? ⟨w.heap.size,9,none⟩=some (.slice _ np cb):=hg1.cell (by simp;rfl) (by simp);clear hb hg1;cases b
 ·go_wp2;go_ret;exact xvl (fun h=>by rw [<-HP.out] at h;have:=HB.out.2 h.1;simp at this) (xje (World.grownBy_alloc _ _ _) G1.out)
 ·by_cases h4:np=0
  ·have H4:=hide h4;have h5:np<=0:=by omega
   clear h4;go_wp2;go_ret;exact xvm (by simp [H4.out]) (by rw [<-HP.out];exact ⟨HB.out.1 (by simp),H4.out⟩) (xje (World.grownBy_alloc _ _ _) G1.out)
  ·go_wp2;go_ret;exact xvk (by simp [h4]) (fun h=>by rw [<-HP.out] at h;exact h4 h.2) (xje (World.grownBy_alloc _ _ _) G1.out)
theorem xtt(m:Msg)(a b:Option Addr)(ca cb:Nat)(w:World)(hk:m.kind=2\/m.kind=3\/m.kind=6):
  Calls Tryz.prog 267 #[msgV m (.slice a m.na ca) (.slice b m.np cb)] w (Says (xos m/\m.np=0) w):=by
 generalize hP:(xos m/\m.np=0)=P;have HP:=hide hP;clear hP;have HR:=hide (fun w=>xot m a ca w);obtain ⟨kind,p,mt,na,acts,np,pks⟩:=m;unfold ruleV at HR;unfold msgV;simp only at hk HR HP ⊢;generalize (Msg.mk kind p mt na acts np pks)=m at *;rcases hk with rfl|rfl|rfl
 all_goals
  go_enter Tryz.func267,Tryz.ntmps267;go_wp2_with fail;refine (HR.out _).mono ?_;rintro e w1 ⟨⟨b,rfl,hb⟩,hg1⟩;have G1:=hide hg1;have HB:=hide hb;have c9:w1.cell? ⟨w.heap.size,9,none⟩=some (.slice _ np cb):=hg1.cell (by simp;rfl) (by simp);clear hb hg1;cases b
  ·go_wp2;go_ret;exact xvl (fun h=>by rw [<-HP.out] at h;have:=HB.out.2 h.1;simp at this) (xje (World.grownBy_alloc _ _ _) G1.out)
  ·by_cases h4:np=0
   ·have H4:=hide h4;have h5:np<=0:=by omega
    clear h4;go_wp2;go_ret;exact xvm (by simp [H4.out]) (by rw [<-HP.out];exact ⟨HB.out.1 (by simp),H4.out⟩) (xje (World.grownBy_alloc _ _ _) G1.out)
   ·go_wp2;go_ret;exact xvk (by simp [h4]) (fun h=>by rw [<-HP.out] at h;exact h4 h.2) (xje (World.grownBy_alloc _ _ _) G1.out)
theorem xtv(m:Msg)(a b:Option Addr)(ca cb:Nat)(w:World)(hpv:PkRow w (.slice b m.np cb) m.np m.pks)(hk:m.kind=5):
  Calls Tryz.prog 267 #[msgV m (.slice a m.na ca) (.slice b m.np cb)] w (Says (xos m/\∀j,j<m.np->xtx (m.pks j)) w):=by
 generalize hP:(xos m/\∀j,j<m.np->xtx (m.pks j))=P;have HP:=hide hP;clear hP;have HR:=hide (fun w=>xot m a ca w);have HA:=hide (fun w h=>xby xtx xtz (.slice b m.np cb) m.np m.pks w h);have HPV:=hide hpv;clear hpv;obtain ⟨kind,p,mt,na,acts,np,pks⟩:=m;unfold ruleV at HR;unfold msgV;simp only at hk HR HA HPV HP ⊢;generalize (Msg.mk kind p mt na acts np pks)=m at *;subst hk;go_enter Tryz.func267,Tryz.ntmps267;go_wp2_with fail;refine (HR.out _).mono ?_;rintro e w1 ⟨⟨b,rfl,hb⟩,hg1⟩;have G1:=hide hg1;have HB:=hide hb;have c9:w1.cell? ⟨w.heap.size,9,none⟩=some (.slice _ np cb):=hg1.cell (by simp;rfl) (by simp);clear hb hg1;cases b
 ·go_wp2;go_ret;exact xvl (fun h=>by rw [<-HP.out] at h;have:=HB.out.2 h.1;simp at this) (xje (World.grownBy_alloc _ _ _) G1.out)
 ·go_wp2_with fail;refine (HA.out _ (HPV.out.grown (xje (World.grownBy_alloc _ _ _) G1.out))).mono ?_;rintro e w2 ⟨⟨b,rfl,hb⟩,hg2⟩;have G2:=hide hg2;have HB2:=hide hb;clear hb hg2;go_wp2;go_ret;exact xvi HB2.out (by rw [<-HP.out];exact ⟨fun h=>⟨HB.out.1 (by simp),h⟩,fun h=>h.2⟩) (xje (xje (World.grownBy_alloc _ _ _) G1.out) G2.out)
theorem xtu(m:Msg)(a b:Option Addr)(ca cb:Nat)(w:World)(hpv:PkRow w (.slice b m.np cb) m.np m.pks)(hk:m.kind=4):
  Calls Tryz.prog 267 #[msgV m (.slice a m.na ca) (.slice b m.np cb)] w (Says (xos m/\m.np=1/\∀j,j<m.np->xtx (m.pks j)) w):=by
 generalize hP:(xos m/\m.np=1/\∀j,j<m.np->xtx (m.pks j))=P;have HP:=hide hP;clear hP;have HR:=hide (fun w=>xot m a ca w);have HA:=hide (fun w h=>xby xtx xtz (.slice b m.np cb) m.np m.pks w h);have HPV:=hide hpv;clear hpv;obtain ⟨kind,p,mt,na,acts,np,pks⟩:=m;unfold ruleV at HR;unfold msgV;simp only at hk HR HA HPV HP ⊢;generalize (Msg.mk kind p mt na acts np pks)=m at *;subst hk;go_enter Tryz.func267,Tryz.ntmps267;go_wp2_with fail;refine (HR.out _).mono ?_;rintro e w1 ⟨⟨b,rfl,hb⟩,hg1⟩;have G1:=hide hg1;have HB:=hide hb;have c9:w1.cell? ⟨w.heap.size,9,none⟩=some (.slice _ np cb):=hg1.cell (by simp;rfl) (by simp);clear hb hg1;cases b
 ·go_wp2;go_ret;exact xvl (fun h=>by rw [<-HP.out] at h;have:=HB.out.2 h.1;simp at this) (xje (World.grownBy_alloc _ _ _) G1.out)
 ·by_cases h4:np=1
  ·have H4:=hide h4;have h5:np<=1:=by omega
   have h6:1<=np:=by omega
   clear h4;go_wp2_with fail;refine (HA.out _ (HPV.out.grown (xje (World.grownBy_alloc _ _ _) G1.out))).mono ?_;rintro e w2 ⟨⟨b,rfl,hb⟩,hg2⟩;have G2:=hide hg2;have HB2:=hide hb;clear hb hg2;go_wp2;go_ret;exact xvi HB2.out (by rw [<-HP.out];exact ⟨fun h=>⟨HB.out.1 (by simp),H4.out,h⟩,fun h=>h.2.2⟩) (xje (xje (World.grownBy_alloc _ _ _) G1.out) G2.out)
  ·go_wp2;go_ret;exact xvl (fun h=>by rw [<-HP.out] at h;exact h4 h.2.1) (xje (World.grownBy_alloc _ _ _) G1.out)
theorem xtr(m:Msg)(a b:Option Addr)(ca cb:Nat)(w:World)(h1:m.kind≠1)(h2:m.kind≠2)(h3:m.kind≠3)(h4:m.kind≠4)(h5:m.kind≠5)(h6:m.kind≠6):
  Calls Tryz.prog 267 #[msgV m (.slice a m.na ca) (.slice b m.np cb)] w (Says False w):=by
 obtain ⟨kind,p,mt,na,acts,np,pks⟩:=m;unfold msgV;simp only at h1 h2 h3 h4 h5 h6 ⊢;go_enter Tryz.func267,Tryz.ntmps267;go_wp2;go_ret;exact xvl id (World.grownBy_alloc _ _ _)
theorem Says.cast{p q:Prop}{w:World}(h:p↔q):Says p w=Says q w:=by rw [propext h]
theorem xnx(m:Msg)(a b:Option Addr)(ca cb:Nat)(w:World)(hav:PkRow w (.slice a m.na ca) m.na m.acts)(hpv:PkRow w (.slice b m.np cb) m.np m.pks):
  Calls Tryz.prog 267 #[msgV m (.slice a m.na ca) (.slice b m.np cb)] w (Says (msgS m) w):=by
 by_cases h1:m.kind=1
 ·rw [<-Says.cast (p:=ruleS m/\m.np=0) (by unfold msgS;simp [h1])];exact xts m a b ca cb w hav h1
 by_cases h2:m.kind=2
 ·rw [<-Says.cast (p:=xos m/\m.np=0) (by unfold msgS;simp [h2])];exact xtt m a b ca cb w (.inl h2)
 by_cases h3:m.kind=3
 ·rw [<-Says.cast (p:=xos m/\m.np=0) (by unfold msgS;simp [h3])];exact xtt m a b ca cb w (.inr (.inl h3))
 by_cases h4:m.kind=4
 ·rw [<-Says.cast (p:=xos m/\m.np=1/\∀j,j<m.np->xtx (m.pks j)) (by unfold msgS;simp [h4])];exact xtu m a b ca cb w hpv h4
 by_cases h5:m.kind=5
 ·rw [<-Says.cast (p:=xos m/\∀j,j<m.np->xtx (m.pks j)) (by unfold msgS;simp [h5])];exact xtv m a b ca cb w hpv h5
 by_cases h6:m.kind=6
 ·rw [<-Says.cast (p:=xos m/\m.np=0) (by unfold msgS;simp [h6])];exact xtt m a b ca cb w (.inr (.inr h6))
 ·rw [<-Says.cast (p:=False) (by unfold msgS;simp [h1,h2,h3,h4,h5,h6])];exact xtr m a b ca cb w h1 h2 h3 h4 h5 h6
theorem Tryz.infoU8:(Tryz.prog.info? 5).map (fun i=>(i.zero,i.size,i.bytes))=some (some (.int .u8 0),1,1):=by kernel_rfl
def BRow(base:Nat)(w:World)(v:Value)(bs:List Int):Prop:=w.ownsRow base 5 1 v bs.length (bs.map (Value.int .u8))
def Gives(base:Nat)(bs:List Int)(w:World)(e:Ending)(w':World):Prop:=∃v,e=.returned v/\BRow base w' v bs/\Below base w w'
def twoB(n:Int):List Int:=[n/256%256,n%256]
def pkB(k:Nat->Int):List Int:=[k 0%256,k 1%256,k 2%256,k 3%256,k 4%256,k 5%256]
def pksB(n:Nat)(ps:Nat->Nat->Int):List Int:=(List.range n).flatMap fun j=>pkB (ps j)
theorem xru(n:Nat)(ps:Nat->Nat->Int):pksB (n+1) ps=pksB n ps++pkB (ps n):=by simp [pksB,List.range_succ]
theorem xrs(n:Nat)(ps:Nat->Nat->Int):(pksB n ps).length=6*n:=by
 induction n with
 | zero=>rfl
 | succ n ih=>rw [xru,List.length_append,ih];simp [pkB];omega
theorem xec(w:World)(x y:Value)(t:TypeId):∀j u,[x,y][j]?=some u->(w.alloc (.cells #[x,y] t)).cell? ((⟨w.heap.size,0,none⟩:Addr).add j)=some u:=by
 intro j u h;have hj:j<2:=by have:=(List.getElem?_eq_some_iff.1 h).1;simpa using this
 have e:(⟨w.heap.size,0,none⟩:Addr).add j=⟨w.heap.size,j,none⟩:=by unfold Addr.add;split<;>simp_all
 rw [e];rcases (show j=0\/j=1 by omega) with rfl|rfl<;>(simp at h;subst h;simp)
def OwnIn(w:World)(v vb:Value):Prop:=vb.ownBlock=v.ownBlock\/∃k,vb.ownBlock=some k/\w.heap.size<=k
theorem xqg{base:Nat}{w wr w1 w2:World}{v vb v':Value}{bs cs:List Int}{n:Nat}(h:BRow base wr vb bs)(hw:w.grownBy wr v.ownBlock)(ho:OwnIn w v vb)(hg:wr.grownBy w1 none)(hg2:w1.grownBy w2 vb.ownBlock)
  (hat:v'.ownBlock=vb.ownBlock\/v'.ownBlock=some w1.heap.size) (ho':w2.ownsRow base 5 1 v' n (bs.map (Value.int .u8)++cs.map (Value.int .u8))) (hn:n=bs.length+cs.length):
  BRow base w2 v' (bs++cs)/\w.grownBy w2 v.ownBlock/\OwnIn w v v':=by
 refine ⟨?_,?_,?_⟩
 ·unfold BRow;rw [List.map_append,List.length_append,<-hn];exact ho'
 ·refine ⟨hg2.os.trans (hg.os.trans hw.os),hg2.tape.trans (hg.tape.trans hw.tape),hg2.output.trans (hg.output.trans hw.output),Nat.le_trans hw.size (Nat.le_trans hg.size hg2.size),fun k hk hne=>?_⟩;rw [hg2.block k (Nat.lt_of_lt_of_le hk (Nat.le_trans hw.size hg.size)) (fun e=>?_),hg.block k (Nat.lt_of_lt_of_le hk hw.size) (by simp),hw.block k hk hne];rcases ho with ho|⟨q,ho,hq⟩
  ·exact hne (e.trans ho)
  ·rw [ho] at e;cases e;omega
 ·rcases hat with hat|hat
  ·rcases ho with ho|⟨q,ho,hq⟩
   ·exact .inl (hat.trans ho)
   ·exact .inr ⟨q,hat.trans ho,hq⟩
  ·exact .inr ⟨_,hat,Nat.le_trans hw.size hg.size⟩
theorem xi6{base:Nat}{w w':World}{v:Value}{bs:List Int}(h:BRow base w v bs)(hg:w.grownBy w' v.ownBlock)(hb:base<=w.heap.size):Below base w w':=
 (Below.refl base w).grown hg hb (fun k e=>(h.lt k e).1)
theorem BRow.kept{base:Nat}{w w':World}{v:Value}{bs:List Int}(h:BRow base w v bs)(hg:w.grownBy w' none):BRow base w' v bs:=
 World.ownsRow.kept h hg (by cases hv:Value.ownBlock _<;>simp)
def xa1(base:Nat)(v:Value)(bs:List Int)(w:World)(e:Ending)(w':World):Prop:=∃v',e=.returned v'/\BRow base w' v' bs/\w.grownBy w' v.ownBlock/\OwnIn w v v'
theorem xbj(base:Nat)(v:Value)(bs:List Int)(n:Int)(w:World)(h:BRow base w v bs)(hb:base<=w.heap.size)(hl:bs.length<=100000000000000):
  Calls Tryz.prog 269 #[v,.int .i64 n] w (xa1 base v (bs++twoB n) w):=by
 obtain ⟨i0,hi0,hz0,hz1,hz2⟩:=info_parts Tryz.infoU8;have H:=hide h;clear h;go_enter Tryz.func269,Tryz.ntmps269;go_wp2_with (at_builtin;refine wpList_append_own_at _ rfl _ _ 227 rfl base 5 i0 _ 1 1 Tryz.underlying227 hi0 hz0 hz1 hz2 rfl (by decide) _ _ _ rfl (World.ownsRow.alloc H.out _) ⟨w.heap.size,0,none⟩ 2 2 [.int .u8 (n/256%256),.int .u8 (n%256)] rfl rfl (xec _ _ _ _) ?d2 ?d3 ?d4 ?d5 ?_)
 case d2=>intro u hu;simp only [List.mem_cons,List.not_mem_nil,or_false] at hu;rcases hu with rfl|rfl<;>rfl
 case d3=>unfold maxLen;omega
 case d4=>omega
 case d5=>simp;omega
 intro v' w2 hown' hgrow _ hat;have S:=hide (xqg (v:=v) (cs:=twoB n) H.out (xjb _ _) (.inl rfl) (World.grownBy_alloc _ _ _) hgrow (by simpa using hat) hown' (by simp [twoB]));clear hown' hgrow hat;go_wp2;go_ret;exact ⟨_,rfl,S.out.1,S.out.2.1,S.out.2.2⟩
theorem xrm(k:Nat->Int)(i:Nat)(h:i<6):(pkB k).take (i+1)=(pkB k).take i++[k i%256]:=by
 rcases (show i=0\/i=1\/i=2\/i=3\/i=4\/i=5 by omega) with rfl|rfl|rfl|rfl|rfl|rfl<;>rfl
theorem xbi(base:Nat)(v v2:Value)(bs:List Int)(n:Nat)(ps:Nat->Nat->Int)(w:World)(h:BRow base w v bs)(hb:base<=w.heap.size)(hl:bs.length<=1000)(hr:PkRow w v2 n ps)
  (hne:∀g off cap,v2=.slice (some ⟨g,off,none⟩) n cap->v.ownBlock≠some g):
  Calls Tryz.prog 281 #[v,v2] w (xa1 base v (bs++pksB n ps) w):=by
 obtain ⟨i0,hi0,hz0,hz1,hz2⟩:=info_parts Tryz.infoU8;have H:=hide h;clear h;rcases hr with ⟨rfl,rfl⟩|⟨g,off,cap,rfl,hn,hcell⟩
 ·go_enter Tryz.func281,Tryz.ntmps281;go_wp2;go_loopw [0,11] (fun vb i wr=>vb=v/\i=.int .i64 0/\wr=w) (fun _ i _=>0)
  case atStart=>exact ⟨rfl,rfl,rfl⟩
  case round=>
   obtain ⟨rfl,rfl,rfl⟩:=hrel;go_wp2;go_ret;exact ⟨_,rfl,by simpa [pksB] using H.out,xjb _ _,.inl rfl⟩
 ·have HC:=hide hcell;have hng:=hne g off cap rfl;have HNG:=hide hng;clear hcell hne hng;go_enter Tryz.func281,Tryz.ntmps281;go_wp2;go_loopw [0,11] (fun vb i wr=>∃j:Nat,j<=n/\i=.int .i64 j/\BRow base wr vb (bs++pksB j ps)/\w.grownBy wr v.ownBlock/\OwnIn w v vb) (fun _ i _=>n-(intOf i).toNat)
  case atStart=>exact ⟨0,by omega,rfl,by simpa [pksB] using H.out,xjb _ _,.inl rfl⟩
  case round=>
   obtain ⟨j,hj,rfl,hB,hg,ho⟩:=hrel;have HB:=hide hB;have HG:=hide hg;have HO:=hide ho;clear hB hg ho;by_cases hlt:j<n
   ·obtain ⟨k,hk⟩:∃k,k=ps j:=⟨_,rfl⟩;have cc:∀i,i<6->wr.cell? ⟨g,off+j*6+i,none⟩=some (.int .i64 (k i)):=fun i hi=>by rw [hk];exact HG.out.cell (HC.out j hlt i hi) HNG.out.symm
    have c0:=cc 0 (by omega);have c1:=cc 1 (by omega);have c2:=cc 2 (by omega);have c3:=cc 3 (by omega);have c4:=cc 4 (by omega);have c5:=cc 5 (by omega);rw [Nat.add_zero] at c0;have HK:=hide hk;clear hk cc;go_wp2;clear c0 c1 c2 c3 c4 c5;obtain ⟨wa,hwa⟩:∃wa,wa=wr.alloc (Obj.cells #[.int .i64 (k 0),.int .i64 (k 1),.int .i64 (k 2),.int .i64 (k 3),.int .i64 (k 4),.int .i64 (k 5)] 46):=⟨_,rfl⟩;have HGA:Hid (wr.grownBy wa none):=by rw [hwa];exact World.grownBy_alloc _ _ _
    rw [<-hwa];clear hwa;go_loopw [0,16] (fun vb i wr=>∃l:Nat,l<=6/\i=.int .i64 l/\BRow base wr vb ((bs++pksB j ps)++(pkB k).take l)/\w.grownBy wr v.ownBlock/\OwnIn w v vb) (fun _ i _=>6-(intOf i).toNat)
    case atStart=>
     refine ⟨0,by omega,rfl,?_,xja HG.out HGA.out (fun b e=>by cases e),HO.out⟩;have:=HB.out.kept HGA.out;rw [List.take_zero,List.append_nil];exact this
    case round=>
     obtain ⟨l,hl6,rfl,hB2,hg2,ho2⟩:=hrel;have HB2:=hide hB2;have HG2:=hide hg2;have HO2:=hide ho2;have hlen:(bs++pksB j ps++(pkB k).take l).length=bs.length+6*j+l:=by simp [xrs,pkB];omega
     clear hB2 hg2 ho2 HB HG HO HGA;by_cases hlt2:l<6
     ·obtain ⟨x,hx⟩:∃x,x=k l:=⟨_,rfl⟩;have hix:=Tryz.indexPk k l hlt2 wr;rw [<-hx] at hix;have HX:=hide hx;clear hx;obtain ⟨bb,hbb⟩:∃bb,bb=bs++pksB j ps++(pkB k).take l:=⟨_,rfl⟩;have HBB:=hide hbb;rw [<-hbb] at HB2 hlen;clear hbb;go_wp2_with (at_builtin;refine wpList_append_own_at _ rfl _ _ 227 rfl base 5 i0 _ 1 1 Tryz.underlying227 hi0 hz0 hz1 hz2 rfl (by decide) _ _ _ rfl (World.ownsRow.alloc HB2.out _) ⟨wr.heap.size,0,none⟩ 1 1 [.int .u8 (x%256)] rfl rfl (cell_one_new _ _ _) ?d2 ?d3 ?d4 ?d5 ?_)
      case d2=>intro u hu;simp only [List.mem_cons,List.not_mem_nil,or_false] at hu;subst hu;rfl
      case d3=>unfold maxLen;omega
      case d4=>omega
      case d5=>have:=HG2.out.size;simp;omega
      intro v' w2 hown' hgrow _ hat;have S:=hide (xqg (cs:=[x%256]) HB2.out HG2.out HO2.out (World.grownBy_alloc _ _ _) hgrow (by simpa using hat) hown' (by simp;omega));clear hown' hgrow hat;go_wp2;go_roundw
      case rel=>
       refine ⟨l+1,by omega,by go_num,?_,S.out.2.1,S.out.2.2⟩;rw [xrm k l hlt2,<-HX.out,<-List.append_assoc,<-HBB.out];exact S.out.1
      case measure=>simp [intOf];omega
     ·obtain rfl:l=6:=by omega
      go_wp2;go_roundw
      case rel=>
       refine ⟨j+1,by omega,by go_num,?_,HG2.out,HO2.out⟩;rw [xru,<-HK.out,<-List.append_assoc];exact HB2.out
      case measure=>simp [intOf];omega
   ·obtain rfl:j=n:=by omega
    go_wp2;go_ret;exact ⟨_,rfl,HB.out,HG.out,HO.out⟩
def bodyB(m:Msg):List Int:=
 if m.kind=1 then twoB m.prio++pkB m.mt++twoB m.na++pksB m.na m.acts
 else if m.kind=5 then twoB m.np++pksB m.np m.pks
 else pksB m.np m.pks
theorem BRow.nil(base:Nat)(w:World):BRow base w (.slice none 0 0) []:=World.ownsRow_nil _ _ _ _
theorem xrt(k:Nat->Int):pksB 1 (fun _=>k)=pkB k:=by simp [pksB]
def RowIn(base:Nat)(v:Value):Prop:=∀g off n cap,v=.slice (some ⟨g,off,none⟩) n cap->g<base
def xnw(w:World)(b:Nat)(kind p:Int)(mt:Nat->Int)(av pv:Value):Prop:=w.heap[b]?=some (.cells #[.int .i64 kind,.int .i64 p,.int .i64 (mt 0),.int .i64 (mt 1),.int .i64 (mt 2),.int .i64 (mt 3),.int .i64 (mt 4),.int .i64 (mt 5),av,pv] 213 (0,0))
theorem xnw.below{w w':World}{b B:Nat}{kind p:Int}{mt:Nat->Int}{av pv:Value}(h:xnw w b kind p mt av pv)(hB:Below B w w')(hb:b<B):xnw w' b kind p mt av pv:=by
 unfold xnw at *;rw [hB.block b hb];exact h
theorem xnw.alloc(w:World)(kind p:Int)(mt:Nat->Int)(av pv:Value):xnw (w.alloc (.cells #[.int .i64 kind,.int .i64 p,.int .i64 (mt 0),.int .i64 (mt 1),.int .i64 (mt 2),.int .i64 (mt 3),.int .i64 (mt 4),.int .i64 (mt 5),av,pv] 213)) w.heap.size kind p mt av pv:=heap_alloc_new w _
theorem xnw.cells{w:World}{b:Nat}{kind p:Int}{mt:Nat->Int}{av pv:Value}(h:xnw w b kind p mt av pv):
  w.cell? ⟨b,0,none⟩=some (.int .i64 kind)/\w.cell? ⟨b,1,none⟩=some (.int .i64 p)/\w.cell? ⟨b,2,none⟩=some (.int .i64 (mt 0))/\w.cell? ⟨b,3,none⟩=some (.int .i64 (mt 1))/\w.cell? ⟨b,4,none⟩=some (.int .i64 (mt 2))/\
  w.cell? ⟨b,5,none⟩=some (.int .i64 (mt 3))/\w.cell? ⟨b,6,none⟩=some (.int .i64 (mt 4))/\w.cell? ⟨b,7,none⟩=some (.int .i64 (mt 5))/\w.cell? ⟨b,8,none⟩=some av/\w.cell? ⟨b,9,none⟩=some pv:=by
 unfold xnw at h;simp [World.cell?,h]
theorem Below.up{B:Nat}{w w1:World}(hg:w.grownBy w1 none)(hB:B<=w.heap.size):Below B w w1:=(Below.refl B w).grown hg hB (fun k e=>by cases e)
theorem PkRow.one{w:World}{g:Nat}{k:Nat->Int}(h:pkBlk w g k):PkRow w (.slice (some ⟨g,0,none⟩) 1 1) 1 (fun _=>k):=
 .inr ⟨g,0,1,rfl,by omega,fun j hj i hi=>by
  obtain rfl:j=0:=by omega
  simpa using h.cell i hi⟩
theorem RowIn.ne{base B:Nat}{w:World}{v v1:Value}{n:Nat}{bs:List Int}(h:RowIn base v)(hb:BRow B w v1 bs)(hB:base<=B):∀g off cap,v=.slice (some ⟨g,off,none⟩) n cap->v1.ownBlock≠some g:=by
 intro g off cap e e2;have:=h _ _ _ _ e;have:=(hb.lt g e2).1;omega
theorem PkRow.below{w w':World}{v:Value}{n:Nat}{ps:Nat->Nat->Int}{B:Nat}(h:PkRow w v n ps)(hB:Below B w w')(hin:RowIn B v):PkRow w' v n ps:=by
 rcases h with h|⟨g,off,cap,h1,h2,h3⟩
 ·exact .inl h
 ·exact .inr ⟨g,off,cap,h1,h2,fun j hj i hi=>by rw [hB.cell (hin _ _ _ _ h1)];exact h3 j hj i hi⟩
theorem RowIn.mono{B B':Nat}{v:Value}(h:RowIn B v)(hB:B<=B'):RowIn B' v:=fun g off n cap e=>Nat.lt_of_lt_of_le (h g off n cap e) hB
theorem BRow.weak{B B':Nat}{w:World}{v:Value}{bs:List Int}(h:BRow B w v bs)(hB:B'<=B):BRow B' w v bs:=by
 refine ⟨h.1,?_⟩;rcases h.2 with h2|⟨g,cap,cur,hv,hb,r⟩
 ·exact .inl h2
 ·exact .inr ⟨g,cap,cur,hv,Nat.le_trans hB hb,r⟩
theorem xdc(m:Msg)(a b:Option Addr)(ca cb:Nat)(w:World)(hav:PkRow w (.slice a m.na ca) m.na m.acts)(hin:RowIn w.heap.size (.slice a m.na ca))(hk:m.kind=1):
  Calls Tryz.prog 268 #[msgV m (.slice a m.na ca) (.slice b m.np cb)] w (Gives w.heap.size (twoB m.prio++pkB m.mt++twoB m.na++pksB m.na m.acts) w):=by
 have HAV:=hide hav;have HIN:=hide hin;clear hav hin;obtain ⟨kind,p,mt,na,acts,np,pks⟩:=m;unfold msgV;simp only at hk HAV HIN ⊢;subst hk;obtain ⟨BS,hBS⟩:∃BS,BS=twoB p++pkB mt++twoB (na:Int)++pksB na acts:=⟨_,rfl⟩;rw [<-hBS];have HBS:=hide hBS;clear hBS;have M0:=hide (xnw.alloc w 1 p mt (.slice a na ca) (.slice b np cb));go_enter Tryz.func268,Tryz.ntmps268;go_wp2_with fail;obtain ⟨wa,hwa⟩:∃wa,wa=w.alloc (Obj.cells #[.int .i64 1,.int .i64 p,.int .i64 (mt 0),.int .i64 (mt 1),.int .i64 (mt 2),.int .i64 (mt 3),.int .i64 (mt 4),.int .i64 (mt 5),.slice a na ca,.slice b np cb] 213):=⟨_,rfl⟩;have hsa:wa.heap.size=w.heap.size+1:=by rw [hwa];simp
 have GA:Hid (w.grownBy wa none):=by rw [hwa];exact World.grownBy_alloc _ _ _
 rw [<-hwa] at M0 ⊢;clear hwa;refine (xbj (w.heap.size+1) _ [] p _ (BRow.nil _ _) (by omega) (by simp)).mono ?_;rintro e w1 ⟨v1,rfl,hB1,hg1,ho1⟩;have B1:=hide hB1;have L1:=hide (Below.up (B:=w.heap.size+1) hg1 (by omega));have M1:=hide (M0.out.below L1.out (by omega));clear hB1 hg1 ho1;obtain ⟨c0,c1,c2,c3,c4,c5,c6,c7,c8,c9⟩:=M1.out.cells;go_wp2_with fail;obtain ⟨wb,hwb⟩:∃wb,wb=w1.alloc (Obj.cells #[.int .i64 (mt 0),.int .i64 (mt 1),.int .i64 (mt 2),.int .i64 (mt 3),.int .i64 (mt 4),.int .i64 (mt 5)] 46):=⟨_,rfl⟩;have P1:Hid (pkBlk wb w1.heap.size mt):=by rw [hwb];exact pkBlk.alloc _ _
 have GB:Hid (w1.grownBy wb none):=by rw [hwb];exact World.grownBy_alloc _ _ _
 rw [<-hwb];clear hwb c0 c1 c2 c3 c4 c5 c6 c7 c8 c9;have hs1:=L1.out.size;have hsb:=GB.out.size;refine (xbi (w.heap.size+1) v1 _ ([]++twoB p) 1 (fun _=>mt) wb (B1.out.kept GB.out) (by omega) (by simp [twoB]) (PkRow.one P1.out) (fun g off cap e h=>by cases e;have:=(B1.out.lt _ h).2;omega)).mono ?_;rintro e w2 ⟨v2,rfl,hB2,hg2,ho2⟩;have L2:=hide ((Below.up (B:=w.heap.size+1) GB.out (by omega)).trans (xi6 (B1.out.kept GB.out) hg2 (by omega)));have B2:=hide hB2;have M2:=hide (M1.out.below L2.out (by omega));clear hB2 hg2 ho2 M1;obtain ⟨c0,c1,c2,c3,c4,c5,c6,c7,c8,c9⟩:=M2.out.cells;have hs2:=L2.out.size;go_wp2_with fail;clear c0 c1 c2 c3 c4 c5 c6 c7 c8 c9;refine (xbj (w.heap.size+1) v2 _ na w2 B2.out (by omega) (by simp [twoB,xrs])).mono ?_;rintro e w3 ⟨v3,rfl,hB3,hg3,ho3⟩;have L3:=hide (xi6 B2.out hg3 (by omega));have B3:=hide hB3;have M3:=hide (M2.out.below L3.out (by omega));clear hB3 hg3 ho3 M2;obtain ⟨c0,c1,c2,c3,c4,c5,c6,c7,c8,c9⟩:=M3.out.cells;have hs3:=L3.out.size;have LL:=hide ((L1.out.trans L2.out).trans L3.out);have hgw:Below w.heap.size w wa:=Below.up GA.out (Nat.le_refl _);have LW:=hide (hgw.trans (LL.out.mono (Nat.le_succ _)));clear hgw;go_wp2_with fail;clear c0 c1 c2 c3 c4 c5 c6 c7 c8 c9;refine (xbi (w.heap.size+1) v3 _ _ na acts w3 B3.out (by omega) (by simp [twoB,xrs]) (HAV.out.below LW.out HIN.out) (HIN.out.ne B3.out (by omega))).mono ?_;rintro e w4 ⟨v4,rfl,hB4,hg4,ho4⟩;have L4:=hide (xi6 B3.out hg4 (by omega));have B4:=hide hB4;clear hB4 hg4 ho4;go_wp2;go_ret;refine ⟨_,rfl,?_,?_⟩
 ·rw [HBS.out];have:=B4.out;rw [xrt,List.nil_append] at this;exact this.weak (by omega)
 ·exact LW.out.trans (L4.out.mono (by omega))
theorem xdd(m:Msg)(a b:Option Addr)(ca cb:Nat)(w:World)(hav:PkRow w (.slice b m.np cb) m.np m.pks)(hin:RowIn w.heap.size (.slice b m.np cb))(hk:m.kind=5):
  Calls Tryz.prog 268 #[msgV m (.slice a m.na ca) (.slice b m.np cb)] w (Gives w.heap.size (twoB m.np++pksB m.np m.pks) w):=by
 have HAV:=hide hav;have HIN:=hide hin;clear hav hin;obtain ⟨kind,p,mt,na,acts,np,pks⟩:=m;unfold msgV;simp only at hk HAV HIN ⊢;subst hk;obtain ⟨BS,hBS⟩:∃BS,BS=twoB (np:Int)++pksB np pks:=⟨_,rfl⟩;rw [<-hBS];have HBS:=hide hBS;clear hBS;have M0:=hide (xnw.alloc w 5 p mt (.slice a na ca) (.slice b np cb));go_enter Tryz.func268,Tryz.ntmps268;go_wp2_with fail;obtain ⟨wa,hwa⟩:∃wa,wa=w.alloc (Obj.cells #[.int .i64 5,.int .i64 p,.int .i64 (mt 0),.int .i64 (mt 1),.int .i64 (mt 2),.int .i64 (mt 3),.int .i64 (mt 4),.int .i64 (mt 5),.slice a na ca,.slice b np cb] 213):=⟨_,rfl⟩;have hsa:wa.heap.size=w.heap.size+1:=by rw [hwa];simp
 have GA:Hid (w.grownBy wa none):=by rw [hwa];exact World.grownBy_alloc _ _ _
 rw [<-hwa] at M0 ⊢;clear hwa;have c9:wa.cell? ⟨w.heap.size,9,none⟩=some (.slice b np cb):=M0.out.cells.2.2.2.2.2.2.2.2.2;have D0:Hid (Below w.heap.size w wa.drew):=(Below.up GA.out (Nat.le_refl _)).drew;have M0':Hid (xnw wa.drew w.heap.size 5 p mt (.slice a na ca) (.slice b np cb)):=M0.out;have hsd:wa.drew.heap.size=w.heap.size+1:=hsa
 go_region_with (first
  | (go_at_call 269
     refine (xbj (w.heap.size+1) _ [] np wa.drew (BRow.nil _ _) ?_ ?_).mono ?_
     ·exact Nat.le_of_eq hsd.symm
     ·exact Nat.zero_le _
     rintro e w1 ⟨v1,rfl,hB1,hg1,ho1⟩;have B1:=hide hB1;have hL1:=Below.up (B:=w.heap.size+1) hg1 (Nat.le_of_eq hsd.symm);have L1:=hide hL1;have c9':w1.cell? ⟨w.heap.size,9,none⟩=some (.slice b np cb):=(M0'.out.below hL1 (Nat.lt_succ_self _)).cells.2.2.2.2.2.2.2.2.2;clear hB1 hg1 ho1 hL1)
  | (go_at_call 281
     refine (xbi (w.heap.size+1) v1 _ _ np pks w1 B1.out ?_ ?_ ?_ ?_).mono ?_
     ·have:=L1.out.size;omega
     ·simp [twoB]
     ·exact HAV.out.below (D0.out.trans (L1.out.mono (Nat.le_succ _))) HIN.out
     ·exact HIN.out.ne B1.out (Nat.le_succ _)
     rintro e w4 ⟨v4,rfl,hB4,hg4,ho4⟩;have L4:=hide (xi6 B1.out hg4 (by have:=L1.out.size;omega));have B4:=hide hB4;clear hB4 hg4 ho4))
 all_goals
  go_wp2;go_ret;refine ⟨_,rfl,?_,?_⟩
  ·rw [HBS.out];have:=B4.out;rw [List.nil_append] at this;exact this.weak (by omega)
  ·exact (D0.out.trans (L1.out.mono (Nat.le_succ _))).trans (L4.out.mono (by omega))
theorem xdb(m:Msg)(a b:Option Addr)(ca cb:Nat)(w:World)(hav:PkRow w (.slice b m.np cb) m.np m.pks)(hin:RowIn w.heap.size (.slice b m.np cb))(hk:m.kind≠1)(hk2:m.kind≠5):
  Calls Tryz.prog 268 #[msgV m (.slice a m.na ca) (.slice b m.np cb)] w (Gives w.heap.size (pksB m.np m.pks) w):=by
 have HAV:=hide hav;have HIN:=hide hin;clear hav hin;obtain ⟨kind,p,mt,na,acts,np,pks⟩:=m;unfold msgV;simp only at hk hk2 HAV HIN ⊢;obtain ⟨BS,hBS⟩:∃BS,BS=pksB np pks:=⟨_,rfl⟩;rw [<-hBS];have HBS:=hide hBS;clear hBS;have M0:=hide (xnw.alloc w kind p mt (.slice a na ca) (.slice b np cb));go_enter Tryz.func268,Tryz.ntmps268;go_wp2_with fail;obtain ⟨wa,hwa⟩:∃wa,wa=w.alloc (Obj.cells #[.int .i64 kind,.int .i64 p,.int .i64 (mt 0),.int .i64 (mt 1),.int .i64 (mt 2),.int .i64 (mt 3),.int .i64 (mt 4),.int .i64 (mt 5),.slice a na ca,.slice b np cb] 213):=⟨_,rfl⟩;have hsa:wa.heap.size=w.heap.size+1:=by rw [hwa];simp
 have GA:Hid (w.grownBy wa none):=by rw [hwa];exact World.grownBy_alloc _ _ _
 rw [<-hwa] at M0 ⊢;clear hwa;have hgw:Below w.heap.size w wa:=Below.up GA.out (Nat.le_refl _);have LW:=hide hgw;clear hgw;refine (xbi (w.heap.size+1) _ _ [] np pks wa (BRow.nil _ _) (by omega) (by simp [twoB,xrs]) (HAV.out.below LW.out HIN.out) (fun _ _ _ _ h=>by simp [Value.ownBlock] at h)).mono ?_;rintro e w4 ⟨v4,rfl,hB4,hg4,ho4⟩;have L4:=hide (Below.up (B:=w.heap.size+1) hg4 (by omega));have B4:=hide hB4;clear hB4 hg4 ho4;go_wp2;go_ret;refine ⟨_,rfl,?_,?_⟩
 ·rw [HBS.out];have:=B4.out;rw [List.nil_append] at this;exact this.weak (by omega)
 ·exact LW.out.trans (L4.out.mono (by omega))
theorem xdg(m:Msg)(a b:Option Addr)(ca cb:Nat)(w:World)(hav:PkRow w (.slice a m.na ca) m.na m.acts)(hpv:PkRow w (.slice b m.np cb) m.np m.pks)(hia:RowIn w.heap.size (.slice a m.na ca))(hib:RowIn w.heap.size (.slice b m.np cb)):
  Calls Tryz.prog 268 #[msgV m (.slice a m.na ca) (.slice b m.np cb)] w (Gives w.heap.size (bodyB m) w):=by
 unfold bodyB;by_cases h1:m.kind=1
 ·rw [if_pos h1];exact xdc m a b ca cb w hav hia h1
 by_cases h5:m.kind=5
 ·rw [if_neg h1,if_pos h5];exact xdd m a b ca cb w hpv hib h5
 ·rw [if_neg h1,if_neg h5];exact xdb m a b ca cb w hpv hib h1 h5
def u8(n:Int):UInt8:=UInt8.ofNat n.toNat
def strI(l:List Int):Value:=.string ⟨(l.map u8).toArray⟩
theorem xia(l:List Int):∀s:ByteArray,l.foldl (fun r n=>r.push (UInt8.ofNat n.toNat)) s=⟨s.data++(l.map u8).toArray⟩:=by
 induction l with
 | nil=>intro s;cases s;simp
 | cons x l ih=>intro s;rw [List.foldl_cons,ih];simp [ByteArray.push,u8,ByteArray.ext_iff]
def encB(m:Msg):List Int:=m.kind%256::(twoB (bodyB m).length++bodyB m)
def canS(m:Msg):Prop:=msgS m/\(bodyB m).length<=65535
def xac(m:Msg)(w:World)(e:Ending)(w':World):Prop:=w.grownBy w' none/\((canS m/\e=.returned (.tuple #[strI (encB m),.int .i64 0]))\/(¬canS m/\e=.returned (.tuple #[.string ByteArray.empty,.int .i64 9])))
theorem xde(m:Msg)(h1:m.na<=3000000000000)(h2:m.np<=3000000000000):(bodyB m).length<=20000000000000:=by
 unfold bodyB;split
 ·simp [xrs,twoB,pkB];omega
 ·split
  ·simp [xrs,twoB];omega
  ·rw [xrs];omega
theorem Says.cases{p:Prop}{w w':World}{e:Ending}(h:Says p w e w'):((p/\e=.returned (.bool true))\/(¬p/\e=.returned (.bool false)))/\w.grownBy w' none:=by
 obtain ⟨⟨b,rfl,hb⟩,hg⟩:=h;refine ⟨?_,hg⟩;cases b
 ·exact .inr ⟨fun hp=>by simpa using hb.2 hp,rfl⟩
 ·exact .inl ⟨hb.1 rfl,rfl⟩
theorem BRow.slice{B:Nat}{w:World}{v:Value}{bs:List Int}(h:BRow B w v bs):∃a cap,v=.slice a bs.length cap:=by
 rcases h.2 with ⟨h2,h3⟩|⟨g,cap,cur,hv,_⟩
 ·exact ⟨none,0,by rw [h2,h3]⟩
 ·exact ⟨_,_,hv⟩
theorem BRow.made(w:World)(x:Int):BRow w.heap.size (w.alloc (.cells #[.int .u8 x] 5)) (.slice (some ⟨w.heap.size,0,none⟩) 1 1) [x]:=
 ⟨rfl,.inr ⟨w.heap.size,1,_,rfl,Nat.le_refl _,heap_alloc_new w _,Nat.le_refl _,by unfold maxLen;omega,rfl,rfl⟩⟩
theorem xbl(g j:Nat):(⟨g,0,none⟩:Addr).add j=⟨g,j,none⟩:=by unfold Addr.add;split<;>simp_all
theorem BRow.at{B:Nat}{w:World}{v:Value}{bs:List Int}(h:BRow B w v bs):(v=.slice none 0 0/\bs=[])\/∃g cap,v=.slice (some ⟨g,0,none⟩) bs.length cap/\bs.length<=cap/\∀j u,(bs.map (Value.int .u8))[j]?=some u->w.cell? ((⟨g,0,none⟩:Addr).add j)=some u:=by
 rcases h.2 with ⟨h2,h3⟩|⟨g,cap,cur,rfl,hb,hg,hc,_⟩
 ·exact .inl ⟨h2,List.eq_nil_of_length_eq_zero h3⟩
 ·exact .inr ⟨g,cap,rfl,hc,World.ownsRow.cells h rfl⟩
theorem BRow.str{B:Nat}{w:World}{v:Value}{bs:List Int}(h:BRow B w v bs)(hne:bs≠[]):(convert 227 9 v).run Tryz.prog w=.ok (strI bs) w:=by
 rcases h.at with ⟨_,h2⟩|⟨g,cap,rfl,_,hc⟩
 ·exact absurd h2 hne
 ·rw [run_convert_bytes_string w 227 9 5 _ _ _ (by kernel_rfl) (by kernel_rfl) (by kernel_rfl)];have hl:=run_loadCells_list (P:=Tryz.prog) w ⟨g,0,none⟩ (bs.map (Value.int .u8)) hc;rw [List.length_map] at hl;rw [run_bytesToString w _ _ _ bs hl,xia];unfold strI;simp
theorem xgk(m:Msg)(a b:Option Addr)(ca cb:Nat)(w:World)(hav:PkRow w (.slice a m.na ca) m.na m.acts)(hpv:PkRow w (.slice b m.np cb) m.np m.pks)(hia:RowIn w.heap.size (.slice a m.na ca))(hib:RowIn w.heap.size (.slice b m.np cb)):
  Calls Tryz.prog 255 #[msgV m (.slice a m.na ca) (.slice b m.np cb)] w (xac m w):=by
 have HR:=hide (fun w hav hpv=>xnx m a b ca cb w hav hpv);have HBO:=hide (fun w hav hpv hia hib=>xdg m a b ca cb w hav hpv hia hib);have HAV:=hide hav;have HPV:=hide hpv;have HIA:=hide hia;have HIB:=hide hib;have hblen:=xde m hav.few hpv.few;clear hav hpv hia hib
 have HQ:Hid (∀e w',xac m w e w'↔(w.grownBy w' none/\((msgS m/\(bodyB m).length<=65535/\e=.returned (.tuple #[strI (m.kind%256::(twoB (bodyB m).length++bodyB m)),.int .i64 0]))\/(¬(msgS m/\(bodyB m).length<=65535)/\e=.returned (.tuple #[.string ByteArray.empty,.int .i64 9]))))):=by
  intro e w';unfold xac canS encB;rw [and_assoc]
 generalize xac m w=Q at HQ ⊢;generalize msgS m=RP at *;generalize bodyB m=BB at *;obtain ⟨kind,p,mt,na,acts,np,pks⟩:=m;have M0:=hide (xnw.alloc w kind p mt (.slice a na ca) (.slice b np cb));unfold msgV at *;simp only at HR HBO HAV HPV HIA HIB HQ ⊢;go_enter Tryz.func255,Tryz.ntmps255;go_wp2_with fail;obtain ⟨wa,hwa⟩:∃wa,wa=w.alloc (Obj.cells #[.int .i64 kind,.int .i64 p,.int .i64 (mt 0),.int .i64 (mt 1),.int .i64 (mt 2),.int .i64 (mt 3),.int .i64 (mt 4),.int .i64 (mt 5),.slice a na ca,.slice b np cb] 213):=⟨_,rfl⟩;have hsa:wa.heap.size=w.heap.size+1:=by rw [hwa];simp
 have GA:Hid (w.grownBy wa none):=by rw [hwa];exact World.grownBy_alloc _ _ _
 rw [<-hwa] at M0 ⊢;clear hwa;refine (HR.out _ (HAV.out.grown GA.out) (HPV.out.grown GA.out)).mono ?_;rintro e w1 hs;obtain ⟨hs,hg1⟩:=hs.cases;have G1:=hide (xje GA.out hg1);have M1:=hide (M0.out.below (Below.up (B:=w.heap.size+1) hg1 (by omega)) (by omega));have hs1:=hg1.size;clear hg1;rcases hs with ⟨hrp,rfl⟩|⟨hrp,rfl⟩
 ·have HRP:=hide hrp;clear hrp;obtain ⟨c0,c1,c2,c3,c4,c5,c6,c7,c8,c9⟩:=M1.out.cells;go_wp2_with fail;clear c0 c1 c2 c3 c4 c5 c6 c7 c8 c9;refine (HBO.out w1 (HAV.out.grown G1.out) (HPV.out.grown G1.out) (HIA.out.mono (by omega)) (HIB.out.mono (by omega))).mono ?_;rintro e w2 ⟨vb,rfl,hB2,hL2⟩;have B2:=hide hB2;have L2:=hide hL2;have M2:=hide (M1.out.below hL2 (by omega));have hat2:=hB2.at;obtain ⟨ab,cab,hvb⟩:=hB2.slice;subst hvb;have HAT:=hide hat2;clear hB2 hL2 hat2;obtain ⟨c0,c1,c2,c3,c4,c5,c6,c7,c8,c9⟩:=M2.out.cells;clear c1 c2 c3 c4 c5 c6 c7 c8 c9;by_cases hlong:BB.length<=65535
  ·go_wp2_with fail;clear c0;obtain ⟨wb,hwb⟩:∃wb,wb=w2.alloc (Obj.cells #[.int .u8 (kind%256)] 5):=⟨_,rfl⟩;have GB:Hid (w2.grownBy wb none):=by rw [hwb];exact World.grownBy_alloc _ _ _
   have BM:Hid (BRow w2.heap.size wb (.slice (some ⟨w2.heap.size,0,none⟩) 1 1) [kind%256]):=by rw [hwb];exact BRow.made _ _
   rw [<-hwb];clear hwb;refine (xbj w2.heap.size _ [kind%256] BB.length wb BM.out GB.out.size (by simp)).mono ?_;rintro e w3 ⟨v3,rfl,hB3,hg3,ho3⟩;have B3:=hide hB3;have L3:=hide ((Below.up (B:=w2.heap.size) GB.out (Nat.le_refl _)).trans (xi6 BM.out hg3 GB.out.size));have hs3:=L3.out.size;clear hB3 hg3 ho3;have hL23:=hide (L2.out.trans (L3.out.mono L2.out.size));rcases HAT.out with ⟨hnil,hBB⟩|⟨gb,capb,hvb,hcb,hcells⟩
   ·subst hBB;cases hnil;clear HAT;obtain ⟨i0,hi0,hz0,hz1,hz2⟩:=info_parts Tryz.infoU8;rcases B3.out.at with ⟨_,h3⟩|⟨g3,cap3,rfl,hc3,_⟩
    ·simp at h3
    have hB30:=B3.out;unfold BRow at hB30;have HB30:=hide hB30;clear hB30;have hlen3:([kind%256]++twoB (([]:List Int).length:Nat)).length=3:=rfl;rw [hlen3] at HB30 hc3;have HL3:=hide hlen3;clear hlen3;go_wp2_with (at_builtin;refine wpList_append_fits_any _ rfl _ _ 227 rfl w2.heap.size 5 i0 1 Tryz.underlying227 hi0 hz1 g3 3 cap3 _ rfl HB30.out none 0 0 [] rfl rfl ?d1 ?d2 ?d3 ?d4 ?_)
    case d2=>intro ad e;cases e
    case d3=>intro u hu;cases hu
    case d4=>omega
    intro w4 hown4 hg4
    have hB4:BRow w2.heap.size w4 (.slice (some ⟨g3,0,none⟩) 3 cap3) (([kind%256]++twoB (([]:List Int).length:Nat))++[]):=by
     unfold BRow;simpa [twoB] using hown4
    have hconv:=hB4.str (by simp);have hle4:=hide (hL23.out.trans ((Below.refl w1.heap.size w3).grown hg4 (by have:=L2.out.size;omega) (fun k e=>by cases e;have:=(HB30.out.lt g3 rfl).1;have:=L2.out.size;omega)));clear hown4 hg4 hB4;obtain ⟨SS,hSS⟩:∃SS,SS=strI (([kind%256]++twoB (([]:List Int).length:Nat))++[]):=⟨_,rfl⟩;rw [<-hSS] at hconv;have HSS:=hide hSS;clear hSS;go_wp2;refine (HQ.out _ _).2 ⟨xje G1.out (xi5 hle4.out),.inl ⟨HRP.out,hlong,?_⟩⟩;rw [HSS.out];rfl
   ·cases hvb
    have HCE:Hid (∀j u,(BB.map (Value.int .u8))[j]?=some u->w3.cell? ((⟨gb,0,none⟩:Addr).add j)=some u):=by
     intro j u hj;have hlt:gb<w2.heap.size:=(B2.out.lt gb rfl).2;have:=hcells j u hj;rw [xbl] at this ⊢;rw [L3.out.cell hlt];exact this
    clear hcells HAT;obtain ⟨i0,hi0,hz0,hz1,hz2⟩:=info_parts Tryz.infoU8;go_wp2_with (at_builtin;refine wpList_append_own_at _ rfl _ _ 227 rfl w2.heap.size 5 i0 _ 1 1 Tryz.underlying227 hi0 hz0 hz1 hz2 rfl (by decide) _ _ _ rfl B3.out ⟨gb,0,none⟩ BB.length _ (BB.map (Value.int .u8)) rfl ?e1 HCE.out ?e2 ?e3 ?e4 ?e5 ?_)
    case e1=>simp
    case e2=>intro u hu;simp only [List.mem_map] at hu;obtain ⟨x,_,rfl⟩:=hu;rfl
    case e3=>unfold maxLen;simp [twoB];omega
    case e4=>simp [twoB];omega
    case e5=>omega
    intro v4 w4 hown4 hg4 _ _
    have hB4:BRow w2.heap.size w4 v4 (([kind%256]++twoB BB.length)++BB):=by
     unfold BRow;rw [List.map_append,List.length_append];exact hown4
    have hconv:=hB4.str (by simp);have hle4:=hide (hL23.out.trans ((Below.refl w1.heap.size w3).grown hg4 (by have:=L2.out.size;omega) (fun k e=>by have:=(B3.out.lt k e).1;have:=L2.out.size;omega)));clear hown4 hg4 hB4;obtain ⟨SS,hSS⟩:∃SS,SS=strI (([kind%256]++twoB BB.length)++BB):=⟨_,rfl⟩;rw [<-hSS] at hconv;have HSS:=hide hSS;clear hSS;go_wp2;refine (HQ.out _ _).2 ⟨xje G1.out (xi5 hle4.out),.inl ⟨HRP.out,hlong,?_⟩⟩;rw [HSS.out];rfl
  ·go_wp2;refine (HQ.out _ _).2 ⟨?_,.inr ⟨fun h=>hlong h.2,rfl⟩⟩;exact xje G1.out (xi5 L2.out)
 ·have HRP:=hide hrp;clear hrp;go_wp2;exact (HQ.out _ _).2 ⟨G1.out,.inr ⟨fun h=>HRP.out h.1,rfl⟩⟩
def bytM(s:ByteArray)(i:Nat):Int:=if h:i<s.size then ((s[i]'h).toNat:Int) else 0
theorem xdx(s:ByteArray)(i:Nat)(h:i<s.size):bytM s i=((s[i]'h).toNat:Int):=by simp [bytM,h]
theorem xdy(s:ByteArray)(i:Nat):0<=bytM s i/\bytM s i<=255:=by
 unfold bytM;split
 ·rename_i h;have:=(s[i]'h).toNat_lt;omega
 ·omega
theorem xpt(x y:Nat)(hx:x<256)(hy:y<256):bits .or .i64 ((x*256:Nat):Int) (y:Int)=((x*256+y:Nat):Int):=by
 show IntKind.i64.wrap ((BitVec.ofInt 64 ((x*256:Nat):Int) ||| BitVec.ofInt 64 (y:Int)).toNat:Int)=_
 have e:x*256 ||| y=x*256+y:=by
  have:=Nat.two_pow_add_eq_or_of_lt (i:=8) (b:=y) (by omega) x;rw [Nat.mul_comm] at this;exact this.symm
 rw [BitVec.toNat_or,BitVec.ofInt_natCast,BitVec.ofInt_natCast,BitVec.toNat_ofNat,BitVec.toNat_ofNat,Nat.mod_eq_of_lt (by omega),Nat.mod_eq_of_lt (by omega),e];simp [IntKind.wrap,IntKind.bits,IntKind.signed];split<;>omega
theorem x0a(a b:UInt8):bits .or .i64 (wrap64 (wrap64 (a.toNat:Int)*256)) (wrap64 (b.toNat:Int))=(a.toNat:Int)*256+(b.toNat:Int):=by
 have ha:=a.toNat_lt;have hb:=b.toNat_lt
 rw [show wrap64 (a.toNat:Int)=(a.toNat:Int) by unfold wrap64;omega,show wrap64 (b.toNat:Int)=(b.toNat:Int) by unfold wrap64;omega,
  show wrap64 ((a.toNat:Int)*256)=((a.toNat*256:Nat):Int) by unfold wrap64;omega,xpt _ _ (by omega) (by omega)]
 omega
theorem xz7(s:ByteArray)(w:World)(h:2<=s.size):
  Calls Tryz.prog 256 #[.string s] w fun e w'=>e=.returned (.int .i64 (bytM s 0*256+bytM s 1))/\∃n,w'=w.drewN n:=by
 have h0:0<s.size:=by omega
 have h1:1<s.size:=by omega
 have H0:Hid (bytM s 0=((s[0]'h0).toNat:Int)):=xdx s 0 h0;have H1:Hid (bytM s 1=((s[1]'h1).toNat:Int)):=xdx s 1 h1;have h2:(0:Int)<s.size:=by omega
 have h3:(1:Int)<s.size:=by omega
 go_enter Tryz.func256,Tryz.ntmps256;go_wp2_with fail;go_quiet (fail)
 go_wp2;go_ret;refine ⟨?_,_,rfl⟩;rw [H0.out,H1.out];exact congrArg (fun x=>Ending.returned (Value.int .i64 x)) (x0a _ _)
def sg(c:Int):Int:=if c<128 then c else c-256
theorem xv8(b:UInt8):wrap64 (IntKind.i8.wrap (b.toNat:Int))=sg (b.toNat:Int):=by
 have hb:=b.toNat_lt;unfold sg wrap64;simp [IntKind.wrap,IntKind.bits,IntKind.signed];split<;>split<;>omega
theorem xxg{k:Nat->Int}{j:Nat}{x:Int}(h:x=k j):(fun i=>if i=j then x else (if i<j then k i else 0))=fun i=>if i<j+1 then k i else 0:=by
 funext i;by_cases e:i=j
 ·subst e;simp [h]
 ·by_cases e2:i<j
  ·simp [e,e2,show i<j+1 by omega]
  ·simp [e,e2,show ¬i<j+1 by omega]
def putM6(w:World)(b:Nat)(k:Nat->Int):World:=
 (((((w.setCell ⟨b,0,none⟩ (.int .i64 (k 0))).setCell ⟨b,1,none⟩ (.int .i64 (k 1))).setCell ⟨b,2,none⟩ (.int .i64 (k 2))).setCell ⟨b,3,none⟩ (.int .i64 (k 3))).setCell ⟨b,4,none⟩ (.int .i64 (k 4))).setCell ⟨b,5,none⟩ (.int .i64 (k 5))
theorem xs5{w:World}{b:Nat}{k0:Nat->Int}(h:pkBlk w b k0)(k:Nat->Int):pkBlk (putM6 w b k) b k:=by
 unfold putM6;unfold pkBlk at h;unfold pkBlk;rw [xjh (xjh (xjh (xjh (xjh (xjh h 0 _) 1 _) 2 _) 3 _) 4 _) 5 _];rfl
theorem xs6(w:World)(b:Nat)(k:Nat->Int):w.grownBy (putM6 w b k) (some b):=
 xje (xje (xje (xje (xje (xjc _ _ _ _) (xjc _ _ _ _)) (xjc _ _ _ _)) (xjc _ _ _ _)) (xjc _ _ _ _)) (xjc _ _ _ _)
theorem xpm(s:ByteArray)(w:World)(h:6<=s.size):
  Calls Tryz.prog 270 #[.string s] w fun e w'=>e=.returned (pkV (fun i=>sg (bytM s i)))/\w.grownBy w' none:=by
 have HZ:=hide (pkBlk.alloc (w.alloc (.cells #[.int .i64 0,.int .i64 0,.int .i64 0,.int .i64 0,.int .i64 0,.int .i64 0] 46)) (fun _=>0));unfold pkV pkA at *;obtain ⟨k,hk⟩:∃k:Nat->Int,k=fun i=>sg (bytM s i):=⟨_,rfl⟩
 rw [show (fun i=>sg (bytM s i))=k from hk.symm];have HK:=hide hk;clear hk;have HS:=hide h;go_enter Tryz.func270,Tryz.ntmps270;go_wp2;go_loopw [5] (fun i wr=>∃j:Nat,j<=6/\i=.int .i64 j/\pkBlk wr (w.heap.size+1) (fun i=>if i<j then k i else 0)/\pkBlk wr w.heap.size (fun _=>0)/\w.grownBy wr none) (fun i _=>6-(intOf i).toNat)
 case atStart=>
  refine ⟨0,by omega,rfl,?_,?_,xje (World.grownBy_alloc _ _ _) (World.grownBy_alloc _ _ _)⟩
  ·have:=HZ.out;simpa using this
  ·exact (pkBlk.alloc w (fun _=>0)).grown (World.grownBy_alloc _ _ none) (by simp)
 case round=>
  obtain ⟨j,hj,rfl,hb,hb0,hg⟩:=hrel;have HB:=hide hb;have HB0:=hide hb0;have HG:=hide hg;clear hb hb0 hg;by_cases hlt:j<6
  ·have hjs:j<s.size:=by omega
   have hjs2:(j:Int)<s.size:=by omega
   have c1:=HB.out.cell j hlt;have c2:=HB.out.frozen j;rw [if_neg (Nat.lt_irrefl j)] at c1;go_wp2;go_roundw
   case rel=>
    have hset:=HB.out.set j hlt (wrap64 (IntKind.i8.wrap (s[j].toNat:Int)));rw [xxg (by rw [HK.out];show _=sg (bytM s j);rw [xdx s j hjs];exact xv8 _)] at hset;exact ⟨j+1,by omega,by go_num,hset,HB0.out.grown (xjc _ _ _ _) (by simp),xi9 HG.out (xjc _ _ _ _) (by omega)⟩
   case measure=>simp [intOf];omega
  ·obtain rfl:j=6:=by omega
   have c0:=HB.out.cell 0 (by omega);have c1:=HB.out.cell 1 (by omega);have c2:=HB.out.cell 2 (by omega);have c3:=HB.out.cell 3 (by omega);have c4:=HB.out.cell 4 (by omega);have c5:=HB.out.cell 5 (by omega);simp only [show (0:Nat)<6 by omega,show (1:Nat)<6 by omega,show (2:Nat)<6 by omega,show (3:Nat)<6 by omega,show (4:Nat)<6 by omega,show (5:Nat)<6 by omega,if_true] at c0 c1 c2 c3 c4 c5;have d0:=HB0.out.cell 0 (by omega);have d1:=HB0.out.cell 1 (by omega);have d2:=HB0.out.cell 2 (by omega);have d3:=HB0.out.cell 3 (by omega);have d4:=HB0.out.cell 4 (by omega);have d5:=HB0.out.cell 5 (by omega);have f0:=HB0.out.frozen;go_wp2;change bodyPost _ _ _ _ _ (putM6 wr w.heap.size k);have hp:=xs5 HB0.out k;have e0:=hp.cell 0 (by omega);have e1:=hp.cell 1 (by omega);have e2:=hp.cell 2 (by omega);have e3:=hp.cell 3 (by omega);have e4:=hp.cell 4 (by omega);have e5:=hp.cell 5 (by omega);refine bodyPost_ret (v:=.agg #[.int .i64 (k 0),.int .i64 (k 1),.int .i64 (k 2),.int .i64 (k 3),.int .i64 (k 4),.int .i64 (k 5)]) (by simp [results,Tryz.results270,go_sem,e0,e1,e2,e3,e4,e5]) rfl ?_;exact ⟨rfl,xi9 HG.out (xs6 _ _ _) (Nat.le_refl _)⟩
end Go.Proofs.YtlhkfafdioakeaaGreatDoor
