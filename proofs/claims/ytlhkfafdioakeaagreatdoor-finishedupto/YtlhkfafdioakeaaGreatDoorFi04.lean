/- Parts of the proof. -/
import Derived.Test.YtlhkfafdioakeaaGreatDoorFi02
import Derived.Test.YtlhkfafdioakeaaGreatDoorFi03
import Derived.Deep.RegionHeld3
import Derived.Deep.RegionLawGrows
import Derived.Handy
namespace Go.Proofs.YtlhkfafdioakeaaGreatDoor
set_option maxRecDepth 100000
set_option maxHeartbeats 4000000
open Go.RowKit
set_option linter.unusedVariables false
set_option linter.unusedSimpArgs false
inductive Role where
 | free|net|dev|row (s j:Nat)|del|ro
structure RowAt(w:World)(role:Nat->Role)(r:Role)(T:TypeId)(size:Nat)(v:Value)(n:Nat)(xs:List Value):Prop where
 q:A9 0 w T size v n xs
 rl:∀b,v.ownBlock=some b->role b=r
theorem RowAt.kept{w w':World}{role:Nat->Role}{r:Role}{T:TypeId}{size:Nat}{v:Value}{n:Nat}{xs:List Value}{row:Option Nat}(h:RowAt w role r T size v n xs)(hg:w.grownBy w' row)(hr:∀b,row=some b->b<w.heap.size->role b≠r):RowAt w' role r T size v n xs:=
 ⟨h.q.kept hg (fun b e k=>hr b e (h.q.lt b k).2 (h.rl b k)),h.rl⟩
def pkC(k:Nat->Int):List Value:=[.int .i64 (k 0),.int .i64 (k 1),.int .i64 (k 2),.int .i64 (k 3),.int .i64 (k 4),.int .i64 (k 5)]
def Ea(r:Rl):List Value:=[.int .i64 r.prio,.int .i64 (r.mt 0),.int .i64 (r.mt 1),.int .i64 (r.mt 2),.int .i64 (r.mt 3),.int .i64 (r.mt 4),.int .i64 (r.mt 5),r.av]
def AO(L:List (Nat->Int)):List Value:=L.flatMap pkC
def Ba(L:List Rl):List Value:=L.flatMap Ea
def stC(L:List ByteArray):List Value:=L.map .string
theorem Wm(L:List (Nat->Int)):(AO L).length=L.length*6:=by
 unfold AO;induction L with
 | nil=>rfl
 | cons k r ih=>rw[List.flatMap_cons,List.length_append,ih,List.length_cons];simp[pkC];omega
theorem XM(L:List Rl):(Ba L).length=L.length*8:=by
 unfold Ba;induction L with
 | nil=>rfl
 | cons k r ih=>rw[List.flatMap_cons,List.length_append,ih,List.length_cons];simp[Ea];omega
theorem Hf(L M:List (Nat->Int)):AO (L++M)=AO L++AO M:=by simp[AO]
theorem PS(L M:List Rl):Ba (L++M)=Ba L++Ba M:=by simp[Ba]
theorem Ot(L:List (Nat->Int)):∀u∈AO L,u.oneCell'=true:=by
 intro u hu;obtain⟨k,_,hk⟩:=List.mem_flatMap.1 hu;simp[pkC]at hk;rcases hk with rfl|rfl|rfl|rfl|rfl|rfl<;>rfl
structure RuAt(w:World)(role:Nat->Role)(r:Rl):Prop where
 pk:AG w r.av r.na r.acts
 rl:∀b,r.av.ownBlock=some b->role b=.ro/\b<w.heap.size
theorem AG.same{w w':World}{v:Value}{n:Nat}{ps:Nat->Nat->Int}(h:AG w v n ps)(hs:∀b,v.ownBlock=some b->w'.heap[b]?=w.heap[b]?):AG w' v n ps:=by
 rcases h with h|⟨g,off,cap,rfl,h2,h3⟩
 ·exact .inl h
 ·refine .inr ⟨g,off,cap,rfl,h2,fun j hj i hi=>?_⟩;have:=hs g rfl;have h4:=h3 j hj i hi;simp only[World.cell?]at h4 ⊢;rw[this];exact h4
theorem RuAt.kept{w w':World}{role:Nat->Role}{r:Rl}{row:Option Nat}(h:RuAt w role r)(hg:w.grownBy w' row)(hr:∀b,row=some b->b<w.heap.size->role b ≠ .ro):RuAt w' role r:=
 ⟨h.pk.same (fun b k=>hg.block b (h.rl b k).2 (fun e=>hr b e.symm (h.rl b k).2 (h.rl b k).1)),fun b k=>⟨(h.rl b k).1,Nat.lt_of_lt_of_le (h.rl b k).2 hg.size⟩⟩
structure DvM where
 rl:List Rl
 wl:List (Nat->Int)
 dl:List ByteArray
 ul:List ByteArray
 nl:List Rl
 vs:Nat->Value
def DvM.xs(d:DvM):Nat->List Value
 | 0=>Ba d.rl
 | 1=>AO d.wl
 | 2=>stC d.dl
 | 3=>stC d.ul
 | _=>Ba d.nl
def DvM.len(d:DvM):Nat->Nat
 | 0=>d.rl.length
 | 1=>d.wl.length
 | 2=>d.dl.length
 | 3=>d.ul.length
 | _=>d.nl.length
def tyJ:Nat->TypeId
 | 0=>68
 | 1=>46
 | 2=>9
 | 3=>9
 | _=>68
def szJ:Nat->Nat
 | 0=>8
 | 1=>6
 | 2=>1
 | 3=>1
 | _=>8
structure DvAt(w:World)(role:Nat->Role)(s:Nat)(d:DvM):Prop where
 row:∀j,j<5->RowAt w role (.row s j) (tyJ j) (szJ j) (d.vs j) (d.len j) (d.xs j)
 ru:∀r,r∈d.rl\/r∈d.nl->RuAt w role r
theorem DvAt.kept{w w':World}{role:Nat->Role}{s:Nat}{d:DvM}{row:Option Nat}(h:DvAt w role s d)(hg:w.grownBy w' row)(hr:∀b,row=some b->b<w.heap.size->role b ≠ .ro/\∀j,role b ≠ .row s j):DvAt w' role s d:=
 ⟨fun j hj=>(h.row j hj).kept hg (fun b e hb=>(hr b e hb).2 j),fun r hm=>(h.ru r hm).kept hg (fun b e hb=>(hr b e hb).1)⟩
structure NetM where
 D:Nat
 db:Nat
 dv:Nat->DvM
 fl:Value
 fq:Int
 lv:Value
 ln:Nat
 ld:Nat->Nat->Int
 room:Int
 delv:Value
 del:List (Nat->Int)
 nt:TypeId
structure NetAt(w:World)(B nb:Nat)(role:Nat->Role)(N:NetM):Prop where
 nbR:role nb=.net
 net:w.heap[nb]?=some (.cells #[N.fl,.int .i64 N.fq,N.lv,.int .i64 N.room,.slice (some ⟨N.db,0,none⟩) N.D N.D,N.delv] N.nt (0,0))
 dbR:role N.db=.dev
 dev:∃cur:Array Value,w.heap[N.db]?=some (.cells cur 250 (0,0))/\cur.size=N.D*5/\∀s,s<N.D->∀j,j<5->cur[s*5+j]?=some ((N.dv s).vs j)
 dvs:∀s,s<N.D->DvAt w role s (N.dv s)
 dels:RowAt w role .del 46 6 N.delv N.del.length (AO N.del)
 lnk:LnR w N.lv N.ln N.ld
 lnr:∀b,N.lv.ownBlock=some b->role b=.ro/\b<w.heap.size
 low:∀b,role b ≠ .free->B<=b/\b<w.heap.size
 dsz:N.D<=6
theorem NetAt.new{w:World}{B nb:Nat}{role:Nat->Role}{N:NetM}(h:NetAt w B nb role N){b:Nat}(hb:w.heap.size<=b):role b=.free:=by
 cases hr:role b with
 | free=>rfl
 | _=>have:=(h.low b (by rw[hr];exact fun e=>by cases e)).2;omega
theorem LnR.same{w w':World}{v:Value}{n:Nat}{d:Nat->Nat->Int}(h:LnR w v n d)(hs:∀b,v.ownBlock=some b->w'.heap[b]?=w.heap[b]?):LnR w' v n d:=by
 rcases h with h|⟨g,off,cap,rfl,h2,h3⟩
 ·exact .inl h
 ·refine .inr ⟨g,off,cap,rfl,h2,fun j hj i hi=>?_⟩;have:=hs g rfl;have h4:=h3 j hj i hi;simp only[World.cell?]at h4 ⊢;rw[this];exact h4
theorem NetAt.grown{w w':World}{B nb:Nat}{role:Nat->Role}{N:NetM}(h:NetAt w B nb role N){row:Option Nat}(hg:w.grownBy w' row)(hr:∀b,row=some b->role b=.free):NetAt w' B nb role N:=by
 have hne:∀b,role b ≠ .free->some b≠row:=fun b hb e=>hb (hr b e.symm)
 obtain⟨cur,d1,d2,d3⟩:=h.dev;have hx:∀b r,row=some b->r≠Role.free->role b≠r:=fun b r e hrr=>by rw[hr b e];exact fun e=>hrr e.symm
 refine⟨h.nbR,?_,h.dbR,⟨cur,?_,d2,d3⟩,fun s hs=>(h.dvs s hs).kept hg (fun b e _=>⟨hx b _ e (fun e=>by cases e),fun j=>hx b _ e (fun e=>by cases e)⟩),h.dels.kept hg (fun b e _=>hx b _ e (fun e=>by cases e)),h.lnk.same (fun b k=>?_),fun b k=>⟨(h.lnr b k).1,Nat.lt_of_lt_of_le (h.lnr b k).2 hg.size⟩,fun b hb=>⟨(h.low b hb).1,Nat.lt_of_lt_of_le (h.low b hb).2 hg.size⟩,h.dsz⟩
 ·have hb:role nb ≠ .free:=by rw[h.nbR];exact fun e=>by cases e
  rw[hg.block nb (h.low nb hb).2 (hne nb hb),h.net]
 ·have hb:role N.db ≠ .free:=by rw[h.dbR];exact fun e=>by cases e
  rw[hg.block N.db (h.low _ hb).2 (hne _ hb),d1]
 ·have hb:role b ≠ .free:=by rw[(h.lnr b k).1];exact fun e=>by cases e
  exact hg.block b (h.lnr b k).2 (hne b hb)
def AC{α:Type}(f:Nat->α)(s:Nat)(x:α):Nat->α:=fun i=>if i=s then x else f i
theorem BK{α:Type}(f:Nat->α)(s:Nat)(x:α):AC f s x s=x:=by unfold AC;rw[if_pos rfl]
theorem C4{α:Type}{f:Nat->α}{s i:Nat}{x:α}(h:i≠s):AC f s x i=f i:=by unfold AC;rw[if_neg h]
open Classical in
theorem NetAt.setRow{w w1 w2:World}{B nb:Nat}{role:Nat->Role}{N:NetM}(h:NetAt w B nb role N)(hB:B<=w.heap.size){s j:Nat}(hs:s<N.D)(hj:j<5){row:Option Nat}(g1:w.grownBy w1 row)(hrow:∀b,row=some b->b<w.heap.size->role b=.row s j){d':DvM}
  (hv:∀i,i<5->i≠j->d'.vs i=(N.dv s).vs i/\d'.len i=(N.dv s).len i/\d'.xs i=(N.dv s).xs i) (q:A9 0 w1 (tyJ j) (szJ j) (d'.vs j) (d'.len j) (d'.xs j)) (hat:∀b,(d'.vs j).ownBlock=some b->b<w.heap.size->role b=.row s j) (ru:∀r,r∈d'.rl\/r∈d'.nl->RuAt w role r) (g2:w1.grownBy w2 (some N.db)) (he2:∀cur:Array Value,w1.heap[N.db]?=some (.cells cur 250 (0,0))->w2.heap[N.db]?=some (.cells (cur.setIfInBounds (s*5+j) (d'.vs j)) 250 (0,0))):
  ∃role',(∀b,b<w.heap.size->role' b=role b)/\NetAt w2 B nb role' { N with dv:=AC N.dv s d' }:=by
 obtain⟨cur,c1,c2,c3⟩:=h.dev;have hdbl:N.db<w.heap.size:=(h.low N.db (by rw[h.dbR];exact fun e=>by cases e)).2;have hnbl:nb<w.heap.size:=(h.low nb (by rw[h.nbR];exact fun e=>by cases e)).2;have hne:∀b,b<w.heap.size->role b ≠ .row s j->some b≠row:=fun b hb hr e=>hr (hrow b e.symm hb)
 have hdr:some N.db≠row:=hne _ hdbl (by rw[h.dbR];exact fun e=>by cases e);have hnr:some nb≠row:=hne _ hnbl (by rw[h.nbR];exact fun e=>by cases e);have e1:w1.heap[N.db]?=some (.cells cur 250 (0,0)):=by rw[g1.block _ hdbl hdr,c1]
 have e2:=he2 cur e1;obtain⟨role',hrole⟩:∃role':Nat->Role,role'=fun b=>if w.heap.size<=b/\(d'.vs j).ownBlock=some b then .row s j else role b:=⟨_,rfl⟩
 have hold:∀b,b<w.heap.size->role' b=role b:=fun b hb=>by rw[hrole];exact if_neg (fun e=>by omega)
 have hs1:=g1.size;have hs2:=g2.size;have hdb2:∀b r,some N.db=some b->r≠Role.dev->role b≠r:=fun b r e hr=>by cases e;rw[h.dbR];exact fun e=>hr e.symm
 -- what isn't row (s,j) stands in both steps
 have two:∀{r:Role} {T:TypeId} {size:Nat} {v:Value} {n:Nat} {xs:List Value},r ≠ .row s j->r ≠ .dev->RowAt w role r T size v n xs->RowAt w2 role' r T size v n xs:=by
  intro r T size v n xs hr1 hr2 hR;have a1:=hR.kept g1 (fun b e hb=>by rw[hrow b e hb];exact fun e=>hr1 e.symm);have a2:=a1.kept g2 (fun b e hb=>hdb2 b r e hr2);exact⟨a2.q,fun b k=>by rw[hold b (hR.q.lt b k).2];exact hR.rl b k⟩
 have twoR:∀{r:Rl},RuAt w role r->RuAt w2 role' r:=by
  intro r hR;have a1:=hR.kept g1 (fun b e hb=>by rw[hrow b e hb];exact fun e=>by cases e);have a2:=a1.kept g2 (fun b e hb=>hdb2 b .ro e (fun e=>by cases e));exact⟨a2.pk,fun b k=>⟨by rw[hold b (hR.rl b k).2];exact(hR.rl b k).1,(a2.rl b k).2⟩⟩
 refine⟨role',hold,⟨by rw[hold nb hnbl];exact h.nbR,?_,by show role' N.db=_;rw[hold _ hdbl];exact h.dbR,⟨_,e2,by simpa using c2,fun s1 hs1 j1 hj1=>?_⟩,fun s1 hs1=>?_,?_,?_,fun b k=>?_,fun b hb=>?_,h.dsz⟩⟩
 ·have:some nb≠some N.db:=fun e=>by
   have e:=Option.some.inj e;have h1:=h.nbR;rw[e,h.dbR]at h1;cases h1
  rw[g2.block nb (by omega) this,g1.block nb hnbl hnr,h.net]
 ·show _=some ((AC N.dv s d' s1).vs j1);rw[Array.getElem?_setIfInBounds];by_cases es:s1=s
  ·subst es;rw[BK];by_cases ej:j1=j
   ·subst ej;rw[if_pos rfl,if_pos (by rw[c2];have:=hs;omega)]
   ·rw[if_neg (by omega),c3 s1 hs j1 hj1,(hv j1 hj1 ej).1]
  ·rw[C4 es,if_neg (by omega),c3 s1 hs1 j1 hj1]
 ·show DvAt w2 role' s1 (AC N.dv s d' s1);by_cases es:s1=s
  ·subst es;rw[BK];refine⟨fun i hi=>?_,fun r hm=>twoR (ru r hm)⟩;by_cases ei:i=j
   ·subst ei;refine⟨q.kept g2 (fun b e k=>?_),fun b k=>?_⟩
    ·cases e;have:=hat _ k hdbl;rw[h.dbR]at this;cases this
    ·by_cases hb:b<w.heap.size
     ·rw[hold b hb];exact hat b k hb
     ·rw[hrole];exact if_pos ⟨by omega,k⟩
   ·obtain⟨k1,k2,k3⟩:=hv i hi ei;rw[k1,k2,k3];exact two (fun e=>by cases e;exact ei rfl) (fun e=>by cases e) ((h.dvs s1 hs).row i hi)
  ·rw[C4 es];exact⟨fun i hi=>two (fun e=>by cases e;exact es rfl) (fun e=>by cases e) ((h.dvs s1 hs1).row i hi),fun r hm=>twoR ((h.dvs s1 hs1).ru r hm)⟩
 ·exact two (fun e=>by cases e) (fun e=>by cases e) h.dels
 ·refine h.lnk.same (fun b k=>?_);have hb:=h.lnr b k;rw[g2.block b (by omega) (fun e=>hdb2 b .ro e.symm (fun e=>by cases e) hb.1),g1.block b hb.2 (hne b hb.2 (by rw[hb.1];exact fun e=>by cases e))]
 ·have hb:=h.lnr b k;exact⟨by rw[hold b hb.2];exact hb.1,by omega⟩
 ·by_cases hb2:b<w.heap.size
  ·rw[hold b hb2]at hb;exact⟨(h.low b hb).1,by omega⟩
  ·rw[hrole]at hb;by_cases hc:w.heap.size<=b/\(d'.vs j).ownBlock=some b
   ·exact⟨by omega,by have:=(q.lt b hc.2).2;omega⟩
   ·have hb3:role b ≠ .free:=by
     have:=hb;simp only at this;rw[if_neg hc]at this;exact this
    exact absurd (h.new (by omega)) hb3
open Classical in
theorem NetAt.setDel{w w1:World}{B nb:Nat}{role:Nat->Role}{N:NetM}(h:NetAt w B nb role N)(hB:B<=w.heap.size){row:Option Nat}(g1:w.grownBy w1 row)(hrow:∀b,row=some b->b<w.heap.size->role b=.del){v:Value}{L:List (Nat->Int)}
  (q:A9 0 w1 46 6 v L.length (AO L)) (hat:∀b,v.ownBlock=some b->b<w.heap.size->role b=.del):
  ∃role',(∀b,b<w.heap.size->role' b=role b)/\NetAt (w1.setCell ⟨nb,5,none⟩ v) B nb role' { N with delv:=v,del:=L }:=by
 obtain⟨cur,c1,c2,c3⟩:=h.dev;have hdbl:N.db<w.heap.size:=(h.low N.db (by rw[h.dbR];exact fun e=>by cases e)).2;have hnbl:nb<w.heap.size:=(h.low nb (by rw[h.nbR];exact fun e=>by cases e)).2;have hne:∀b,b<w.heap.size->role b ≠ .del->some b≠row:=fun b hb hr e=>hr (hrow b e.symm hb)
 have hdr:some N.db≠row:=hne _ hdbl (by rw[h.dbR];exact fun e=>by cases e);have hnr:some nb≠row:=hne _ hnbl (by rw[h.nbR];exact fun e=>by cases e);have e1:=h.net;rw[<-g1.block nb hnbl hnr]at e1;obtain⟨w2,hw2⟩:∃w2,w2=w1.setCell ⟨nb,5,none⟩ v:=⟨_,rfl⟩;have g2:w1.grownBy w2 (some nb):=by rw[hw2];exact A7 _ _ _ _
 have e2:=AI e1 5 v;rw[<-hw2]at e2 ⊢;obtain⟨role',hrole⟩:∃role':Nat->Role,role'=fun b=>if w.heap.size<=b/\v.ownBlock=some b then .del else role b:=⟨_,rfl⟩
 have hold:∀b,b<w.heap.size->role' b=role b:=fun b hb=>by rw[hrole];exact if_neg (fun e=>by omega)
 have hs1:=g1.size;have hs2:=g2.size;have hdb2:∀b r,some nb=some b->r≠Role.net->role b≠r:=fun b r e hr=>by cases e;rw[h.nbR];exact fun e=>hr e.symm
 have two:∀{r:Role} {T:TypeId} {size:Nat} {v:Value} {n:Nat} {xs:List Value},r ≠ .del->r ≠ .net->RowAt w role r T size v n xs->RowAt w2 role' r T size v n xs:=by
  intro r T size v n xs hr1 hr2 hR;have a1:=hR.kept g1 (fun b e hb=>by rw[hrow b e hb];exact fun e=>hr1 e.symm);have a2:=a1.kept g2 (fun b e hb=>hdb2 b r e hr2);exact⟨a2.q,fun b k=>by rw[hold b (hR.q.lt b k).2];exact hR.rl b k⟩
 have twoR:∀{r:Rl},RuAt w role r->RuAt w2 role' r:=by
  intro r hR;have a1:=hR.kept g1 (fun b e hb=>by rw[hrow b e hb];exact fun e=>by cases e);have a2:=a1.kept g2 (fun b e hb=>hdb2 b .ro e (fun e=>by cases e));exact⟨a2.pk,fun b k=>⟨by rw[hold b (hR.rl b k).2];exact(hR.rl b k).1,(a2.rl b k).2⟩⟩
 refine⟨role',hold,⟨by rw[hold nb hnbl];exact h.nbR,e2,by show role' N.db=_;rw[hold _ hdbl];exact h.dbR,⟨cur,?_,c2,c3⟩,fun s1 hs1=>⟨fun i hi=>two (fun e=>by cases e) (fun e=>by cases e) ((h.dvs s1 hs1).row i hi),fun r hm=>twoR ((h.dvs s1 hs1).ru r hm)⟩,⟨q.kept g2 (fun b e k=>?_),fun b k=>?_⟩,?_,fun b k=>?_,fun b hb=>?_,h.dsz⟩⟩
 ·have:some N.db≠some nb:=fun e=>by
   have e:=Option.some.inj e;have h1:=h.nbR;rw[<-e,h.dbR]at h1;cases h1
  show w2.heap[N.db]?=_;rw[g2.block N.db (by omega) this,g1.block N.db hdbl hdr,c1]
 ·cases e;have:=hat _ k hnbl;rw[h.nbR]at this;cases this
 ·by_cases hb:b<w.heap.size
  ·rw[hold b hb];exact hat b k hb
  ·rw[hrole];exact if_pos ⟨by omega,k⟩
 ·refine h.lnk.same (fun b k=>?_);have hb:=h.lnr b k;rw[g2.block b (by omega) (fun e=>hdb2 b .ro e.symm (fun e=>by cases e) hb.1),g1.block b hb.2 (hne b hb.2 (by rw[hb.1];exact fun e=>by cases e))]
 ·have hb:=h.lnr b k;exact⟨by rw[hold b hb.2];exact hb.1,by omega⟩
 ·by_cases hb2:b<w.heap.size
  ·rw[hold b hb2]at hb;exact⟨(h.low b hb).1,by omega⟩
  ·rw[hrole]at hb;by_cases hc:w.heap.size<=b/\v.ownBlock=some b
   ·exact⟨by omega,by have:=(q.lt b hc.2).2;omega⟩
   ·have hb3:role b ≠ .free:=by
     have:=hb;simp only at this;rw[if_neg hc]at this;exact this
    exact absurd (h.new (by omega)) hb3
open Classical in
theorem NetAt.mark{w:World}{B nb:Nat}{role:Nat->Role}{N:NetM}(h:NetAt w B nb role N)(P:Nat->Prop)(hP:∀b,P b->role b=.free/\B<=b/\b<w.heap.size):NetAt w B nb (fun b=>if P b then .ro else role b) N/\∀b,role b ≠ .free->(if P b then Role.ro else role b)=role b:=by
 have hk:∀b,role b ≠ .free->(if P b then Role.ro else role b)=role b:=fun b hb=>if_neg (fun e=>hb (hP b e).1)
 have key:∀b r,role b=r->r ≠ .free->(if P b then Role.ro else role b)=r:=fun b r e hr=>by rw[hk b (by rw[e];exact hr),e]
 refine⟨⟨key _ _ h.nbR (fun e=>by cases e),h.net,key _ _ h.dbR (fun e=>by cases e),h.dev,fun s hs=>⟨fun j hj=>⟨((h.dvs s hs).row j hj).q,fun b k=>key b _ (((h.dvs s hs).row j hj).rl b k) (fun e=>by cases e)⟩,fun r hm=>⟨((h.dvs s hs).ru r hm).pk,fun b k=>⟨key b _ (((h.dvs s hs).ru r hm).rl b k).1 (fun e=>by cases e),(((h.dvs s hs).ru r hm).rl b k).2⟩⟩⟩,⟨h.dels.q,fun b k=>key b _ (h.dels.rl b k) (fun e=>by cases e)⟩,h.lnk,fun b k=>⟨key b _ (h.lnr b k).1 (fun e=>by cases e),(h.lnr b k).2⟩,fun b hb=>?_,h.dsz⟩,hk⟩;by_cases hp:P b
 ·exact(hP b hp).2
 ·rw[if_neg hp]at hb;exact h.low b hb
def fl(ps:Nat->Nat->Int):Nat->List Value
 | 0=>[]
 | n+1=>fl ps n++CQ (ps n)
theorem Dj(ps:Nat->Nat->Int):∀n,(fl ps n).length=n*6
 | 0=>rfl
 | n+1=>by rw[fl,List.length_append,Dj ps n];simp[CQ];omega
theorem pkCs_get?(k:Nat->Int)(i:Nat)(h:i<6):(CQ k)[i]?=some (.int .i64 (k i)):=by
 rcases(show i=0\/i=1\/i=2\/i=3\/i=4\/i=5 by omega) with rfl|rfl|rfl|rfl|rfl|rfl<;>rfl
theorem Gw(ps:Nat->Nat->Int):∀n j i,j<n->i<6->(fl ps n)[j*6+i]?=some (.int .i64 (ps j i))
 | 0,_,_,h,_=>by omega
 | n+1,j,i,h,hi=>by
  rw[fl];by_cases e:j=n
  ·subst e;rw[List.getElem?_append_right (by rw[Dj];omega),Dj,show j*6+i-j*6=i by omega,pkCs_get? _ _ hi]
  ·rw[List.getElem?_append_left (by rw[Dj];omega)];exact Gw ps n j i (by omega) hi
theorem Mu(ps:Nat->Nat->Int)(n:Nat):∀v∈fl ps n,v.oneCell'=true:=by
 induction n with
 | zero=>intro v hv;simp[fl]at hv
 | succ n ih=>
  intro v hv;rw[fl,List.mem_append]at hv;rcases hv with h|h
  ·exact ih v h
  ·simp[CQ]at h;rcases h with rfl|rfl|rfl|rfl|rfl|rfl<;>rfl
theorem Mt{ps qs:Nat->Nat->Int}:∀{n:Nat},(∀j,j<n->∀i,i<6->ps j i=qs j i)->fl ps n=fl qs n
 | 0,_=>rfl
 | n+1,h=>by
  rw[fl,fl,Mt (n:=n) (fun j hj=>h j (by omega))];unfold CQ;rw[h n (by omega) 0 (by omega),h n (by omega) 1 (by omega),h n (by omega) 2 (by omega),h n (by omega) 3 (by omega),h n (by omega) 4 (by omega),h n (by omega) 5 (by omega)]
def cat(n:Nat)(ps qs:Nat->Nat->Int):Nat->Nat->Int:=fun j=>if j<n then ps j else qs (j-n)
theorem Ms(ps qs:Nat->Nat->Int)(n:Nat):∀m,fl (cat n ps qs) (n+m)=fl ps n++fl qs m
 | 0=>by
  rw[Nat.add_zero,fl,List.append_nil];exact Mt (fun j hj i hi=>by unfold cat;rw[if_pos hj])
 | m+1=>by
  rw[<-Nat.add_assoc,fl,Ms ps qs n m,fl,List.append_assoc];unfold cat;rw[if_neg (by omega),Nat.add_sub_cancel_left]
theorem AH.owns{B:Nat}{w:World}{v:Value}{n:Nat}{d:Nat->Nat->Int}(h:AH B w v n d):w.ownsRow B 46 6 v n (fl d n):=by
 rcases h with⟨rfl,rfl⟩|⟨g,cap,h1,rfl,cur,g1,g2,g3,g4,g5⟩
 ·exact⟨rfl,.inl ⟨rfl,rfl⟩⟩
 ·refine⟨Dj d n,.inr ⟨g,cap,cur,rfl,h1,g1,g3,by unfold maxLen;omega,g2,?_⟩⟩;apply List.ext_getElem?;intro t;by_cases ht:t<n*6
  ·rw[List.getElem?_take_of_lt ht,Array.getElem?_toList];have h1:=g5 (t/6) (by omega) (t%6) (by omega);have h2:=Gw d n (t/6) (t%6) (by omega) (by omega);rw[show t/6*6+t%6=t by omega]at h1 h2;rw[h1,h2]
  ·rw[List.getElem?_eq_none (by rw[List.length_take];omega),List.getElem?_eq_none (by rw[Dj];omega)]
theorem AH.of{B:Nat}{w:World}{v:Value}{n:Nat}{d:Nat->Nat->Int}(h:w.ownsRow B 46 6 v n (fl d n))(hn:n<=3000000000000):AH B w v n d:=by
 rcases h.2 with⟨h1,h2⟩|⟨g,cap,cur,h1,h2,h3,h4,h5,h6,h7⟩
 ·exact .inl ⟨h1,h2⟩
 ·refine .inr ⟨g,cap,h2,h1,cur,h3,h6,h4,⟨by unfold maxLen at h5;omega,hn⟩,fun j hj i hi=>?_⟩;have:=Gw d n j i hj hi;rw[<-h7,List.getElem?_take_of_lt (by omega),Array.getElem?_toList]at this;exact this
theorem AH.row{B:Nat}{w:World}{v:Value}{n:Nat}{d:Nat->Nat->Int}(h:AH B w v n d):AG w v n d:=by
 rcases h with h|⟨g,cap,_,rfl,h⟩
 ·exact .inl h
 ·exact h.row
theorem AH.slice{B:Nat}{w:World}{v:Value}{n:Nat}{d:Nat->Nat->Int}(h:AH B w v n d):∃a c,v=.slice a n c:=by
 rcases h with⟨rfl,rfl⟩|⟨g,cap,_,rfl,h⟩
 ·exact⟨_,_,rfl⟩
 ·exact⟨_,_,rfl⟩
theorem AH.grown{B:Nat}{w w':World}{v:Value}{n:Nat}{d:Nat->Nat->Int}{row:Option Nat}(h:AH B w v n d)(hg:w.grownBy w' row)(hr:∀b,row=some b->v.ownBlock≠some b):AH B w' v n d:=by
 rcases h with h|⟨g,cap,h1,h2,h3⟩
 ·exact .inl h
 ·refine .inr ⟨g,cap,h1,h2,h3.grown hg (fun e=>hr g e (by rw[h2];rfl))⟩
theorem AH.mono{B C:Nat}{w:World}{v:Value}{n:Nat}{d:Nat->Nat->Int}(h:AH B w v n d)(hc:C<=B):AH C w v n d:=by
 rcases h with h|⟨g,cap,h1,h2,h3⟩
 ·exact .inl h
 ·exact .inr ⟨g,cap,by omega,h2,h3⟩
theorem AH.cong{B:Nat}{w:World}{v:Value}{n:Nat}{d e:Nat->Nat->Int}(h:AH B w v n d)(he:∀j,j<n->∀i,i<6->d j i=e j i):AH B w v n e:=by
 rcases h with h|⟨g,cap,h1,h2,h3⟩
 ·exact .inl h
 ·exact .inr ⟨g,cap,h1,h2,h3.cong he⟩
theorem AH.nil(B:Nat)(w:World)(d:Nat->Nat->Int):AH B w (.slice none 0 0) 0 d:=.inl ⟨rfl,rfl⟩
theorem AH.lt{B:Nat}{w:World}{v:Value}{n:Nat}{d:Nat->Nat->Int}(h:AH B w v n d):∀b,v.ownBlock=some b->B<=b/\b<w.heap.size:=by
 intro b hb;rcases h with⟨rfl,_⟩|⟨g,cap,h1,rfl,h3⟩
 ·cases hb
 ·cases hb;exact⟨h1,h3.lt⟩
theorem Gb{ops:Array Oper}{rest:List Oper}{o:Oper}{a:Act}{Q:Exit->Act->World->Prop}(w:World)(hgd:o.guard=none)(s x:Operand)
  (ho:o.op=.call { callee:=.builtin .append,args:=#[s,x],argTypes:=#[29,29] })
  (B:Nat) (v:Value) (n:Nat) (d:Nat->Nat->Int) (hs:a.eval s=v) (hown:AH B w v n d) (u:Value) (m:Nat) (qs:Nat->Nat->Int) (hx:a.eval x=u) (hsrc:PkR w u m qs) (hb:n+m<=2000000000000) (hB:B<=w.heap.size)
  (h:∀v' w',AH B w' v' (n+m) (cat n d qs)->w.grownBy w' v.ownBlock->(v'.ownBlock=v.ownBlock\/v'.ownBlock=some w.heap.size)->wpList Tryz.prog ops Q rest (a.put o.dst v') w'):
  wpList Tryz.prog ops Q (o::rest) a w:=by
 obtain⟨i0,hi,hz0,hz1,hz2⟩:=info_parts Tryz.infoPk6
 have key:∀ad c,u=.slice (some ad) m c->(∀j t,(fl qs m)[j]?=some t->w.cell? (ad.add j)=some t)->wpList Tryz.prog ops Q (o::rest) a w:=by
  intro ad c hu hc;refine wpList_append_own_at w hgd s x 29 ho B 46 i0 _ 6 48 Tryz.underlying29 hi hz0 hz1 hz2 rfl (by decide) v n (fl d n) hs hown.owns ad m c (fl qs m) (by rw[hx,hu]) (Dj qs m) hc (Mu qs m) (by unfold maxLen;omega) (by omega) hB ?_;intro v' w' h1 h2 _ h4;rw[<-Ms]at h1;exact h v' w' (AH.of h1 (by omega)) h2 h4
 rcases hsrc with⟨ao,c,hu,hm,hnone⟩|⟨g,off,cap,hu,hm,hc⟩
 ·subst hm;cases ao with
  | none=>
   obtain rfl:=hnone rfl;refine wpList_append_own_none hgd s x 29 ho B 46 i0 6 Tryz.underlying29 hi v n (fl d n) hs hown.owns (by rw[hx,hu]) ?_;exact h v w (hown.cong (fun j hj i hi=>by unfold cat;rw[if_pos hj])) (AA _ _) (.inl rfl)
  | some ad=>exact key ad c hu (fun j t hj=>by simp[fl]at hj)
 ·refine key ⟨g,off,none⟩ cap hu (fun j t hj=>?_)
  have hlt:j<m*6:=by
   rcases Nat.lt_or_ge j (m*6) with e|e
   ·exact e
   ·rw[List.getElem?_eq_none (by rw[Dj];exact e)]at hj;cases hj
  have h2:=Gw qs m (j/6) (j%6) (by omega) (by omega);rw[show j/6*6+j%6=j by omega,hj]at h2;rw[h2,show(⟨g,off,none⟩:Addr).add j=⟨g,off+j,none⟩ by unfold Addr.add;split<;>simp_all];have:=hc (j/6) (by omega) (j%6) (by omega);rw[show off+j/6*6+j%6=off+j by omega]at this;exact this
theorem VB{x y:Nat->Int}{j:Nat}(hj:j<6)(h:∀t,t<j->x t=y t)(hne:x j≠y j):ltP x y↔x j<y j:=by
 constructor
 ·rintro⟨i,h1,h2,h3⟩;rcases Nat.lt_trichotomy i j with e|e|e
  ·rw[h i e]at h3;omega
  ·subst e;exact h3
  ·exact absurd (h2 j e) hne
 ·intro g;exact⟨j,hj,h,g⟩
def rlV(p:Int)(mt:Nat->Int)(v:Value):Value:=.agg (rlA p mt v)
theorem ER(w:World)(k:Nat->Int):PkR (w.alloc (.cells (pkA k) 46)) (.slice (some ⟨w.heap.size,0,none⟩) 1 1) 1 (fun _=>k):=
 .inr ⟨w.heap.size,0,1,rfl,by omega,fun j hj i hi=>by
  obtain rfl:j=0:=by omega
  rw[Nat.zero_mul,Nat.add_zero,Nat.zero_add];exact(AD.alloc w k).cell i hi⟩
def Ld(w:World)(v:Value)(T:TypeId):Prop:=∀b,v.ownBlock=some b->∃cur,w.heap[b]?=some (.cells cur T (0,0))
theorem AH.tagged{B:Nat}{w:World}{v:Value}{n:Nat}{d:Nat->Nat->Int}(h:AH B w v n d):Ld w v 46:=by
 intro b hb;rcases h with⟨rfl,_⟩|⟨g,cap,_,rfl,cur,h1,_⟩
 ·cases hb
 ·cases hb;exact⟨cur,h1⟩
theorem FH{w:World}{B:Nat}{T:TypeId}{size:Nat}{v:Value}{n:Nat}{xs:List Value}(h:w.ownsRow B T size v n xs):Ld w v T:=by
 intro b hb;rcases h.2 with⟨rfl,_⟩|⟨g,cap,cur,rfl,_,h1,_⟩
 ·cases hb
 ·cases hb;exact⟨cur,h1⟩
def Kp(S:Nat->Prop)(w w':World):Prop:=w'.os=w.os/\w'.tape=w.tape/\w'.output=w.output/\w.heap.size<=w'.heap.size/\∀b,b<w.heap.size->¬S b->w'.heap[b]?=w.heap[b]?
theorem Kp.refl(S:Nat->Prop)(w:World):Kp S w w:=⟨rfl,rfl,rfl,Nat.le_refl _,fun _ _ _=>rfl⟩
theorem Kp.size{S:Nat->Prop}{w w':World}(h:Kp S w w'):w.heap.size<=w'.heap.size:=h.2.2.2.1
theorem Kp.step{S:Nat->Prop}{w w1 w2:World}{row:Option Nat}(h:Kp S w w1)(k:w1.grownBy w2 row)(hr:∀b,row=some b->S b\/w.heap.size<=b):Kp S w w2:=
 ⟨k.os.trans h.1,k.tape.trans h.2.1,k.output.trans h.2.2.1,Nat.le_trans h.size k.size,fun b hb hn=>by
  rw[k.block b (Nat.lt_of_lt_of_le hb h.size) (fun e=>by
   rcases hr b e.symm with c|c
   ·exact hn c
   ·omega)]
  exact h.2.2.2.2 b hb hn⟩
def Fd(w:World)(b:Nat)(T:TypeId):Prop:=∃cur,w.heap[b]?=some (.cells cur T (0,0))
theorem Fd.ne{w:World}{b c:Nat}{T U:TypeId}(h:Fd w b T)(g:Fd w c U)(hne:T≠U):b≠c:=by
 rintro rfl;obtain⟨c1,h1⟩:=h;obtain⟨c2,h2⟩:=g;rw[h1]at h2;cases h2;exact hne rfl
theorem WQ{w w':World}{B:Nat}{T U:TypeId}{size:Nat}{v:Value}{n:Nat}{xs:List Value}{row:Option Nat}(h:w.ownsRow B T size v n xs)(hg:w.grownBy w' row)(ht:∀b,row=some b->Fd w b U)(hU:U≠T):w'.ownsRow B T size v n xs:=by
 refine h.kept hg ?_;cases hv:v.ownBlock with
 | none=>exact .inl rfl
 | some b=>
  right;intro e;exact(ht b e.symm).ne (FH h b hv) hU rfl
theorem FG{w w':World}{B:Nat}{U:TypeId}{v:Value}{n:Nat}{d:Nat->Nat->Int}{row:Option Nat}(h:AH B w v n d)(hg:w.grownBy w' row)(ht:∀b,row=some b->Fd w b U)(hU:U≠46):AH B w' v n d:=
 h.grown hg (fun b e hb=>((ht b e).ne (h.tagged b hb) hU) rfl)
structure Msg where
 kind:Int
 prio:Int
 mt:Nat->Int
 na:Nat
 acts:Nat->Nat->Int
 np:Nat
 pks:Nat->Nat->Int
def CF(m:Msg):Prop:=m.prio=0/\(∀i,i<6->m.mt i=0)/\m.na=0
def GN(m:Msg):Prop:=0<=m.prio/\m.prio<=65535/\E7 m.mt/\∀j,j<m.na->E7 (m.acts j)
def DQ(m:Msg):Prop:=
 (m.kind=1/\GN m/\m.np=0)\/(m.kind=4/\CF m/\m.np=1/\∀j,j<m.np->BC (m.pks j))\/(m.kind=5/\CF m/\∀j,j<m.np->BC (m.pks j))\/
 ((m.kind=2\/m.kind=3\/m.kind=6)/\CF m/\m.np=0)
def Eb(m:Msg)(av:Value):Value:=.agg #[.int .i64 m.prio,.int .i64 (m.mt 0),.int .i64 (m.mt 1),.int .i64 (m.mt 2),.int .i64 (m.mt 3),.int .i64 (m.mt 4),.int .i64 (m.mt 5),av]
def Ag(m:Msg)(av pv:Value):Value:=.agg #[.int .i64 m.kind,.int .i64 m.prio,.int .i64 (m.mt 0),.int .i64 (m.mt 1),.int .i64 (m.mt 2),.int .i64 (m.mt 3),.int .i64 (m.mt 4),.int .i64 (m.mt 5),av,pv]
theorem AG.slice{w:World}{v:Value}{n:Nat}{ps:Nat->Nat->Int}(h:AG w v n ps):∃a cap,v=.slice a n cap:=by
 rcases h with⟨rfl,rfl⟩|⟨g,off,cap,rfl,_⟩
 ·exact⟨_,_,rfl⟩
 ·exact⟨_,_,rfl⟩
theorem AG.few{w:World}{v:Value}{n:Nat}{ps:Nat->Nat->Int}(h:AG w v n ps):n<=3000000000000:=by
 rcases h with⟨rfl,rfl⟩|⟨g,off,cap,rfl,h,_⟩<;>omega
theorem TF(a0 a1 a2 a3 a4 a5 b0 b1 b2 b3 b4 b5:Int):eq6 a0 a1 a2 a3 a4 a5 b0 b1 b2 b3 b4 b5=true↔a0=b0/\a1=b1/\a2=b2/\a3=b3/\a4=b4/\a5=b5:=by
 simp[eq6]
theorem Ln(p:Nat->Prop):(∀i,i<6->p i)↔p 0/\p 1/\p 2/\p 3/\p 4/\p 5:=by
 constructor
 ·intro h;exact⟨h 0 (by omega),h 1 (by omega),h 2 (by omega),h 3 (by omega),h 4 (by omega),h 5 (by omega)⟩
 ·rintro⟨h0,h1,h2,h3,h4,h5⟩ i hi;rcases(show i=0\/i=1\/i=2\/i=3\/i=4\/i=5 by omega) with rfl|rfl|rfl|rfl|rfl|rfl<;>assumption
theorem EC{p:Prop}{w w':World}(h:¬p)(hg:w.grownBy w' none):Aq p w (.returned (.bool false)) w':=⟨⟨false,rfl,⟨fun e=>(by cases e),fun e=>absurd e h⟩⟩,hg⟩
theorem Xc{p:Prop}{w w':World}(h:p)(hg:w.grownBy w' none):Aq p w (.returned (.bool true)) w':=⟨⟨true,rfl,⟨fun _=>h,fun _=>rfl⟩⟩,hg⟩
theorem Kg{p:Prop}{w w':World}{b:Bool}(hb:b=false)(h:¬p)(hg:w.grownBy w' none):Aq p w (.returned (.bool b)) w':=by subst hb;exact EC h hg
theorem Kh{p:Prop}{w w':World}{b:Bool}(hb:b=true)(h:p)(hg:w.grownBy w' none):Aq p w (.returned (.bool b)) w':=by subst hb;exact Xc h hg
theorem Pg{p q:Prop}{w w':World}{b:Bool}(h:b=true↔q)(hpq:q↔p)(hg:w.grownBy w' none):Aq p w (.returned (.bool b)) w':=⟨⟨b,rfl,h.trans hpq⟩,hg⟩
theorem K8(m:Msg)(a:Option Addr)(cap:Nat)(w:World):Calls Tryz.prog 279 #[Eb m (.slice a m.na cap)] w (Aq (CF m) w):=by
 obtain⟨kind,p,mt,na,acts,np,pks⟩:=m;unfold Eb CF;simp only;generalize hP:(p=0/\(∀i,i<6->mt i=0)/\na=0)=P;have HP:=A0 hP;clear hP;have H6:=A0 (TF (mt 0) (mt 1) (mt 2) (mt 3) (mt 4) (mt 5) 0 0 0 0 0 0);by_cases h0:p=0
 ·have H0:=A0 h0;have h1:p<=0:=by omega
  have h2:0<=p:=by omega
  clear h0;cases h3:eq6 (mt 0) (mt 1) (mt 2) (mt 3) (mt 4) (mt 5) 0 0 0 0 0 0 with
  | false=>
   rw[h3]at H6;go_enter Tryz.func279,Tryz.ntmps279;go_wp2;go_ret;exact EC (fun h=>by rw[<-HP.o]at h;have:=H6.o.2 ((Ln (fun i=>mt i=0)).1 h.2.1);simp at this) (World.grownBy_alloc _ _ _)
  | true=>
   rw[h3]at H6;by_cases h4:na=0
   ·have H4:=A0 h4;have h5:na<=0:=by omega
    clear h4;go_enter Tryz.func279,Tryz.ntmps279;go_wp2;go_ret;exact Kh (by simp[H4.o]) (by rw[<-HP.o];exact⟨H0.o,(Ln (fun i=>mt i=0)).2 (H6.o.1 (by simp)),H4.o⟩) (World.grownBy_alloc _ _ _)
   ·go_enter Tryz.func279,Tryz.ntmps279;go_wp2;go_ret;exact Kg (by simp[h4]) (fun h=>by rw[<-HP.o]at h;exact h4 h.2.2) (World.grownBy_alloc _ _ _)
 ·go_enter Tryz.func279,Tryz.ntmps279;go_wp2;go_ret;exact EC (fun h=>by rw[<-HP.o]at h;exact h0 h.1) (World.grownBy_alloc _ _ _)
theorem XE(m:Msg)(av:Value)(w:World)(hav:AG w av m.na m.acts):Calls Tryz.prog 278 #[Eb m av] w (Aq (GN m) w):=by
 obtain⟨kind,p,mt,na,acts,np,pks⟩:=m;unfold Eb GN;simp only at hav ⊢;have HAV:=A0 hav;have HM:=A0 (fun w=>Ol mt w);have HA:=A0 (fun w h=>RT E7 Ol av na acts w h);clear hav;unfold pkV pkA at HM;by_cases h0:0<=p
 ·by_cases h1:p<=65535
  ·go_enter Tryz.func278,Tryz.ntmps278;go_wp2_with fail;refine(HM.o _).mono ?_;rintro e w1 ⟨⟨b,rfl,hb⟩,hg1⟩;have G1:=A0 hg1;have HB:=A0 hb;have c7:w1.cell? ⟨w.heap.size,7,none⟩=some av:=hg1.cell (by simp) (by simp);clear hb hg1;cases b
   ·go_wp2;go_ret;exact⟨⟨false,rfl,by simp;intro _ _ hh;have:=HB.o.2 hh;simp at this⟩,A1 (World.grownBy_alloc _ _ _) G1.o⟩
   ·go_wp2_with fail;refine(HA.o _ (HAV.o.grown (A1 (World.grownBy_alloc _ _ _) G1.o))).mono ?_;rintro e w2 ⟨⟨b,rfl,hb⟩,hg2⟩;have G2:=A0 hg2;have HB2:=A0 hb;clear hb hg2;go_wp2;go_ret
    exact⟨⟨b,rfl,by rw[HB2.o];constructor
                    ·intro h;exact⟨h0,h1,HB.o.1 (by simp),h⟩
                    ·intro h;exact h.2.2.2⟩,A1 (A1 (World.grownBy_alloc _ _ _) G1.o) G2.o⟩
  ·go_enter Tryz.func278,Tryz.ntmps278;go_wp2;go_ret;exact⟨⟨false,rfl,by simp;intro _ e;omega⟩,World.grownBy_alloc _ _ _⟩
 ·go_enter Tryz.func278,Tryz.ntmps278;go_wp2;go_ret;exact⟨⟨false,rfl,by simp;intro e;omega⟩,World.grownBy_alloc _ _ _⟩
theorem XB(m:Msg)(a b:Option Addr)(ca cb:Nat)(w:World)(hav:AG w (.slice a m.na ca) m.na m.acts)(hk:m.kind=1):
  Calls Tryz.prog 267 #[Ag m (.slice a m.na ca) (.slice b m.np cb)] w (Aq (GN m/\m.np=0) w):=by
 generalize hP:(GN m/\m.np=0)=P;have HP:=A0 hP;clear hP;have HR:=A0 (fun w h=>XE m (.slice a m.na ca) w h);have HAV:=A0 hav;clear hav;obtain⟨kind,p,mt,na,acts,np,pks⟩:=m;unfold Eb at HR;unfold Ag;simp only at hk HR HAV HP ⊢;subst hk;generalize (Msg.mk 1 p mt na acts np pks)=m at *;go_enter Tryz.func267,Tryz.ntmps267;go_wp2_with fail;refine(HR.o _ (HAV.o.grown (World.grownBy_alloc _ _ _))).mono ?_;rintro e w1 ⟨⟨b,rfl,hb⟩,hg1⟩;have G1:=A0 hg1;have HB:=A0 hb;have c9:w1.cell? ⟨w.heap.size,9,none⟩=some (.slice _ np cb):=hg1.cell (by simp;rfl) (by simp);clear hb hg1;cases b
 ·go_wp2;go_ret;exact EC (fun h=>by rw[<-HP.o]at h;have:=HB.o.2 h.1;simp at this) (A1 (World.grownBy_alloc _ _ _) G1.o)
 ·by_cases h4:np=0
  ·have H4:=A0 h4;have h5:np<=0:=by omega
   clear h4;go_wp2;go_ret;exact Kh (by simp[H4.o]) (by rw[<-HP.o];exact⟨HB.o.1 (by simp),H4.o⟩) (A1 (World.grownBy_alloc _ _ _) G1.o)
  ·go_wp2;go_ret;exact Kg (by simp[h4]) (fun h=>by rw[<-HP.o]at h;exact h4 h.2) (A1 (World.grownBy_alloc _ _ _) G1.o)
theorem KV(m:Msg)(a b:Option Addr)(ca cb:Nat)(w:World)(hk:m.kind=2\/m.kind=3\/m.kind=6):
  Calls Tryz.prog 267 #[Ag m (.slice a m.na ca) (.slice b m.np cb)] w (Aq (CF m/\m.np=0) w):=by
 generalize hP:(CF m/\m.np=0)=P;have HP:=A0 hP;clear hP;have HR:=A0 (fun w=>K8 m a ca w);obtain⟨kind,p,mt,na,acts,np,pks⟩:=m;unfold Eb at HR;unfold Ag;simp only at hk HR HP ⊢;generalize (Msg.mk kind p mt na acts np pks)=m at *;rcases hk with rfl|rfl|rfl
 all_goals
  go_enter Tryz.func267,Tryz.ntmps267;go_wp2_with fail;refine(HR.o _).mono ?_;rintro e w1 ⟨⟨b,rfl,hb⟩,hg1⟩;have G1:=A0 hg1;have HB:=A0 hb;have c9:w1.cell? ⟨w.heap.size,9,none⟩=some (.slice _ np cb):=hg1.cell (by simp;rfl) (by simp);clear hb hg1;cases b
  ·go_wp2;go_ret;exact EC (fun h=>by rw[<-HP.o]at h;have:=HB.o.2 h.1;simp at this) (A1 (World.grownBy_alloc _ _ _) G1.o)
  ·by_cases h4:np=0
   ·have H4:=A0 h4;have h5:np<=0:=by omega
    clear h4;go_wp2;go_ret;exact Kh (by simp[H4.o]) (by rw[<-HP.o];exact⟨HB.o.1 (by simp),H4.o⟩) (A1 (World.grownBy_alloc _ _ _) G1.o)
   ·go_wp2;go_ret;exact Kg (by simp[h4]) (fun h=>by rw[<-HP.o]at h;exact h4 h.2) (A1 (World.grownBy_alloc _ _ _) G1.o)
theorem XD(m:Msg)(a b:Option Addr)(ca cb:Nat)(w:World)(hpv:AG w (.slice b m.np cb) m.np m.pks)(hk:m.kind=5):
  Calls Tryz.prog 267 #[Ag m (.slice a m.na ca) (.slice b m.np cb)] w (Aq (CF m/\∀j,j<m.np->BC (m.pks j)) w):=by
 generalize hP:(CF m/\∀j,j<m.np->BC (m.pks j))=P;have HP:=A0 hP;clear hP;have HR:=A0 (fun w=>K8 m a ca w);have HA:=A0 (fun w h=>Lo BC Hl (.slice b m.np cb) m.np m.pks w h);have HPV:=A0 hpv;clear hpv;obtain⟨kind,p,mt,na,acts,np,pks⟩:=m;unfold Eb at HR;unfold Ag;simp only at hk HR HA HPV HP ⊢;generalize (Msg.mk kind p mt na acts np pks)=m at *;subst hk;go_enter Tryz.func267,Tryz.ntmps267;go_wp2_with fail;refine(HR.o _).mono ?_;rintro e w1 ⟨⟨b,rfl,hb⟩,hg1⟩;have G1:=A0 hg1;have HB:=A0 hb;have c9:w1.cell? ⟨w.heap.size,9,none⟩=some (.slice _ np cb):=hg1.cell (by simp;rfl) (by simp);clear hb hg1;cases b
 ·go_wp2;go_ret;exact EC (fun h=>by rw[<-HP.o]at h;have:=HB.o.2 h.1;simp at this) (A1 (World.grownBy_alloc _ _ _) G1.o)
 ·go_wp2_with fail;refine(HA.o _ (HPV.o.grown (A1 (World.grownBy_alloc _ _ _) G1.o))).mono ?_;rintro e w2 ⟨⟨b,rfl,hb⟩,hg2⟩;have G2:=A0 hg2;have HB2:=A0 hb;clear hb hg2;go_wp2;go_ret;exact Pg HB2.o (by rw[<-HP.o];exact⟨fun h=>⟨HB.o.1 (by simp),h⟩,fun h=>h.2⟩) (A1 (A1 (World.grownBy_alloc _ _ _) G1.o) G2.o)
theorem XC(m:Msg)(a b:Option Addr)(ca cb:Nat)(w:World)(hpv:AG w (.slice b m.np cb) m.np m.pks)(hk:m.kind=4):
  Calls Tryz.prog 267 #[Ag m (.slice a m.na ca) (.slice b m.np cb)] w (Aq (CF m/\m.np=1/\∀j,j<m.np->BC (m.pks j)) w):=by
 generalize hP:(CF m/\m.np=1/\∀j,j<m.np->BC (m.pks j))=P;have HP:=A0 hP;clear hP;have HR:=A0 (fun w=>K8 m a ca w);have HA:=A0 (fun w h=>Lo BC Hl (.slice b m.np cb) m.np m.pks w h);have HPV:=A0 hpv;clear hpv;obtain⟨kind,p,mt,na,acts,np,pks⟩:=m;unfold Eb at HR;unfold Ag;simp only at hk HR HA HPV HP ⊢;generalize (Msg.mk kind p mt na acts np pks)=m at *;subst hk;go_enter Tryz.func267,Tryz.ntmps267;go_wp2_with fail;refine(HR.o _).mono ?_;rintro e w1 ⟨⟨b,rfl,hb⟩,hg1⟩;have G1:=A0 hg1;have HB:=A0 hb;have c9:w1.cell? ⟨w.heap.size,9,none⟩=some (.slice _ np cb):=hg1.cell (by simp;rfl) (by simp);clear hb hg1;cases b
 ·go_wp2;go_ret;exact EC (fun h=>by rw[<-HP.o]at h;have:=HB.o.2 h.1;simp at this) (A1 (World.grownBy_alloc _ _ _) G1.o)
 ·by_cases h4:np=1
  ·have H4:=A0 h4;have h5:np<=1:=by omega
   have h6:1<=np:=by omega
   clear h4;go_wp2_with fail;refine(HA.o _ (HPV.o.grown (A1 (World.grownBy_alloc _ _ _) G1.o))).mono ?_;rintro e w2 ⟨⟨b,rfl,hb⟩,hg2⟩;have G2:=A0 hg2;have HB2:=A0 hb;clear hb hg2;go_wp2;go_ret;exact Pg HB2.o (by rw[<-HP.o];exact⟨fun h=>⟨HB.o.1 (by simp),H4.o,h⟩,fun h=>h.2.2⟩) (A1 (A1 (World.grownBy_alloc _ _ _) G1.o) G2.o)
  ·go_wp2;go_ret;exact EC (fun h=>by rw[<-HP.o]at h;exact h4 h.2.1) (A1 (World.grownBy_alloc _ _ _) G1.o)
theorem XA(m:Msg)(a b:Option Addr)(ca cb:Nat)(w:World)(h1:m.kind≠1)(h2:m.kind≠2)(h3:m.kind≠3)(h4:m.kind≠4)(h5:m.kind≠5)(h6:m.kind≠6):
  Calls Tryz.prog 267 #[Ag m (.slice a m.na ca) (.slice b m.np cb)] w (Aq False w):=by
 obtain⟨kind,p,mt,na,acts,np,pks⟩:=m;unfold Ag;simp only at h1 h2 h3 h4 h5 h6 ⊢;go_enter Tryz.func267,Tryz.ntmps267;go_wp2;go_ret;exact EC id (World.grownBy_alloc _ _ _)
theorem Aq.cast{p q:Prop}{w:World}(h:p↔q):Aq p w=Aq q w:=by rw[propext h]
theorem Ve(m:Msg)(a b:Option Addr)(ca cb:Nat)(w:World)(hav:AG w (.slice a m.na ca) m.na m.acts)(hpv:AG w (.slice b m.np cb) m.np m.pks):
  Calls Tryz.prog 267 #[Ag m (.slice a m.na ca) (.slice b m.np cb)] w (Aq (DQ m) w):=by
 by_cases h1:m.kind=1
 ·rw[<-Aq.cast (p:=GN m/\m.np=0) (by unfold DQ;simp[h1])];exact XB m a b ca cb w hav h1
 by_cases h2:m.kind=2
 ·rw[<-Aq.cast (p:=CF m/\m.np=0) (by unfold DQ;simp[h2])];exact KV m a b ca cb w (.inl h2)
 by_cases h3:m.kind=3
 ·rw[<-Aq.cast (p:=CF m/\m.np=0) (by unfold DQ;simp[h3])];exact KV m a b ca cb w (.inr (.inl h3))
 by_cases h4:m.kind=4
 ·rw[<-Aq.cast (p:=CF m/\m.np=1/\∀j,j<m.np->BC (m.pks j)) (by unfold DQ;simp[h4])];exact XC m a b ca cb w hpv h4
 by_cases h5:m.kind=5
 ·rw[<-Aq.cast (p:=CF m/\∀j,j<m.np->BC (m.pks j)) (by unfold DQ;simp[h5])];exact XD m a b ca cb w hpv h5
 by_cases h6:m.kind=6
 ·rw[<-Aq.cast (p:=CF m/\m.np=0) (by unfold DQ;simp[h6])];exact KV m a b ca cb w (.inr (.inr h6))
 ·rw[<-Aq.cast (p:=False) (by unfold DQ;simp[h1,h2,h3,h4,h5,h6])];exact XA m a b ca cb w h1 h2 h3 h4 h5 h6
theorem Tryz.infoU8:(Tryz.prog.info? 5).map (fun i=>(i.zero,i.size,i.bytes))=some (some (.int .u8 0),1,1):=by kernel_rfl
def B5(base:Nat)(w:World)(v:Value)(bs:List Int):Prop:=w.ownsRow base 5 1 v bs.length (bs.map (Value.int .u8))
def Hy(base:Nat)(bs:List Int)(w:World)(e:Ending)(w':World):Prop:=∃v,e=.returned v/\B5 base w' v bs/\Below base w w'
def AY(n:Int):List Int:=[n/256%256,n%256]
def pkB(k:Nat->Int):List Int:=[k 0%256,k 1%256,k 2%256,k 3%256,k 4%256,k 5%256]
def BI(n:Nat)(ps:Nat->Nat->Int):List Int:=(List.range n).flatMap fun j=>pkB (ps j)
theorem GH(n:Nat)(ps:Nat->Nat->Int):BI (n+1) ps=BI n ps++pkB (ps n):=by simp[BI,List.range_succ]
theorem CU(n:Nat)(ps:Nat->Nat->Int):(BI n ps).length=6*n:=by
 induction n with
 | zero=>rfl
 | succ n ih=>rw[GH,List.length_append,ih];simp[pkB];omega
theorem SG(w:World)(x y:Value)(t:TypeId):∀j u,[x,y][j]?=some u->(w.alloc (.cells #[x,y] t)).cell? ((⟨w.heap.size,0,none⟩:Addr).add j)=some u:=by
 intro j u h;have hj:j<2:=by have:=(List.getElem?_eq_some_iff.1 h).1;simpa using this
 have e:(⟨w.heap.size,0,none⟩:Addr).add j=⟨w.heap.size,j,none⟩:=by unfold Addr.add;split<;>simp_all
 rw[e];rcases(show j=0\/j=1 by omega) with rfl|rfl<;>(simp at h;subst h;simp)
def Gh(w:World)(v vb:Value):Prop:=vb.ownBlock=v.ownBlock\/∃k,vb.ownBlock=some k/\w.heap.size<=k
theorem Oe{base:Nat}{w wr w1 w2:World}{v vb v':Value}{bs cs:List Int}{n:Nat}(h:B5 base wr vb bs)(hw:w.grownBy wr v.ownBlock)(ho:Gh w v vb)(hg:wr.grownBy w1 none)(hg2:w1.grownBy w2 vb.ownBlock)
  (hat:v'.ownBlock=vb.ownBlock\/v'.ownBlock=some w1.heap.size) (ho':w2.ownsRow base 5 1 v' n (bs.map (Value.int .u8)++cs.map (Value.int .u8))) (hn:n=bs.length+cs.length):
  B5 base w2 v' (bs++cs)/\w.grownBy w2 v.ownBlock/\Gh w v v':=by
 refine⟨?_,?_,?_⟩
 ·unfold B5;rw[List.map_append,List.length_append,<-hn];exact ho'
 ·refine⟨hg2.os.trans (hg.os.trans hw.os),hg2.tape.trans (hg.tape.trans hw.tape),hg2.output.trans (hg.output.trans hw.output),Nat.le_trans hw.size (Nat.le_trans hg.size hg2.size),fun k hk hne=>?_⟩;rw[hg2.block k (Nat.lt_of_lt_of_le hk (Nat.le_trans hw.size hg.size)) (fun e=>?_),hg.block k (Nat.lt_of_lt_of_le hk hw.size) (by simp),hw.block k hk hne];rcases ho with ho|⟨q,ho,hq⟩
  ·exact hne (e.trans ho)
  ·rw[ho]at e;cases e;omega
 ·rcases hat with hat|hat
  ·rcases ho with ho|⟨q,ho,hq⟩
   ·exact .inl (hat.trans ho)
   ·exact .inr ⟨q,hat.trans ho,hq⟩
  ·exact .inr ⟨_,hat,Nat.le_trans hw.size hg.size⟩
theorem Gz{base:Nat}{w w':World}{v:Value}{bs:List Int}(h:B5 base w v bs)(hg:w.grownBy w' v.ownBlock)(hb:base<=w.heap.size):Below base w w':=
 (Below.refl base w).grown hg hb (fun k e=>(h.lt k e).1)
theorem B5.kept{base:Nat}{w w':World}{v:Value}{bs:List Int}(h:B5 base w v bs)(hg:w.grownBy w' none):B5 base w' v bs:=
 World.ownsRow.kept h hg (by cases hv:Value.ownBlock _<;>simp)
def Li(base:Nat)(v:Value)(bs:List Int)(w:World)(e:Ending)(w':World):Prop:=∃v',e=.returned v'/\B5 base w' v' bs/\w.grownBy w' v.ownBlock/\Gh w v v'
theorem IF(base:Nat)(v:Value)(bs:List Int)(n:Int)(w:World)(h:B5 base w v bs)(hb:base<=w.heap.size)(hl:bs.length<=100000000000000):
  Calls Tryz.prog 269 #[v,.int .i64 n] w (Li base v (bs++AY n) w):=by
 obtain⟨i0,hi0,hz0,hz1,hz2⟩:=info_parts Tryz.infoU8;have H:=A0 h;clear h;go_enter Tryz.func269,Tryz.ntmps269;go_wp2_with (at_builtin;refine wpList_append_own_at _ rfl _ _ 227 rfl base 5 i0 _ 1 1 Tryz.underlying227 hi0 hz0 hz1 hz2 rfl (by decide) _ _ _ rfl (World.ownsRow.alloc H.o _) ⟨w.heap.size,0,none⟩ 2 2 [.int .u8 (n/256%256),.int .u8 (n%256)] rfl rfl (SG _ _ _ _) ?d2 ?d3 ?d4 ?d5 ?_)
 case d2=>intro u hu;simp only[List.mem_cons,List.not_mem_nil,or_false]at hu;rcases hu with rfl|rfl<;>rfl
 case d3=>unfold maxLen;omega
 case d4=>omega
 case d5=>simp;omega
 intro v' w2 hown' hgrow _ hat;have S:=A0 (Oe (v:=v) (cs:=AY n) H.o (AA _ _) (.inl rfl) (World.grownBy_alloc _ _ _) hgrow (by simpa using hat) hown' (by simp[AY]));clear hown' hgrow hat;go_wp2;go_ret;exact⟨_,rfl,S.o.1,S.o.2.1,S.o.2.2⟩
theorem Wk(k:Nat->Int)(i:Nat)(h:i<6):(pkB k).take (i+1)=(pkB k).take i++[k i%256]:=by
 rcases(show i=0\/i=1\/i=2\/i=3\/i=4\/i=5 by omega) with rfl|rfl|rfl|rfl|rfl|rfl<;>rfl
theorem IE(base:Nat)(v v2:Value)(bs:List Int)(n:Nat)(ps:Nat->Nat->Int)(w:World)(h:B5 base w v bs)(hb:base<=w.heap.size)(hl:bs.length<=1000)(hr:AG w v2 n ps)
  (hne:∀g off cap,v2=.slice (some ⟨g,off,none⟩) n cap->v.ownBlock≠some g):
  Calls Tryz.prog 281 #[v,v2] w (Li base v (bs++BI n ps) w):=by
 obtain⟨i0,hi0,hz0,hz1,hz2⟩:=info_parts Tryz.infoU8;have H:=A0 h;clear h;rcases hr with⟨rfl,rfl⟩|⟨g,off,cap,rfl,hn,hcell⟩
 ·go_enter Tryz.func281,Tryz.ntmps281;go_wp2;go_loopw [0,11] (fun vb i wr=>vb=v/\i=.int .i64 0/\wr=w) (fun _ i _=>0)
  case atStart=>exact⟨rfl,rfl,rfl⟩
  case round=>
   obtain⟨rfl,rfl,rfl⟩:=hrel;go_wp2;go_ret;exact⟨_,rfl,by simpa[BI] using H.o,AA _ _,.inl rfl⟩
 ·have HC:=A0 hcell;have hng:=hne g off cap rfl;have HNG:=A0 hng;clear hcell hne hng;go_enter Tryz.func281,Tryz.ntmps281;go_wp2;go_loopw [0,11] (fun vb i wr=>∃j:Nat,j<=n/\i=.int .i64 j/\B5 base wr vb (bs++BI j ps)/\w.grownBy wr v.ownBlock/\Gh w v vb) (fun _ i _=>n-(intOf i).toNat)
  case atStart=>exact⟨0,by omega,rfl,by simpa[BI] using H.o,AA _ _,.inl rfl⟩
  case round=>
   obtain⟨j,hj,rfl,hB,hg,ho⟩:=hrel;have HB:=A0 hB;have HG:=A0 hg;have HO:=A0 ho;clear hB hg ho;by_cases hlt:j<n
   ·obtain⟨k,hk⟩:∃k,k=ps j:=⟨_,rfl⟩;have cc:∀i,i<6->wr.cell? ⟨g,off+j*6+i,none⟩=some (.int .i64 (k i)):=fun i hi=>by rw[hk];exact HG.o.cell (HC.o j hlt i hi) HNG.o.symm
    have c0:=cc 0 (by omega);have c1:=cc 1 (by omega);have c2:=cc 2 (by omega);have c3:=cc 3 (by omega);have c4:=cc 4 (by omega);have c5:=cc 5 (by omega);rw[Nat.add_zero]at c0;have HK:=A0 hk;clear hk cc;go_wp2;clear c0 c1 c2 c3 c4 c5;obtain⟨wa,hwa⟩:∃wa,wa=wr.alloc (Obj.cells #[.int .i64 (k 0),.int .i64 (k 1),.int .i64 (k 2),.int .i64 (k 3),.int .i64 (k 4),.int .i64 (k 5)] 46):=⟨_,rfl⟩;have HGA:Hid (wr.grownBy wa none):=by rw[hwa];exact World.grownBy_alloc _ _ _
    rw[<-hwa];clear hwa;go_loopw [0,16] (fun vb i wr=>∃l:Nat,l<=6/\i=.int .i64 l/\B5 base wr vb ((bs++BI j ps)++(pkB k).take l)/\w.grownBy wr v.ownBlock/\Gh w v vb) (fun _ i _=>6-(intOf i).toNat)
    case atStart=>
     refine⟨0,by omega,rfl,?_,Bk HG.o HGA.o (fun b e=>by cases e),HO.o⟩;have:=HB.o.kept HGA.o;rw[List.take_zero,List.append_nil];exact this
    case round=>
     obtain⟨l,hl6,rfl,hB2,hg2,ho2⟩:=hrel;have HB2:=A0 hB2;have HG2:=A0 hg2;have HO2:=A0 ho2;have hlen:(bs++BI j ps++(pkB k).take l).length=bs.length+6*j+l:=by simp[CU,pkB];omega
     clear hB2 hg2 ho2 HB HG HO HGA;by_cases hlt2:l<6
     ·obtain⟨x,hx⟩:∃x,x=k l:=⟨_,rfl⟩;have hix:=Tryz.indexPk k l hlt2 wr;rw[<-hx]at hix;have HX:=A0 hx;clear hx;obtain⟨bb,hbb⟩:∃bb,bb=bs++BI j ps++(pkB k).take l:=⟨_,rfl⟩;have HBB:=A0 hbb;rw[<-hbb]at HB2 hlen;clear hbb;go_wp2_with (at_builtin;refine wpList_append_own_at _ rfl _ _ 227 rfl base 5 i0 _ 1 1 Tryz.underlying227 hi0 hz0 hz1 hz2 rfl (by decide) _ _ _ rfl (World.ownsRow.alloc HB2.o _) ⟨wr.heap.size,0,none⟩ 1 1 [.int .u8 (x%256)] rfl rfl (cell_one_new _ _ _) ?d2 ?d3 ?d4 ?d5 ?_)
      case d2=>intro u hu;simp only[List.mem_cons,List.not_mem_nil,or_false]at hu;subst hu;rfl
      case d3=>unfold maxLen;omega
      case d4=>omega
      case d5=>have:=HG2.o.size;simp;omega
      intro v' w2 hown' hgrow _ hat;have S:=A0 (Oe (cs:=[x%256]) HB2.o HG2.o HO2.o (World.grownBy_alloc _ _ _) hgrow (by simpa using hat) hown' (by simp;omega));clear hown' hgrow hat;go_wp2;go_roundw
      case rel=>
       refine⟨l+1,by omega,by go_num,?_,S.o.2.1,S.o.2.2⟩;rw[Wk k l hlt2,<-HX.o,<-List.append_assoc,<-HBB.o];exact S.o.1
      case measure=>simp[intOf];omega
     ·obtain rfl:l=6:=by omega
      go_wp2;go_roundw
      case rel=>
       refine⟨j+1,by omega,by go_num,?_,HG2.o,HO2.o⟩;rw[GH,<-HK.o,<-List.append_assoc];exact HB2.o
      case measure=>simp[intOf];omega
   ·obtain rfl:j=n:=by omega
    go_wp2;go_ret;exact⟨_,rfl,HB.o,HG.o,HO.o⟩
def Av(m:Msg):List Int:=
 if m.kind=1 then AY m.prio++pkB m.mt++AY m.na++BI m.na m.acts
 else if m.kind=5 then AY m.np++BI m.np m.pks
 else BI m.np m.pks
theorem B5.nil(base:Nat)(w:World):B5 base w (.slice none 0 0) []:=World.ownsRow_nil _ _ _ _
theorem Wl(k:Nat->Int):BI 1 (fun _=>k)=pkB k:=by simp[BI]
def AV(base:Nat)(v:Value):Prop:=∀g off n cap,v=.slice (some ⟨g,off,none⟩) n cap->g<base
def Cs(w:World)(b:Nat)(kind p:Int)(mt:Nat->Int)(av pv:Value):Prop:=w.heap[b]?=some (.cells #[.int .i64 kind,.int .i64 p,.int .i64 (mt 0),.int .i64 (mt 1),.int .i64 (mt 2),.int .i64 (mt 3),.int .i64 (mt 4),.int .i64 (mt 5),av,pv] 213 (0,0))
theorem Cs.below{w w':World}{b B:Nat}{kind p:Int}{mt:Nat->Int}{av pv:Value}(h:Cs w b kind p mt av pv)(hB:Below B w w')(hb:b<B):Cs w' b kind p mt av pv:=by
 unfold Cs at *;rw[hB.block b hb];exact h
theorem Cs.alloc(w:World)(kind p:Int)(mt:Nat->Int)(av pv:Value):Cs (w.alloc (.cells #[.int .i64 kind,.int .i64 p,.int .i64 (mt 0),.int .i64 (mt 1),.int .i64 (mt 2),.int .i64 (mt 3),.int .i64 (mt 4),.int .i64 (mt 5),av,pv] 213)) w.heap.size kind p mt av pv:=heap_alloc_new w _
theorem Cs.cells{w:World}{b:Nat}{kind p:Int}{mt:Nat->Int}{av pv:Value}(h:Cs w b kind p mt av pv):
  w.cell? ⟨b,0,none⟩=some (.int .i64 kind)/\w.cell? ⟨b,1,none⟩=some (.int .i64 p)/\w.cell? ⟨b,2,none⟩=some (.int .i64 (mt 0))/\w.cell? ⟨b,3,none⟩=some (.int .i64 (mt 1))/\w.cell? ⟨b,4,none⟩=some (.int .i64 (mt 2))/\
  w.cell? ⟨b,5,none⟩=some (.int .i64 (mt 3))/\w.cell? ⟨b,6,none⟩=some (.int .i64 (mt 4))/\w.cell? ⟨b,7,none⟩=some (.int .i64 (mt 5))/\w.cell? ⟨b,8,none⟩=some av/\w.cell? ⟨b,9,none⟩=some pv:=by
 unfold Cs at h;simp[World.cell?,h]
theorem Below.up{B:Nat}{w w1:World}(hg:w.grownBy w1 none)(hB:B<=w.heap.size):Below B w w1:=(Below.refl B w).grown hg hB (fun k e=>by cases e)
theorem AG.one{w:World}{g:Nat}{k:Nat->Int}(h:AD w g k):AG w (.slice (some ⟨g,0,none⟩) 1 1) 1 (fun _=>k):=
 .inr ⟨g,0,1,rfl,by omega,fun j hj i hi=>by
  obtain rfl:j=0:=by omega
  simpa using h.cell i hi⟩
theorem AV.ne{base B:Nat}{w:World}{v v1:Value}{n:Nat}{bs:List Int}(h:AV base v)(hb:B5 B w v1 bs)(hB:base<=B):∀g off cap,v=.slice (some ⟨g,off,none⟩) n cap->v1.ownBlock≠some g:=by
 intro g off cap e e2;have:=h _ _ _ _ e;have:=(hb.lt g e2).1;omega
theorem AG.below{w w':World}{v:Value}{n:Nat}{ps:Nat->Nat->Int}{B:Nat}(h:AG w v n ps)(hB:Below B w w')(hin:AV B v):AG w' v n ps:=by
 rcases h with h|⟨g,off,cap,h1,h2,h3⟩
 ·exact .inl h
 ·exact .inr ⟨g,off,cap,h1,h2,fun j hj i hi=>by rw[hB.cell (hin _ _ _ _ h1)];exact h3 j hj i hi⟩
theorem AV.mono{B B':Nat}{v:Value}(h:AV B v)(hB:B<=B'):AV B' v:=fun g off n cap e=>Nat.lt_of_lt_of_le (h g off n cap e) hB
theorem B5.weak{B B':Nat}{w:World}{v:Value}{bs:List Int}(h:B5 B w v bs)(hB:B'<=B):B5 B' w v bs:=by
 refine⟨h.1,?_⟩;rcases h.2 with h2|⟨g,cap,cur,hv,hb,r⟩
 ·exact .inl h2
 ·exact .inr ⟨g,cap,cur,hv,Nat.le_trans hB hb,r⟩
theorem Rr(m:Msg)(a b:Option Addr)(ca cb:Nat)(w:World)(hav:AG w (.slice a m.na ca) m.na m.acts)(hin:AV w.heap.size (.slice a m.na ca))(hk:m.kind=1):
  Calls Tryz.prog 268 #[Ag m (.slice a m.na ca) (.slice b m.np cb)] w (Hy w.heap.size (AY m.prio++pkB m.mt++AY m.na++BI m.na m.acts) w):=by
 have HAV:=A0 hav;have HIN:=A0 hin;clear hav hin;obtain⟨kind,p,mt,na,acts,np,pks⟩:=m;unfold Ag;simp only at hk HAV HIN ⊢;subst hk;obtain⟨BS,hBS⟩:∃BS,BS=AY p++pkB mt++AY (na:Int)++BI na acts:=⟨_,rfl⟩;rw[<-hBS];have HBS:=A0 hBS;clear hBS;have M0:=A0 (Cs.alloc w 1 p mt (.slice a na ca) (.slice b np cb));go_enter Tryz.func268,Tryz.ntmps268;go_wp2_with fail;obtain⟨wa,hwa⟩:∃wa,wa=w.alloc (Obj.cells #[.int .i64 1,.int .i64 p,.int .i64 (mt 0),.int .i64 (mt 1),.int .i64 (mt 2),.int .i64 (mt 3),.int .i64 (mt 4),.int .i64 (mt 5),.slice a na ca,.slice b np cb] 213):=⟨_,rfl⟩;have hsa:wa.heap.size=w.heap.size+1:=by rw[hwa];simp
 have GA:Hid (w.grownBy wa none):=by rw[hwa];exact World.grownBy_alloc _ _ _
 rw[<-hwa]at M0 ⊢;clear hwa;refine(IF (w.heap.size+1) _ [] p _ (B5.nil _ _) (by omega) (by simp)).mono ?_;rintro e w1 ⟨v1,rfl,hB1,hg1,ho1⟩;have B1:=A0 hB1;have L1:=A0 (Below.up (B:=w.heap.size+1) hg1 (by omega));have M1:=A0 (M0.o.below L1.o (by omega));clear hB1 hg1 ho1;obtain⟨c0,c1,c2,c3,c4,c5,c6,c7,c8,c9⟩:=M1.o.cells;go_wp2_with fail;obtain⟨wb,hwb⟩:∃wb,wb=w1.alloc (Obj.cells #[.int .i64 (mt 0),.int .i64 (mt 1),.int .i64 (mt 2),.int .i64 (mt 3),.int .i64 (mt 4),.int .i64 (mt 5)] 46):=⟨_,rfl⟩;have P1:Hid (AD wb w1.heap.size mt):=by rw[hwb];exact AD.alloc _ _
 have GB:Hid (w1.grownBy wb none):=by rw[hwb];exact World.grownBy_alloc _ _ _
 rw[<-hwb];clear hwb c0 c1 c2 c3 c4 c5 c6 c7 c8 c9;have hs1:=L1.o.size;have hsb:=GB.o.size;refine(IE (w.heap.size+1) v1 _ ([]++AY p) 1 (fun _=>mt) wb (B1.o.kept GB.o) (by omega) (by simp[AY]) (AG.one P1.o) (fun g off cap e h=>by cases e;have:=(B1.o.lt _ h).2;omega)).mono ?_;rintro e w2 ⟨v2,rfl,hB2,hg2,ho2⟩;have L2:=A0 ((Below.up (B:=w.heap.size+1) GB.o (by omega)).trans (Gz (B1.o.kept GB.o) hg2 (by omega)));have B2:=A0 hB2;have M2:=A0 (M1.o.below L2.o (by omega));clear hB2 hg2 ho2 M1;obtain⟨c0,c1,c2,c3,c4,c5,c6,c7,c8,c9⟩:=M2.o.cells;have hs2:=L2.o.size;go_wp2_with fail;clear c0 c1 c2 c3 c4 c5 c6 c7 c8 c9;refine(IF (w.heap.size+1) v2 _ na w2 B2.o (by omega) (by simp[AY,CU])).mono ?_;rintro e w3 ⟨v3,rfl,hB3,hg3,ho3⟩;have L3:=A0 (Gz B2.o hg3 (by omega));have B3:=A0 hB3;have M3:=A0 (M2.o.below L3.o (by omega));clear hB3 hg3 ho3 M2;obtain⟨c0,c1,c2,c3,c4,c5,c6,c7,c8,c9⟩:=M3.o.cells;have hs3:=L3.o.size;have LL:=A0 ((L1.o.trans L2.o).trans L3.o);have hgw:Below w.heap.size w wa:=Below.up GA.o (Nat.le_refl _);have LW:=A0 (hgw.trans (LL.o.mono (Nat.le_succ _)));clear hgw;go_wp2_with fail;clear c0 c1 c2 c3 c4 c5 c6 c7 c8 c9;refine(IE (w.heap.size+1) v3 _ _ na acts w3 B3.o (by omega) (by simp[AY,CU]) (HAV.o.below LW.o HIN.o) (HIN.o.ne B3.o (by omega))).mono ?_;rintro e w4 ⟨v4,rfl,hB4,hg4,ho4⟩;have L4:=A0 (Gz B3.o hg4 (by omega));have B4:=A0 hB4;clear hB4 hg4 ho4;go_wp2;go_ret;refine⟨_,rfl,?_,?_⟩
 ·rw[HBS.o];have:=B4.o;rw[Wl,List.nil_append]at this;exact this.weak (by omega)
 ·exact LW.o.trans (L4.o.mono (by omega))
theorem Rs(m:Msg)(a b:Option Addr)(ca cb:Nat)(w:World)(hav:AG w (.slice b m.np cb) m.np m.pks)(hin:AV w.heap.size (.slice b m.np cb))(hk:m.kind=5):
  Calls Tryz.prog 268 #[Ag m (.slice a m.na ca) (.slice b m.np cb)] w (Hy w.heap.size (AY m.np++BI m.np m.pks) w):=by
 have HAV:=A0 hav;have HIN:=A0 hin;clear hav hin;obtain⟨kind,p,mt,na,acts,np,pks⟩:=m;unfold Ag;simp only at hk HAV HIN ⊢;subst hk;obtain⟨BS,hBS⟩:∃BS,BS=AY (np:Int)++BI np pks:=⟨_,rfl⟩;rw[<-hBS];have HBS:=A0 hBS;clear hBS;have M0:=A0 (Cs.alloc w 5 p mt (.slice a na ca) (.slice b np cb));go_enter Tryz.func268,Tryz.ntmps268;go_wp2_with fail;obtain⟨wa,hwa⟩:∃wa,wa=w.alloc (Obj.cells #[.int .i64 5,.int .i64 p,.int .i64 (mt 0),.int .i64 (mt 1),.int .i64 (mt 2),.int .i64 (mt 3),.int .i64 (mt 4),.int .i64 (mt 5),.slice a na ca,.slice b np cb] 213):=⟨_,rfl⟩;have hsa:wa.heap.size=w.heap.size+1:=by rw[hwa];simp
 have GA:Hid (w.grownBy wa none):=by rw[hwa];exact World.grownBy_alloc _ _ _
 rw[<-hwa]at M0 ⊢;clear hwa;have c9:wa.cell? ⟨w.heap.size,9,none⟩=some (.slice b np cb):=M0.o.cells.2.2.2.2.2.2.2.2.2;have D0:Hid (Below w.heap.size w wa.drew):=(Below.up GA.o (Nat.le_refl _)).drew;have M0':Hid (Cs wa.drew w.heap.size 5 p mt (.slice a na ca) (.slice b np cb)):=M0.o;have hsd:wa.drew.heap.size=w.heap.size+1:=hsa
 go_region_with (first
  | (go_at_call 269
     refine(IF (w.heap.size+1) _ [] np wa.drew (B5.nil _ _) ?_ ?_).mono ?_
     ·exact Nat.le_of_eq hsd.symm
     ·exact Nat.zero_le _
     rintro e w1 ⟨v1,rfl,hB1,hg1,ho1⟩;have B1:=A0 hB1;have hL1:=Below.up (B:=w.heap.size+1) hg1 (Nat.le_of_eq hsd.symm);have L1:=A0 hL1;have c9':w1.cell? ⟨w.heap.size,9,none⟩=some (.slice b np cb):=(M0'.o.below hL1 (Nat.lt_succ_self _)).cells.2.2.2.2.2.2.2.2.2;clear hB1 hg1 ho1 hL1)
  | (go_at_call 281
     refine(IE (w.heap.size+1) v1 _ _ np pks w1 B1.o ?_ ?_ ?_ ?_).mono ?_
     ·have:=L1.o.size;omega
     ·simp[AY]
     ·exact HAV.o.below (D0.o.trans (L1.o.mono (Nat.le_succ _))) HIN.o
     ·exact HIN.o.ne B1.o (Nat.le_succ _)
     rintro e w4 ⟨v4,rfl,hB4,hg4,ho4⟩;have L4:=A0 (Gz B1.o hg4 (by have:=L1.o.size;omega));have B4:=A0 hB4;clear hB4 hg4 ho4))
 all_goals
  go_wp2;go_ret;refine⟨_,rfl,?_,?_⟩
  ·rw[HBS.o];have:=B4.o;rw[List.nil_append]at this;exact this.weak (by omega)
  ·exact(D0.o.trans (L1.o.mono (Nat.le_succ _))).trans (L4.o.mono (by omega))
theorem Rq(m:Msg)(a b:Option Addr)(ca cb:Nat)(w:World)(hav:AG w (.slice b m.np cb) m.np m.pks)(hin:AV w.heap.size (.slice b m.np cb))(hk:m.kind≠1)(hk2:m.kind≠5):
  Calls Tryz.prog 268 #[Ag m (.slice a m.na ca) (.slice b m.np cb)] w (Hy w.heap.size (BI m.np m.pks) w):=by
 have HAV:=A0 hav;have HIN:=A0 hin;clear hav hin;obtain⟨kind,p,mt,na,acts,np,pks⟩:=m;unfold Ag;simp only at hk hk2 HAV HIN ⊢;obtain⟨BS,hBS⟩:∃BS,BS=BI np pks:=⟨_,rfl⟩;rw[<-hBS];have HBS:=A0 hBS;clear hBS;have M0:=A0 (Cs.alloc w kind p mt (.slice a na ca) (.slice b np cb));go_enter Tryz.func268,Tryz.ntmps268;go_wp2_with fail;obtain⟨wa,hwa⟩:∃wa,wa=w.alloc (Obj.cells #[.int .i64 kind,.int .i64 p,.int .i64 (mt 0),.int .i64 (mt 1),.int .i64 (mt 2),.int .i64 (mt 3),.int .i64 (mt 4),.int .i64 (mt 5),.slice a na ca,.slice b np cb] 213):=⟨_,rfl⟩;have hsa:wa.heap.size=w.heap.size+1:=by rw[hwa];simp
 have GA:Hid (w.grownBy wa none):=by rw[hwa];exact World.grownBy_alloc _ _ _
 rw[<-hwa]at M0 ⊢;clear hwa;have hgw:Below w.heap.size w wa:=Below.up GA.o (Nat.le_refl _);have LW:=A0 hgw;clear hgw;refine(IE (w.heap.size+1) _ _ [] np pks wa (B5.nil _ _) (by omega) (by simp[AY,CU]) (HAV.o.below LW.o HIN.o) (fun _ _ _ _ h=>by simp[Value.ownBlock]at h)).mono ?_;rintro e w4 ⟨v4,rfl,hB4,hg4,ho4⟩;have L4:=A0 (Below.up (B:=w.heap.size+1) hg4 (by omega));have B4:=A0 hB4;clear hB4 hg4 ho4;go_wp2;go_ret;refine⟨_,rfl,?_,?_⟩
 ·rw[HBS.o];have:=B4.o;rw[List.nil_append]at this;exact this.weak (by omega)
 ·exact LW.o.trans (L4.o.mono (by omega))
theorem Rw(m:Msg)(a b:Option Addr)(ca cb:Nat)(w:World)(hav:AG w (.slice a m.na ca) m.na m.acts)(hpv:AG w (.slice b m.np cb) m.np m.pks)(hia:AV w.heap.size (.slice a m.na ca))(hib:AV w.heap.size (.slice b m.np cb)):
  Calls Tryz.prog 268 #[Ag m (.slice a m.na ca) (.slice b m.np cb)] w (Hy w.heap.size (Av m) w):=by
 unfold Av;by_cases h1:m.kind=1
 ·rw[if_pos h1];exact Rr m a b ca cb w hav hia h1
 by_cases h5:m.kind=5
 ·rw[if_neg h1,if_pos h5];exact Rs m a b ca cb w hpv hib h5
 ·rw[if_neg h1,if_neg h5];exact Rq m a b ca cb w hpv hib h1 h5
def u8(n:Int):UInt8:=UInt8.ofNat n.toNat
def DT(l:List Int):Value:=.string ⟨(l.map u8).toArray⟩
theorem Ts(l:List Int):∀s:ByteArray,l.foldl (fun r n=>r.push (UInt8.ofNat n.toNat)) s=⟨s.data++(l.map u8).toArray⟩:=by
 induction l with
 | nil=>intro s;cases s;simp
 | cons x l ih=>intro s;rw[List.foldl_cons,ih];simp[ByteArray.push,u8,ByteArray.ext_iff]
def Am(m:Msg):List Int:=m.kind%256::(AY (Av m).length++Av m)
def BD(m:Msg):Prop:=DQ m/\(Av m).length<=65535
def FW(m:Msg)(w:World)(e:Ending)(w':World):Prop:=w.grownBy w' none/\((BD m/\e=.returned (.tuple #[DT (Am m),.int .i64 0]))\/(¬BD m/\e=.returned (.tuple #[.string ByteArray.empty,.int .i64 9])))
theorem Ru(m:Msg)(h1:m.na<=3000000000000)(h2:m.np<=3000000000000):(Av m).length<=20000000000000:=by
 unfold Av;split
 ·simp[CU,AY,pkB];omega
 ·split
  ·simp[CU,AY];omega
  ·rw[CU];omega
theorem Aq.cases{p:Prop}{w w':World}{e:Ending}(h:Aq p w e w'):((p/\e=.returned (.bool true))\/(¬p/\e=.returned (.bool false)))/\w.grownBy w' none:=by
 obtain⟨⟨b,rfl,hb⟩,hg⟩:=h;refine⟨?_,hg⟩;cases b
 ·exact .inr ⟨fun hp=>by simpa using hb.2 hp,rfl⟩
 ·exact .inl ⟨hb.1 rfl,rfl⟩
theorem B5.slice{B:Nat}{w:World}{v:Value}{bs:List Int}(h:B5 B w v bs):∃a cap,v=.slice a bs.length cap:=by
 rcases h.2 with⟨h2,h3⟩|⟨g,cap,cur,hv,_⟩
 ·exact⟨none,0,by rw[h2,h3]⟩
 ·exact⟨_,_,hv⟩
theorem B5.made(w:World)(x:Int):B5 w.heap.size (w.alloc (.cells #[.int .u8 x] 5)) (.slice (some ⟨w.heap.size,0,none⟩) 1 1) [x]:=
 ⟨rfl,.inr ⟨w.heap.size,1,_,rfl,Nat.le_refl _,heap_alloc_new w _,Nat.le_refl _,by unfold maxLen;omega,rfl,rfl⟩⟩
theorem JO(g j:Nat):(⟨g,0,none⟩:Addr).add j=⟨g,j,none⟩:=by unfold Addr.add;split<;>simp_all
theorem B5.at{B:Nat}{w:World}{v:Value}{bs:List Int}(h:B5 B w v bs):(v=.slice none 0 0/\bs=[])\/∃g cap,v=.slice (some ⟨g,0,none⟩) bs.length cap/\bs.length<=cap/\∀j u,(bs.map (Value.int .u8))[j]?=some u->w.cell? ((⟨g,0,none⟩:Addr).add j)=some u:=by
 rcases h.2 with⟨h2,h3⟩|⟨g,cap,cur,rfl,hb,hg,hc,_⟩
 ·exact .inl ⟨h2,List.eq_nil_of_length_eq_zero h3⟩
 ·exact .inr ⟨g,cap,rfl,hc,World.ownsRow.cells h rfl⟩
theorem B5.str{B:Nat}{w:World}{v:Value}{bs:List Int}(h:B5 B w v bs)(hne:bs≠[]):(convert 227 9 v).run Tryz.prog w=.ok (DT bs) w:=by
 rcases h.at with⟨_,h2⟩|⟨g,cap,rfl,_,hc⟩
 ·exact absurd h2 hne
 ·rw[run_convert_bytes_string w 227 9 5 _ _ _ (by kernel_rfl) (by kernel_rfl) (by kernel_rfl)];have hl:=run_loadCells_list (P:=Tryz.prog) w ⟨g,0,none⟩ (bs.map (Value.int .u8)) hc;rw[List.length_map]at hl;rw[run_bytesToString w _ _ _ bs hl,Ts];unfold DT;simp
theorem Mg(m:Msg)(a b:Option Addr)(ca cb:Nat)(w:World)(hav:AG w (.slice a m.na ca) m.na m.acts)(hpv:AG w (.slice b m.np cb) m.np m.pks)(hia:AV w.heap.size (.slice a m.na ca))(hib:AV w.heap.size (.slice b m.np cb)):
  Calls Tryz.prog 255 #[Ag m (.slice a m.na ca) (.slice b m.np cb)] w (FW m w):=by
 have HR:=A0 (fun w hav hpv=>Ve m a b ca cb w hav hpv);have HBO:=A0 (fun w hav hpv hia hib=>Rw m a b ca cb w hav hpv hia hib);have HAV:=A0 hav;have HPV:=A0 hpv;have HIA:=A0 hia;have HIB:=A0 hib;have hblen:=Ru m hav.few hpv.few;clear hav hpv hia hib
 have HQ:Hid (∀e w',FW m w e w'↔(w.grownBy w' none/\((DQ m/\(Av m).length<=65535/\e=.returned (.tuple #[DT (m.kind%256::(AY (Av m).length++Av m)),.int .i64 0]))\/(¬(DQ m/\(Av m).length<=65535)/\e=.returned (.tuple #[.string ByteArray.empty,.int .i64 9]))))):=by
  intro e w';unfold FW BD Am;rw[and_assoc]
 generalize FW m w=Q at HQ ⊢;generalize DQ m=RP at *;generalize Av m=BB at *;obtain⟨kind,p,mt,na,acts,np,pks⟩:=m;have M0:=A0 (Cs.alloc w kind p mt (.slice a na ca) (.slice b np cb));unfold Ag at *;simp only at HR HBO HAV HPV HIA HIB HQ ⊢;go_enter Tryz.func255,Tryz.ntmps255;go_wp2_with fail;obtain⟨wa,hwa⟩:∃wa,wa=w.alloc (Obj.cells #[.int .i64 kind,.int .i64 p,.int .i64 (mt 0),.int .i64 (mt 1),.int .i64 (mt 2),.int .i64 (mt 3),.int .i64 (mt 4),.int .i64 (mt 5),.slice a na ca,.slice b np cb] 213):=⟨_,rfl⟩;have hsa:wa.heap.size=w.heap.size+1:=by rw[hwa];simp
 have GA:Hid (w.grownBy wa none):=by rw[hwa];exact World.grownBy_alloc _ _ _
 rw[<-hwa]at M0 ⊢;clear hwa;refine(HR.o _ (HAV.o.grown GA.o) (HPV.o.grown GA.o)).mono ?_;rintro e w1 hs;obtain⟨hs,hg1⟩:=hs.cases;have G1:=A0 (A1 GA.o hg1);have M1:=A0 (M0.o.below (Below.up (B:=w.heap.size+1) hg1 (by omega)) (by omega));have hs1:=hg1.size;clear hg1;rcases hs with⟨hrp,rfl⟩|⟨hrp,rfl⟩
 ·have HRP:=A0 hrp;clear hrp;obtain⟨c0,c1,c2,c3,c4,c5,c6,c7,c8,c9⟩:=M1.o.cells;go_wp2_with fail;clear c0 c1 c2 c3 c4 c5 c6 c7 c8 c9;refine(HBO.o w1 (HAV.o.grown G1.o) (HPV.o.grown G1.o) (HIA.o.mono (by omega)) (HIB.o.mono (by omega))).mono ?_;rintro e w2 ⟨vb,rfl,hB2,hL2⟩;have B2:=A0 hB2;have L2:=A0 hL2;have M2:=A0 (M1.o.below hL2 (by omega));have hat2:=hB2.at;obtain⟨ab,cab,hvb⟩:=hB2.slice;subst hvb;have HAT:=A0 hat2;clear hB2 hL2 hat2;obtain⟨c0,c1,c2,c3,c4,c5,c6,c7,c8,c9⟩:=M2.o.cells;clear c1 c2 c3 c4 c5 c6 c7 c8 c9;by_cases hlong:BB.length<=65535
  ·go_wp2_with fail;clear c0;obtain⟨wb,hwb⟩:∃wb,wb=w2.alloc (Obj.cells #[.int .u8 (kind%256)] 5):=⟨_,rfl⟩;have GB:Hid (w2.grownBy wb none):=by rw[hwb];exact World.grownBy_alloc _ _ _
   have BM:Hid (B5 w2.heap.size wb (.slice (some ⟨w2.heap.size,0,none⟩) 1 1) [kind%256]):=by rw[hwb];exact B5.made _ _
   rw[<-hwb];clear hwb;refine(IF w2.heap.size _ [kind%256] BB.length wb BM.o GB.o.size (by simp)).mono ?_;rintro e w3 ⟨v3,rfl,hB3,hg3,ho3⟩;have B3:=A0 hB3;have L3:=A0 ((Below.up (B:=w2.heap.size) GB.o (Nat.le_refl _)).trans (Gz BM.o hg3 GB.o.size));have hs3:=L3.o.size;clear hB3 hg3 ho3;have hL23:=A0 (L2.o.trans (L3.o.mono L2.o.size));rcases HAT.o with⟨hnil,hBB⟩|⟨gb,capb,hvb,hcb,hcells⟩
   ·subst hBB;cases hnil;clear HAT;obtain⟨i0,hi0,hz0,hz1,hz2⟩:=info_parts Tryz.infoU8;rcases B3.o.at with⟨_,h3⟩|⟨g3,cap3,rfl,hc3,_⟩
    ·simp at h3
    have hB30:=B3.o;unfold B5 at hB30;have HB30:=A0 hB30;clear hB30;have hlen3:([kind%256]++AY (([]:List Int).length:Nat)).length=3:=rfl;rw[hlen3]at HB30 hc3;have HL3:=A0 hlen3;clear hlen3;go_wp2_with (at_builtin;refine wpList_append_fits_any _ rfl _ _ 227 rfl w2.heap.size 5 i0 1 Tryz.underlying227 hi0 hz1 g3 3 cap3 _ rfl HB30.o none 0 0 [] rfl rfl ?d1 ?d2 ?d3 ?d4 ?_)
    case d2=>intro ad e;cases e
    case d3=>intro u hu;cases hu
    case d4=>omega
    intro w4 hown4 hg4
    have hB4:B5 w2.heap.size w4 (.slice (some ⟨g3,0,none⟩) 3 cap3) (([kind%256]++AY (([]:List Int).length:Nat))++[]):=by
     unfold B5;simpa[AY] using hown4
    have hconv:=hB4.str (by simp);have hle4:=A0 (hL23.o.trans ((Below.refl w1.heap.size w3).grown hg4 (by have:=L2.o.size;omega) (fun k e=>by cases e;have:=(HB30.o.lt g3 rfl).1;have:=L2.o.size;omega)));clear hown4 hg4 hB4;obtain⟨SS,hSS⟩:∃SS,SS=DT (([kind%256]++AY (([]:List Int).length:Nat))++[]):=⟨_,rfl⟩;rw[<-hSS]at hconv;have HSS:=A0 hSS;clear hSS;go_wp2;refine(HQ.o _ _).2 ⟨A1 G1.o (IT hle4.o),.inl ⟨HRP.o,hlong,?_⟩⟩;rw[HSS.o];rfl
   ·cases hvb
    have HCE:Hid (∀j u,(BB.map (Value.int .u8))[j]?=some u->w3.cell? ((⟨gb,0,none⟩:Addr).add j)=some u):=by
     intro j u hj;have hlt:gb<w2.heap.size:=(B2.o.lt gb rfl).2;have:=hcells j u hj;rw[JO]at this ⊢;rw[L3.o.cell hlt];exact this
    clear hcells HAT;obtain⟨i0,hi0,hz0,hz1,hz2⟩:=info_parts Tryz.infoU8;go_wp2_with (at_builtin;refine wpList_append_own_at _ rfl _ _ 227 rfl w2.heap.size 5 i0 _ 1 1 Tryz.underlying227 hi0 hz0 hz1 hz2 rfl (by decide) _ _ _ rfl B3.o ⟨gb,0,none⟩ BB.length _ (BB.map (Value.int .u8)) rfl ?e1 HCE.o ?e2 ?e3 ?e4 ?e5 ?_)
    case e1=>simp
    case e2=>intro u hu;simp only[List.mem_map]at hu;obtain⟨x,_,rfl⟩:=hu;rfl
    case e3=>unfold maxLen;simp[AY];omega
    case e4=>simp[AY];omega
    case e5=>omega
    intro v4 w4 hown4 hg4 _ _
    have hB4:B5 w2.heap.size w4 v4 (([kind%256]++AY BB.length)++BB):=by
     unfold B5;rw[List.map_append,List.length_append];exact hown4
    have hconv:=hB4.str (by simp);have hle4:=A0 (hL23.o.trans ((Below.refl w1.heap.size w3).grown hg4 (by have:=L2.o.size;omega) (fun k e=>by have:=(B3.o.lt k e).1;have:=L2.o.size;omega)));clear hown4 hg4 hB4;obtain⟨SS,hSS⟩:∃SS,SS=DT (([kind%256]++AY BB.length)++BB):=⟨_,rfl⟩;rw[<-hSS]at hconv;have HSS:=A0 hSS;clear hSS;go_wp2;refine(HQ.o _ _).2 ⟨A1 G1.o (IT hle4.o),.inl ⟨HRP.o,hlong,?_⟩⟩;rw[HSS.o];rfl
  ·go_wp2;refine(HQ.o _ _).2 ⟨?_,.inr ⟨fun h=>hlong h.2,rfl⟩⟩;exact A1 G1.o (IT L2.o)
 ·have HRP:=A0 hrp;clear hrp;go_wp2;exact(HQ.o _ _).2 ⟨G1.o,.inr ⟨fun h=>HRP.o h.1,rfl⟩⟩
def AX(s:ByteArray)(i:Nat):Int:=if h:i<s.size then((s[i]'h).toNat:Int) else 0
theorem El(s:ByteArray)(i:Nat)(h:i<s.size):AX s i=((s[i]'h).toNat:Int):=by simp[AX,h]
theorem MH(s:ByteArray)(i:Nat):0<=AX s i/\AX s i<=255:=by
 unfold AX;split
 ·rename_i h;have:=(s[i]'h).toNat_lt;omega
 ·omega
theorem WG(x y:Nat)(hx:x<256)(hy:y<256):bits .or .i64 ((x*256:Nat):Int) (y:Int)=((x*256+y:Nat):Int):=by
 show IntKind.i64.wrap ((BitVec.ofInt 64 ((x*256:Nat):Int) ||| BitVec.ofInt 64 (y:Int)).toNat:Int)=_
 have e:x*256 ||| y=x*256+y:=by
  have:=Nat.two_pow_add_eq_or_of_lt (i:=8) (b:=y) (by omega) x;rw[Nat.mul_comm]at this;exact this.symm
 rw[BitVec.toNat_or,BitVec.ofInt_natCast,BitVec.ofInt_natCast,BitVec.toNat_ofNat,BitVec.toNat_ofNat,Nat.mod_eq_of_lt (by omega),Nat.mod_eq_of_lt (by omega),e];simp[IntKind.wrap,IntKind.bits,IntKind.signed];split<;>omega
theorem Yy(a b:UInt8):bits .or .i64 (wrap64 (wrap64 (a.toNat:Int)*256)) (wrap64 (b.toNat:Int))=(a.toNat:Int)*256+(b.toNat:Int):=by
 have ha:=a.toNat_lt;have hb:=b.toNat_lt
 rw[show wrap64 (a.toNat:Int)=(a.toNat:Int) by unfold wrap64;omega,show wrap64 (b.toNat:Int)=(b.toNat:Int) by unfold wrap64;omega,
  show wrap64 ((a.toNat:Int)*256)=((a.toNat*256:Nat):Int) by unfold wrap64;omega,WG _ _ (by omega) (by omega)]
 omega
theorem QN(s:ByteArray)(w:World)(h:2<=s.size):
  Calls Tryz.prog 256 #[.string s] w fun e w'=>e=.returned (.int .i64 (AX s 0*256+AX s 1))/\∃n,w'=w.drewN n:=by
 have h0:0<s.size:=by omega
 have h1:1<s.size:=by omega
 have H0:Hid (AX s 0=((s[0]'h0).toNat:Int)):=El s 0 h0;have H1:Hid (AX s 1=((s[1]'h1).toNat:Int)):=El s 1 h1;have h2:(0:Int)<s.size:=by omega
 have h3:(1:Int)<s.size:=by omega
 go_enter Tryz.func256,Tryz.ntmps256;go_wp2_with fail;go_quiet (fail)
 go_wp2;go_ret;refine⟨?_,_,rfl⟩;rw[H0.o,H1.o];exact congrArg (fun x=>Ending.returned (Value.int .i64 x)) (Yy _ _)
def sg(c:Int):Int:=if c<128 then c else c-256
theorem Xl(b:UInt8):wrap64 (IntKind.i8.wrap (b.toNat:Int))=sg (b.toNat:Int):=by
 have hb:=b.toNat_lt;unfold sg wrap64;simp[IntKind.wrap,IntKind.bits,IntKind.signed];split<;>split<;>omega
theorem Y5{k:Nat->Int}{j:Nat}{x:Int}(h:x=k j):(fun i=>if i=j then x else(if i<j then k i else 0))=fun i=>if i<j+1 then k i else 0:=by
 funext i;by_cases e:i=j
 ·subst e;simp[h]
 ·by_cases e2:i<j
  ·simp[e,e2,show i<j+1 by omega]
  ·simp[e,e2,show ¬i<j+1 by omega]
def Io(w:World)(b:Nat)(k:Nat->Int):World:=
 (((((w.setCell ⟨b,0,none⟩ (.int .i64 (k 0))).setCell ⟨b,1,none⟩ (.int .i64 (k 1))).setCell ⟨b,2,none⟩ (.int .i64 (k 2))).setCell ⟨b,3,none⟩ (.int .i64 (k 3))).setCell ⟨b,4,none⟩ (.int .i64 (k 4))).setCell ⟨b,5,none⟩ (.int .i64 (k 5))
theorem X1{w:World}{b:Nat}{k0:Nat->Int}(h:AD w b k0)(k:Nat->Int):AD (Io w b k) b k:=by
 unfold Io;unfold AD at h;unfold AD;rw[AI (AI (AI (AI (AI (AI h 0 _) 1 _) 2 _) 3 _) 4 _) 5 _];rfl
theorem X2(w:World)(b:Nat)(k:Nat->Int):w.grownBy (Io w b k) (some b):=
 A1 (A1 (A1 (A1 (A1 (A7 _ _ _ _) (A7 _ _ _ _)) (A7 _ _ _ _)) (A7 _ _ _ _)) (A7 _ _ _ _)) (A7 _ _ _ _)
theorem OL(s:ByteArray)(w:World)(h:6<=s.size):
  Calls Tryz.prog 270 #[.string s] w fun e w'=>e=.returned (pkV (fun i=>sg (AX s i)))/\w.grownBy w' none:=by
 have HZ:=A0 (AD.alloc (w.alloc (.cells #[.int .i64 0,.int .i64 0,.int .i64 0,.int .i64 0,.int .i64 0,.int .i64 0] 46)) (fun _=>0));unfold pkV pkA at *;obtain⟨k,hk⟩:∃k:Nat->Int,k=fun i=>sg (AX s i):=⟨_,rfl⟩
 rw[show(fun i=>sg (AX s i))=k from hk.symm];have HK:=A0 hk;clear hk;have HS:=A0 h;go_enter Tryz.func270,Tryz.ntmps270;go_wp2;go_loopw [5] (fun i wr=>∃j:Nat,j<=6/\i=.int .i64 j/\AD wr (w.heap.size+1) (fun i=>if i<j then k i else 0)/\AD wr w.heap.size (fun _=>0)/\w.grownBy wr none) (fun i _=>6-(intOf i).toNat)
 case atStart=>
  refine⟨0,by omega,rfl,?_,?_,A1 (World.grownBy_alloc _ _ _) (World.grownBy_alloc _ _ _)⟩
  ·have:=HZ.o;simpa using this
  ·exact(AD.alloc w (fun _=>0)).grown (World.grownBy_alloc _ _ none) (by simp)
 case round=>
  obtain⟨j,hj,rfl,hb,hb0,hg⟩:=hrel;have HB:=A0 hb;have HB0:=A0 hb0;have HG:=A0 hg;clear hb hb0 hg;by_cases hlt:j<6
  ·have hjs:j<s.size:=by omega
   have hjs2:(j:Int)<s.size:=by omega
   have c1:=HB.o.cell j hlt;have c2:=HB.o.frozen j;rw[if_neg (Nat.lt_irrefl j)]at c1;go_wp2;go_roundw
   case rel=>
    have hset:=HB.o.set j hlt (wrap64 (IntKind.i8.wrap (s[j].toNat:Int)));rw[Y5 (by rw[HK.o];show _=sg (AX s j);rw[El s j hjs];exact Xl _)]at hset;exact⟨j+1,by omega,by go_num,hset,HB0.o.grown (A7 _ _ _ _) (by simp),AR HG.o (A7 _ _ _ _) (by omega)⟩
   case measure=>simp[intOf];omega
  ·obtain rfl:j=6:=by omega
   have c0:=HB.o.cell 0 (by omega);have c1:=HB.o.cell 1 (by omega);have c2:=HB.o.cell 2 (by omega);have c3:=HB.o.cell 3 (by omega);have c4:=HB.o.cell 4 (by omega);have c5:=HB.o.cell 5 (by omega);simp only[show(0:Nat)<6 by omega,show(1:Nat)<6 by omega,show(2:Nat)<6 by omega,show(3:Nat)<6 by omega,show(4:Nat)<6 by omega,show(5:Nat)<6 by omega,if_true]at c0 c1 c2 c3 c4 c5;have d0:=HB0.o.cell 0 (by omega);have d1:=HB0.o.cell 1 (by omega);have d2:=HB0.o.cell 2 (by omega);have d3:=HB0.o.cell 3 (by omega);have d4:=HB0.o.cell 4 (by omega);have d5:=HB0.o.cell 5 (by omega);have f0:=HB0.o.frozen;go_wp2;change bodyPost _ _ _ _ _ (Io wr w.heap.size k);have hp:=X1 HB0.o k;have e0:=hp.cell 0 (by omega);have e1:=hp.cell 1 (by omega);have e2:=hp.cell 2 (by omega);have e3:=hp.cell 3 (by omega);have e4:=hp.cell 4 (by omega);have e5:=hp.cell 5 (by omega);refine bodyPost_ret (v:=.agg #[.int .i64 (k 0),.int .i64 (k 1),.int .i64 (k 2),.int .i64 (k 3),.int .i64 (k 4),.int .i64 (k 5)]) (by simp[results,Tryz.results270,go_sem,e0,e1,e2,e3,e4,e5]) rfl ?_;exact⟨rfl,AR HG.o (X2 _ _ _) (Nat.le_refl _)⟩
def RB(w:World)(g N:Nat)(f:Nat->Nat->Value):Prop:=
 ∃cur:Array Value,w.heap[g]?=some (.cells cur 68 (0,0))/\cur.size=N*8/\∀j,j<N->∀i,i<8->cur[j*8+i]?=some (f j i)
def rlC(p:Int)(mt:Nat->Int)(v:Value):Nat->Value:=fun i=>if i=0 then .int .i64 p else if i<7 then .int .i64 (mt (i-1)) else v
def rlL(p:Int)(mt:Nat->Int)(v:Value):List Value:=[.int .i64 p,.int .i64 (mt 0),.int .i64 (mt 1),.int .i64 (mt 2),.int .i64 (mt 3),.int .i64 (mt 4),.int .i64 (mt 5),v]
theorem XL(p:Int)(mt:Nat->Int)(v:Value)(i:Nat)(hi:i<8):(rlL p mt v)[i]?=some (rlC p mt v i):=by
 rcases(show i=0\/i=1\/i=2\/i=3\/i=4\/i=5\/i=6\/i=7 by omega) with rfl|rfl|rfl|rfl|rfl|rfl|rfl|rfl<;>rfl
def flR(rs:Nat->Rl):Nat->List Value
 | 0=>[]
 | n+1=>flR rs n++rlL (rs n).prio (rs n).mt (rs n).av
theorem CB(rs:Nat->Rl):∀n,(flR rs n).length=n*8
 | 0=>rfl
 | n+1=>by rw[flR,List.length_append,CB rs n];simp[rlL];omega
theorem D7(rs:Nat->Rl):∀n j i,j<n->i<8->(flR rs n)[j*8+i]?=some (rlC (rs j).prio (rs j).mt (rs j).av i)
 | 0,_,_,h,_=>by omega
 | n+1,j,i,h,hi=>by
  rw[flR];by_cases e:j=n
  ·subst e;rw[List.getElem?_append_right (by rw[CB];omega),CB,show j*8+i-j*8=i by omega,XL _ _ _ _ hi]
  ·rw[List.getElem?_append_left (by rw[CB];omega)];exact D7 rs n j i (by omega) hi
theorem Mr(rs:Nat->Rl)(n:Nat)(h:∀j,j<n->∃a l c,(rs j).av=.slice a l c):∀v∈flR rs n,v.oneCell'=true:=by
 induction n with
 | zero=>intro v hv;simp[flR]at hv
 | succ n ih=>
  intro v hv;rw[flR,List.mem_append]at hv;rcases hv with g|g
  ·exact ih (fun j hj=>h j (by omega)) v g
  ·obtain⟨a,l,c,e⟩:=h n (by omega);simp[rlL,e]at g;rcases g with rfl|rfl|rfl|rfl|rfl|rfl|rfl|rfl<;>rfl
theorem Tryz.infoRl:(Tryz.prog.info? 68).map (fun i=>(i.zero,i.size,i.bytes))=some (some (.agg (rlA 0 (fun _=>0) (.slice none 0 0))),8,80):=by kernel_rfl
end Go.Proofs.YtlhkfafdioakeaaGreatDoor
