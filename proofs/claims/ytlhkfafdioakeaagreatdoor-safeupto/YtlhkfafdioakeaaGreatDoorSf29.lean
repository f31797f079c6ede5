/- Parts of the proof. -/
import Derived.Test.YtlhkfafdioakeaaGreatDoorSf07
import Derived.Test.YtlhkfafdioakeaaGreatDoorSf08
import Derived.Test.YtlhkfafdioakeaaGreatDoorSf25
import Derived.Test.YtlhkfafdioakeaaGreatDoorSf28
namespace Go.Proofs.YtlhkfafdioakeaaGreatDoor
open Go.RowKit Go.Weft Classical
set_option linter.unusedVariables false
set_option linter.unusedSimpArgs false
section
variable{T:Nat->List Int}{o:Nat->Int}{ac:(Nat->Int)->List (Nat->Int)}{A:List Nat}
theorem xup{Q:(Nat->Int)->Prop}(hQ:∀k f v,Q k->f<6->(v∈T f\/v=o f)->Q (putF k f v))(hT:∀f v,f<6->(v∈T f↔∃n∈A,n%2=0/\fOf n=f/\v=(vOf n:Int)))(ho:∀f,f<6->∀n∈A,fOf n=f->¬o f=(vOf n:Int))(x:Nat->Int):
  ∀(n:Nat) (k:Nat->Int),n<=5->Q k->(∀f,(f<6-n\/6<=f)->St A f (k f) (x f))->∃m k',(xuj T o ac n k).find? (hitB x)=some (m,ac k')/\xaj A k' x/\Q k'
 | 0,k,_,hk,h=>by
  refine ⟨evry,k,?_,fun f=>?_,hk⟩
  ·rw [xuj,List.find?_cons]
   have:hitB x (evry,ac k)=true:=by
    unfold hitB;rw [decide_eq_true_eq];intro i _ hi;left;show evry i=-1;unfold evry;rw [if_pos hi]
   rw [this]
  ·exact h f (by omega)
 | n+1,k,hn,hk,h=>by
  have hTv:∀v∈T (5-n),v ≠ -1:=fun v hv e=>by
   obtain ⟨m,_,_,_,e2⟩:=(hT (5-n) v (by omega)).1 hv;omega
  have put:∀v,St A (5-n) v (x (5-n))->∀f,(f<6-n\/6<=f)->St A f (putF k (5-n) v f) (x f):=fun v hv f hf=>by
   unfold putF;by_cases e:f=5-n
   ·rw [if_pos e,e];exact hv
   ·rw [if_neg e];exact h f (by omega)
  have hop:=fun k=>xur (T:=T) (o:=o) (ac:=ac) n k (by omega)
  have blk:∀v,v ≠ -1->x (5-n)≠v->(if xuj T o ac n (putF k (5-n) v)=xuj T o ac n (putF k (5-n) (o (5-n))) then [] else (xuj T o ac n (putF k (5-n) v)).map fun r=>(putF r.1 (5-n) v,r.2)).find? (hitB x)=none:=fun v hv hx=>by
   split
   ·rfl
   ·exact (xhe (by omega) (by omega) hv (fun r hr=>(hop _ r hr).1 (5-n) (by omega))).1 hx
  rw [xuj,List.find?_append,List.find?_flatMap];by_cases hx:x (5-n)∈T (5-n)
  ·obtain ⟨m,k',h1,h2⟩:=xup hQ hT ho x n (putF k (5-n) (x (5-n))) (by omega) (hQ k _ _ hk (by omega) (.inl hx)) (put _ (.inl rfl));by_cases he:xuj T o ac n (putF k (5-n) (x (5-n)))=xuj T o ac n (putF k (5-n) (o (5-n)))
   ·rw [xhd (fun v hv=>?_),Option.none_or,<-he]
    ·exact ⟨m,k',h1,h2⟩
    ·by_cases e:x (5-n)=v
     ·rw [<-e,if_pos he];rfl
     ·exact blk v (hTv v hv) e
   ·have hb:=(xhe (x:=x) (f:=5-n) (v:=x (5-n)) (by omega) (by omega) (hTv _ hx) (fun r hr=>(hop (putF k (5-n) (x (5-n))) r hr).1 (5-n) (by omega))).2 rfl;rw [h1] at hb;refine ⟨putF m (5-n) (x (5-n)),k',?_,h2⟩
    have hg:(T (5-n)).findSome? (fun v=>(if xuj T o ac n (putF k (5-n) v)=xuj T o ac n (putF k (5-n) (o (5-n))) then [] else (xuj T o ac n (putF k (5-n) v)).map fun r=>(putF r.1 (5-n) v,r.2)).find? (hitB x))=some (putF m (5-n) (x (5-n)),ac k'):=by
     have h3:∀l:List Int,(∀v∈l,v ≠ -1)->x (5-n)∈l->l.findSome? (fun v=>(if xuj T o ac n (putF k (5-n) v)=xuj T o ac n (putF k (5-n) (o (5-n))) then [] else (xuj T o ac n (putF k (5-n) v)).map fun r=>(putF r.1 (5-n) v,r.2)).find? (hitB x))=some (putF m (5-n) (x (5-n)),ac k'):=by
      intro l;induction l with
      | nil=>intro _ hm;cases hm
      | cons a l ih=>
       intro hl hm;rw [List.findSome?_cons];by_cases e:x (5-n)=a
       ·rw [<-e,if_neg he,hb];rfl
       ·rw [blk a (hl a (by simp)) e];exact ih (fun v hv=>hl v (by simp [hv])) ((List.mem_cons.1 hm).resolve_left e)
     exact h3 _ hTv hx
    rw [hg];rfl
  ·rw [xhd (fun v hv=>blk v (hTv v hv) (fun e=>hx (by rw [e];exact hv))),Option.none_or];refine xup hQ hT ho x n _ (by omega) (hQ k _ _ hk (by omega) (.inr rfl)) (put _ (.inr ⟨ho (5-n) (by omega),fun m hm he hf hv=>hx ?_⟩));exact (hT (5-n) _ (by omega)).2 ⟨m,hm,he,hf,hv⟩
end
def NoSw(A:List Nat):Prop:=∀n∈A,n%2=1->fOf n≠0
theorem xli{ys:List Sym}{n a:Nat}(h:xae ys n a):NoSw (xcc (.exit n)):=by
 intro m hm hodd;unfold xcc at hm;split at hm
 ·cases hm
 ·rename_i h1;rw [List.mem_singleton] at hm;subst hm;rcases h with ⟨_,rfl,_⟩|⟨_,rfl,_⟩|⟨nm,f,k,tx,_,_,_,_,hk,hn,h31,he,_⟩
  ·omega
  ·omega
  ·unfold leafC at he;rcases hk with rfl|rfl
   ·rw [if_neg (by omega)] at he;cases he;omega
   ·rw [if_pos rfl] at he;cases he;unfold fOf;have:f≠0:=fun e=>hn ⟨e,rfl⟩
    omega
theorem NoSw.app{A B:List Nat}(h:NoSw A)(k:NoSw B):NoSw (A++B):=fun n hn=>(List.mem_append.1 hn).elim (h n) (k n)
theorem xcg(k:Nat):∀l:List Code,NoSw (xch l)->NoSw (xcc (joinC k l))
 | [],_=>by intro n hn;simp [joinC,xcc,chain] at hn
 | [t],h=>by simpa [joinC,xch] using h
 | t::u::l,h=>by
  show NoSw (xcc (chain (t::u::l)));rw [xcd];exact h
theorem xyb:∀c:Ct,okC c->NoSw (xcc (trees c).1)/\NoSw (xch (trees c).2.1)/\NoSw (xch (trees c).2.2)
 | .leaf ys n a,h=>by
  have:=xli h;exact ⟨this,by simpa [trees,xch] using this,by simpa [trees,xch] using this⟩
 | .neg a,h=>by
  have:=(xyb a h.2.1).1;exact ⟨this,by simpa [trees,xch,xcc] using this,by simpa [trees,xch,xcc] using this⟩
 | .brk a,h=>by
  have:=(xyb a h).1;exact ⟨this,by simpa [trees,xch] using this,by simpa [trees,xch] using this⟩
 | .star a,h=>by
  have:=(xyb a h.2).1;exact ⟨this,by simpa [trees,xch,xcc] using this,by simpa [trees,xch,xcc] using this⟩
 | .sq a b,h=>by
  have h3:NoSw (xch ((trees a).1::(trees b).2.1)):=(xyb a h.2.2.1).1.app (xyb b h.2.2.2).2.1;have h4:=xcg 1 _ h3;exact ⟨h4,h3,by simpa [trees,xch] using h4⟩
 | .sm a b,h=>by
  have h3:NoSw (xch ((trees a).1::(trees b).2.2)):=(xyb a h.2.2.1).1.app (xyb b h.2.2.2).2.2;have h4:=xcg 0 _ h3;exact ⟨h4,by simpa [trees,xch] using h4,h3⟩
theorem xtm{s:ByteArray}{t:Code}(h:readS s=.ok t):NoSw (xcc t):=by
 obtain ⟨c,rfl,hok,_,_,_,_⟩:=xtn s h;exact (xyb c hok).1
theorem xya(t:Code):NoSw (xcc t)->(∀x z,(den t).1 x z->z 0=x 0)/\(∀x z,(den t).2.1 x z->z 0=x 0)/\(∀x z,(den t).2.2 x z->z 0=x 0):=by
 induction t with
 | exit n=>
  intro h;refine ⟨fun x z hd=>?_,fun x z hd=>hd.elim,fun x z hd=>by cases hd;rfl⟩;have hd:leafD n x z:=hd;unfold leafD at hd;split at hd
  ·rw [hd]
  ·split at hd
   ·exact hd.elim
   ·split at hd
    ·rw [hd.2]
    ·rename_i h0 h1 h2;subst hd;have:=h n (by simp [xcc];omega) (by omega);unfold putF;rw [if_neg (by omega)]
 | loop t ih=>
  intro h;refine ⟨fun x z hd=>?_,fun x z hd=>hd.elim,fun x z hd=>by cases hd;rfl⟩
  have key:∀x z,Many (den t).1 x z->z 0=x 0:=by
   intro x z hm;induction hm with
   | refl a=>rfl
   | step h1 _ ih2=>rw [ih2,(ih h).1 _ _ h1]
  exact key x z hd
 | scope t ih=>exact fun h=>⟨fun x z hd=>(by rw [hd.2]),fun x z hd=>hd.elim,fun x z hd=>by cases hd;rfl⟩
 | block k l ih=>
  intro h;refine ⟨fun x z hd=>?_,fun x z hd=>hd.elim,fun x z hd=>by cases hd;rfl⟩;have hd:(if k=0 then (den l).2.1 else (den l).2.2) x z:=hd;split at hd
  ·exact (ih h).2.1 x z hd
  ·exact (ih h).2.2 x z hd
 | seq a l iha ihl=>
  intro h;have ha:=iha (fun n hn=>h n (List.mem_append.2 (.inl hn)));have hl:=ihl (fun n hn=>h n (List.mem_append.2 (.inr hn)));refine ⟨fun x z hd=>(by cases hd;rfl),fun x z hd=>?_,fun x z hd=>?_⟩
  ·exact hd.elim (ha.1 x z) (hl.2.1 x z)
  ·obtain ⟨v,h1,h2⟩:=hd;rw [hl.2.2 v z h2,ha.1 x v h1]
 | _=>exact fun h=>⟨fun x z hd=>(by cases hd;rfl),fun x z hd=>hd.elim,fun x z hd=>by cases hd;rfl⟩
def unnum(u:Nat):Nat->Int:=fun i=>if i=0 then ((u%32:Nat):Int) else if i=1 then ((u/32%32:Nat):Int) else if i=2 then ((u/1024%32:Nat):Int) else if i=3 then ((u/32768%32:Nat):Int) else if i=4 then ((u/1048576%32:Nat):Int) else if i=5 then ((u/33554432%32:Nat):Int) else 0
theorem x0e(u:Nat):Nm (unnum u):=fun i hi=>by unfold unnum;simp [show ¬i=0 by omega,show ¬i=1 by omega,show ¬i=2 by omega,show ¬i=3 by omega,show ¬i=4 by omega,show ¬i=5 by omega]
theorem x0f{x:Nat->Int}(hx:Rt x):unnum (numP x).toNat=x:=by
 have x0:=hx.2 0 (by omega);have x1:=hx.2 1 (by omega);have x2:=hx.2 2 (by omega);have x3:=hx.2 3 (by omega);have x4:=hx.2 4 (by omega);have x5:=hx.2 5 (by omega);refine (x0e _).ext hx.1 (fun t ht=>?_);unfold numP unnum;rcases (show t=0\/t=1\/t=2\/t=3\/t=4\/t=5 by omega) with rfl|rfl|rfl|rfl|rfl|rfl<;>simp<;>omega
theorem xv5{t:Code}(hl:lfD t=true){k:Nat->Int}(hk:Rt k):∃B,SetOf B (D t k):=by
 obtain ⟨U,hU⟩:∃U,U=(List.range 1073741824).map unnum:=⟨_,rfl⟩
 have hn:∀x∈U,Nm x:=fun x hx=>by
  rw [hU] at hx;obtain ⟨u,_,rfl⟩:=List.mem_map.1 hx;exact x0e u
 have hm:∀x,Rt x->x∈U:=fun x hx=>by
  rw [hU];have:=xpd hx;exact List.mem_map.2 ⟨(numP x).toNat,List.mem_range.2 (by omega),x0f hx⟩
 refine ⟨(setS U).filter (fun y=>decide (D t k y)),List.Pairwise.filter _ (xv3 hn),fun x hx=>hn x ((xv2 hn x).1 (List.mem_filter.1 hx).1),fun x=>?_⟩;rw [List.mem_filter,decide_eq_true_eq,xv2 hn];exact ⟨fun h=>h.2,fun h=>⟨hm x ((xf1 t hl).1 k x hk h),h⟩⟩
theorem lm_ex(zs:List Int):∃m:Nat,LM zs m:=by
 refine Classical.byContradiction fun h=>?_
 have key:∀m:Nat,(m:Int)∈zs:=by
  intro m;induction m using Nat.strongRecOn with
  | _ m ih=>exact Classical.byContradiction fun hm=>h ⟨m,fun v hv=>ih v hv,hm⟩
 have h1:=xox ((List.range (zs.length+1)).map fun i:Nat=>(i:Int)) zs (by
  refine List.Pairwise.map _ (fun a b hab=>?_) List.nodup_range;intro e
  exact hab (by omega)) (fun x hx=>by
   obtain ⟨i,_,rfl⟩:=List.mem_map.1 hx;exact key i)
 simp at h1;omega
section
variable{s:ByteArray}{t:Code}
theorem xco(h:readS s=.ok t):∀n∈xcc t,fOf n<6:=fun n hn=>by
 have:=xcq t (xtk h).1.2.2 n hn;unfold fOf;omega
theorem xz1(h:readS s=.ok t)(f:Nat)(v:Int)(hf:f<6):v∈tstd (xcc t) f↔∃n∈xcc t,n%2=0/\fOf n=f/\v=(vOf n:Int):=
 ((xz3 (xcc t) f).1 v).trans (xo6 (xcc t) (xco h) f hf v).1
theorem xpi(h:readS s=.ok t)(f:Nat)(hf:f<6):∀n∈xcc t,fOf n=f->¬oT t f=(vOf n:Int):=by
 intro n hn hfn e;obtain ⟨m,hm⟩:=lm_ex (xo4 (xcc t) (6+f));rw [oT_of hm] at e;refine hm.2 ?_;rw [e];exact ((xo6 (xcc t) (xco h) f hf _).2).2 ⟨n,hn,hfn,rfl⟩
theorem xpj(h:readS s=.ok t)(f:Nat):0<=oT t f/\oT t f<32:=by
 obtain ⟨m,hm⟩:=lm_ex (xo4 (xcc t) (6+f));rw [oT_of hm];have h1:=lm_le hm;have h2:=xo5 (xcc t) (6+f);have h3:=xcl h;omega
theorem xz2(h:readS s=.ok t)(f:Nat)(v:Int)(hf:f<6)(hv:v∈tstd (xcc t) f):0<=v/\v<32:=by
 obtain ⟨n,_,_,_,rfl⟩:=(xz1 h f v hf).1 hv;unfold vOf;omega
theorem xta(h:readS s=.ok t)(k:Nat->Int)(f:Nat)(v:Int)(hk:Rt k)(hf:f<6)(hv:v∈tstd (xcc t) f\/v=oT t f):Rt (putF k f v):=by
 refine xs4 hk f hf v ?_;rcases hv with hv|rfl
 ·exact xz2 h f v hf hv
 ·exact xpj h f
theorem xx9{z:Int}(hz:0<=z/\z<=31):Rt (swK z):=⟨fun i hi=>by unfold swK;rw [if_neg (by omega)],fun i hi=>by unfold swK;split<;>omega⟩
theorem xbf{k z x:Nat->Int}(hk:Rt k)(hz:Rt z)(hx:Rt x)(h0:z 0=k 0):actS (maskK k z) x=actK k z x:=by
 funext i;unfold actS maskK actK;by_cases hi:i<6
 ·have hz1:=(hz.2 i hi).1;by_cases e:z i=k i
  ·rw [if_pos e];simp [hi,e]
  ·rw [if_neg e];by_cases e1:1<=i
   ·simp [hi,e,e1];omega
   ·obtain rfl:i=0:=by omega
    exact absurd h0 e
 ·have e:z i=k i:=by rw [hz.1 i (by omega),hk.1 i (by omega)]
  rw [if_pos e,if_neg (by omega)]
theorem xa4(h:readS s=.ok t){k:Nat->Int}(hk:Rt k)(a:Nat->Int):a∈acT t k↔∃z,D t k z/\a=maskK k z:=by
 obtain ⟨B,hB⟩:=xv5 (xtk h).1.2.2 hk;rw [<-xa6 hB];unfold acS;rw [xv2 (fun x hx=>by obtain ⟨z,hz,rfl⟩:=List.mem_map.1 hx;exact xmy (hB.nm z hz)),List.mem_map];constructor
 ·rintro ⟨z,hz,rfl⟩;exact ⟨z,(hB.mem z).1 hz,rfl⟩
 ·rintro ⟨z,hz,rfl⟩;exact ⟨z,(hB.mem z).2 hz,rfl⟩
theorem xa7(t:Code)(k:Nat->Int):Srt (acT t k):=by
 unfold acT;split
 ·rename_i h;unfold acS;exact xv3 (fun x hx=>by obtain ⟨z,hz,rfl⟩:=List.mem_map.1 hx;exact xmy ((Classical.choose_spec h).nm z hz))
 ·exact List.Pairwise.nil
theorem xy1(h:readS s=.ok t){z:Int}(hz:0<=z/\z<=31){N:Nat}{rs:Nat->Rl}{AL:Nat->List (Nat->Int)}(hP:prL rs AL N=xuj (tstd (xcc t)) (oT t) (acT t) 5 (swK z))(hI:∀j,j<N->Is (AL j) (rs j).na (rs j).acts){x:Nat->Int}(hx:Rt x)(hx0:x 0=z){L:List (Nat->Int)}{b:Bool}(hL:LkS rs N x L b):b=true/\SetOf L (D t x):=by
 obtain ⟨m,k',hfi,hS,hk'⟩:=xup (T:=tstd (xcc t)) (o:=oT t) (ac:=acT t) (A:=xcc t) (Q:=Rt) (fun k f v hk hf hv=>xta h k f v hk hf hv) (fun f v hf=>xz1 h f v hf) (fun f hf=>xpi h f hf) x 5 (swK z) (by omega) (xx9 hz) (fun f hf=>by
  left;unfold swK;by_cases e:f=0
  ·rw [if_pos e,e,hx0]
  ·rw [if_neg e,hx.1 f (by omega)])
 rw [<-hP,List.find?_eq_some_iff_getElem] at hfi;obtain ⟨hhit,j,hj,he,hbef⟩:=hfi;have hjN:j<N:=by rw [xsl] at hj;exact hj
 have hget:∀i (hi:i<(prL rs AL N).length),(prL rs AL N)[i]=((rs i).mt,AL i):=fun i hi=>by
  have:(prL rs AL N)[i]?=some ((rs i).mt,AL i):=by
   rw [xsl] at hi;unfold prL;simp [hi]
  rw [List.getElem?_eq_getElem hi] at this;exact Option.some.inj this
 rw [hget] at he;obtain ⟨e1,e2⟩:=Prod.mk.inj he;have hm:xm4 (rs j).mt x:=by rw [e1];unfold hitB at hhit;simpa using hhit
 have hb:∀i,i<j->¬xm4 (rs i).mt x:=fun i hi hm=>by
  have:=hbef i hi;rw [hget] at this;unfold hitB at this;simp [hm] at this
 obtain ⟨rfl,rfl⟩:=hL.one (.inl ⟨j,hjN,hb,hm,rfl,rfl⟩);refine ⟨rfl,?_⟩;have hI2:=hI j hjN
 have hnx:∀y∈(List.range (rs j).na).map (fun q=>actS ((rs j).acts q) x),Nm y:=fun y hy=>by
  obtain ⟨q,_,rfl⟩:=List.mem_map.1 hy;exact xbd hx.1
 refine ⟨xv3 hnx,fun y hy=>hnx y ((xv2 hnx y).1 hy),fun y=>?_⟩;rw [xv2 hnx,xmx hI2 (fun a=>actS a x),List.mem_map,xbh (A:=xcc t) (fun n hn=>hn) hS y];have hr2:=xtk h;have hkey:∀z',D t k' z'->actS (maskK k' z') x=actK k' z' x:=fun z' hz'=>xbf hk' ((xf1 t hr2.1.2.2).1 k' z' hk' hz') hx ((xya t (xtm h)).1 k' z' hz')
 rw [e2];constructor
 ·rintro ⟨a,ha,rfl⟩;obtain ⟨z',hz',rfl⟩:=(xa4 h hk' a).1 ha;exact ⟨z',hz',hkey z' hz'⟩
 ·rintro ⟨z',hz',rfl⟩;exact ⟨maskK k' z',(xa4 h hk' _).2 ⟨z',hz',rfl⟩,hkey z' hz'⟩
theorem xy2(h:readS s=.ok t){z:Int}{N:Nat}{rs:Nat->Rl}{AL:Nat->List (Nat->Int)}(hP:prL rs AL N=xuj (tstd (xcc t)) (oT t) (acT t) 5 (swK z)):
  (∀j,j<N->(rs j).mt 0=-1/\(∀i,1<=i->i<6->(rs j).mt i=-1\/(0<=(rs j).mt i/\(rs j).mt i<=31))/\Srt (AL j))/\∀i j,i<j->j<N->¬xm4 (rs i).mt (ownX (oT t) (rs j).mt):=by
 have hmem:∀j,j<N->((rs j).mt,AL j)∈xuj (tstd (xcc t)) (oT t) (acT t) 5 (swK z):=fun j hj=>by
  rw [<-hP];exact List.mem_map.2 ⟨j,List.mem_range.2 hj,rfl⟩
 refine ⟨fun j hj=>?_,fun i j hij hj=>?_⟩
 ·obtain ⟨h1,h2,h3,k',h4⟩:=xur 5 (swK z) (by omega) _ (hmem j hj);have h4:AL j=acT t k':=h4;refine ⟨h1 0 (by omega),fun i hi1 hi=>?_,by rw [h4];exact xa7 t k'⟩;have h2:(rs j).mt i=-1\/(rs j).mt i∈tstd (xcc t) i:=h2 i hi;rcases h2 with e|e
  ·exact .inl e
  ·have:=xz2 h i _ hi e;exact .inr ⟨this.1,by omega⟩
 ·have hp:=xuu (T:=tstd (xcc t)) (o:=oT t) (ac:=acT t) (fun f hf v hv=>⟨by have:=xz2 h f v hf hv;omega,fun e=>by
   obtain ⟨n,hn,_,hfn,e2⟩:=(xz1 h f v hf).1 hv;exact xpi h f hf n hn hfn (by rw [<-e,e2])⟩) (fun f _=>(xz3 (xcc t) f).2.1) 5 (swK z) (by omega)
  rw [<-hP] at hp;unfold prL at hp;rw [List.pairwise_map] at hp;have:=List.pairwise_iff_getElem.1 hp i j (by simp;omega) (by simp;omega) hij;simpa using this
end
theorem xic:∀a,a<17->(1+a) ^ 4<=41*2 ^ a:=by decide
theorem prod5{a b c d e:Nat}(h:a+b+c+d+e<=16):(1+a)*(1+b)*(1+c)*(1+d)*(1+e)<=1660:=by
 have ha:=xic a (by omega);have hb:=xic b (by omega);have hc:=xic c (by omega);have hd:=xic d (by omega);have he:=xic e (by omega)
 have h1:((1+a)*(1+b)*(1+c)*(1+d)*(1+e)) ^ 4<=(41*2 ^ a)*(41*2 ^ b)*(41*2 ^ c)*(41*2 ^ d)*(41*2 ^ e):=by
  rw [Nat.mul_pow,Nat.mul_pow,Nat.mul_pow,Nat.mul_pow];exact Nat.mul_le_mul (Nat.mul_le_mul (Nat.mul_le_mul (Nat.mul_le_mul ha hb) hc) hd) he
 have h2:(41*2 ^ a)*(41*2 ^ b)*(41*2 ^ c)*(41*2 ^ d)*(41*2 ^ e)=41 ^ 5*2 ^ (a+b+c+d+e):=by
  rw [Nat.pow_add,Nat.pow_add,Nat.pow_add,Nat.pow_add];generalize 2 ^ a=x1;generalize 2 ^ b=x2;generalize 2 ^ c=x3;generalize 2 ^ d=x4;generalize 2 ^ e=x5;have:(41:Nat) ^ 5=41*41*41*41*41:=by decide
  rw [this]
  ac_rfl
 have h3:2 ^ (a+b+c+d+e)<=2 ^ 16:=Nat.pow_le_pow_right (by omega) h;rw [h2] at h1;have h4:41 ^ 5*2 ^ (a+b+c+d+e)<=41 ^ 5*2 ^ 16:=Nat.mul_le_mul_left _ h3;generalize (1+a)*(1+b)*(1+c)*(1+d)*(1+e)=P at *;refine Nat.le_of_not_lt fun hlt=>?_
 have h5:1661 ^ 4<=P ^ 4:=Nat.pow_le_pow_left (by omega) 4;have h6:(41:Nat) ^ 5*2 ^ 16<1661 ^ 4:=by decide
 exact absurd (Nat.le_trans h5 (Nat.le_trans h1 h4)) (Nat.not_le_of_lt h6)
theorem xx6{α:Type}(n:Nat):∀l:List α,(l.map fun _=>n).sum=l.length*n
 | []=>by simp
 | x::l=>by rw [List.map_cons,List.sum_cons,xx6 n l,List.length_cons,Nat.add_mul];omega
def five(k0:Int)(V:Nat->List Int):List (Nat->Int):=
 (V 1).flatMap fun a=>(V 2).flatMap fun b=>(V 3).flatMap fun c=>(V 4).flatMap fun d=>(V 5).map fun e=>fun i=>if i=0 then k0 else if i=1 then a else if i=2 then b else if i=3 then c else if i=4 then d else if i=5 then e else 0
theorem xhg(k0:Int)(V:Nat->List Int):(five k0 V).length=(V 1).length*(V 2).length*(V 3).length*(V 4).length*(V 5).length:=by
 unfold five;simp only [List.length_flatMap,List.length_map,xx6]
 ac_rfl
theorem xhh{k0:Int}{V:Nat->List Int}{x:Nat->Int}(hn:∀i,6<=i->x i=0)(h0:x 0=k0)(h:∀f,1<=f->f<6->x f∈V f):x∈five k0 V:=by
 unfold five;refine List.mem_flatMap.2 ⟨x 1,h 1 (by omega) (by omega),List.mem_flatMap.2 ⟨x 2,h 2 (by omega) (by omega),List.mem_flatMap.2 ⟨x 3,h 3 (by omega) (by omega),List.mem_flatMap.2 ⟨x 4,h 4 (by omega) (by omega),List.mem_map.2 ⟨x 5,h 5 (by omega) (by omega),?_⟩⟩⟩⟩⟩;funext i;by_cases hi:i<6
 ·rcases (show i=0\/i=1\/i=2\/i=3\/i=4\/i=5 by omega) with rfl|rfl|rfl|rfl|rfl|rfl<;>simp [h0]
 ·rw [hn i (by omega)];simp [show ¬i=0 by omega,show ¬i=1 by omega,show ¬i=2 by omega,show ¬i=3 by omega,show ¬i=4 by omega,show ¬i=5 by omega]
theorem xus{T:Nat->List Int}{o:Nat->Int}{ac:(Nat->Int)->List (Nat->Int)}{Q:(Nat->Int)->Prop}(hQ:∀k f v,Q k->f<6->(v∈T f\/v=o f)->Q (putF k f v)):∀(n:Nat) (k:Nat->Int),n<=5->Q k->∀r∈xuj T o ac n k,∃k',r.2=ac k'/\Q k'
 | 0,k,_,hk,r,hr=>by
  rw [xuj,List.mem_singleton] at hr;subst hr;exact ⟨k,rfl,hk⟩
 | n+1,k,hn,hk,r,hr=>by
  rw [xuj,List.mem_append] at hr;rcases hr with hr|hr
  ·obtain ⟨v,hv,hr⟩:=List.mem_flatMap.1 hr;split at hr
   ·cases hr
   ·obtain ⟨q,hq,rfl⟩:=List.mem_map.1 hr;obtain ⟨k',h1,h2⟩:=xus hQ n _ (by omega) (hQ k _ v hk (by omega) (.inl hv)) q hq;exact ⟨k',h1,h2⟩
  ·exact xus hQ n _ (by omega) (hQ k _ _ hk (by omega) (.inr rfl)) r hr
def valsF(A:List Nat)(f:Nat):List Int:=(A.filter (fun n=>fOf n == f)).map (fun n=>(vOf n:Int))
theorem x0p:∀A:List Nat,(valsF A 1).length+(valsF A 2).length+(valsF A 3).length+(valsF A 4).length+(valsF A 5).length<=A.length
 | []=>Nat.le_refl _
 | n::A=>by
  have ih:=x0p A
  have key:∀f,(valsF (n::A) f).length=(valsF A f).length+(if fOf n=f then 1 else 0):=fun f=>by
   unfold valsF;rw [List.filter_cons];by_cases e:fOf n=f
   ·simp [e]
   ·simp [e]
  rw [key,key,key,key,key,List.length_cons];by_cases e1:fOf n=1
  ·simp [e1];omega
  ·by_cases e2:fOf n=2
   ·simp [e2];omega
   ·by_cases e3:fOf n=3
    ·simp [e3];omega
    ·by_cases e4:fOf n=4
     ·simp [e4];omega
     ·by_cases e5:fOf n=5
      ·simp [e5];omega
      ·simp [e1,e2,e3,e4,e5];omega
theorem xf0{s:ByteArray}{t:Code}(h:readS s=.ok t){k:Nat->Int}(hk:Rt k){B:List (Nat->Int)}(hB:SetOf B (D t k)):B.length<=1660:=by
 have h1:=xoy B (five (k 0) (fun f=>k f::valsF (xcc t) f)) hB.srt.nodup (fun x hx=>by
  have hd:=(hB.mem x).1 hx;refine xhh (hB.nm x hx) ((xya t (xtm h)).1 k x hd) (fun f hf1 hf=>?_);rcases (xss (xcc t) t (fun n hn=>hn)).1 k x hd f with e|⟨n,hn,e1,e2⟩
  ·rw [e];simp
  ·rw [e2];refine List.mem_cons_of_mem _ (List.mem_map.2 ⟨n,List.mem_filter.2 ⟨hn,by simp [e1]⟩,rfl⟩))
 rw [xhg] at h1;simp only [List.length_cons] at h1;have h2:=x0p (xcc t);have h3:=xcl h;have h4:=prod5 (a:=(valsF (xcc t) 1).length) (b:=(valsF (xcc t) 2).length) (c:=(valsF (xcc t) 3).length) (d:=(valsF (xcc t) 4).length) (e:=(valsF (xcc t) 5).length) (by omega);simp only [Nat.add_comm 1] at h4;exact Nat.le_trans h1 h4
theorem xa3{s:ByteArray}{t:Code}(h:readS s=.ok t){k:Nat->Int}(hk:Rt k):(acT t k).length<=1660:=by
 obtain ⟨B,hB⟩:=xv5 (xtk h).1.2.2 hk;have h1:=xf0 h hk hB
 have h2:(acT t k).length<=(B.map (maskK k)).length:=by
  refine xoy _ _ ?_ (fun x hx=>?_)
  ·exact List.Pairwise.imp (fun h=>h.ne) (xa7 t k)
  ·obtain ⟨z,hz,rfl⟩:=(xa4 h hk x).1 hx;exact List.mem_map.2 ⟨z,(hB.mem z).2 hz,rfl⟩
 rw [List.length_map] at h2;omega
theorem xut{T:Nat->List Int}{o:Nat->Int}{ac:(Nat->Int)->List (Nat->Int)}:∀(n:Nat) (k:Nat->Int) (M:Nat),(∀k,(xuj T o ac n k).length<=M)->(xuj T o ac (n+1) k).length<=M*(1+(T (5-n)).length):=by
 intro n k M ih;rw [xuj,List.length_append,List.length_flatMap]
 have h1:((T (5-n)).map fun v=>(if xuj T o ac n (putF k (5-n) v)=xuj T o ac n (putF k (5-n) (o (5-n))) then [] else (xuj T o ac n (putF k (5-n) v)).map fun r=>(putF r.1 (5-n) v,r.2)).length).sum<=(T (5-n)).length*M:=by
  generalize T (5-n)=l;induction l with
  | nil=>simp
  | cons v l ih2=>
   rw [List.map_cons,List.sum_cons,List.length_cons,Nat.add_mul,Nat.one_mul]
   have:(if xuj T o ac n (putF k (5-n) v)=xuj T o ac n (putF k (5-n) (o (5-n))) then [] else (xuj T o ac n (putF k (5-n) v)).map fun r=>(putF r.1 (5-n) v,r.2)).length<=M:=by
    split
    ·simp
    ·rw [List.length_map];exact ih _
   omega
 have h2:=ih (putF k (5-n) (o (5-n)));rw [Nat.mul_add,Nat.mul_one,Nat.mul_comm M];omega
theorem xuk{A:List Nat}{o:Nat->Int}{ac:(Nat->Int)->List (Nat->Int)}(hA:∀n∈A,fOf n<6)(h16:A.length<=16)(k:Nat->Int):(xuj (tstd A) o ac 5 k).length<=1660:=by
 have h0:∀k,(xuj (tstd A) o ac 0 k).length<=1:=fun k=>by rw [xuj];simp
 have h1:=fun k=>xut (T:=tstd A) (o:=o) (ac:=ac) 0 k _ h0
 have h2:=fun k=>xut (T:=tstd A) (o:=o) (ac:=ac) 1 k _ h1
 have h3:=fun k=>xut (T:=tstd A) (o:=o) (ac:=ac) 2 k _ h2
 have h4:=fun k=>xut (T:=tstd A) (o:=o) (ac:=ac) 3 k _ h3
 have h5:=xut (T:=tstd A) (o:=o) (ac:=ac) 4 k _ h4;have hs:=xo8 A hA;have t1:=(xz3 A 1).2.2;have t2:=(xz3 A 2).2.2;have t3:=(xz3 A 3).2.2;have t4:=(xz3 A 4).2.2;have t5:=(xz3 A 5).2.2;have hp:=prod5 (a:=(tstd A 5).length) (b:=(tstd A 4).length) (c:=(tstd A 3).length) (d:=(tstd A 2).length) (e:=(tstd A 1).length) (by omega);simp only [Nat.one_mul] at h5;exact Nat.le_trans h5 hp
noncomputable def polT(t:Code)(k:Nat->Int):List (Nat->Int):=if h:∃B,SetOf B (D t k) then Classical.choose h else []
theorem xse{s:ByteArray}{t:Code}(h:readS s=.ok t){k:Nat->Int}(hk:Rt k):SetOf (polT t k) (D t k):=by
 have hx:=xv5 (xtk h).1.2.2 hk;unfold polT;rw [dif_pos hx];exact Classical.choose_spec hx
theorem xsc{s:ByteArray}{t:Code}(h:readS s=.ok t){k:Nat->Int}(hk:Rt k){B:List (Nat->Int)}(hB:SetOf B (D t k)):B=polT t k:=hB.one (xse h hk)
theorem xsb{s:ByteArray}{t:Code}(h:readS s=.ok t){k:Nat->Int}(hk:Rt k):(polT t k).length<=1660:=xf0 h hk (xse h hk)
theorem xsd{s:ByteArray}{t:Code}(h:readS s=.ok t){k:Nat->Int}(hk:Rt k):∀x∈polT t k,Rt x/\x 0=k 0:=fun x hx=>by
 have hd:=((xse h hk).mem x).1 hx;exact ⟨(xf1 t (xtk h).1.2.2).1 k x hk hd,(xya t (xtm h)).1 k x hd⟩
theorem xy0{s:ByteArray}{t:Code}(h:readS s=.ok t){z:Int}(hz:0<=z/\z<=31){N:Nat}{rs:Nat->Rl}{AL:Nat->List (Nat->Int)}(hP:prL rs AL N=xuj (tstd (xcc t)) (oT t) (acT t) 5 (swK z)):N<=1660/\∀j,j<N->openS (rs j).mt/\(AL j).length<=1660/\∀a∈AL j,openS a:=by
 have hN:N<=1660:=by
  have:=xuk (o:=oT t) (ac:=acT t) (xco h) (xcl h) (swK z);rw [<-hP,xsl] at this;exact this
 refine ⟨hN,fun j hj=>?_⟩;obtain ⟨h1,h2,_⟩:=(xy2 h hP).1 j hj
 have hm:((rs j).mt,AL j)∈xuj (tstd (xcc t)) (oT t) (acT t) 5 (swK z):=by
  rw [<-hP];exact List.mem_map.2 ⟨j,List.mem_range.2 hj,rfl⟩
 obtain ⟨k',e1,hk'⟩:=xus (Q:=Rt) (fun k f v hk hf hv=>xta h k f v hk hf hv) 5 (swK z) (by omega) (xx9 hz) _ hm;have e1:AL j=acT t k':=e1;refine ⟨⟨h1,fun i hi=>?_⟩,by rw [e1];exact xa3 h hk',fun a ha=>?_⟩
 ·by_cases e:i=0
  ·subst e;rw [h1];unfold okP;omega
  ·rcases h2 i (by omega) hi with e|e
   ·rw [e];unfold okP;omega
   ·unfold okP;omega
 ·rw [e1] at ha;obtain ⟨z',hz',rfl⟩:=(xa4 h hk' a).1 ha;have hr:=(xf1 t (xtk h).1.2.2).1 k' z' hk' hz';have h0:=(xya t (xtm h)).1 k' z' hz';refine ⟨?_,fun i hi=>?_⟩
  ·unfold maskK;rw [if_pos ⟨by omega,h0⟩]
  ·have:=hr.2 i hi;unfold maskK okP;split<;>omega
open Go.RowKit Go.Weft
def encD:Dm Rl (Nat->Int)->ByteArray
 | .add r=>enA r
 | .bar=>enK 2
 | .out L=>strB (encB (outM L))
def encU:Um (Nat->Int)->ByteArray
 | .done=>enK 3
 | .miss k=>enM k
 | .full=>enK 6
structure Rep(A:NtA)(S:Gs Rl (Nat->Int)):Prop where
 rn:∀s,(A.rl s).length=(S.rl s).length
 rl:∀s j,j<(S.rl s).length->SameR (rlF (A.rl s) j) (rlF (S.rl s) j)
 wl:A.wl=S.wl
 dl:∀s,A.dl s=(S.dl s).map encD
 ul:∀s,A.ul s=(S.ul s).map encU
 nl:A.nl=S.nl
 del:A.del=S.del
theorem Rep.setWl{A:NtA}{S:Gs Rl (Nat->Int)}(h:Rep A S)(s:Nat)(l:List (Nat->Int)):Rep (A.setWl s l) (S.setWl s l):=⟨h.rn,h.rl,by unfold NtA.setWl Gs.setWl;simp only;rw [h.wl],h.dl,h.ul,h.nl,h.del⟩
theorem Rep.setNl{A:NtA}{S:Gs Rl (Nat->Int)}(h:Rep A S)(s:Nat)(l:List Rl):Rep (A.setNl s l) (S.setNl s l):=⟨h.rn,h.rl,h.wl,h.dl,h.ul,by unfold NtA.setNl Gs.setNl;simp only;rw [h.nl],h.del⟩
theorem Rep.setDl{A:NtA}{S:Gs Rl (Nat->Int)}(h:Rep A S)(s:Nat)(l:List (Dm Rl (Nat->Int))){m:List ByteArray}(hm:m=l.map encD):Rep (A.setDl s m) (S.setDl s l):=⟨h.rn,h.rl,h.wl,fun i=>by
 unfold NtA.setDl Gs.setDl updN;simp only;split
 ·exact hm
 ·exact h.dl i,h.ul,h.nl,h.del⟩
theorem Rep.setUl{A:NtA}{S:Gs Rl (Nat->Int)}(h:Rep A S)(s:Nat)(l:List (Um (Nat->Int))){m:List ByteArray}(hm:m=l.map encU):Rep (A.setUl s m) (S.setUl s l):=⟨h.rn,h.rl,h.wl,h.dl,fun i=>by
 unfold NtA.setUl Gs.setUl updN;simp only;split
 ·exact hm
 ·exact h.ul i,h.nl,h.del⟩
theorem xt5(l:List Rl)(r:Rl):rlF (l++[r]) l.length=r:=by unfold rlF;simp
theorem xt6(l m:List Rl){j:Nat}(h:j<l.length):rlF (l++m) j=rlF l j:=by unfold rlF;rw [List.getElem?_append_left h]
theorem Rep.setRl{A:NtA}{S:Gs Rl (Nat->Int)}(h:Rep A S)(s:Nat){r' r:Rl}(hr:SameR r' r):Rep (A.setRl s (A.rl s++[r'])) (S.setRl s (S.rl s++[r])):=⟨fun i=>by
 unfold NtA.setRl Gs.setRl updN;simp only;split
 ·simp [h.rn s]
 ·exact h.rn i,fun i j hj=>by
 unfold NtA.setRl Gs.setRl updN at *;simp only at *;split at hj
 ·rename_i e;rw [if_pos e,if_pos e];by_cases hl:j<(S.rl s).length
  ·rw [xt6 _ _ hl,xt6 _ _ (by rw [h.rn s];exact hl)];exact h.rl s j hl
  ·obtain rfl:j=(S.rl s).length:=by simp at hj;omega
   rw [xt5];rw [<-h.rn s,xt5];exact hr
 ·rename_i e;rw [if_neg e,if_neg e];exact h.rl i j hj,h.wl,h.dl,h.ul,h.nl,h.del⟩
noncomputable def netX(D:Nat)(ld:Nat->Nat->Int)(ln:Nat)(room:Nat)(t:Code)(T:Nat->List Rl):Nx Rl (Nat->Int) where
 D:=D
 pol:=polT t
 nxt:=fun x=>match fromS ld (x 0) (x 1) ln with
  | some j=>some ((ld j 2).toNat,atP (ld j 2) (ld j 3) x)
  | none=>none
 hst:=fun x=>decide (hostS ld ln (x 0) (x 1))
 ok:=fun s k=>Rt k/\k 0=(s:Int)
 T:=T
 room:=room
theorem x00{A:NtA}{S:Gs Rl (Nat->Int)}(h:Rep A S):∀D,A.waits D=S.waits D
 | 0=>rfl
 | D+1=>by
  have:=x00 h D;unfold Gs.waits at *;rw [NtA.waits,sumS,this,h.wl]
theorem Rep.out{A:NtA}{S:Gs Rl (Nat->Int)}(h:Rep A S){D:Nat}{ld:Nat->Nat->Int}{ln room:Nat}{t:Code}{T:Nat->List Rl}(x:Nat->Int):Rep (out1 D ld ln A x) ((netX D ld ln room t T).out1 S x):=by
 unfold out1 Nx.out1 netX;simp only;cases fromS ld (x 0) (x 1) ln with
 | none=>
  simp only;by_cases hh:hostS ld ln (x 0) (x 1)
  ·rw [if_pos hh,if_pos (by simpa using hh)];exact ⟨h.rn,h.rl,h.wl,h.dl,h.ul,h.nl,by simp only;rw [h.del]⟩
  ·rw [if_neg hh,if_neg (by simpa using hh)];exact h
 | some j=>
  simp only;rw [x00 h D];split
  ·exact h
  ·rw [h.wl];exact h.setWl _ _
theorem Rep.outs{D:Nat}{ld:Nat->Nat->Int}{ln room:Nat}{t:Code}{T:Nat->List Rl}:∀(L:List (Nat->Int)) {A:NtA} {S:Gs Rl (Nat->Int)},Rep A S->Rep (outL D ld ln A L) ((netX D ld ln room t T).outA S L)
 | [],A,S,h=>h
 | x::L,A,S,h=>Rep.outs L (h.out x)
structure Gk where
 s0:ByteArray
 t:Code
 D:Nat
 ld:Nat->Nat->Int
 ln:Nat
 room:Nat
 T:Nat->List Rl
 w0:World
 B:Nat
 nb:Nat
 fl:Value
 fq:Int
noncomputable def Gk.X(K:Gk):Nx Rl (Nat->Int):=netX K.D K.ld K.ln K.room K.t K.T
def TabOf(t:Code)(z:Int)(T:List Rl):Prop:=∃AL,prL (rlF T) AL T.length=xuj (tstd (xcc t)) (oT t) (acT t) 5 (swK z)/\(∀j,j<T.length->Is (AL j) (rlF T j).na (rlF T j).acts/\∀a∈AL j,Nm a)/\∀j,j<T.length->(rlF T j).prio=(T.length:Int)-1-(j:Int)
structure Gk.ok(K:Gk):Prop where
 rd:readS K.s0=.ok K.t
 D:1<=K.D/\K.D<=6
 room:K.room<=5000
 ln:∀j,j<K.ln->0<=K.ld j 2/\K.ld j 2<K.D/\0<=K.ld j 3/\K.ld j 3<8
 tb:∀s,s<K.D->TabOf K.t s (K.T s)
 w0:K.w0.heap.size<=K.B
 run:RunH K.w0 K.fl K.fq (polT K.t)
 flv:∃a n c,K.fl=.slice a n c
theorem xb6{x:Nat->Int}(hx:Rt x){a b:Int}(ha:0<=a/\a<6)(hb:0<=b/\b<8):Rt (atP a b x)/\atP a b x 0=a:=by
 refine ⟨⟨fun i hi=>?_,fun i hi=>?_⟩,?_⟩
 ·unfold atP;rw [if_neg (by omega),if_neg (by omega)];exact hx.1 i hi
 ·unfold atP;by_cases e:i=0
  ·rw [if_pos e];omega
  ·rw [if_neg e];by_cases e:i=1
   ·rw [if_pos e];omega
   ·rw [if_neg e];exact hx.2 i hi
 ·unfold atP;rw [if_pos rfl]
theorem Gk.ok.okay{K:Gk}(h:K.ok):K.X.okay:=by
 have key:∀x t' y,K.X.nxt x=some (t',y)->∃j,j<K.ln/\t'=(K.ld j 2).toNat/\y=atP (K.ld j 2) (K.ld j 3) x:=fun x t' y e=>by
  unfold Gk.X netX at e;simp only at e;split at e
  ·rename_i j hj;cases e;exact ⟨j,(xif hj).1,rfl,rfl⟩
  ·cases e
 refine ⟨fun x t' y e=>?_,fun s k x t' y hs hk hx e=>?_⟩
 ·obtain ⟨j,hj,rfl,_⟩:=key x t' y e;have:=h.ln j hj;show _<K.D;omega
 ·obtain ⟨j,hj,rfl,rfl⟩:=key x t' y e;have h1:=h.ln j hj;have h2:=(xsd h.rd hk.1 x hx).1;have hD:=h.D;obtain ⟨h3,h4⟩:=xb6 h2 (a:=K.ld j 2) (b:=K.ld j 3) (by omega) (by omega);refine ⟨h3,?_⟩;rw [h4];omega
theorem xnc{l:List Rl}{r:Rl}(h:r∈l):∃j,j<l.length/\rlF l j=r:=by
 obtain ⟨j,hj,e⟩:=List.mem_iff_getElem.1 h;refine ⟨j,hj,?_⟩;unfold rlF;rw [List.getElem?_eq_getElem hj,e];rfl
theorem TabOf.can{s0:ByteArray}{t:Code}(h:readS s0=.ok t){z:Int}(hz:0<=z/\z<=31){T:List Rl}(hT:TabOf t z T):T.length<=1660/\∀r∈T,canS (rulM r):=by
 obtain ⟨AL,h1,h2,h3⟩:=hT;obtain ⟨hN,hc⟩:=xy0 h hz h1;refine ⟨hN,fun r hr=>?_⟩;obtain ⟨j,hj,rfl⟩:=xnc hr;obtain ⟨c1,c2,c3⟩:=hc j hj;obtain ⟨i1,i2⟩:=(h2 j hj).1;have hp:=h3 j hj;have hna:(rlF T j).na<=1660:=by rw [i1] at c2;exact c2
 refine ⟨.inl ⟨rfl,⟨?_,?_,c1,fun q hq=>?_⟩,rfl⟩,?_⟩
 ·show 0<=(rlF T j).prio;omega
 ·show (rlF T j).prio<=65535;omega
 ·have hq2:q<(rlF T j).na:=hq;have:=i2 q hq2;refine c3 _ ?_;show (rlF T j).acts q∈AL j;rw [List.mem_iff_getElem?];exact ⟨q,this⟩
 ·unfold bodyB rulM;simp only;rw [if_pos trivial];simp [xrs,twoB,pkB];omega
theorem Gk.ok.can{K:Gk}(h:K.ok){s:Nat}(hs:s<K.D){r:Rl}(hr:r∈K.T s):canS (rulM r):=by
 have hD:=h.D;exact ((h.tb s hs).can h.rd (by omega)).2 r hr
theorem xm5{m m' x:Nat->Int}(h:∀i,i<6->m i=m' i):xm4 m x↔xm4 m' x:=by
 unfold xm4;constructor
 ·intro k i h1 h2;have:=k i h1 h2;rw [h i h2] at this;exact this
 ·intro k i h1 h2;have:=k i h1 h2;rw [<-h i h2] at this;exact this
theorem xbc{a b x:Nat->Int}(h:∀i,i<6->a i=b i):actS a x=actS b x:=by
 funext i;unfold actS;by_cases hi:i<6
 ·rw [h i hi]
 ·simp [hi]
theorem xmd{rs ts:Nat->Rl}{p N:Nat}(hp:p<=N)(hs:∀j,j<p->SameR (rs j) (ts j)){k:Nat->Int}{L:List (Nat->Int)}(h:LkS rs p k L true):LkS ts N k L true:=by
 rcases h with ⟨j,h1,h2,h3,h4,_⟩|⟨_,_,h3⟩
 ·refine .inl ⟨j,by omega,fun q hq hm=>h2 q hq ((xm5 (hs q (by omega)).mt).2 hm),(xm5 (hs j h1).mt).1 h3,?_,rfl⟩;rw [h4,(hs j h1).na];congr 1;refine List.map_congr_left fun q hq=>?_
  rw [List.mem_range] at hq;exact xbc ((hs j h1).acts q hq)
 ·cases h3
theorem xsp{T l:List Rl}(h:l <+: T){j:Nat}(hj:j<l.length):rlF T j=rlF l j:=by
 obtain ⟨m,rfl⟩:=h;exact xt6 l m hj
theorem LkS.bool{rs:Nat->Rl}{n:Nat}{k:Nat->Int}{L:List (Nat->Int)}{b:Bool}(h:LkS rs n k L b):b=false->L=[]:=fun e=>by
 rcases h with ⟨_,_,_,_,_,h⟩|⟨_,h,_⟩
 ·rw [h] at e;cases e
 ·exact h
theorem Gk.ok.look{K:Gk}(h:K.ok){s:Nat}(hs:s<K.D){k:Nat->Int}(hk:Rt k)(hk0:k 0=(s:Int)){rl l:List Rl}(hl:l <+: K.T s)(hn:rl.length=l.length)(hr:∀j,j<l.length->SameR (rlF rl j) (rlF l j)){L:List (Nat->Int)}(hL:LkS (rlF rl) rl.length k L true):L=polT K.t k:=by
 have hD:=h.D;obtain ⟨AL,h1,h2,h3⟩:=h.tb s hs;have hle:l.length<=(K.T s).length:=hl.length_le;have h4:LkS (rlF (K.T s)) (K.T s).length k L true:=xmd (p:=rl.length) (by omega) (fun j hj=>by rw [xsp hl (by omega)];exact hr j (by omega)) hL;exact xsc h.rd hk (xy1 h.rd (by omega) h1 (fun j hj=>(h2 j hj).1) hk hk0 h4).2
theorem xp8{s0:ByteArray}{t:Code}(h:readS s0=.ok t){k:Nat->Int}(hk:Rt k):canS (outM (polT t k)):=by
 have hl:=xsb h hk;refine ⟨.inr (.inr (.inl ⟨rfl,⟨rfl,fun _ _=>rfl,rfl⟩,fun j hj=>?_⟩)),?_⟩
 ·have hj2:j<(polT t k).length:=hj;show xtx (((polT t k)[j]?).getD (fun _=>0));rw [List.getElem?_eq_getElem hj2];have:=(xsd h hk _ (List.getElem_mem hj2)).1;exact (xty this.1).2 this
 ·unfold bodyB outM;simp only;rw [if_neg (by omega),if_pos trivial];simp [xrs,twoB];omega
theorem Ph.nl_all{T:List Rl}{room:Nat}{rl nl:List Rl}{dc:List (Dm Rl (Nat->Int))}{uc:List (Um (Nat->Int))}(h:Ph T room rl nl dc (.done::uc)):∀r∈nl,r∈T:=by
 generalize hx:Um.done::uc=ud at h;cases h with
 | done h1 h2=>intro r hr;rw [h1];simp [hr]
 | cdone h1 h2 h3=>intro r hr;cases hr
 | _=>cases hx
theorem xmw{α β:Type}(f:α->β):∀(l:List α) (i:Nat),(l.map f).eraseIdx i=(l.eraseIdx i).map f
 | [],i=>by simp
 | x::l,0=>by simp
 | x::l,i+1=>by simp [xmw f l i]
structure NOK(K:Gk)(n:Nat)(role:Nat->Role)(N:NetM)(S:Gs Rl (Nat->Int))(sent:List (Nat->Int))(w:World):Prop where
 at':NetAt w K.B K.nb role N
 le:K.B<=w.heap.size
 old:K.w0.grownBy w none
 D:N.D=K.D
 ld:N.ld=K.ld
 ln:N.ln=K.ln
 room:N.room=(K.room:Int)
 fl:N.fl=K.fl
 fq:N.fq=K.fq
 rep:Rep N.a S
 inv:Inv K.X S sent
 dlb:∀s,(S.dl s).length<=2*n+2
 ulb:∀s,(S.ul s).length<=n
 deb:S.del.length<=1660*n
theorem NOK.more{K:Gk}{n m:Nat}{role:Nat->Role}{N:NetM}{S:Gs Rl (Nat->Int)}{sent:List (Nat->Int)}{w:World}(h:NOK K n role N S sent w)(hm:n<=m):NOK K m role N S sent w:=
 { h with dlb:=fun s=>Nat.le_trans (h.dlb s) (by omega),ulb:=fun s=>Nat.le_trans (h.ulb s) hm,deb:=Nat.le_trans h.deb (Nat.mul_le_mul_left _ hm) }
theorem NOK.grown{K:Gk}{n:Nat}{role:Nat->Role}{N:NetM}{S:Gs Rl (Nat->Int)}{sent:List (Nat->Int)}{w w':World}(h:NOK K n role N S sent w){row:Option Nat}(hg:w.grownBy w' row)(hr:∀b,row=some b->role b=.free)(h0:K.w0.grownBy w' none):NOK K n role N S sent w':=
 { h with at':=h.at'.grown hg hr,le:=Nat.le_trans h.le hg.size,old:=h0 }
theorem NOK.quiet{K:Gk}{n:Nat}{role:Nat->Role}{N:NetM}{S:Gs Rl (Nat->Int)}{sent:List (Nat->Int)}{w w':World}(h:NOK K n role N S sent w)(hg:w.grownBy w' none):NOK K n role N S sent w':=
 h.grown hg (fun b e=>by cases e) (xje h.old hg)
theorem NOK.next{K:Gk}(hK:K.ok){n m:Nat}{role:Nat->Role}{N:NetM}{S S':Gs Rl (Nat->Int)}{sent sent':List (Nat->Int)}{w w':World}(h:NOK K n role N S sent w){A:NtA}(ho:NOut K.B K.nb role N A w w')(hr:Rep A S')(hi:Inv K.X S' sent')(h1:∀s,(S'.dl s).length<=2*m+2)(h2:∀s,(S'.ul s).length<=m)(h3:S'.del.length<=1660*m):
  ∃role' N',NStep w w' role role'/\NOK K m role' N' S' sent' w':=by
 obtain ⟨role',N',k1,k2,k3,k4⟩:=ho;exact ⟨role',N',k2,⟨k1,Nat.le_trans h.le k2.kp.size,k2.old h.at' hK.w0 h.old,k4.D.trans h.D,k4.ld.trans h.ld,k4.ln.trans h.ln,k4.room.trans h.room,k4.fl.trans h.fl,k4.fq.trans h.fq,by rw [k3];exact hr,hi,h1,h2,h3⟩⟩
def StepO(K:Gk)(n:Nat)(role:Nat->Role)(S:Gs Rl (Nat->Int))(sent:List (Nat->Int))(Q:Prop)(w:World)(e:Ending)(w':World):Prop:=
 ∃role' N' S',NStep w w' role role'/\NOK K (n+1) role' N' S' sent w'/\((e=.returned (.int .i64 0)/\Stp K.X S sent S')\/(e=.returned (.int .i64 15)/\S'=S/\Q))
theorem x0m{α:Type}{f:Nat->List α}{s:Nat}{l:List α}{m:Nat}(h:∀i,(f i).length<=m)(hl:l.length<=m):∀i,(updN f s l i).length<=m:=fun i=>by
 unfold updN;split
 ·exact hl
 ·exact h i
theorem xp1{ρ α:Type}(X:Nx ρ α):∀(L:List α) (S:Gs ρ α),(X.outA S L).del.length<=S.del.length+L.length
 | [],S=>Nat.le_refl _
 | x::L,S=>by
  have h:=xp1 X L (X.out1 S x)
  have h1:(X.out1 S x).del.length<=S.del.length+1:=by
   unfold Nx.out1;split
   ·split<;>exact Nat.le_succ _
   ·split
    ·simp
    ·exact Nat.le_succ _
  show (X.outA (X.out1 S x) L).del.length<=_;rw [List.length_cons];omega
theorem NOK.lnk{K:Gk}(hK:K.ok){n:Nat}{role:Nat->Role}{N:NetM}{S:Gs Rl (Nat->Int)}{sent:List (Nat->Int)}{w:World}(h:NOK K n role N S sent w):∀j,j<N.ln->0<=N.ld j 2/\N.ld j 2<N.D:=fun j hj=>by
 rw [h.ln] at hj;rw [h.ld,h.D];have:=hK.ln j hj;omega
theorem NOK.waits{K:Gk}{n:Nat}{role:Nat->Role}{N:NetM}{S:Gs Rl (Nat->Int)}{sent:List (Nat->Int)}{w:World}(h:NOK K n role N S sent w):N.a.waits N.D<=300:=by
 rw [x00 h.rep,h.D];exact h.inv.wt
theorem gDo{K:Gk}(hK:K.ok){n:Nat}{role:Nat->Role}{N:NetM}{S:Gs Rl (Nat->Int)}{sent:List (Nat->Int)}{w:World}(h:NOK K n role N S sent w)(hn:n<=10000000){s:Nat}(hs:s<K.D):
  Calls Tryz.prog 119 #[.pointer (some ⟨K.nb,0,none⟩),.int .i64 s] w (StepO K n role S sent (S.wl s=[]) w):=by
 have hsN:s<N.D:=by rw [h.D];exact hs
 have hwl:(N.dv s).wl=S.wl s:=by rw [<-h.rep.wl];rfl
 cases hw:S.wl s with
 | nil=>
  refine (xf7 w h.at' hsN (by rw [hwl,hw])).mono ?_;rintro e w' ⟨rfl,ho⟩;obtain ⟨role',N',h1,h2⟩:=h.next hK (m:=n+1) ho h.rep h.inv (h.more (Nat.le_succ n)).dlb (h.more (Nat.le_succ n)).ulb (h.more (Nat.le_succ n)).deb;exact ⟨role',N',S,h1,h2,.inr ⟨rfl,rfl,rfl⟩⟩
 | cons k rest=>
  have hi:=h.inv;obtain ⟨⟨hk,hk0⟩,hr⟩:=hi.wl s hs k (by rw [hw];simp);obtain ⟨hpre,hroom⟩:=(hi.ph s hs).pre;have hrn:(N.dv s).rl.length=(S.rl s).length:=h.rep.rn s;have hR:K.X.room=K.room:=rfl;have hK5:=hK.room
  have hul:(N.dv s).ul.length=(S.ul s).length:=by
   have:=congrArg List.length (h.rep.ul s);rw [List.length_map] at this;exact this
  have hub:=h.ulb s;have hdel:N.del=S.del:=h.rep.del
  have hlook:∀L b,LkS (rlF (N.dv s).rl) (N.dv s).rl.length k L b->(b=true->L=polT K.t k)/\L.length<=1660:=fun L b hL=>by
   cases b with
   | true=>
    have:=hK.look hs hk hk0 hpre hrn (h.rep.rl s) hL;exact ⟨fun _=>this,by rw [this];exact xsb hK.rd hk⟩
   | false=>exact ⟨fun e=>(by cases e),by rw [hL.bool rfl];exact Nat.zero_le _⟩
  refine (xf9 w h.at' h.le hsN (by rw [hwl,hw]) hk.1 ((xty hk.1).2 hk) (by omega) (by omega) (h.lnk hK) h.waits (fun L b hL=>by
   have:=(hlook L b hL).2;have:=h.deb;rw [hdel];omega)).mono ?_
  rintro e w' ⟨L,b,hL,rfl,ho⟩;cases b with
  | true=>
   have hLp:=(hlook L true hL).1 rfl;have hst:Stp K.X S sent (K.X.outA (S.setWl s rest) (K.X.pol k)):=xxn hK.okay hi hs hw
   have hrep:Rep (outL N.D N.ld N.ln (N.a.setWl s rest) L) (K.X.outA (S.setWl s rest) (K.X.pol k)):=by
    rw [h.D,h.ld,h.ln,hLp];exact Rep.outs _ (h.rep.setWl s rest)
   obtain ⟨e1,e2,e3,e4⟩:=xp2 K.X (K.X.pol k) (S.setWl s rest)
   obtain ⟨role',N',h1,h2⟩:=h.next hK (m:=n+1) ho hrep hst.1 (fun i=>by rw [e2];exact (h.more (Nat.le_succ n)).dlb i) (fun i=>by rw [e3];exact (h.more (Nat.le_succ n)).ulb i) (by
    have a1:=xp1 K.X (K.X.pol k) (S.setWl s rest);have a2:=xsb hK.rd hk;have a3:=h.deb;have a4:(S.setWl s rest).del=S.del:=rfl;have a5:K.X.pol k=polT K.t k:=rfl;rw [a4,a5] at a1;rw [a5];omega)
   exact ⟨role',N',_,h1,h2,.inl ⟨rfl,hst⟩⟩
  | false=>
   have hst:Stp K.X S sent ((S.setWl s rest).setUl s (S.ul s++[.miss k])):=xxp hi hs hw
   obtain ⟨role',N',h1,h2⟩:=h.next hK (m:=n+1) ho ((h.rep.setWl s rest).setUl s (S.ul s++[.miss k]) (by
    have:(N.dv s).ul=(S.ul s).map encU:=h.rep.ul s;rw [this,List.map_append];rfl)) hst.1 (h.more (Nat.le_succ n)).dlb (x0m (h.more (Nat.le_succ n)).ulb (by simp;exact hub)) (h.more (Nat.le_succ n)).deb
   exact ⟨role',N',_,h1,h2,.inl ⟨rfl,hst⟩⟩
theorem xii{K:Gk}(hK:K.ok){n:Nat}{role:Nat->Role}{N:NetM}{S:Gs Rl (Nat->Int)}{sent:List (Nat->Int)}{w:World}(h:NOK K n role N S sent w)(hn:n<=10000000){s:Nat}(hs:s<K.D):
  Calls Tryz.prog 121 #[.pointer (some ⟨K.nb,0,none⟩),.int .i64 s] w (StepO K n role S sent (S.ul s=[]) w):=by
 have hsN:s<N.D:=by rw [h.D];exact hs
 have hul:(N.dv s).ul=(S.ul s).map encU:=h.rep.ul s;have hdl:(N.dv s).dl=(S.dl s).map encD:=h.rep.dl s;have hnl:(N.dv s).nl=S.nl s:=by rw [<-h.rep.nl];rfl
 have hdn:(N.dv s).dl.length<=100000000000:=by rw [hdl,List.length_map];have:=h.dlb s;omega
 have hi:=h.inv;have hdb:=h.dlb s;cases hu:S.ul s with
 | nil=>
  refine (xff w h.at' hsN (by rw [hul,hu];rfl)).mono ?_;rintro e w' ⟨rfl,ho⟩;obtain ⟨role',N',h1,h2⟩:=h.next hK (m:=n+1) ho h.rep h.inv (h.more (Nat.le_succ n)).dlb (h.more (Nat.le_succ n)).ulb (h.more (Nat.le_succ n)).deb;exact ⟨role',N',S,h1,h2,.inr ⟨rfl,rfl,rfl⟩⟩
 | cons m rest=>
  have hrl:rest.length<=n+1:=by have:=h.ulb s;rw [hu] at this;simp at this;omega
  cases m with
  | miss k=>
   obtain ⟨⟨hk,hk0⟩,hr⟩:=hi.ms s hs k (by rw [hu];simp);have hst:Stp K.X S sent ((S.setUl s rest).setDl s (S.dl s++[.out (K.X.pol k)])):=xxj hi hs hu;refine (xfe K.w0 w h.at' h.le h.old hK.w0 (by rw [h.fl,h.fq];exact hK.run) (by rw [h.fl];exact hK.flv) hsN (by rw [hul,hu];rfl) hk.1 ((xty hk.1).2 hk) hdn (xp8 hK.rd hk)).mono ?_;rintro e w' ⟨rfl,ho⟩;obtain ⟨role',N',h1,h2⟩:=h.next hK (m:=n+1) ho ((h.rep.setUl s rest rfl).setDl s (S.dl s++[.out (K.X.pol k)]) (by rw [hdl,List.map_append];rfl)) hst.1 (x0m (h.more (Nat.le_succ n)).dlb (by simp;omega)) (x0m (h.more (Nat.le_succ n)).ulb hrl) (h.more (Nat.le_succ n)).deb;exact ⟨role',N',_,h1,h2,.inl ⟨rfl,hst⟩⟩
  | done=>
   refine (xfc w h.at' h.le hsN (rest:=rest.map encU) (by rw [hul,hu];rfl) hdn (fun r hr=>?_)).mono ?_
   ·rw [hnl] at hr;have:=hi.ph s hs;rw [hu,List.filter_cons_of_pos (by rfl)] at this;exact hK.can hs (Ph.nl_all this r hr)
   rintro e w' ⟨rfl,ho⟩;rw [hnl] at ho;cases hnn:S.nl s with
   | nil=>
    rw [hnn] at ho;have hst:Stp K.X S sent (S.setUl s rest):=xxk hi hs hu hnn;obtain ⟨role',N',h1,h2⟩:=h.next hK (m:=n+1) ho (h.rep.setUl s rest rfl) hst.1 (h.more (Nat.le_succ n)).dlb (x0m (h.more (Nat.le_succ n)).ulb hrl) (h.more (Nat.le_succ n)).deb;exact ⟨role',N',_,h1,h2,.inl ⟨rfl,hst⟩⟩
   | cons r nl=>
    rw [hnn] at ho;have hst:Stp K.X S sent (((S.setUl s rest).setNl s nl).setDl s (S.dl s++[.add r,.bar])):=xxl hi hs hu hnn;obtain ⟨role',N',h1,h2⟩:=h.next hK (m:=n+1) (S':=((S.setUl s rest).setNl s nl).setDl s (S.dl s++[.add r,.bar])) ho (((h.rep.setUl s rest rfl).setDl s (S.dl s++[.add r,.bar]) (by rw [hdl,List.map_append];rfl)).setNl s nl) hst.1 (x0m (h.more (Nat.le_succ n)).dlb (by simp;omega)) (x0m (h.more (Nat.le_succ n)).ulb hrl) (h.more (Nat.le_succ n)).deb;exact ⟨role',N',_,h1,h2,.inl ⟨rfl,hst⟩⟩
  | full=>
   have hst:Stp K.X S sent ((S.setUl s rest).setNl s []):=xxi hi hs hu;refine (xfd w h.at' h.le hsN (rest:=rest.map encU) (by rw [hul,hu];rfl)).mono ?_;rintro e w' ⟨rfl,ho⟩;obtain ⟨role',N',h1,h2⟩:=h.next hK (m:=n+1) ho ((h.rep.setUl s rest rfl).setNl s []) hst.1 (h.more (Nat.le_succ n)).dlb (x0m (h.more (Nat.le_succ n)).ulb hrl) (h.more (Nat.le_succ n)).deb;exact ⟨role',N',_,h1,h2,.inl ⟨rfl,hst⟩⟩
theorem xgz{α:Type}{l:List α}{i:Nat}{x:α}(h:l[i]?=some x):∃a b,l=a++x::b/\l.eraseIdx i=a++b/\a.length=i:=by
 induction l generalizing i with
 | nil=>simp at h
 | cons y l ih=>
  cases i with
  | zero=>simp at h;subst h;exact ⟨[],l,rfl,rfl,rfl⟩
  | succ i=>
   obtain ⟨a,b,e1,e2,e3⟩:=ih (by simpa using h);exact ⟨y::a,b,by rw [e1];rfl,by rw [List.eraseIdx_cons_succ,e2];rfl,by simp [e3]⟩
theorem gTake(hM:MayC){K:Gk}(hK:K.ok){n:Nat}{role:Nat->Role}{N:NetM}{S:Gs Rl (Nat->Int)}{sent:List (Nat->Int)}{w:World}(h:NOK K n role N S sent w)(hn:n<=10000000){s:Nat}(hs:s<K.D)(i:Nat):
  Calls Tryz.prog 114 #[.pointer (some ⟨K.nb,0,none⟩),.int .i64 s,.int .i64 i] w (StepO K n role S sent (i=0->S.dl s=[]) w):=by
 have hsN:s<N.D:=by rw [h.D];exact hs
 have hul:(N.dv s).ul=(S.ul s).map encU:=h.rep.ul s;have hdl:(N.dv s).dl=(S.dl s).map encD:=h.rep.dl s;have hdn:(N.dv s).dl.length<=100000000000:=by rw [hdl,List.length_map];have:=h.dlb s;omega
 have hun:(N.dv s).ul.length<=100000000000:=by rw [hul,List.length_map];have:=h.ulb s;omega
 have hi:=h.inv;have hub:=h.ulb s;by_cases hy:mayT (N.dv s).dl i
 ·have hil:i<(S.dl s).length:=by have:=hy.2.1;rw [hdl,List.length_map] at this;omega
  obtain ⟨x,hx⟩:∃x,(S.dl s)[i]?=some x:=⟨_,List.getElem?_eq_getElem hil⟩;obtain ⟨a,b,e1,e2,e3⟩:=xgz hx;have hxi:(N.dv s).dl[i]?=some (encD x):=by rw [hdl,List.getElem?_map,hx];rfl
  have her:(N.dv s).dl.eraseIdx i=(a++b).map encD:=by rw [hdl,<-e2];exact xmw _ _ _
  have hab:(a++b).length<=2*(n+1)+2:=by
   have:=h.dlb s;rw [e1] at this;simp at this ⊢;omega
  cases x with
  | add r=>
   have hph:=hi.ph s hs;rw [e1,List.filter_append,List.filter_cons_of_pos (by rfl)] at hph;have hcan:canS (rulM r):=hK.can hs hph.add_mem;have hrn:(N.dv s).rl.length=(S.rl s).length:=h.rep.rn s;by_cases hf:K.room<=(S.rl s).length
   ·have hst:Stp K.X S sent ((S.setDl s (a++b)).setUl s (S.ul s++[.full])):=xxm hi hs e1 hf;refine (xy9 hM w h.at' h.le hsN i hdn hun hy r hcan hxi (by rw [h.room,hrn];exact Int.ofNat_le.2 hf)).mono ?_;rintro e w' ⟨rfl,ho⟩;obtain ⟨role',N',h1,h2⟩:=h.next hK (m:=n+1) ho ((h.rep.setDl s (a++b) her).setUl s (S.ul s++[.full]) (by rw [hul,List.map_append];rfl)) hst.1 (x0m (h.more (Nat.le_succ n)).dlb hab) (x0m (h.more (Nat.le_succ n)).ulb (by simp;exact hub)) (h.more (Nat.le_succ n)).deb;exact ⟨role',N',_,h1,h2,.inl ⟨rfl,hst⟩⟩
   ·have hst:Stp K.X S sent ((S.setDl s (a++b)).setRl s (S.rl s++[r])):=xxr hi hs e1 (by show _<K.room;omega);refine (xze hM w h.at' h.le hsN i hdn hy r hcan hxi (by rw [h.room,hrn];omega) (by rw [h.room];have:=hK.room;omega)).mono ?_;rintro e w' ⟨r',hr',rfl,ho⟩;obtain ⟨role',N',h1,h2⟩:=h.next hK (m:=n+1) ho ((h.rep.setDl s (a++b) her).setRl s hr') hst.1 (x0m (h.more (Nat.le_succ n)).dlb hab) (h.more (Nat.le_succ n)).ulb (h.more (Nat.le_succ n)).deb;exact ⟨role',N',_,h1,h2,.inl ⟨rfl,hst⟩⟩
  | bar=>
   have hi0:i=0:=by
    rcases hy.2.2 with e|e
    ·omega
    ·exfalso;refine e ?_
     have h4:enK 2∈((N.dv s).dl.take (i+1)):=by
      rw [List.mem_take_iff_getElem];have hlt:i<(N.dv s).dl.length:=by rw [hdl,List.length_map];exact hil
      refine ⟨i,by omega,?_⟩;rw [List.getElem?_eq_getElem hlt] at hxi;exact Option.some.inj hxi
     simpa using h4
   have ha:a=[]:=by cases a with|nil=>rfl|cons _ _=>simp at e3;omega
   subst ha;have hst:Stp K.X S sent ((S.setDl s b).setUl s (S.ul s++[.done])):=xxh hi hs e1;refine (xy8 hM w h.at' h.le hsN i hdn hun hy hxi).mono ?_;rintro e w' ⟨rfl,ho⟩;obtain ⟨role',N',h1,h2⟩:=h.next hK (m:=n+1) ho ((h.rep.setDl s b her).setUl s (S.ul s++[.done]) (by rw [hul,List.map_append];rfl)) hst.1 (x0m (h.more (Nat.le_succ n)).dlb hab) (x0m (h.more (Nat.le_succ n)).ulb (by simp;exact hub)) (h.more (Nat.le_succ n)).deb;exact ⟨role',N',_,h1,h2,.inl ⟨rfl,hst⟩⟩
  | out L=>
   obtain ⟨k,⟨hk,hk0⟩,hr,rfl⟩:=hi.ot s hs L (by rw [e1];simp);have hst:Stp K.X S sent (K.X.outA (S.setDl s (a++b)) (K.X.pol k)):=xxq hK.okay hi hs e1;have a5:K.X.pol k=polT K.t k:=rfl;have a2:=xsb hK.rd hk;have a3:=h.deb;have hdel:N.del=S.del:=h.rep.del;refine (xzd hM w h.at' h.le hsN i hdn hy (K.X.pol k) (fun x hx=>(xsd hK.rd hk x hx).1.1) (xp8 hK.rd hk) hxi (h.lnk hK) h.waits (by rw [hdel,a5];omega)).mono ?_;rintro e w' ⟨rfl,ho⟩
   have hrep:Rep (outL N.D N.ld N.ln (N.a.setDl s ((N.dv s).dl.eraseIdx i)) (K.X.pol k)) (K.X.outA (S.setDl s (a++b)) (K.X.pol k)):=by
    rw [h.D,h.ld,h.ln];exact Rep.outs _ (h.rep.setDl s (a++b) her)
   obtain ⟨f1,f2,f3,f4⟩:=xp2 K.X (K.X.pol k) (S.setDl s (a++b))
   obtain ⟨role',N',h1,h2⟩:=h.next hK (m:=n+1) ho hrep hst.1 (fun i=>by rw [f2];exact x0m (h.more (Nat.le_succ n)).dlb hab i) (fun i=>by rw [f3];exact (h.more (Nat.le_succ n)).ulb i) (by
    have a1:=xp1 K.X (K.X.pol k) (S.setDl s (a++b));have a4:(S.setDl s (a++b)).del=S.del:=rfl;rw [a4,a5] at a1;rw [a5];omega)
   exact ⟨role',N',_,h1,h2,.inl ⟨rfl,hst⟩⟩
 ·refine (xzb hM w h.at' hsN i hdn hy).mono ?_;rintro e w' ⟨rfl,ho⟩;obtain ⟨role',N',h1,h2⟩:=h.next hK (m:=n+1) ho h.rep h.inv (h.more (Nat.le_succ n)).dlb (h.more (Nat.le_succ n)).ulb (h.more (Nat.le_succ n)).deb;refine ⟨role',N',S,h1,h2,.inr ⟨rfl,rfl,fun e=>?_⟩⟩;subst e;refine List.eq_nil_of_length_eq_zero (Nat.eq_zero_of_not_pos fun hp=>hy ⟨by omega,by rw [hdl,List.length_map];omega,.inl rfl⟩)
theorem gSend{K:Gk}(hK:K.ok){n:Nat}{role:Nat->Role}{N:NetM}{S:Gs Rl (Nat->Int)}{sent:List (Nat->Int)}{w:World}(h:NOK K n role N S sent w){s:Nat}(hs:s<K.D)(pt:Int)(k:Nat->Int)(hk:Nm k):
  Calls Tryz.prog 111 #[.pointer (some ⟨K.nb,0,none⟩),.int .i64 s,.int .i64 pt,pkV k] w fun e w'=>∃en role' N' S' sent',e=.returned (.int .i64 en)/\NStep w w' role role'/\NOK K (n+1) role' N' S' sent' w'/\((en=0/\hostS K.ld K.ln s pt/\sent'=sent++[atP s pt k])\/(sent'=sent/\((en=16/\¬hostS K.ld K.ln s pt)\/(en=8/\¬xtx k)\/en=7))):=by
 have hsN:s<N.D:=by rw [h.D];exact hs
 have hi:=h.inv;have hm:=h.more (Nat.le_succ n);refine (xpb w h.at' h.le hsN pt k h.waits).mono ?_;rintro e w' ⟨rfl,ho⟩;rw [h.D,h.ld,h.ln] at ho;rw [h.D,h.ld,h.ln];unfold sendS at ho ⊢;by_cases h1:hostS K.ld K.ln s pt
 ·rw [if_neg (by simpa using h1)] at ho ⊢;by_cases h2:xtx k
  ·rw [if_neg (by simpa using h2)] at ho ⊢;by_cases h3:300<=N.a.waits K.D
   ·rw [if_pos h3] at ho ⊢;obtain ⟨role',N',k1,k2⟩:=h.next hK (m:=n+1) ho h.rep h.inv hm.dlb hm.ulb hm.deb;exact ⟨7,role',N',S,sent,rfl,k1,k2,.inr ⟨rfl,.inr (.inr rfl)⟩⟩
   ·rw [if_neg h3] at ho ⊢;have hD:=hK.D;have hp:=h1.1;obtain ⟨hr1,hr2⟩:=xb6 ((xty hk).1 h2) (a:=(s:Int)) (b:=pt) (by omega) hp
    have hiv:Inv K.X (S.setWl s (S.wl s++[atP s pt k])) (sent++[atP s pt k]):=xjy hi hs ⟨hr1,hr2⟩ (by
     have:=x00 h.rep K.D;show S.waits K.D<300;omega)
    obtain ⟨role',N',k1,k2⟩:=h.next hK (m:=n+1) (S':=S.setWl s (S.wl s++[atP s pt k])) ho (by
     have hw:N.a.wl=S.wl:=h.rep.wl;rw [hw];exact h.rep.setWl s _) hiv hm.dlb hm.ulb hm.deb
    exact ⟨0,role',N',_,_,rfl,k1,k2,.inl ⟨rfl,h1,rfl⟩⟩
  ·rw [if_pos h2] at ho ⊢;obtain ⟨role',N',k1,k2⟩:=h.next hK (m:=n+1) ho h.rep h.inv hm.dlb hm.ulb hm.deb;exact ⟨8,role',N',S,sent,rfl,k1,k2,.inr ⟨rfl,.inr (.inl ⟨rfl,h2⟩)⟩⟩
 ·rw [if_pos h1] at ho ⊢;obtain ⟨role',N',k1,k2⟩:=h.next hK (m:=n+1) ho h.rep h.inv hm.dlb hm.ulb hm.deb;exact ⟨16,role',N',S,sent,rfl,k1,k2,.inr ⟨rfl,.inl ⟨rfl,h1⟩⟩⟩
end Go.Proofs.YtlhkfafdioakeaaGreatDoor
