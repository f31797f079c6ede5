/- Parts of the proof. -/
import Derived.Test.YtlhkfafdioakeaaGreatDoorSf03
import Derived.Test.YtlhkfafdioakeaaGreatDoorSf14
import Derived.Maps.OwnSet
import Derived.DeepKeys4
namespace Go.Proofs.YtlhkfafdioakeaaGreatDoor
set_option maxRecDepth 100000
set_option maxHeartbeats 2000000
open Go.RowKit Go.Weft
set_option linter.unusedVariables false
set_option linter.unusedSimpArgs false
theorem xga(T:TypeId)(hT:T=177\/T=234)(a:Array Value)(t:Code)(k:Nat->Int)(w:World)(h:PasAt k w t (.iface T (.agg a))):Calls Tryz.prog 150 #[.iface T (.agg a),pkV k] w fun x w'=>x=.returned (.tuple #[pkV k,.bool (pas k t).1])/\w.grownBy w' none:=by
 have HP:=hide h;unfold PasAt at HP;have hq:pkV k=.agg #[.int .i64 (k 0),.int .i64 (k 1),.int .i64 (k 2),.int .i64 (k 3),.int .i64 (k 4),.int .i64 (k 5)]:=rfl;rw [hq] at HP ⊢;generalize (pas k t).1=b at *;clear h hq;rcases hT with rfl|rfl
 all_goals
  go_enter Tryz.func150,Tryz.ntmps150;go_upto_region 6 with fail
  obtain ⟨W,hW⟩:∃W,W=((w.alloc (.cells #[.int .i64 (k 0),.int .i64 (k 1),.int .i64 (k 2),.int .i64 (k 3),.int .i64 (k 4),.int .i64 (k 5)] 46)).alloc (.cells #[.int .i64 0,.int .i64 0,.int .i64 0,.int .i64 0,.int .i64 0,.int .i64 0] 46)).alloc (.cells #[.int .i64 0,.int .i64 0] 178):=⟨_,rfl⟩;have GW:Hid (w.grownBy W none):=by rw [hW];exact xje (xje (World.grownBy_alloc _ _ _) (World.grownBy_alloc _ _ _)) (World.grownBy_alloc _ _ _)
  have RW:Hid (mkBlk W (w.heap.size+1) 6 46 (fun _=>.int .i64 0)):=by
   rw [hW];have h1:=heap_alloc_new (w.alloc (.cells #[.int .i64 (k 0),.int .i64 (k 1),.int .i64 (k 2),.int .i64 (k 3),.int .i64 (k 4),.int .i64 (k 5)] 46)) (.cells #[.int .i64 0,.int .i64 0,.int .i64 0,.int .i64 0,.int .i64 0,.int .i64 0] 46);rw [World.size_alloc] at h1;exact (Below.heap_alloc _ _ _ (by simp)).trans h1
  have KW:Hid (pkBlk W w.heap.size k):=by
   rw [hW];exact ((Below.heap_alloc _ _ _ (by simp;omega)).trans (Below.heap_alloc _ _ _ (by simp))).trans (heap_alloc_new _ _)
  obtain ⟨p0,p1,p2,p3,p4,p5⟩:=xtq KW.out;rw [<-hW];clear hW
  go_region_with (go_at_call 205;refine (HP.out _ (by first|exact xi7 GW.out|exact GW.out)).mono ?_;rintro x w1 ⟨rfl,g1⟩;obtain ⟨q0,q1,q2,q3,q4,q5⟩:=xtq (KW.out.grown (show W.grownBy w1 none by first|exact xjf g1|exact g1) (by simp));have R1:=hide (RW.out.kept (show W.grownBy w1 none by first|exact xjf g1|exact g1) (by simp));have r0:w1.cell? ⟨w.heap.size+1,0,none⟩=some (.int .i64 0):=R1.out.cell 0 (by decide);have r1:w1.cell? ⟨w.heap.size+1,1,none⟩=some (.int .i64 0):=R1.out.cell 1 (by decide);have r2:w1.cell? ⟨w.heap.size+1,2,none⟩=some (.int .i64 0):=R1.out.cell 2 (by decide);have r3:w1.cell? ⟨w.heap.size+1,3,none⟩=some (.int .i64 0):=R1.out.cell 3 (by decide);have r4:w1.cell? ⟨w.heap.size+1,4,none⟩=some (.int .i64 0):=R1.out.cell 4 (by decide);have r5:w1.cell? ⟨w.heap.size+1,5,none⟩=some (.int .i64 0):=R1.out.cell 5 (by decide);have z0:=R1.out.frozen 0;have z1:=R1.out.frozen 1;have z2:=R1.out.frozen 2;have z3:=R1.out.frozen 3;have z4:=R1.out.frozen 4;have z5:=R1.out.frozen 5;have G1:=hide (xje GW.out (show W.grownBy w1 none by first|exact xjf g1|exact g1));clear g1)
  all_goals
   go_wp2;obtain ⟨V,hV⟩:∃V,V=put6 w1 (w.heap.size+1) (fun i=>.int .i64 (k i)):=⟨_,rfl⟩;have BV:mkBlk V (w.heap.size+1) 6 46 (fun i=>.int .i64 (k i)):=by rw [hV];exact xsx R1.out _
   have GV:w.grownBy V none:=by rw [hV];exact xi9 G1.out (xsy _ _ _) (by omega)
   unfold put6 at hV;rw [<-hV];obtain ⟨y0,y1,y2,y3,y4,y5⟩:=xtq (mk_pk BV);refine bodyPost_ret (v:=.tuple #[.agg #[.int .i64 (k 0),.int .i64 (k 1),.int .i64 (k 2),.int .i64 (k 3),.int .i64 (k 4),.int .i64 (k 5)],.bool b]) (by simp [results,Tryz.results150,go_sem,y0,y1,y2,y3,y4,y5]) rfl ?_;exact ⟨rfl,GV⟩
def plK(d:Option Code):Prop:=d=none\/(∃n,1<n/\n<386/\d=some (.exit n))\/∃t,d=some (.scope t)
def DoO(d:Option Code)(k:Nat->Int)(w:World)(x:Ending)(w':World):Prop:=
 ∃y b,x=.returned (.tuple #[pkV y,.bool b])/\(match plcD d k with|some z=>b=true/\y=z|none=>b=false)/\w.grownBy w' none
theorem xf5(n0:Nat)(d:Option Code)(dv:Value)(k:Nat->Int)(w:World)(hk:plK d)(h:(d=none/\dv=.nilIface)\/∃t,d=some t/\(TV (fun b=>b<n0) w t).1 dv):Calls Tryz.prog 150 #[dv,pkV k] w (DoO d k w):=by
 rcases hk with rfl|⟨n,h1,h2,rfl⟩|⟨t,rfl⟩
 ·rcases h with ⟨_,rfl⟩|⟨t,e,_⟩
  ·refine (xf6 k w).mono ?_;rintro x w' ⟨rfl,hg⟩;exact ⟨k,true,rfl,⟨rfl,rfl⟩,hg⟩
  ·cases e
 ·rcases h with ⟨e,_⟩|⟨t,e,ht⟩
  ·cases e
  ·cases e;have hv:=ht.1;subst hv;by_cases h3:n%2=0
   ·have hp:=xq7 _ k (szC (.exit n)) (.exit n) _ w (Nat.le_refl _) ht;rw [xnq h1 h3] at hp ⊢;refine (xga _ (.inl rfl) _ (.exit n) k w hp).mono ?_;rintro x w' ⟨rfl,hg⟩;refine ⟨k,_,rfl,?_,hg⟩;unfold plcD;simp only;rw [if_neg (by omega)];cases (pas k (.exit n)).1<;>simp
   ·rw [xnp h1 h3];refine (xf8 (fOf n) (by unfold fOf;omega) (vOf n:Int) k w).mono ?_;rintro x w' ⟨rfl,hg⟩;refine ⟨_,_,rfl,?_,hg⟩;unfold plcD;simp only;rw [if_pos ⟨h1,by omega⟩];exact ⟨by trivial,rfl⟩
 ·rcases h with ⟨e,_⟩|⟨t',e,ht⟩
  ·cases e
  ·cases e;have hp:=xq7 _ k (szC (.scope t)) (.scope t) _ w (Nat.le_refl _) ht;obtain ⟨g,cap,x,rfl,_⟩:=ht;unfold xi2 at hp ⊢;refine (xga _ (.inr rfl) _ (.scope t) k w hp).mono ?_;rintro x w' ⟨rfl,hg⟩;refine ⟨k,_,rfl,?_,hg⟩;unfold plcD;simp only;cases (pas k (.scope t)).1<;>simp
def plG(d:Option Code):Prop:=∀t,d=some (.scope t)->(wfC t).1=true/\isT t=true/\kdC t=true
theorem xr8(d:Option Code)(hk:plK d)(hg:plG d)(x y:Nat->Int):plcD d x=some y↔doesP d x y:=by
 rcases hk with rfl|⟨n,h1,h2,rfl⟩|⟨t,rfl⟩
 ·unfold plcD doesP;simp only [Option.some.injEq];exact eq_comm
 ·unfold plcD doesP;show (if 1<n/\n%2=1 then some (putF x (fOf n) (vOf n:Int)) else if (pas x (.exit n)).1=true then some x else none)=some y↔leafD n x y;have hp:(pas x (.exit n)).1=if n=0 then true else if n=1 then false else if n%2=0 then (x (fOf n) == (vOf n:Int)) else false:=rfl
  unfold leafD;rw [if_neg (show ¬n=0 by omega),if_neg (show ¬n=1 by omega)];by_cases h3:n%2=0
  ·rw [if_neg (by omega),hp,if_neg (show ¬n=0 by omega),if_neg (show ¬n=1 by omega),if_pos h3,if_pos h3];by_cases h4:x (fOf n)=(vOf n:Int)
   ·rw [if_pos (by simpa using h4),Option.some.injEq];exact ⟨fun e=>⟨h4,e.symm⟩,fun e=>e.2.symm⟩
   ·rw [if_neg (by simpa using h4)];exact ⟨fun e=>(by cases e),fun e=>absurd e.1 h4⟩
  ·rw [if_pos ⟨h1,by omega⟩,if_neg h3,Option.some.injEq];exact eq_comm
 ·obtain ⟨g1,g2,g3⟩:=hg t rfl;have hd:=(xq5 t).1 g1 g2 g3 x;unfold plcD doesP;show (if (!(pas x t).1)=true then some x else none)=some y↔(¬∃z,D t x z)/\y=x;rw [<-hd];cases (pas x t).1
  ·simp only [Bool.not_false,if_true,Option.some.injEq];exact ⟨fun e=>⟨by simp,e.symm⟩,fun e=>e.2.symm⟩
  ·simp
abbrev Spt:=Nat×(Nat->Int)
def spV(s:Spt)(t:Nat):Value:=if t=0 then .int .i64 (s.1:Int) else .int .i64 (s.2 (t-1))
def spA(s:Spt):Value:=.agg #[.int .i64 (s.1:Int),.int .i64 (s.2 0),.int .i64 (s.2 1),.int .i64 (s.2 2),.int .i64 (s.2 3),.int .i64 (s.2 4),.int .i64 (s.2 5)]
def SpR(w:World)(v:Value)(l:List Spt):Prop:=
 (∃a c,v=.slice a 0 c/\l=[])\/∃g cap,v=.slice (some ⟨g,0,none⟩) l.length cap/\l.length<=100000000/\∀j (hj:j<l.length),∀t,t<7->w.cell? ⟨g,j*7+t,none⟩=some (spV l[j] t)
def nextS(L:List Plc)(s:Spt):List Spt:=match L[s.1]? with
 | some q=>(match plcD q.1 s.2 with|some y=>q.2.map fun n=>(n,y)|none=>[])
 | none=>[]
theorem Tryz.infoSpot:(Tryz.prog.info? 185).map (fun i=>(i.zero,i.size,i.bytes))=some (some (spA (0,fun _=>0)),7,56):=by kernel_rfl
theorem xvb(u:World)(n:Nat)(hn:n<=100000000):(Instr.makeSlice 188 (.int .i64 (n:Int)) (.int .i64 (n:Int))).run Tryz.prog u=.ok (.slice (some ⟨u.heap.size,0,none⟩) n n) (u.alloc (.cells ((List.range (n*7)).map fun _=>Value.int .i64 0).toArray 185)):=by
 obtain ⟨i0,hi,hz0,hz1,hz2⟩:=info_parts Tryz.infoSpot;have h:=run_make (P:=Tryz.prog) u 188 185 i0 (spA (0,fun _=>0)) Tryz.underlying188 hi hz0 .i64 .i64 (n:Int) (n:Int) (by omega) (Int.le_refl _) (by rw [hz2];omega) (by omega);rw [Int.toNat_natCast,hz1] at h
 have hc:madeCells (spA (0,fun _=>0)).cells (n*7)=((List.range (n*7)).map fun _=>Value.int .i64 0).toArray:=by
  apply Array.ext
  ·simp [madeCells]
  ·intro i h1 h2;have hi7:i%7<7:=Nat.mod_lt _ (by decide);simp only [madeCells,Array.getElem_map,Array.getElem_range,List.getElem_toArray,List.getElem_map];rcases (show i%7=0\/i%7=1\/i%7=2\/i%7=3\/i%7=4\/i%7=5\/i%7=6 by omega) with e|e|e|e|e|e|e<;>simp [spA,Value.cells,e]
 rw [h,hc]
theorem FlV.at{n0:Nat}{w:World}{pv:Value}{L:List Plc}(h:FlV n0 w pv L){j:Nat}{q:Plc}(hq:L[j]?=some q):∃g c d s,pv=.slice (some ⟨g,0,none⟩) L.length c/\w.cell? ⟨g,j*2,none⟩=some d/\w.cell? ⟨g,j*2+1,none⟩=some s/\PlS (fun _=>False) n0 w q d s:=by
 obtain ⟨dv,sv,ho,hp⟩:=h;have hj:j<L.length:=(List.getElem?_eq_some_iff.1 hq).1
 obtain ⟨g,pc,rfl,hown⟩:∃g pc,pv=.slice (some ⟨g,0,none⟩) L.length pc/\w.ownsRow n0 170 2 (.slice (some ⟨g,0,none⟩) L.length pc) L.length (plC dv sv L.length):=by
  rcases ho.2 with ⟨_,hn⟩|⟨g,cap,cur,rfl,_⟩
  ·omega
  ·exact ⟨g,cap,rfl,ho⟩
 have d0:w.cell? ⟨g,j*2,none⟩=some (dv j):=(hown.cellAt _ (by omega)).trans (xr3 dv sv _ _ hj).1;have d1:w.cell? ⟨g,j*2+1,none⟩=some (sv j):=(hown.cellAt _ (by omega)).trans (xr3 dv sv _ _ hj).2;exact ⟨g,pc,dv j,sv j,rfl,d0,d1,hp j q hq⟩
def lay7(w:World)(b o:Nat)(x:Nat)(y:Nat->Int):World:=
 ((((((w.setCell ⟨b,o,none⟩ (.int .i64 (x:Int))).setCell ⟨b,o+1,none⟩ (.int .i64 (y 0))).setCell ⟨b,o+2,none⟩ (.int .i64 (y 1))).setCell ⟨b,o+3,none⟩ (.int .i64 (y 2))).setCell ⟨b,o+4,none⟩ (.int .i64 (y 3))).setCell ⟨b,o+5,none⟩ (.int .i64 (y 4))).setCell ⟨b,o+6,none⟩ (.int .i64 (y 5))
theorem xk0(w:World)(b o:Nat)(x:Nat)(y:Nat->Int):w.grownBy (lay7 w b o x y) (some b):=
 xje (xje (xje (xje (xje (xje (xjc _ _ _ _) (xjc _ _ _ _)) (xjc _ _ _ _)) (xjc _ _ _ _)) (xjc _ _ _ _)) (xjc _ _ _ _)) (xjc _ _ _ _)
theorem xju(l:List Nat)(j:Nat)(hj:j<l.length):(intL l)[j]?=some (.int .i64 (l.getD j 0:Nat)):=by
 unfold intL;rw [List.getElem?_map,List.getElem?_eq_getElem hj,List.getD_eq_getElem?_getD,List.getElem?_eq_getElem hj];rfl
theorem xww{b n j x:Nat}{w:World}{T:TypeId}{l:List Nat}{y:Nat->Int}(hj:j<l.length)(hn:n=l.length)(hx:x=l.getD j 0)
  (h:mkBlk w b (n*7) T (fun t=>if t/7<j then spV (l.getD (t/7) 0,y) (t%7) else .int .i64 0)):
  mkBlk (lay7 w b (j*7) x y) b (n*7) T (fun t=>if t/7<j+1 then spV (l.getD (t/7) 0,y) (t%7) else .int .i64 0):=by
 subst hx;refine (((((((h.set _ _).set _ _).set _ _).set _ _).set _ _).set _ _).set _ _).cong ?_;intro t ht;unfold updF;by_cases e:t/7=j
 ·rw [if_pos (show t/7<j+1 by omega),e];rcases (show t=j*7\/t=j*7+1\/t=j*7+2\/t=j*7+3\/t=j*7+4\/t=j*7+5\/t=j*7+6 by omega) with e|e|e|e|e|e|e
  ·rw [if_neg (by omega),if_neg (by omega),if_neg (by omega),if_neg (by omega),if_neg (by omega),if_neg (by omega),if_pos e,show t%7=0 by omega];rfl
  ·rw [if_neg (by omega),if_neg (by omega),if_neg (by omega),if_neg (by omega),if_neg (by omega),if_pos e,show t%7=1 by omega];rfl
  ·rw [if_neg (by omega),if_neg (by omega),if_neg (by omega),if_neg (by omega),if_pos e,show t%7=2 by omega];rfl
  ·rw [if_neg (by omega),if_neg (by omega),if_neg (by omega),if_pos e,show t%7=3 by omega];rfl
  ·rw [if_neg (by omega),if_neg (by omega),if_pos e,show t%7=4 by omega];rfl
  ·rw [if_neg (by omega),if_pos e,show t%7=5 by omega];rfl
  ·rw [if_pos e,show t%7=6 by omega];rfl
 ·rw [if_neg (by omega),if_neg (by omega),if_neg (by omega),if_neg (by omega),if_neg (by omega),if_neg (by omega),if_neg (by omega)];dsimp only;by_cases e2:t/7<j
  ·rw [if_pos e2,if_pos (by omega)]
  ·rw [if_neg e2,if_neg (by omega)]
theorem xbo(n0:Nat)(pv:Value)(st:Int)(L:List Plc)(q:Plc)(p:Nat)(k:Nat->Int)(w:World)(h:FlV n0 w pv L)(hq:L[p]?=some q)(hk:plK q.1)(hl:q.2.length<=100000000)(hL:L.length<=1000000000000):
  Calls Tryz.prog 97 #[.agg #[pv,.int .i64 st],spA (p,k)] w (fun x w'=>∃v,x=.returned v/\SpR w' v (nextS L (p,k))/\(∀b,v.ownBlock=some b->w.heap.size<=b)/\w.grownBy w' none):=by
 obtain ⟨g,c,d,s,rfl,c0,c1,hp⟩:=h.at hq;have hj:p<L.length:=(List.getElem?_eq_some_iff.1 hq).1;have hjI:(p:Int)<L.length:=by omega
 have hgb:g<w.heap.size:=World.block_lt_of_cell? w _ c0
 have hd:d=.nilIface\/∃T u,d=.iface T u:=by
  rcases hp.2.2 with ⟨_,h2⟩|⟨t,_,ht⟩
  ·exact .inl h2
  ·exact .inr (xam ht)
 obtain ⟨a,cn,rfl⟩:=xqm hp.1;have HP:=hide hp;have HK:=hide hk;have HQ:=hide hq;clear h hp hk hq;unfold spA
 have HD:Hid (∀ww,w.grownBy ww none->Calls Tryz.prog 150 #[d,.agg #[.int .i64 (k 0),.int .i64 (k 1),.int .i64 (k 2),.int .i64 (k 3),.int .i64 (k 4),.int .i64 (k 5)]] ww (fun x w'=>∃y b,x=.returned (.tuple #[.agg #[.int .i64 (y 0),.int .i64 (y 1),.int .i64 (y 2),.int .i64 (y 3),.int .i64 (y 4),.int .i64 (y 5)],.bool b])/\(match plcD q.1 k with|some z=>b=true/\y=z|none=>b=false)/\ww.grownBy w' none)):=
  fun ww hg=>xf5 n0 q.1 d k ww HK.out (HP.out.2.2.imp id (fun ⟨t,e,ht⟩=>⟨t,e,xal ht hg (fun b _ e=>by cases e)⟩))
 have HO:=hide HP.out.1;clear HP HK;rcases hd with rfl|⟨T,u,rfl⟩
 case' inl=>(go_enter Tryz.func97,Tryz.ntmps97;go_upto_region 2 with fail;generalize Value.nilIface=d at *)
 case' inr=>(go_enter Tryz.func97,Tryz.ntmps97;go_upto_region 2 with fail;generalize Value.iface T u=d at *;clear T u)
 all_goals
  obtain ⟨W,hW⟩:∃W,W=((w.alloc (.cells #[.slice (some ⟨g,0,none⟩) L.length c,.int .i64 st] 108)).alloc (.cells #[.int .i64 (p:Int),.int .i64 (k 0),.int .i64 (k 1),.int .i64 (k 2),.int .i64 (k 3),.int .i64 (k 4),.int .i64 (k 5)] 185)).alloc (.cells #[d,.slice a q.2.length cn] 170):=⟨_,rfl⟩;have GW:Hid (w.grownBy W none):=by rw [hW];exact xje (xje (World.grownBy_alloc _ _ _) (World.grownBy_alloc _ _ _)) (World.grownBy_alloc _ _ _)
  have P0:W.cell? ⟨w.heap.size+1+1,0,none⟩=some d:=by rw [hW];simp [go_sem]
  have P1:W.cell? ⟨w.heap.size+1+1,1,none⟩=some (.slice a q.2.length cn):=by rw [hW];simp [go_sem]
  have k0:W.cell? ⟨w.heap.size+1,1,none⟩=some (.int .i64 (k 0)):=by rw [hW];simp [go_sem]
  have k1:W.cell? ⟨w.heap.size+1,2,none⟩=some (.int .i64 (k 1)):=by rw [hW];simp [go_sem]
  have k2:W.cell? ⟨w.heap.size+1,3,none⟩=some (.int .i64 (k 2)):=by rw [hW];simp [go_sem]
  have k3:W.cell? ⟨w.heap.size+1,4,none⟩=some (.int .i64 (k 3)):=by rw [hW];simp [go_sem]
  have k4:W.cell? ⟨w.heap.size+1,5,none⟩=some (.int .i64 (k 4)):=by rw [hW];simp [go_sem]
  have k5:W.cell? ⟨w.heap.size+1,6,none⟩=some (.int .i64 (k 5)):=by rw [hW];simp [go_sem]
  rw [<-hW];clear hW;go_wp2_with fail;refine (HD.out _ GW.out).mono ?_;rintro x w1 ⟨y,b,rfl,hy,g1⟩;have Q1:w1.cell? ⟨w.heap.size+1+1,1,none⟩=some (.slice a q.2.length cn):=g1.cell P1 (by simp);have hb1:w.heap.size+1+1<w1.heap.size:=World.block_lt_of_cell? w1 _ Q1;have G1:=hide (xje GW.out g1);have HY:=hide hy;clear g1 hy P0 P1 k0 k1 k2 k3 k4 k5 GW HD;have G2:Hid (w.grownBy (w1.alloc (.cells #[.int .i64 (y 0),.int .i64 (y 1),.int .i64 (y 2),.int .i64 (y 3),.int .i64 (y 4),.int .i64 (y 5)] 46)) none):=xje G1.out (World.grownBy_alloc _ _ _);cases b
  ·go_wp2;go_ret;refine ⟨_,rfl,.inl ⟨_,_,rfl,?_⟩,fun b e=>(by cases e),G2.out⟩;unfold nextS;rw [HQ.out];have:=HY.out;show (match plcD q.1 k with|some y=>_|none=>[])=[];cases hz:plcD q.1 k with
   | none=>rfl
   | some z=>rw [hz] at this;exact absurd this.1 (by decide)
  ·obtain ⟨w2,hw2⟩:∃w2,w2=w1.alloc (.cells #[.int .i64 (y 0),.int .i64 (y 1),.int .i64 (y 2),.int .i64 (y 3),.int .i64 (y 4),.int .i64 (y 5)] 46):=⟨_,rfl⟩;have B2:pkBlk w2 w1.heap.size y:=by rw [hw2];exact pkBlk.alloc w1 y
   have R1:w2.cell? ⟨w.heap.size+1+1,1,none⟩=some (.slice a q.2.length cn):=by rw [hw2];exact (World.grownBy_alloc w1 _ none).cell Q1 (by simp)
   have z2:w2.heap.size=w1.heap.size+1:=by rw [hw2];simp
   rw [<-hw2] at G2;go_upto_region 5 with fail
   rw [<-hw2];clear hw2;obtain ⟨w3,hw3⟩:∃w3,w3=w2.alloc (.cells ((List.range (q.2.length*7)).map fun _=>Value.int .i64 0).toArray 185):=⟨_,rfl⟩;have G3:Hid (w.grownBy w3 none):=by rw [hw3];exact xje G2.out (World.grownBy_alloc _ _ _)
   have B3:Hid (pkBlk w3 w1.heap.size y):=by rw [hw3];exact B2.grown (World.grownBy_alloc _ _ none) (by simp)
   have M3:Hid (mkBlk w3 (w1.heap.size+1) (q.2.length*7) 185 (fun _=>.int .i64 0)):=by rw [hw3,<-z2];exact heap_alloc_new w2 _
   have S1:w3.cell? ⟨w.heap.size+1+1,1,none⟩=some (.slice a q.2.length cn):=by rw [hw3];exact (World.grownBy_alloc w2 _ none).cell R1 (by simp)
   have hmk:∀ww,(Instr.makeSlice 188 (.int .i64 (q.2.length:Int)) (.int .i64 (q.2.length:Int))).run Tryz.prog ww=.ok (.slice (some ⟨ww.heap.size,0,none⟩) q.2.length q.2.length) (ww.alloc (.cells ((List.range (q.2.length*7)).map fun _=>Value.int .i64 0).toArray 185)):=fun ww=>xvb ww _ hl
   obtain ⟨mc,hmc⟩:∃mc,mc=((List.range (q.2.length*7)).map fun _=>Value.int .i64 0).toArray:=⟨_,rfl⟩;rw [<-hmc] at hw3;simp only [<-hmc] at hmk;have HB2:=hide B2;clear hmc B2 HB2;go_upto_region 6 with fail
   rw [<-hw3];clear hw3 hmk;try rw [z2]
   clear z2 R1;obtain ⟨ls,hls⟩:∃ls,ls=q.2:=⟨_,rfl⟩;rw [<-hls] at S1 M3 HO hl ⊢;have HLS:=hide hls;have GW1:w.heap.size<=w1.heap.size:=G1.out.size;clear hls Q1 G2 G1;go_wp2_with fail;go_loopw [34] (fun i wr=>∃j:Nat,j<=ls.length/\i=.int .i64 j/\pkBlk wr w1.heap.size y/\mkBlk wr (w1.heap.size+1) (ls.length*7) 185 (fun t=>if t/7<j then spV (ls.getD (t/7) 0,y) (t%7) else .int .i64 0)/\w.grownBy wr none) (fun i _=>ls.length-(intOf i).toNat)
   case atStart=>exact ⟨0,by omega,rfl,B3.out,M3.out.cong (fun j _=>by rw [if_neg (by omega)]),G3.out⟩
   case round=>
    obtain ⟨j,hj2,rfl,hb,hm,hg⟩:=hrel;have HB:=hide hb;have HM:=hide hm;have HG:=hide hg;clear hb hm hg B3 M3 G3 S1;have hzz:w1.heap.size<wr.heap.size:=(Array.getElem?_eq_some_iff.1 HB.out).1;have hzy:w1.heap.size+1<wr.heap.size:=HM.out.lt;by_cases hlt:j<ls.length
    ·have ho:=HO.out.kept HG.out (by cases hv:(Value.slice a ls.length cn).ownBlock<;>simp);rcases ho.2 with ⟨_,h0⟩|⟨g2,cap2,cur,e,_⟩
     ·omega
     cases e;obtain ⟨x,hx⟩:∃x,x=ls.getD j 0:=⟨_,rfl⟩;have cx:wr.cell? ⟨g2,j,none⟩=some (.int .i64 (x:Int)):=(ho.cellAt j (by omega)).trans (by rw [hx];exact xju ls j hlt);have HX:=hide hx;clear hx ho;obtain ⟨d0,d1,d2,d3,d4,d5⟩:=xtq HB.out;obtain ⟨F,hF⟩:∃F:Nat->Value,F=(fun t=>if t/7<j then spV (ls.getD (t/7) 0,y) (t%7) else .int .i64 0):=⟨_,rfl⟩;have HF:=hide hF;have HM2:Hid (mkBlk wr (w1.heap.size+1) (ls.length*7) 185 F):=by rw [hF];exact HM.out
     clear hF;have f0:wr.cell? ⟨w1.heap.size+1,j*7,none⟩=some (F (j*7)):=HM2.out.cell _ (by omega);have f1:=HM2.out.cell (j*7+1) (by omega);have f2:=HM2.out.cell (j*7+2) (by omega);have f3:=HM2.out.cell (j*7+3) (by omega);have f4:=HM2.out.cell (j*7+4) (by omega);have f5:=HM2.out.cell (j*7+5) (by omega);have f6:=HM2.out.cell (j*7+6) (by omega);have fz:=HM2.out.frozen;have hltI:(j:Int)<ls.length:=by omega
     go_wp2_with fail;exact ⟨⟨j+1,by omega,by go_num,HB.out.grown (xk0 _ _ (j*7) x y) (by simp),xww hlt rfl HX.out HM.out,xi9 HG.out (xk0 _ _ (j*7) x y) (by have:=GW1;omega)⟩,by simp [intOf];omega⟩
    ·obtain rfl:j=ls.length:=by omega
     go_wp2;go_ret
     have hnx:nextS L (p,k)=ls.map fun n=>(n,y):=by
      unfold nextS;rw [HQ.out];have hy:=HY.out;show (match plcD q.1 k with|some y=>q.2.map fun n=>(n,y)|none=>[])=_;cases hz:plcD q.1 k with
      | none=>rw [hz] at hy;exact Bool.noConfusion (show true=false from hy)
      | some z=>rw [hz] at hy;obtain ⟨_,rfl⟩:=hy;rw [HLS.out]
     rw [hnx];refine ⟨.slice (some ⟨w1.heap.size+1,0,none⟩) ls.length ls.length,rfl,.inr ⟨w1.heap.size+1,ls.length,by rw [List.length_map],by rw [List.length_map];exact hl,fun j hj t ht=>?_⟩,fun b e=>(by cases e;show w.heap.size<=w1.heap.size+1;omega),HG.out⟩;rw [List.length_map] at hj;have hc:=HM.out.cell (j*7+t) (by omega);rw [hc,if_pos (by omega),show (j*7+t)/7=j by omega,show (j*7+t)%7=t by omega];simp [List.getD_eq_getElem?_getD,List.getElem?_eq_getElem hj]
open Go.RowKit Go.Weft Go.Maps
theorem Tryz.laidOut:laidOutB Tryz.prog=true:=by kernel_rfl
theorem Tryz.rowSpot:(185:TypeId)<Tryz.prog.types.size:=of_decide_eq_true (by kernel_rfl)
theorem Tryz.keySpot:Tryz.prog.keyType 185=true:=by kernel_rfl
theorem Tryz.keySpot3:Tryz.prog.keyTypeAt 3 185=true:=by kernel_rfl
theorem spLaw:Keyed Tryz.prog 185:=Keyed.of_law (deep_law_laid Tryz.laidOut (m:=3) (by omega) Tryz.rowSpot Tryz.keySpot3 (by rw [Tryz.underlying185]))
theorem zeroU(w:World):(zeroValue 186).run Tryz.prog w=.ok (.agg #[]) w:=by kernel_rfl
def spL(s:Spt):Lit:=.string (keyBytes [.int .i64 (s.1:Int),.int .i64 (s.2 0),.int .i64 (s.2 1),.int .i64 (s.2 2),.int .i64 (s.2 3),.int .i64 (s.2 4),.int .i64 (s.2 5)])
def SpN(s:Spt):Prop:=(s.1:Int)<9223372036854775808/\∀i,i<6->-9223372036854775808<=s.2 i/\s.2 i<9223372036854775808
theorem xjl{n:Int}(h1:-9223372036854775808<=n)(h2:n<9223372036854775808):(Lit.int .i64 n).wf=true:=WalkArith.wf_i64 ⟨h1,by omega⟩
theorem Tryz.cellsSpot:Tryz.prog.cellsOf 185=7:=by kernel_rfl
theorem Tryz.cellsPk:Tryz.prog.cellsOf 46=6:=by kernel_rfl
theorem Tryz.cellsI:Tryz.prog.cellsOf 3=1:=by kernel_rfl
theorem spKey(s:Spt)(h:SpN s):keyOf Tryz.prog 185 (spA s)=some (spL s):=by
 have hf:(spA s).formed Tryz.prog 185=true:=by simp [spA,Value.formed,Tryz.underlying185,Tryz.cellsSpot]
 obtain ⟨n,hn⟩:∃n,Tryz.prog.types.size+1=n+3:=⟨Tryz.prog.types.size-2,by have:(185:Nat)<Tryz.prog.types.size:=Tryz.rowSpot;omega⟩;have h0:(Lit.int .i64 (s.1:Int)).wf=true:=xjl (by omega) h.1;have k0:=xjl (h.2 0 (by omega)).1 (h.2 0 (by omega)).2;have k1:=xjl (h.2 1 (by omega)).1 (h.2 1 (by omega)).2;have k2:=xjl (h.2 2 (by omega)).1 (h.2 2 (by omega)).2;have k3:=xjl (h.2 3 (by omega)).1 (h.2 3 (by omega)).2;have k4:=xjl (h.2 4 (by omega)).1 (h.2 4 (by omega)).2;have k5:=xjl (h.2 5 (by omega)).1 (h.2 5 (by omega)).2;unfold keyOf;rw [Tryz.underlying185];simp only [Tryz.keySpot,hf,Bool.and_self,if_true,hn];simp [Program.keyLits,Tryz.underlying185,Tryz.underlying46,Tryz.underlying3,Tryz.cellsSpot,Tryz.cellsPk,Tryz.cellsI,spA,Value.cells,List.range,List.range.loop,h0,k0,k1,k2,k3,k4,k5,spL]
def SeenR(w:World)(b:Nat)(l:List Spt):Prop:=w.ownsMap Tryz.prog 185 (unitElem (H:=Unit)) b l.length (setOf (.agg []) (l.map spL))/\∀s∈l,SpN s
theorem SeenR.kept{w w':World}{b:Nat}{l:List Spt}{row:Option Nat}(h:SeenR w b l)(hg:w.grownBy w' row)(hr:some b≠row):SeenR w' b l:=⟨h.1.kept hg hr,h.2⟩
theorem xw0{s t:Spt}(hs:SpN s)(ht:SpN t)(h:spL s=spL t):spA s=spA t:=spLaw.inj (spKey s hs) (by rw [h];exact spKey t ht)
theorem SeenR.has{w:World}{b:Nat}{l:List Spt}(h:SeenR w b l){t:Spt}(ht:SpN t):Maps.has (setOf (.agg []:DataW Unit) (l.map spL)) (spL t)=true↔∃s∈l,spA s=spA t:=by
 rw [has_setOf _ _ _ (fun x hx=>by obtain ⟨s,hs,rfl⟩:=List.mem_map.1 hx;exact spLaw.key (spKey s (h.2 s hs)))];rw [List.any_eq_true];constructor
 ·rintro ⟨x,hx,hk⟩;obtain ⟨s,hs,rfl⟩:=List.mem_map.1 hx;refine ⟨s,hs,xw0 (h.2 s hs) ht ?_⟩;exact WideAt.sameKey_eq hk
 ·rintro ⟨s,hs,he⟩;refine ⟨spL s,List.mem_map.2 ⟨s,hs,rfl⟩,?_⟩
  have e:spL s=spL t:=by
   have h1:=spKey s (h.2 s hs);rw [he,spKey t ht] at h1;exact (Option.some.inj h1).symm
  rw [e];exact WideAt.sameKey_self (spLaw.key (spKey t ht))
theorem xg5:∀(N:Nat) (l:List Nat),l.Nodup->(∀x∈l,x<N)->l.length<=N
 | 0,[],_,_=>Nat.le_refl _
 | 0,x::l,_,h=>absurd (h x (by simp)) (by omega)
 | N+1,l,hd,h=>by
  by_cases hm:N∈l
  ·have h1:=xg5 N (l.erase N) (hd.erase N) (fun x hx=>by
    have h2:=(List.Nodup.mem_erase_iff hd).1 hx;have:=h x h2.2;have:=h2.1;omega)
   rw [List.length_erase_of_mem hm] at h1;omega
  ·have h1:=xg5 N l hd (fun x hx=>by
    have:=h x hx;have:x≠N:=fun e=>hm (e ▸ hx)
    omega)
   omega
def numS(s:Spt):Nat:=s.1*1073741824+(numP s.2).toNat
theorem xw1{m:Nat}{l:List Spt}(hd:l.Nodup)(h:∀s∈l,s.1<m/\Rt s.2):l.length<=m*1073741824:=by
 have h1:(l.map numS).Nodup:=by
  refine List.pairwise_map.2 (hd.imp_of_mem ?_);intro a b ha hb hne he;apply hne;have ra:=xpd (h a ha).2;have rb:=xpd (h b hb).2;unfold numS at he;have e1:a.1=b.1:=by omega
  have e2:numP a.2=numP b.2:=by omega
  exact Prod.ext e1 (xpc (h a ha).2 (h b hb).2 e2)
 have h2:=xg5 (m*1073741824) (l.map numS) h1 (fun x hx=>by
  obtain ⟨s,hs,rfl⟩:=List.mem_map.1 hx;have rs:=xpd (h s hs).2;have:=(h s hs).1;unfold numS;omega)
 rwa [List.length_map] at h2
theorem xwv{s t:Spt}(hs:Nm s.2)(ht:Nm t.2)(h:spA s=spA t):s=t:=by
 unfold spA at h;simp at h;obtain ⟨h0,h1,h2,h3,h4,h5,h6⟩:=h;refine Prod.ext (by omega) (hs.ext ht (fun i hi=>?_));rcases (show i=0\/i=1\/i=2\/i=3\/i=4\/i=5 by omega) with rfl|rfl|rfl|rfl|rfl|rfl
 ·exact h1
 ·exact h2
 ·exact h3
 ·exact h4
 ·exact h5
 ·exact h6
structure WL(L:List Plc)(a:Spt)(seen todo:List Spt)(made:List (Nat->Int))(c:Option (Spt×Nat)):Prop where
 fst:a∈seen
 sub:∀s∈todo,s∈seen
 rch:∀s∈seen,Many (stepP L) a s
 cls:∀s∈seen,s∉todo->(∀i,c≠some (s,i))->∀t,t∈nextS L s->t∈seen
 now:∀s i,c=some (s,i)->s∈seen/\s∉todo/\s.1≠0/\∀t,t∈(nextS L s).take i->t∈seen
 mdm:∀y,y∈made↔(0,y)∈seen/\(0,y)∉todo
 nds:seen.Nodup
 ndt:todo.Nodup
 ndm:made.Nodup
 okS:∀s∈seen,s.1<L.length/\Rt s.2
structure FlowOK(L:List Plc):Prop where
 step:∀s t,t∈nextS L s↔stepP L s t
 stay:∀s t,s.1<L.length->Rt s.2->t∈nextS L s->t.1<L.length/\Rt t.2
 stop:∀x,nextS L (0,x)=[]
theorem WL.start{L:List Plc}(a:Spt)(h:a.1<L.length/\Rt a.2):WL L a [a] [a] [] none where
 fst:=by simp
 sub:=fun s hs=>hs
 rch:=fun s hs=>by obtain rfl:=List.mem_singleton.1 hs;exact .refl _
 cls:=fun s hs hn=>absurd hs hn
 now:=fun s i e=>by cases e
 mdm:=fun y=>by simp
 nds:=by simp
 ndt:=by simp
 ndm:=by simp
 okS:=fun s hs=>by obtain rfl:=List.mem_singleton.1 hs;exact h
theorem xoz{α:Type}{l:List α}{s:α}(h:(l++[s]).Nodup):l.Nodup/\s∉l:=by
 have h1:=List.nodup_append.1 h;exact ⟨h1.1,fun hs=>h1.2.2 s hs s (by simp) rfl⟩
theorem xwp{α:Type}{l:List α}{s:α}(h:l.Nodup)(hs:s∉l):(l++[s]).Nodup:=
 List.nodup_append.2 ⟨h,by simp,fun a ha b hb=>by obtain rfl:=List.mem_singleton.1 hb;exact fun e=>hs (e ▸ ha)⟩
theorem WL.pop0{L:List Plc}{a s:Spt}{seen todo:List Spt}{made:List (Nat->Int)}(ok:FlowOK L)(h:WL L a seen (todo++[s]) made none)(h0:s.1=0):WL L a seen todo (made++[s.2]) none where
 fst:=h.fst
 sub:=fun t ht=>h.sub t (by simp [ht])
 rch:=h.rch
 cls:=fun t ht hn hc u hu=>by
  by_cases e:t=s
  ·subst e;obtain ⟨p,x⟩:=t;cases h0;rw [ok.stop x] at hu;cases hu
  ·exact h.cls t ht (by simp [hn,e]) hc u hu
 now:=fun s i e=>by cases e
 mdm:=fun y=>by
  have hs:=(xoz h.ndt).2;rw [List.mem_append,h.mdm y,List.mem_singleton];have e0:s=(0,s.2):=Prod.ext h0 rfl;constructor
  ·rintro (⟨h1,h2⟩|rfl)
   ·exact ⟨h1,fun h3=>h2 (by simp [h3])⟩
   ·rw [<-e0];exact ⟨h.sub s (by simp),hs⟩
  ·rintro ⟨h1,h2⟩;by_cases e:y=s.2
   ·exact .inr e
   ·refine .inl ⟨h1,fun h3=>?_⟩;rcases List.mem_append.1 h3 with h4|h4
    ·exact h2 h4
    ·have:=List.mem_singleton.1 h4;rw [e0] at this;exact e (Prod.mk.inj this).2
 nds:=h.nds
 ndt:=(xoz h.ndt).1
 ndm:=xwp h.ndm (fun hm=>by
  have:=((h.mdm s.2).1 hm).2;apply this;have e0:s=(0,s.2):=Prod.ext h0 rfl;rw [<-e0];simp)
 okS:=h.okS
theorem WL.pop{L:List Plc}{a s:Spt}{seen todo:List Spt}{made:List (Nat->Int)}(h:WL L a seen (todo++[s]) made none)(h0:s.1≠0):WL L a seen todo made (some (s,0)) where
 fst:=h.fst
 sub:=fun t ht=>h.sub t (by simp [ht])
 rch:=h.rch
 cls:=fun t ht hn hc u hu=>by
  by_cases e:t=s
  ·subst e;exact absurd rfl (hc 0)
  ·exact h.cls t ht (by simp [hn,e]) (fun i e=>by cases e) u hu
 now:=fun t i e=>by
  cases e;exact ⟨h.sub s (by simp),(xoz h.ndt).2,h0,fun t ht=>by simp at ht⟩
 mdm:=fun y=>by
  rw [h.mdm y];constructor
  ·rintro ⟨h1,h2⟩;exact ⟨h1,fun h3=>h2 (by simp [h3])⟩
  ·rintro ⟨h1,h2⟩;refine ⟨h1,fun h3=>?_⟩;rcases List.mem_append.1 h3 with h4|h4
   ·exact h2 h4
   ·have:=List.mem_singleton.1 h4;exact h0 (by rw [<-this])
 nds:=h.nds
 ndt:=(xoz h.ndt).1
 ndm:=h.ndm
 okS:=h.okS
theorem WL.old{L:List Plc}{a s t:Spt}{seen todo:List Spt}{made:List (Nat->Int)}{i:Nat}(h:WL L a seen todo made (some (s,i)))(ht:(nextS L s)[i]?=some t)(hs:t∈seen):WL L a seen todo made (some (s,i+1)) where
 fst:=h.fst
 sub:=h.sub
 rch:=h.rch
 cls:=fun u hu hn hc=>h.cls u hu hn (fun j e=>by cases e;exact hc (i+1) rfl)
 now:=fun u j e=>by
  cases e;obtain ⟨h1,h2,h3,h4⟩:=h.now s i rfl;refine ⟨h1,h2,h3,fun v hv=>?_⟩;rw [List.take_add_one,ht] at hv;rcases List.mem_append.1 hv with hv|hv
  ·exact h4 v hv
  ·have:v=t:=by simpa using hv
   exact this ▸ hs
 mdm:=h.mdm
 nds:=h.nds
 ndt:=h.ndt
 ndm:=h.ndm
 okS:=h.okS
theorem WL.new{L:List Plc}{a s t:Spt}{seen todo:List Spt}{made:List (Nat->Int)}{i:Nat}(ok:FlowOK L)(h:WL L a seen todo made (some (s,i)))(ht:(nextS L s)[i]?=some t)(hs:t∉seen):WL L a (seen++[t]) (todo++[t]) made (some (s,i+1)) where
 fst:=by simp [h.fst]
 sub:=fun u hu=>by
  rcases List.mem_append.1 hu with hu|hu
  ·simp [h.sub u hu]
  ·simp [List.mem_singleton.1 hu]
 rch:=fun u hu=>by
  rcases List.mem_append.1 hu with hu|hu
  ·exact h.rch u hu
  ·obtain rfl:=List.mem_singleton.1 hu;exact (h.rch s (h.now s i rfl).1).trans (Many.one ((ok.step s u).1 (List.mem_of_getElem? ht)))
 cls:=fun u hu hn hc v hv=>by
  have hnt:u≠t:=fun e=>hn (by simp [e])
  have hus:u∈seen:=by
   rcases List.mem_append.1 hu with hu|hu
   ·exact hu
   ·exact absurd (List.mem_singleton.1 hu) hnt
  have:=h.cls u hus (fun h5=>hn (by simp [h5])) (fun j e=>by cases e;exact hc (i+1) rfl) v hv;simp [this]
 now:=fun u j e=>by
  cases e;obtain ⟨h1,h2,h3,h4⟩:=h.now s i rfl;have hst:s≠t:=fun e=>hs (e ▸ h1)
  refine ⟨by simp [h1],by simp [h2,hst],h3,fun v hv=>?_⟩;rw [List.take_add_one,ht] at hv;rcases List.mem_append.1 hv with hv|hv
  ·simp [h4 v hv]
  ·have:v=t:=by simpa using hv
   simp [this]
 mdm:=fun y=>by
  rw [h.mdm y];constructor
  ·rintro ⟨h1,h2⟩;refine ⟨by simp [h1],fun h3=>?_⟩;rcases List.mem_append.1 h3 with h4|h4
   ·exact h2 h4
   ·have:=List.mem_singleton.1 h4;exact hs (this ▸ h1)
  ·rintro ⟨h1,h2⟩;rcases List.mem_append.1 h1 with h4|h4
   ·exact ⟨h4,fun h5=>h2 (by simp [h5])⟩
   ·have:=List.mem_singleton.1 h4;exact absurd (show ((0,y):Spt)∈todo++[t] by simp [this]) h2
 nds:=xwp h.nds hs
 ndt:=xwp h.ndt (fun h5=>hs (h.sub t h5))
 ndm:=h.ndm
 okS:=fun u hu=>by
  rcases List.mem_append.1 hu with hu|hu
  ·exact h.okS u hu
  ·obtain rfl:=List.mem_singleton.1 hu;have h1:=h.okS s (h.now s i rfl).1;exact ok.stay s u h1.1 h1.2 (List.mem_of_getElem? ht)
theorem WL.done{L:List Plc}{a s:Spt}{seen todo:List Spt}{made:List (Nat->Int)}{i:Nat}(h:WL L a seen todo made (some (s,i)))(hi:(nextS L s).length<=i):WL L a seen todo made none where
 fst:=h.fst
 sub:=h.sub
 rch:=h.rch
 cls:=fun u hu hn hc v hv=>by
  by_cases e:u=s
  ·subst e;exact (h.now u i rfl).2.2.2 v (by rw [List.take_of_length_le hi];exact hv)
  ·exact h.cls u hu hn (fun j e2=>by cases e2;exact e rfl) v hv
 now:=fun u j e=>by cases e
 mdm:=h.mdm
 nds:=h.nds
 ndt:=h.ndt
 ndm:=h.ndm
 okS:=h.okS
theorem WL.all{L:List Plc}{a:Spt}{seen:List Spt}{made:List (Nat->Int)}(ok:FlowOK L)(h:WL L a seen [] made none)(y:Nat->Int):y∈made↔Many (stepP L) a (0,y):=by
 rw [h.mdm y];constructor
 ·rintro ⟨h1,_⟩;exact h.rch _ h1
 ·intro hm;refine ⟨?_,by simp⟩
  have key:∀u v,Many (stepP L) u v->u∈seen->v∈seen:=by
   intro u v huv;induction huv with
   | refl=>exact id
   | step hs _ ih=>exact fun hu=>ih (h.cls _ hu (by simp) (fun i e=>by cases e) _ ((ok.step _ _).2 hs))
  exact key _ _ hm h.fst
theorem WL.few{L:List Plc}{a:Spt}{seen todo:List Spt}{made:List (Nat->Int)}{c:Option (Spt×Nat)}(h:WL L a seen todo made c):seen.length<=L.length*1073741824/\todo.length<=L.length*1073741824:=
 ⟨xw1 h.nds h.okS,xw1 h.ndt (fun s hs=>h.okS s (h.sub s hs))⟩
def goodP(N M:Nat)(q:Plc):Prop:=plK q.1/\plG q.1/\(∀x y,Rt x->doesP q.1 x y->Rt y)/\(∀i∈q.2,i<M)/\q.2.length<=N
def GoodL(N:Nat)(L:List Plc):Prop:=∀q∈L,goodP N L.length q
theorem goodP.up{N M M':Nat}{q:Plc}(h:goodP N M q)(hm:M<=M'):goodP N M' q:=⟨h.1,h.2.1,h.2.2.1,fun i hi=>Nat.lt_of_lt_of_le (h.2.2.2.1 i hi) hm,h.2.2.2.2⟩
theorem xiw{N M:Nat}{l:List Nat}(h:∀i∈l,i<M)(hl:l.length<=N):goodP N M (none,l):=
 ⟨.inl rfl,fun t e=>(by cases e),fun x y hx hd=>(by have:y=x:=hd;rw [this];exact hx),h,hl⟩
theorem GoodL.snoc{N:Nat}{L:List Plc}(h:GoodL N L){q:Plc}(hq:goodP N (L.length+1) q):GoodL N (L++[q]):=by
 intro p hp;rw [List.length_append,List.length_singleton];rcases List.mem_append.1 hp with hp|hp
 ·exact (h p hp).up (by omega)
 ·obtain rfl:=List.mem_singleton.1 hp;exact hq
theorem xk2(N:Nat)(hN:2<=N):∀t:Code,cn t<=N->kdC t=true->lfD t=true->
  ((wfC t).1=true->∀nx L,GoodL N L->nx<L.length->GoodL N ((lay t).1 nx L).2/\((lay t).1 nx L).1<((lay t).1 nx L).2.length)/\
  ((wfC t).2=true->∀nx L,GoodL N L->nx<L.length->(GoodL N ((lay t).2.1 nx L).2/\(∀i∈((lay t).2.1 nx L).1,i<((lay t).2.1 nx L).2.length)/\((lay t).2.1 nx L).1.length<=cn t)/\GoodL N ((lay t).2.2 nx L).2/\((lay t).2.2 nx L).1<((lay t).2.2 nx L).2.length)/\
  ((wfC t).1=true->1<=cn t):=by
 intro t;induction t with
 | exit n=>
  intro hc hk hf;refine ⟨fun _ nx L hL hn=>?_,fun h=>(by cases h),fun _=>Nat.le_refl _⟩;have e:(lay (.exit n)).1 nx L=if n=0 then (nx,L) else if n=1 then (L.length,L++[(none,[])]) else (L.length,L++[(some (.exit n),[nx])]):=rfl
  rw [e];by_cases h0:n=0
  ·rw [if_pos h0];exact ⟨hL,hn⟩
  rw [if_neg h0];by_cases h1:n=1
  ·rw [if_pos h1];exact ⟨hL.snoc (xiw (fun i hi=>by cases hi) (Nat.zero_le _)),by simp⟩
  rw [if_neg h1]
  have hlt:n<386:=by
   have:=of_decide_eq_true hf;omega
  refine ⟨hL.snoc ⟨.inr (.inl ⟨n,by omega,hlt,rfl⟩),fun t e=>(by cases e),fun x y hx hd=>(xf1 (.exit n) hf).1 x y hx hd,fun i hi=>?_,?_⟩,by simp⟩
  ·have:=List.mem_singleton.1 hi;omega
  ·simp;omega
 | scope t ih=>
  intro hc hk hf;refine ⟨fun hw nx L hL hn=>?_,fun h=>(by cases h),fun _=>Nat.le_refl _⟩;have hk2:isT t=true/\kdC t=true:=by simpa [kdC] using hk
  have e:(lay (.scope t)).1 nx L=(L.length,L++[(some (.scope t),[nx])]):=rfl;rw [e];refine ⟨hL.snoc ⟨.inr (.inr ⟨t,rfl⟩),fun u e=>(by cases e;exact ⟨hw,hk2.1,hk2.2⟩),fun x y hx hd=>(xf1 (.scope t) hf).1 x y hx hd,fun i hi=>?_,?_⟩,by simp⟩
  ·have:=List.mem_singleton.1 hi;omega
  ·simp;omega
 | loop t ih=>
  intro hc hk hf;have hc':cn t+1<=N:=hc;obtain ⟨h1,h2,h3⟩:=ih (by omega) hk hf;refine ⟨fun hw nx L hL hn=>?_,fun h=>(by cases h),fun _=>Nat.le_add_left _ _⟩;by_cases hl:xj3 t=true
  ·rw [xk6 hl];exact h1 hw nx L hL hn
  ·rw [xk7 (by simpa using hl)];obtain ⟨g1,g2⟩:=h1 hw L.length (L++[(none,[])]) (hL.snoc (xiw (fun i hi=>by cases hi) (Nat.zero_le _))) (by simp);have hlen:=((xk5 t L.length (L++[(none,[])])).1).1;rw [List.length_append,List.length_singleton] at hlen;refine ⟨fun q hq=>?_,by rw [List.length_set];show L.length<_;omega⟩;rw [List.length_set];rcases List.mem_or_eq_of_mem_set hq with hq|rfl
   ·exact g1 q hq
   ·refine xiw (fun i hi=>?_) (by simp;omega);rcases List.mem_cons.1 hi with rfl|hi
    ·show i<_;omega
    ·have:=List.mem_singleton.1 hi;rw [this];exact g2
 | block k l ih=>
  intro hc hk hf;have hc':cn l+1<=N:=hc;have hk2:k<=1/\kdC l=true:=by simpa [kdC] using hk
  obtain ⟨h1,h2,h3⟩:=ih (by omega) hk2.2 hf;refine ⟨fun hw nx L hL hn=>?_,fun h=>(by cases h),fun _=>Nat.le_add_left _ _⟩;obtain ⟨⟨g1,g2,g3⟩,g4,g5⟩:=h2 hw nx L hL hn;have e:(lay (.block k l)).1 nx L=if k=0 then (((lay l).2.1 nx L).2.length,((lay l).2.1 nx L).2++[(none,((lay l).2.1 nx L).1)]) else (lay l).2.2 nx L:=rfl
  rw [e];by_cases h0:k=0
  ·rw [if_pos h0];exact ⟨g1.snoc (xiw (fun i hi=>Nat.lt_succ_of_lt (g2 i hi)) (by omega)),by simp⟩
  ·rw [if_neg h0];exact ⟨g4,g5⟩
 | seq a l iha ihl=>
  intro hc hk hf;have hc':cn a+cn l<=N:=hc;have hk2:kdC a=true/\kdC l=true:=by simpa [kdC] using hk
  have hf2:lfD a=true/\lfD l=true:=by simpa [lfD] using hf
  obtain ⟨a1,a2,a3⟩:=iha (by omega) hk2.1 hf2.1;obtain ⟨l1,l2,l3⟩:=ihl (by omega) hk2.2 hf2.2;refine ⟨fun h=>(by cases h),fun hw nx L hL hn=>?_,fun h=>(by cases h)⟩;have hw2:(wfC a).1=true/\(wfC l).2=true:=by simpa [wfC] using hw
  obtain ⟨p1,p2⟩:=a1 hw2.1 nx L hL hn;have len1:=((xk5 a nx L).1).1;obtain ⟨⟨g1,g2,g3⟩,_,_⟩:=l2 hw2.2 nx ((lay a).1 nx L).2 p1 (by omega);have len2:=((xk5 l nx ((lay a).1 nx L).2).2.1).1;obtain ⟨_,g4,g5⟩:=l2 hw2.2 nx L hL hn;refine ⟨⟨g1,fun i hi=>?_,?_⟩,a1 hw2.1 _ _ g4 g5⟩
  ·rcases List.mem_cons.1 hi with rfl|hi
   ·exact Nat.lt_of_lt_of_le p2 len2
   ·exact g2 i hi
  ·have:=a3 hw2.1;show (_::((lay l).2.1 nx ((lay a).1 nx L).2).1).length<=cn a+cn l;rw [List.length_cons];omega
 | skip=>
  intro hc hk hf;exact ⟨fun h=>(by cases h),fun _ nx L hL hn=>⟨⟨hL,fun i hi=>(by cases hi),Nat.zero_le _⟩,hL,hn⟩,fun h=>(by cases h)⟩
 | _=>intro hc hk hf;exact ⟨fun h=>(by cases h),fun h=>(by cases h),fun h=>(by cases h)⟩
theorem xn6{L:List Plc}(h:∀q∈L,plK q.1/\plG q.1)(s t:Spt):t∈nextS L s↔stepP L s t:=by
 unfold nextS stepP;cases hq:L[s.1]? with
 | none=>simp
 | some q=>
  have hg:=h q (List.mem_of_getElem? hq);constructor
  ·intro ht;refine ⟨q,rfl,?_⟩;dsimp only at ht;cases hz:plcD q.1 s.2 with
   | none=>rw [hz] at ht;cases ht
   | some y=>
    rw [hz] at ht;obtain ⟨n,hn,rfl⟩:=List.mem_map.1 ht;exact ⟨(xr8 q.1 hg.1 hg.2 s.2 y).1 hz,hn⟩
  ·rintro ⟨q',e,hd,hm⟩;cases e;dsimp only;rw [(xr8 q.1 hg.1 hg.2 s.2 t.2).2 hd];exact List.mem_map.2 ⟨t.1,hm,rfl⟩
theorem xh6(N:Nat)(hN:2<=N)(t:Code)(hc:cn t<=N)(hw:(wfC t).1=true)(hk:kdC t=true)(hf:lfD t=true):GoodL N (xh4 t).2/\(xh4 t).1<(xh4 t).2.length:=
 (xk2 N hN t hc hk hf).1 hw 0 [(none,[])] (fun q hq=>by obtain rfl:=List.mem_singleton.1 hq;exact xiw (fun i hi=>by cases hi) (Nat.zero_le _)) (by simp)
theorem xh8(N:Nat)(hN:2<=N)(t:Code)(hc:cn t<=N)(hw:(wfC t).1=true)(hk:kdC t=true)(hf:lfD t=true):FlowOK (xh4 t).2:=by
 obtain ⟨hg,_⟩:=xh6 N hN t hc hw hk hf;have hs:=xn6 (L:=(xh4 t).2) (fun q hq=>⟨(hg q hq).1,(hg q hq).2.1⟩);refine ⟨hs,fun s u h1 h2 hu=>?_,fun x=>?_⟩
 ·obtain ⟨q,hq,hd,hm⟩:=(hs s u).1 hu;have hgq:=hg q (List.mem_of_getElem? hq);exact ⟨hgq.2.2.2.1 _ hm,hgq.2.2.1 _ _ h2 hd⟩
 ·have h0:(xh4 t).2[0]?=some (none,[]):=(xk3 t 0 [(none,[])]).1 0 (by simp);unfold nextS;rw [h0];dsimp only;split<;>rfl
theorem xh7(t:Code):1<=(xh4 t).2.length/\(xh4 t).2.length<=1+cn t:=(xk5 t 0 [(none,[])]).1
end Go.Proofs.YtlhkfafdioakeaaGreatDoor
