/- Parts of the proof. -/
import Derived.Test.YtlhkfafdioakeaaGreatDoorSf09
import Derived.Test.YtlhkfafdioakeaaGreatDoorSf10
import Derived.Test.YtlhkfafdioakeaaGreatDoorShelfC
import Derived.Test.YtlhkfafdioakeaaGreatDoorShelfS
import Derived.Laws.AppendOwnNone
import Derived.Sort.Row
import Derived.Sort.Grow
import Derived.Lib.SlicesCompact
import Derived.Deep.RegionHeld3
import Derived.Deep.RegionLaw
import Derived.Deep.DeepCutAuto
namespace Go.Proofs.YtlhkfafdioakeaaGreatDoor
set_option maxRecDepth 100000
set_option maxHeartbeats 2000000
open Go.RowKit Go.Weft
set_option linter.unusedVariables false
set_option linter.unusedSimpArgs false
@[go_sem] theorem Tryz.okAsLeafTest(a:Array Value)(w:World):Sem.run Tryz.prog (Instr.typeAssert (.iface 317 (.agg a)) 101 177 true) w=.ok (.tuple #[.agg #[.int .i64 0,.int .i64 0],.bool false]) w:=by kernel_rfl
@[go_sem] theorem Tryz.okAsLeafSetting(a:Array Value)(w:World):Sem.run Tryz.prog (Instr.typeAssert (.iface 317 (.agg a)) 101 178 true) w=.ok (.tuple #[.agg #[.int .i64 0,.int .i64 0],.bool false]) w:=by kernel_rfl
@[go_sem] theorem Tryz.okAsLeafGroup(a:Array Value)(w:World):Sem.run Tryz.prog (Instr.typeAssert (.iface 317 (.agg a)) 101 234 true) w=.ok (.tuple #[.agg #[.int .i64 0,.slice none 0 0],.bool false]) w:=by kernel_rfl
@[go_sem] theorem Tryz.okAsTestTest(a:Array Value)(w:World):Sem.run Tryz.prog (Instr.typeAssert (.iface 177 (.agg a)) 101 177 true) w=.ok (.tuple #[.agg a,.bool true]) w:=by kernel_rfl
@[go_sem] theorem Tryz.okAsTestSetting(a:Array Value)(w:World):Sem.run Tryz.prog (Instr.typeAssert (.iface 177 (.agg a)) 101 178 true) w=.ok (.tuple #[.agg #[.int .i64 0,.int .i64 0],.bool false]) w:=by kernel_rfl
@[go_sem] theorem Tryz.okAsTestGroup(a:Array Value)(w:World):Sem.run Tryz.prog (Instr.typeAssert (.iface 177 (.agg a)) 101 234 true) w=.ok (.tuple #[.agg #[.int .i64 0,.slice none 0 0],.bool false]) w:=by kernel_rfl
@[go_sem] theorem Tryz.okAsSettingTest(a:Array Value)(w:World):Sem.run Tryz.prog (Instr.typeAssert (.iface 178 (.agg a)) 101 177 true) w=.ok (.tuple #[.agg #[.int .i64 0,.int .i64 0],.bool false]) w:=by kernel_rfl
@[go_sem] theorem Tryz.okAsSettingSetting(a:Array Value)(w:World):Sem.run Tryz.prog (Instr.typeAssert (.iface 178 (.agg a)) 101 178 true) w=.ok (.tuple #[.agg a,.bool true]) w:=by kernel_rfl
@[go_sem] theorem Tryz.okAsSettingGroup(a:Array Value)(w:World):Sem.run Tryz.prog (Instr.typeAssert (.iface 178 (.agg a)) 101 234 true) w=.ok (.tuple #[.agg #[.int .i64 0,.slice none 0 0],.bool false]) w:=by kernel_rfl
@[go_sem] theorem Tryz.okAsGroupTest(a:Array Value)(w:World):Sem.run Tryz.prog (Instr.typeAssert (.iface 234 (.agg a)) 101 177 true) w=.ok (.tuple #[.agg #[.int .i64 0,.int .i64 0],.bool false]) w:=by kernel_rfl
@[go_sem] theorem Tryz.okAsGroupSetting(a:Array Value)(w:World):Sem.run Tryz.prog (Instr.typeAssert (.iface 234 (.agg a)) 101 178 true) w=.ok (.tuple #[.agg #[.int .i64 0,.int .i64 0],.bool false]) w:=by kernel_rfl
@[go_sem] theorem Tryz.okAsGroupGroup(a:Array Value)(w:World):Sem.run Tryz.prog (Instr.typeAssert (.iface 234 (.agg a)) 101 234 true) w=.ok (.tuple #[.agg a,.bool true]) w:=by kernel_rfl
def xcc:Code->List Nat
 | .exit n=>if n<=1 then [] else [n]
 | .loop t=>xcc t
 | .scope t=>xcc t
 | .block _ l=>xcc l
 | .seq a l=>xcc a++xcc l
 | _=>[]
def xch:List Code->List Nat
 | []=>[]
 | t::es=>xcc t++xch es
theorem xci{ok:Nat->Prop}{w:World}{l:Code}{g i n:Nat}(h:(TV ok w l).2 g i n):xch (elems l)=xcc l:=by
 induction l generalizing i n with
 | seq a b _ ih=>
  obtain ⟨n',x,_,_,_,h4⟩:=h;simp only [elems,xch,xcc,ih h4]
 | skip=>rfl
 | _=>exact h.elim
theorem xcj(t:Code):∀es:List Code,xch (es++[t])=xch es++xcc t
 | []=>by simp [xch]
 | a::es=>by show xcc a++xch (es++[t])=(xcc a++xch es)++xcc t;rw [xcj t es,List.append_assoc]
theorem xck(es:List Code):∀k,(xch (es.take k)).length<=(xch es).length:=by
 induction es with
 | nil=>intro k;simp [xch]
 | cons a es ih=>
  intro k;cases k with
  | zero=>simp [xch]
  | succ k=>simp only [List.take_succ_cons,xch,List.length_append];have:=ih k;omega
theorem xce{t l:Code}(h:t∈elems l):(xcc t).length<=(xcc l).length:=by
 induction l with
 | seq a b _ ih=>
  simp only [elems,List.mem_cons] at h;simp only [xcc,List.length_append];rcases h with rfl|h
  ·omega
  ·have:=ih h;omega
 | _=>cases h
def AtO(l:List Nat)(w:World)(x:Ending)(w':World):Prop:=∃v,x=.returned v/\w'.ownsRow w.heap.size 101 1 v l.length (l.map leafV)/\w.grownBy w' none
theorem xld(n:Nat):∃T a,leafV n=.iface T (.agg a):=by
 unfold leafV;split
 ·exact ⟨_,_,rfl⟩
 ·split
  ·exact ⟨_,_,rfl⟩
  ·split<;>exact ⟨_,_,rfl⟩
theorem xcr(n:Nat)(w:World)(hn:n<=1):Calls Tryz.prog 90 #[leafV n] w (AtO [] w):=by
 have hv:∃k,leafV n=.iface 317 (.agg #[.int .i64 k]):=by
  unfold leafV;by_cases h0:n=0
  ·rw [if_pos h0];exact ⟨_,rfl⟩
  ·rw [if_neg h0,if_pos (by omega)];exact ⟨_,rfl⟩
 obtain ⟨k,hv⟩:=hv;rw [hv];clear hv;go_enter Tryz.func90,Tryz.ntmps90;go_wp2;go_ret;exact ⟨_,rfl,World.ownsRow_nil _ _ _ _,xjb _ _⟩
theorem xcn(n:Nat)(w:World)(hn:1<n):Calls Tryz.prog 90 #[leafV n] w (AtO [n] w):=by
 obtain ⟨i0,hi0,hz0,hz1,hz2⟩:=info_parts Tryz.infoNode
 have hv:(∃a b,leafV n=.iface 177 (.agg #[.int .i64 a,.int .i64 b]))\/(∃a b,leafV n=.iface 178 (.agg #[.int .i64 a,.int .i64 b])):=by
  unfold leafV;rw [if_neg (by omega),if_neg (by omega)];split
  ·exact .inl ⟨_,_,rfl⟩
  ·exact .inr ⟨_,_,rfl⟩
 rcases hv with ⟨a,b,hv⟩|⟨a,b,hv⟩
 all_goals
  have HV:=hide hv;rw [hv];clear hv;go_enter Tryz.func90,Tryz.ntmps90;go_wp2_with (at_builtin;refine wpList_append_own_at _ rfl _ _ 172 rfl w.heap.size 101 i0 _ 1 16 Tryz.underlying172 hi0 hz0 hz1 hz2 rfl (by decide) _ _ _ rfl (World.ownsRow_nil _ _ _ _) ⟨w.heap.size,0,none⟩ 1 1 [_] rfl rfl (cell_one_new _ _ _) ?d2 ?d3 ?d4 ?d5 ?_)
  case d2=>intro u hu;simp at hu;subst hu;rfl
  case d3=>decide
  case d4=>omega
  case d5=>simp
  intro v' w2 hown' hgrow _ _;have O:=hide hown';have G:=hide (xje (World.grownBy_alloc w _ none) hgrow);clear hown' hgrow;go_wp2;go_ret;refine ⟨_,rfl,?_,G.out⟩;have:=O.out;simp only [List.map_cons,List.map_nil,HV.out];simpa using this
theorem xud{w:World}{B T n:Nat}{v:Value}{xs:List Value}(h:w.ownsRow B T 1 v n xs):(v=.slice none 0 0/\n=0/\xs=[])\/∃g cap,v=.slice (some ⟨g,0,none⟩) n cap/\B<=g/\xs.length=n*1/\(∀j u,xs[j]?=some u->w.cell? ((⟨g,0,none⟩:Addr).add j)=some u):=by
 rcases h.2 with ⟨rfl,rfl⟩|⟨g,cap,cur,rfl,hb,_⟩
 ·exact .inl ⟨rfl,rfl,by have:=h.1;simpa using this⟩
 ·exact .inr ⟨g,cap,rfl,hb,h.1,h.cells rfl⟩
theorem xcp(kd:Int)(g cap:Nat)(es:List Code)(vals:Nat->Value)(w:World)(hn:es.length<=1000)(ha:(xch es).length<=1000000)
  (hc:∀j,j<es.length->w.cell? ⟨g,j,none⟩=some (vals j)) (hv:∀j,j<es.length->∃T u,vals j=.iface T u)
  (ih:∀j (hj:j<es.length),∀ww,w.grownBy ww none->Calls Tryz.prog 90 #[vals j] ww (AtO (xcc es[j]) ww)):
  Calls Tryz.prog 90 #[xi2 kd g es.length cap] w (AtO (xch es) w):=by
 obtain ⟨i0,hi0,hz0,hz1,hz2⟩:=info_parts Tryz.infoNode;have HC:=hide hc;have HV:=hide hv;have IH:=hide ih;clear hc hv ih;unfold xi2;go_enter Tryz.func90,Tryz.ntmps90;go_wp2_with fail;go_loopw [3,26] (fun s3 s26 wr=>∃k:Nat,k<=es.length/\s26=.int .i64 k/\wr.ownsRow w.heap.size 101 1 s3 (xch (es.take k)).length ((xch (es.take k)).map leafV)/\w.grownBy wr none) (fun _ s26 _=>es.length-(intOf s26).toNat)
 case atStart=>exact ⟨0,by omega,rfl,World.ownsRow_nil _ _ _ _,World.grownBy_alloc _ _ _⟩
 case round=>
  obtain ⟨k,hk,rfl,ho,hg⟩:=hrel;obtain ⟨A,hA⟩:∃A,A=xch (es.take k):=⟨_,rfl⟩;rw [<-hA] at ho;have O:=hide ho;have G:=hide hg;have HA:=hide hA;obtain ⟨oa,oc,rfl⟩:=xqm ho;have hAl:A.length<=1000000:=by rw [hA];exact Nat.le_trans (xck es k) ha
  clear ho hg hA;by_cases hlt:k<es.length
  ·obtain ⟨T,u,hTu⟩:=HV.out k hlt;have hcx:wr.cell? ⟨g,k,none⟩=some (.iface T u):=by rw [<-hTu];exact G.out.cell (HC.out k hlt) (by simp)
   have CALL:Hid (Calls Tryz.prog 90 #[.iface T u] wr (AtO (xcc es[k]) wr)):=by
    have:=IH.out k hlt wr G.out;rw [hTu] at this;exact this
   have SN:Hid (xch (es.take (k+1))=A++xcc es[k]):=by
    show _=_;rw [List.take_succ_eq_append_getElem hlt,xcj,<-HA.out]
   have hSl:(xch (es.take (k+1))).length<=1000000:=Nat.le_trans (xck es (k+1)) ha;rw [SN.out,List.length_append] at hSl;obtain ⟨Z,hZ⟩:∃Z,Z=xcc es[k]:=⟨_,rfl⟩;rw [<-hZ] at CALL SN hSl;clear hZ hTu;go_wp2_with fail;refine CALL.out.mono ?_;rintro x w1 ⟨v1,rfl,o1,g1⟩;have O1:=hide (O.out.kept g1 (by cases h:(Value.slice oa A.length oc).ownBlock with|none=>exact .inl rfl|some b=>exact .inr (by simp)));have hsz:=g1.size;have hsz0:=G.out.size;have G1:=hide (xje G.out g1);clear g1;rcases xud o1 with ⟨rfl,hz,hzz⟩|⟨g2,c2,rfl,hb2,hl2,hcs⟩
   ·have hZ0:Z=[]:=List.eq_nil_of_length_eq_zero hz;subst hZ0;clear o1 hz hzz;go_wp2_with (at_builtin;refine wpList_append_own_none rfl _ _ 172 rfl w.heap.size 101 i0 1 Tryz.underlying172 hi0 _ _ _ rfl O1.out rfl ?_);go_wp2;go_roundw
    case rel=>
     refine ⟨k+1,by omega,by go_num,?_,G1.out⟩;rw [SN.out,List.append_nil];exact O1.out
    case measure=>simp [intOf];omega
   ·have HCS:=hide hcs;clear o1 hcs;go_wp2_with (at_builtin;refine wpList_append_own_at _ rfl _ _ 172 rfl w.heap.size 101 i0 _ 1 16 Tryz.underlying172 hi0 hz0 hz1 hz2 rfl (by decide) _ _ _ rfl O1.out ⟨g2,0,none⟩ Z.length c2 (Z.map leafV) rfl hl2 HCS.out ?d2 ?d3 ?d4 ?d5 ?_)
    case d2=>
     intro u hu;obtain ⟨m,_,rfl⟩:=List.mem_map.1 hu;obtain ⟨T,a,e⟩:=xld m;rw [e];rfl
    case d3=>unfold maxLen;omega
    case d4=>omega
    case d5=>omega
    intro v' w2 hown' hgrow _ _;obtain ⟨va,vc,rfl⟩:=xqm hown';have O2:=hide hown';have G2:=hide (xja G1.out hgrow (fun b e=>(O1.out.lt b e).1));clear hown' hgrow HCS;go_wp2;go_roundw
    case rel=>
     refine ⟨k+1,by omega,by go_num,?_,G2.out⟩;rw [SN.out,List.length_append,List.map_append];exact O2.out
    case measure=>simp [intOf];omega
  ·obtain rfl:k=es.length:=by omega
   have EA:Hid (A=xch es):=by
    show _=_;rw [HA.out,List.take_length]
   go_wp2;go_ret;refine ⟨_,rfl,?_,G.out⟩;rw [<-EA.out];exact O.out
theorem xcm(ok:Nat->Prop):∀(n:Nat) (t:Code) (v:Value) (w:World),szC t<=n->(TV ok w t).1 v->(xcc t).length<=1000000->Calls Tryz.prog 90 #[v] w (AtO (xcc t) w):=by
 intro n;induction n with
 | zero=>
  intro t v w hn h ha;cases t with
  | exit m=>
   obtain ⟨rfl,_⟩:=h;show Calls _ _ _ _ (AtO (if m<=1 then [] else [m]) w);by_cases hm:m<=1
   ·rw [if_pos hm];exact xcr m w hm
   ·rw [if_neg hm];exact xcn m w (by omega)
  | loop t=>simp [szC] at hn
  | scope t=>simp [szC] at hn
  | block k l=>simp [szC] at hn
  | _=>exact h.elim
 | succ n ih=>
  intro t v w hn h ha
  have one:∀(kd:Int) (t:Code) (g cap:Nat) (x:Value),szC t<=n->(xcc t).length<=1000000->w.cell? ⟨g,0,none⟩=some x->(TV ok w t).1 x->Calls Tryz.prog 90 #[xi2 kd g 1 cap] w (AtO (xcc t) w):=by
   intro kd t g cap x hs hat hc hx
   have:=xcp kd g cap [t] (fun _=>x) w (by simp) (by simpa [xch] using hat) (fun j hj=>by have:j=0:=by simpa using hj
                                                                                          rw [this];exact hc) (fun j hj=>xam hx) (fun j hj ww hg=>by
    have hj0:j=0:=by simpa using hj
    subst hj0;exact ih t x ww hs (xan hx hg) hat)
   simpa [xch] using this
  cases t with
  | exit m=>
   obtain ⟨rfl,_⟩:=h;show Calls _ _ _ _ (AtO (if m<=1 then [] else [m]) w);by_cases hm:m<=1
   ·rw [if_pos hm];exact xcr m w hm
   ·rw [if_neg hm];exact xcn m w (by omega)
  | loop t=>obtain ⟨g,cap,x,rfl,_,hc,hx⟩:=h;exact one 2 t g cap x (by simp only [szC] at hn;omega) ha hc hx
  | scope t=>obtain ⟨g,cap,x,rfl,_,hc,hx⟩:=h;exact one 3 t g cap x (by simp only [szC] at hn;omega) ha hc hx
  | block k l=>
   obtain ⟨g,m,cap,rfl,hk,_,hm,_,hl⟩:=h;obtain ⟨hlen,hel⟩:=xak hl;have he:=xci hl;simp only [szC] at hn;have ha':(xcc l).length<=1000000:=ha
   have hcell:∀j (hj:j<(elems l).length),w.cell? ⟨g,j,none⟩=some ((w.cell? ⟨g,j,none⟩).getD undef)/\(TV ok w (elems l)[j]).1 ((w.cell? ⟨g,j,none⟩).getD undef):=by
    intro j hj;obtain ⟨x,h1,h2⟩:=hel j hj;rw [Nat.zero_add] at h1;rw [h1];exact ⟨rfl,h2⟩
   have:=xcp (k:Int) g cap (elems l) (fun j=>(w.cell? ⟨g,j,none⟩).getD undef) w (by omega) (by rw [he];exact ha') (fun j hj=>(hcell j hj).1) (fun j hj=>xam (hcell j hj).2)
    (fun j hj ww hg=>ih _ _ ww (by have:=xyh (List.getElem_mem hj);omega) (xan (hcell j hj).2 hg) (Nat.le_trans (xce (List.getElem_mem hj)) ha'))
   rw [he,hlen] at this;exact this
  | _=>exact h.elim
def intZ(l:List Int):List Value:=l.map (Value.int .i64)
theorem xjv(l:List Int)(j:Nat)(h:j<l.length):(intZ l)[j]?=some (.int .i64 (l.getD j 0)):=by
 simp [intZ,List.getD,h]
theorem row_holds{w:World}{B g cap:Nat}{zs:List Int}(h:w.ownsRow B 3 1 (.slice (some ⟨g,0,none⟩) zs.length cap) zs.length (intZ zs)):Sort.Holds (Value.int .i64) w g 0 zs.toArray:=by
 intro j hj;have hj':j<zs.length:=by simpa using hj
 rw [Nat.zero_add];refine ⟨?_,h.frozenAt j⟩;rw [h.cellAt j (by omega),xjv zs j hj'];simp [hj',getElem!_pos,List.getD]
theorem xuh{w:World}{B g cap:Nat}{xs:List Value}{n:Nat}(h:w.ownsRow B 3 1 (.slice (some ⟨g,0,none⟩) n cap) n xs)(ys:List Int)(hy:ys.length=n)(q:Nat)(os:Array Obj):
  (Sort.grow (Sort.putRow (Value.int .i64) (Sort.ahead w q) g 0 ys.toArray) os).ownsRow B 3 1 (.slice (some ⟨g,0,none⟩) n cap) n (intZ ys)/\w.grownBy (Sort.grow (Sort.putRow (Value.int .i64) (Sort.ahead w q) g 0 ys.toArray) os) (some g):=by
 rcases h.2 with ⟨e,_⟩|⟨g',cap',cur,e,hb,hg,hn,hc,hs,ht⟩
 ·cases e
 cases e;have hgl:=(Array.getElem?_eq_some_iff.1 hg).1;refine ⟨⟨by simp [intZ,hy],.inr ⟨g,cap,Sort.putCells (Value.int .i64) 0 ys.toArray cur,rfl,hb,?_,hn,hc,by simp [Sort.putCells,hs],?_⟩⟩,⟨rfl,rfl,rfl,by simp [Sort.grow,Sort.putRow,Sort.mapBlock,Sort.ahead],fun k hk hne=>?_⟩⟩
 ·show ((Sort.putRow (Value.int .i64) (Sort.ahead w q) g 0 ys.toArray).heap++os)[g]?=_;rw [Array.getElem?_append_left (by simp [Sort.putRow,Sort.mapBlock,Sort.ahead];exact hgl)];simp [Sort.putRow,Sort.mapBlock,Sort.ahead,Array.getElem?_modify,hg,Sort.onCells]
 ·apply List.ext_getElem?;intro j;rw [List.getElem?_take];by_cases hj:j<n*1
  ·rw [if_pos hj];have hj2:j<cur.size:=by rw [hs];omega
   have hj3:j<ys.length:=by omega
   rw [xjv ys j hj3];simp [Sort.putCells,hj2,hj3,List.getD,getElem!_pos]
  ·rw [if_neg hj];symm;rw [List.getElem?_eq_none_iff];simp [intZ];omega
 ·show ((Sort.putRow (Value.int .i64) (Sort.ahead w q) g 0 ys.toArray).heap++os)[k]?=_;rw [Array.getElem?_append_left (by simp [Sort.putRow,Sort.mapBlock,Sort.ahead];exact hk)];have:g≠k:=fun e=>hne (by rw [e])
  simp [Sort.putRow,Sort.mapBlock,Sort.ahead,Array.getElem?_modify,this]
theorem xue{w:World}{B g cap:Nat}{n m:Nat}{zs:List Int}(h:w.ownsRow B 3 1 (.slice (some ⟨g,0,none⟩) n cap) n (intZ zs))(hm:m<=n):w.ownsRow B 3 1 (.slice (some ⟨g,0,none⟩) m cap) m (intZ (zs.take m)):=by
 have hl:=h.1;simp [intZ] at hl;rcases h.2 with ⟨e,_⟩|⟨g',cap',cur,e,hb,hg,hn,hc,hs,ht⟩
 ·cases e
 cases e;refine ⟨by simp [intZ];omega,.inr ⟨g,cap,cur,rfl,hb,hg,by omega,hc,hs,?_⟩⟩;have e1:intZ (zs.take m)=(intZ zs).take m:=by simp [intZ,List.map_take]
 rw [e1,<-ht,List.take_take];congr 1;omega
def LM(zs:List Int)(r:Nat):Prop:=(∀v:Nat,v<r->((v:Nat):Int)∈zs)/\((r:Nat):Int)∉zs
theorem xox:∀(l zs:List Int),l.Nodup->(∀x,x∈l->x∈zs)->l.length<=zs.length
 | [],zs,_,_=>Nat.zero_le _
 | a::l,zs,hn,hs=>by
  have ha:a∈zs:=hs a (by simp);rw [List.nodup_cons] at hn;have h1:=xox l (zs.erase a) hn.2 (fun x hx=>(List.mem_erase_of_ne (show x≠a from fun e=>hn.1 (e ▸ hx))).2 (hs x (by simp [hx])));rw [List.length_erase_of_mem ha] at h1;have:0<zs.length:=List.length_pos_of_mem ha;simp only [List.length_cons];omega
theorem x0n(zs:List Int)(v:Nat)(h:∀u:Nat,u<v->((u:Nat):Int)∈zs):v<=zs.length:=by
 have:=xox ((List.range v).map fun (u:Nat)=>(u:Int)) zs (by
  rw [List.Nodup,List.pairwise_map];exact List.nodup_range.imp (fun hne e=>hne (by omega))) (fun x hx=>by
  obtain ⟨u,hu,rfl⟩:=List.mem_map.1 hx;exact h u (List.mem_range.1 hu))
 simpa using this
theorem xfb(B:Nat)(v:Value)(zs:List Int)(x:Int)(w:World)(h:w.ownsRow B 3 1 v zs.length (intZ zs))(hl:zs.length<=1000000):
  Calls Tryz.prog 148 #[v,.int .i64 x] w fun e w'=>e=.returned (.bool (zs.contains x))/\w'=w:=by
 rcases h.2 with ⟨rfl,h0⟩|⟨g,cap,cur,rfl,hb,hg,hn,hc,hs,ht⟩
 ·have:zs=[]:=List.eq_nil_of_length_eq_zero h0;subst this;exact Tryz.slices_Contains_int_empty none 0 x w
 ·have:=Tryz.slices_Contains_int g 0 zs.length cap zs x w (Nat.le_refl _) (by omega) (fun j hj=>by
   rw [Nat.zero_add,h.cellAt j (by omega),xjv zs j hj])
  rwa [List.take_length] at this
theorem xjm(B:Nat)(v:Value)(zs:List Int)(w:World)(h:w.ownsRow B 3 1 v zs.length (intZ zs))(hl:zs.length<=1000000):
  Calls Tryz.prog 92 #[v] w fun e w'=>∃v',e=.returned v'/\w'.ownsRow B 3 1 v' (Lib.compact zs).length (intZ (Lib.compact zs))/\v'.ownBlock=v.ownBlock/\w.grownBy w' v.ownBlock:=by
 rcases h.2 with ⟨rfl,h0⟩|⟨g,cap,cur,rfl,hb,hg,hn,hc,hs,ht⟩
 ·have:zs=[]:=List.eq_nil_of_length_eq_zero h0;subst this;refine (Tryz.slices_Compact_int_empty none 0 w).mono ?_;rintro e w' ⟨rfl,rfl⟩;exact ⟨_,rfl,h,rfl,xjb _ _⟩
 ·refine (Tryz.slices_Compact_int g 0 cap zs w (row_holds h) (by omega) hn).mono ?_;rintro e w' ⟨rfl,q,rfl⟩;have hcl:(Lib.compact zs).length<=zs.length:=Lib.compact_length_le zs;have hp:=xuh h (Lib.compact zs++List.replicate (zs.length-(Lib.compact zs).length) 0) (by simp;omega) q #[];rw [Sort.grow_empty] at hp;refine ⟨_,rfl,?_,rfl,hp.2⟩;have:=xue hp.1 hcl;rwa [List.take_left'] at this;rfl
theorem xlj(B:Nat)(v:Value)(zs:List Int)(w:World)(h:w.ownsRow B 3 1 v zs.length (intZ zs))(hl:zs.length<=1000000):
  Calls Tryz.prog 93 #[v] w fun e w'=>∃r:Nat,e=.returned (.int .i64 (r:Int))/\LM zs r/\w'=w:=by
 have HC:=hide (fun x=>xfb B v zs x w h hl);clear h;go_enter Tryz.func93,Tryz.ntmps93;go_wp2_with fail;go_loopw [3] (fun s3 wr=>wr=w/\∃r:Nat,s3=.int .i64 r/\∀u:Nat,u<r->((u:Nat):Int)∈zs) (fun s3 _=>zs.length-(intOf s3).toNat)
 case atStart=>exact ⟨rfl,0,rfl,fun u hu=>by omega⟩
 case round=>
  obtain ⟨rfl,r,rfl,hall⟩:=hrel;have hr:=x0n zs r hall;have HA:=hide hall;clear hall;by_cases hc:(r:Int)∈zs
  ·have hcb:zs.contains (r:Int)=true:=by simpa using hc
   have HR:Hid (r<zs.length):=by
    have:=x0n zs (r+1) (fun u hu=>by
     by_cases e:u=r
     ·rw [e];exact hc
     ·exact HA.out u (by omega))
    exact this
   have CALL:=hide (HC.out (r:Int));rw [hcb] at CALL;clear hcb;go_wp2_with fail;refine CALL.out.mono ?_;rintro x w1 ⟨rfl,rfl⟩;go_wp2;go_roundw
   case rel=>exact ⟨by trivial,r+1,by go_num,fun u hu=>by
    by_cases e:u=r
    ·rw [e];exact hc
    ·exact HA.out u (by omega)⟩
   case measure=>have:=HR.out;simp [intOf];omega
  ·have hcb:zs.contains (r:Int)=false:=by simpa using hc
   have CALL:=hide (HC.out (r:Int));rw [hcb] at CALL;clear hcb;go_wp2_with fail;refine CALL.out.mono ?_;rintro x w1 ⟨rfl,rfl⟩;go_wp2;go_ret;exact ⟨r,rfl,⟨HA.out,hc⟩,rfl⟩
def mkBlk(w:World)(b N:Nat)(T:TypeId)(c:Nat->Value):Prop:=w.heap[b]?=some (.cells ((List.range N).map c).toArray T (0,0))
def updF{α:Type}(c:Nat->α)(j:Nat)(v:α):Nat->α:=fun i=>if i=j then v else c i
theorem x0h{α:Type}(c:Nat->α)(j:Nat)(v:α):updF c j v j=v:=if_pos rfl
theorem x0g{α:Type}(c:Nat->α){i j:Nat}(v:α)(h:i≠j):updF c j v i=c i:=if_neg h
theorem mkBlk.lt{w:World}{b N:Nat}{T:TypeId}{c:Nat->Value}(h:mkBlk w b N T c):b<w.heap.size:=(Array.getElem?_eq_some_iff.1 h).1
theorem mkBlk.cell{w:World}{b N:Nat}{T:TypeId}{c:Nat->Value}(h:mkBlk w b N T c)(j:Nat)(hj:j<N):w.cell? ⟨b,j,none⟩=some (c j):=by
 unfold mkBlk at h;simp [World.cell?,h,hj]
theorem mkBlk.frozen{w:World}{b N:Nat}{T:TypeId}{c:Nat->Value}(h:mkBlk w b N T c)(j:Nat):w.frozen? ⟨b,j,none⟩=false:=by
 unfold mkBlk at h;simp [World.frozen?,h]
theorem mkBlk.kept{w w':World}{b N:Nat}{T:TypeId}{c:Nat->Value}{row:Option Nat}(h:mkBlk w b N T c)(hg:w.grownBy w' row)(hr:row≠some b):mkBlk w' b N T c:=(hg.block b h.lt (fun e=>hr e.symm)).trans h
theorem mkBlk.set{w:World}{b N:Nat}{T:TypeId}{c:Nat->Value}(h:mkBlk w b N T c)(j:Nat)(v:Value):mkBlk (w.setCell ⟨b,j,none⟩ v) b N T (updF c j v):=by
 unfold mkBlk at h ⊢;rw [xjh h j v];congr 2;apply Array.ext
 ·simp
 ·intro i h1 h2;simp only [List.size_toArray,List.length_map,List.length_range] at h2;simp [Array.getElem_setIfInBounds,updF];by_cases e:j=i
  ·simp [e]
  ·simp [e,show ¬i=j from fun h=>e h.symm]
theorem mkBlk.cong{w:World}{b N:Nat}{T:TypeId}{c d:Nat->Value}(h:mkBlk w b N T c)(hc:∀j,j<N->c j=d j):mkBlk w b N T d:=by
 unfold mkBlk at h ⊢;rw [h];congr 3;apply List.map_congr_left;intro j hj;exact hc j (List.mem_range.1 hj)
structure MkR(B:Nat)(w:World)(r:Nat->Value)(C:Nat->List Int):Prop where
 row:∀i,i<12->w.ownsRow B 3 1 (r i) (C i).length (intZ (C i))
 sep:∀i j,i<12->j<12->i≠j->∀b,(r i).ownBlock=some b->(r j).ownBlock≠some b
theorem MkR.kept{B:Nat}{w w':World}{r:Nat->Value}{C:Nat->List Int}{row:Option Nat}(h:MkR B w r C)(hg:w.grownBy w' row)(hr:∀b cs T fz,row=some b->w.heap[b]?=some (.cells cs T fz)->T≠3):MkR B w' r C:=
 ⟨fun i hi=>xql (h.row i hi) (fun g cs hv hb=>hg.block g (Array.getElem?_eq_some_iff.1 hb).1 (fun e=>hr g _ _ _ e.symm hb rfl)),h.sep⟩
theorem MkR.grown{B:Nat}{w w':World}{r:Nat->Value}{C:Nat->List Int}(h:MkR B w r C)(hg:w.grownBy w' none):MkR B w' r C:=h.kept hg (fun _ _ _ _ e=>by cases e)
theorem MkR.step{B:Nat}{w w1 w2:World}{r:Nat->Value}{C:Nat->List Int}(h:MkR B w r C){i:Nat}(hi:i<12)(hg1:w.grownBy w1 none)(hg2:w1.grownBy w2 (r i).ownBlock){v:Value}{zs:List Int}(ho:w2.ownsRow B 3 1 v zs.length (intZ zs))
  (hv:∀b,v.ownBlock=some b->(r i).ownBlock=some b\/w.heap.size<=b):MkR B w2 (updF r i v) (updF C i zs):=by
 refine ⟨fun j hj=>?_,fun j k hj hk hne b hb=>?_⟩
 ·by_cases e:j=i
  ·subst e;rw [x0h,x0h];exact ho
  ·rw [x0g _ _ e,x0g _ _ e];have h1:=(h.grown hg1).row j hj;exact xql h1 (fun g cs hv2 hb=>hg2.block g (Array.getElem?_eq_some_iff.1 hb).1 (fun e2=>h.sep j i hj hi e g hv2 e2.symm))
 ·by_cases ej:j=i
  ·subst ej;rw [x0h] at hb;rw [x0g _ _ (fun e=>hne e.symm)];rcases hv b hb with h1|h1
   ·exact h.sep j k hj hk hne b h1
   ·intro h2;have:=((h.row k hk).lt b h2).2;omega
  ·rw [x0g _ _ ej] at hb;by_cases ek:k=i
   ·subst ek;rw [x0h];intro h2;rcases hv b h2 with h1|h1
    ·exact h.sep j k hj hk hne b hb h1
    ·have:=((h.row j hj).lt b hb).2;omega
   ·rw [x0g _ _ ek];exact h.sep j k hj hk hne b hb
def fOf(n:Nat):Nat:=(n-2)/2/32
def vOf(n:Nat):Nat:=(n-2)/2%32
def noteA(C:Nat->List Int)(n:Nat):Nat->List Int:=
 if n%2=0 then updF (updF C (fOf n) (C (fOf n)++[(vOf n:Int)])) (6+fOf n) (C (6+fOf n)++[(vOf n:Int)]) else updF C (6+fOf n) (C (6+fOf n)++[(vOf n:Int)])
def xo4(A:List Nat):Nat->List Int:=A.foldl noteA (fun _=>[])
def c2(pv:Value)(st:Int)(r:Nat->Value)(o:Nat->Int)(j:Nat):Value:=if j=0 then pv else if j=1 then .int .i64 st else if j<8 then r (j-2) else .int .i64 (o (j-8))
def c3(r:Nat->Value)(j:Nat):Value:=r (6+j)
theorem xd6(pv:Value)(st:Int)(r:Nat->Value)(o:Nat->Int)(f:Nat)(hf:f<6):c2 pv st r o (2+f)=r f:=by
 unfold c2;rw [if_neg (by omega),if_neg (by omega),if_pos (by omega),show 2+f-2=f by omega]
theorem xd7(pv:Value)(st:Int)(r:Nat->Value)(o:Nat->Int)(f:Nat)(hf:f<6)(v:Value)(j:Nat)(hj:j<14):updF (c2 pv st r o) (2+f) v j=c2 pv st (updF r f v) o j:=by
 unfold updF c2;dsimp only;by_cases e:j=2+f
 ·subst e;rw [if_pos rfl,if_neg (by omega),if_neg (by omega),if_pos (by omega),if_pos (by omega)]
 ·rw [if_neg e];by_cases h0:j=0
  ·rw [if_pos h0,if_pos h0]
  rw [if_neg h0,if_neg h0];by_cases h1:j=1
  ·rw [if_pos h1,if_pos h1]
  rw [if_neg h1,if_neg h1];by_cases h2:j<8
  ·rw [if_pos h2,if_pos h2,if_neg (by omega)]
  ·rw [if_neg h2,if_neg h2]
theorem xd4(pv:Value)(st:Int)(r:Nat->Value)(o:Nat->Int)(f:Nat)(v:Value)(j:Nat):c2 pv st r o j=c2 pv st (updF r (6+f) v) o j:=by
 unfold updF c2;dsimp only;split
 ·rfl
 ·split
  ·rfl
  ·split
   ·rw [if_neg (by omega)]
   ·rfl
theorem xd5(pv:Value)(st:Int)(r:Nat->Value)(o:Nat->Int)(f:Nat)(hf:f<6)(x:Int)(j:Nat)(hj:j<14):updF (c2 pv st r o) (8+f) (.int .i64 x) j=c2 pv st r (updF o f x) j:=by
 unfold updF c2;dsimp only;by_cases e:j=8+f
 ·subst e;rw [if_pos rfl,if_neg (by omega),if_neg (by omega),if_neg (by omega),if_pos (by omega)]
 ·rw [if_neg e];split
  ·rfl
  ·split
   ·rfl
   ·split
    ·rfl
    ·rw [if_neg (by omega)]
theorem xd9(r:Nat->Value)(f:Nat)(hf:f<6)(v:Value)(j:Nat):updF (c3 r) f v j=c3 (updF r (6+f) v) j:=by
 unfold updF c3;dsimp only;by_cases e:j=f
 ·rw [if_pos e,if_pos (by omega)]
 ·rw [if_neg e,if_neg (by omega)]
theorem xd8(r:Nat->Value)(f:Nat)(hf:f<6)(v:Value)(j:Nat):c3 r j=c3 (updF r f v) j:=by
 unfold updF c3;dsimp only;rw [if_neg (by omega)]
def sortZ(zs:List Int):List Int:=zs.mergeSort fun x y=>decide (x<=y)
theorem xws(zs:List Int):(sortZ zs).length=zs.length:=List.length_mergeSort _
theorem xkh(B:Nat)(v:Value)(zs:List Int)(w:World)(h:w.ownsRow B 3 1 v zs.length (intZ zs))(hl:zs.length<=1000000):
  Calls Tryz.prog 91 #[v] w fun e w'=>e=.returned (.tuple #[])/\w'.ownsRow B 3 1 v zs.length (intZ (sortZ zs))/\w.grownBy w' v.ownBlock:=by
 rcases h.2 with ⟨rfl,h0⟩|⟨g,cap,cur,rfl,hb,hg,hn,hc,hs,ht⟩
 ·have:zs=[]:=List.eq_nil_of_length_eq_zero h0;subst this;refine (Tryz.slices_Sort_int_none none 0 w).mono ?_;rintro e w' ⟨rfl,rfl⟩;exact ⟨rfl,by simpa [sortZ,intZ] using h,xjb _ _⟩
 ·refine (Tryz.slices_Sort_int g 0 cap zs w (row_holds h) (Array.getElem?_eq_some_iff.1 hg).1 (by omega)).mono ?_;rintro e w' ⟨rfl,q,os,rfl⟩;have hp:=xuh h (sortZ zs) (xws zs) q os;exact ⟨rfl,hp.1,hp.2⟩
theorem xcs{ok:Nat->Prop}{w:World}:∀t,(∀v,(TV ok w t).1 v->∀n,n∈xcc t->1<n/\n<386)/\(∀g i n,(TV ok w t).2 g i n->∀m,m∈xcc t->1<m/\m<386):=by
 intro t;induction t with
 | exit n=>
  refine ⟨fun v h m hm=>?_,fun _ _ _ h=>h.elim⟩;have h1:=h.2;simp only [xcc] at hm;split at hm
  ·cases hm
  ·rw [List.mem_singleton] at hm;subst hm;exact ⟨by omega,by omega⟩
 | loop t ih=>
  refine ⟨fun v h=>?_,fun _ _ _ h=>h.elim⟩;obtain ⟨g,cap,x,_,_,_,h4⟩:=h;exact ih.1 x h4
 | scope t ih=>
  refine ⟨fun v h=>?_,fun _ _ _ h=>h.elim⟩;obtain ⟨g,cap,x,_,_,_,h4⟩:=h;exact ih.1 x h4
 | block k l ih=>
  refine ⟨fun v h=>?_,fun _ _ _ h=>h.elim⟩;obtain ⟨g,n,cap,_,_,_,_,_,h6⟩:=h;exact ih.2 g 0 n h6
 | seq a l ih1 ih2=>
  refine ⟨fun v h=>h.elim,fun g i n h m hm=>?_⟩;obtain ⟨n',x,_,_,h3,h4⟩:=h;rcases List.mem_append.1 hm with h5|h5
  ·exact ih1.1 x h3 m h5
  ·exact ih2.2 g (i+1) n' h4 m h5
 | skip=>exact ⟨fun v h=>h.elim,fun _ _ _ _ m hm=>by cases hm⟩
 | _=>exact ⟨fun v h=>h.elim,fun _ _ _ h=>h.elim⟩
structure MkS(w:World)(pv:Value)(st:Int)(r:Nat->Value)(C:Nat->List Int)(o:Nat->Int)(wr:World):Prop where
 res:mkBlk wr (w.heap.size+1) 14 112 (c2 (.slice none 0 0) 0 (fun _=>.slice none 0 0) (fun _=>0))
 made:mkBlk wr (w.heap.size+2) 14 112 (c2 pv st r o)
 nm:mkBlk wr (w.heap.size+3) 6 110 (c3 r)
 rows:MkR (w.heap.size+4) wr r C
 grown:w.grownBy wr none
theorem MkS.kept{w:World}{pv:Value}{st:Int}{r:Nat->Value}{C:Nat->List Int}{o:Nat->Int}{wr w':World}(h:MkS w pv st r C o wr)(hg:wr.grownBy w' none):MkS w pv st r C o w':=
 ⟨h.res.kept hg (by simp),h.made.kept hg (by simp),h.nm.kept hg (by simp),h.rows.grown hg,xje h.grown hg⟩
theorem xug{wr:World}{B:Nat}{v:Value}{n:Nat}{xs:List Value}(h:wr.ownsRow B 3 1 v n xs){b:Nat}(hb:b<B):v.ownBlock≠some b:=fun e=>by have:=(h.lt b e).1;omega
theorem MkS.tested{w:World}{pv:Value}{st:Int}{r:Nat->Value}{C:Nat->List Int}{o:Nat->Int}{wr w1 w2:World}(h:MkS w pv st r C o wr){f:Nat}(hf:f<6)(hg1:wr.grownBy w1 none)(hg2:w1.grownBy w2 (r f).ownBlock){v:Value}{zs:List Int}
  (ho:w2.ownsRow (w.heap.size+4) 3 1 v zs.length (intZ zs)) (hv:∀b,v.ownBlock=some b->(r f).ownBlock=some b\/wr.heap.size<=b):
  MkS w pv st (updF r f v) (updF C f zs) o (w2.setCell ⟨w.heap.size+2,2+f,none⟩ v)/\mkBlk w2 (w.heap.size+2) 14 112 (c2 pv st r o)/\mkBlk w2 (w.heap.size+3) 6 110 (c3 r):=by
 have hrow:=h.rows.row f (by omega);have k:=h.kept hg1;have m2:mkBlk w2 (w.heap.size+2) 14 112 (c2 pv st r o):=k.made.kept hg2 (xug hrow (by omega));have m3:mkBlk w2 (w.heap.size+3) 6 110 (c3 r):=k.nm.kept hg2 (xug hrow (by omega));have m1:=k.res.kept hg2 (xug hrow (by omega));have hset:=xjc w2 (w.heap.size+2) (2+f) v;refine ⟨⟨m1.kept hset (by simp),(m2.set (2+f) v).cong (fun j hj=>xd7 pv st r o f hf v j hj),(m3.kept hset (by simp)).cong (fun j _=>xd8 r f hf v j),?_,?_⟩,m2,m3⟩
 ·exact (h.rows.step (i:=f) (by omega) hg1 hg2 ho hv).kept hset (fun b cs T fz e hh=>by
   cases e;rw [show w2.heap[w.heap.size+2]?=_ from m2] at hh;cases hh;decide)
 ·exact xi9 (xja k.grown hg2 (fun b e=>by have:=(hrow.lt b e).1;omega)) hset (by omega)
theorem MkS.named{w:World}{pv:Value}{st:Int}{r:Nat->Value}{C:Nat->List Int}{o:Nat->Int}{wr w1 w2:World}(h:MkS w pv st r C o wr){f:Nat}(hf:f<6)(hg1:wr.grownBy w1 none)(hg2:w1.grownBy w2 (r (6+f)).ownBlock){v:Value}{zs:List Int}
  (ho:w2.ownsRow (w.heap.size+4) 3 1 v zs.length (intZ zs)) (hv:∀b,v.ownBlock=some b->(r (6+f)).ownBlock=some b\/wr.heap.size<=b):
  MkS w pv st (updF r (6+f) v) (updF C (6+f) zs) o (w2.setCell ⟨w.heap.size+3,f,none⟩ v)/\mkBlk w2 (w.heap.size+2) 14 112 (c2 pv st r o)/\mkBlk w2 (w.heap.size+3) 6 110 (c3 r):=by
 have hrow:=h.rows.row (6+f) (by omega);have k:=h.kept hg1;have m2:mkBlk w2 (w.heap.size+2) 14 112 (c2 pv st r o):=k.made.kept hg2 (xug hrow (by omega));have m3:mkBlk w2 (w.heap.size+3) 6 110 (c3 r):=k.nm.kept hg2 (xug hrow (by omega));have m1:=k.res.kept hg2 (xug hrow (by omega));have hset:=xjc w2 (w.heap.size+3) f v;refine ⟨⟨m1.kept hset (by simp),(m2.kept hset (by simp)).cong (fun j _=>xd4 pv st r o f v j),(m3.set f v).cong (fun j _=>xd9 r f hf v j),?_,?_⟩,m2,m3⟩
 ·exact (h.rows.step (i:=6+f) (by omega) hg1 hg2 ho hv).kept hset (fun b cs T fz e hh=>by
   cases e;rw [show w2.heap[w.heap.size+3]?=_ from m3] at hh;cases hh;decide)
 ·exact xi9 (xja k.grown hg2 (fun b e=>by have:=(hrow.lt b e).1;omega)) hset (by omega)
theorem MkS.turned{w:World}{pv:Value}{st:Int}{r:Nat->Value}{C:Nat->List Int}{o:Nat->Int}{wr w2:World}(h:MkS w pv st r C o wr){i:Nat}(hi:i<12)(hg2:wr.grownBy w2 (r i).ownBlock){zs:List Int}(ho:w2.ownsRow (w.heap.size+4) 3 1 (r i) zs.length (intZ zs)):MkS w pv st r (updF C i zs) o w2:=by
 have hrow:=h.rows.row i hi;have hs:=h.rows.step (i:=i) hi (xjb wr none) hg2 ho (fun b hb=>.inl hb)
 have e:updF r i (r i)=r:=by
  funext j;unfold updF;split
  ·rename_i e;rw [e]
  ·rfl
 rw [e] at hs;exact ⟨h.res.kept hg2 (xug hrow (by omega)),h.made.kept hg2 (xug hrow (by omega)),h.nm.kept hg2 (xug hrow (by omega)),hs,xja h.grown hg2 (fun b e=>by have:=(hrow.lt b e).1;omega)⟩
theorem MkS.other{w:World}{pv:Value}{st:Int}{r:Nat->Value}{C:Nat->List Int}{o:Nat->Int}{wr:World}(h:MkS w pv st r C o wr){f:Nat}(hf:f<6)(x:Int):MkS w pv st r C (updF o f x) (wr.setCell ⟨w.heap.size+2,8+f,none⟩ (.int .i64 x)):=by
 have hset:=xjc wr (w.heap.size+2) (8+f) (.int .i64 x);refine ⟨h.res.kept hset (by simp),(h.made.set (8+f) _).cong (fun j hj=>xd5 pv st r o f hf x j hj),h.nm.kept hset (by simp),h.rows.kept hset (fun b cs T fz e hh=>?_),xi9 h.grown hset (by omega)⟩;cases e;rw [show wr.heap[w.heap.size+2]?=_ from h.made] at hh;cases hh;decide
theorem MkS.start(w:World)(pv:Value)(st:Int){wr:World}(h0:wr.heap[w.heap.size+1]?=some (.cells #[.slice none 0 0,.int .i64 0,.slice none 0 0,.slice none 0 0,.slice none 0 0,.slice none 0 0,.slice none 0 0,.slice none 0 0,.int .i64 0,.int .i64 0,.int .i64 0,.int .i64 0,.int .i64 0,.int .i64 0] 112 (0,0)))
  (h1:wr.heap[w.heap.size+2]?=some (.cells #[pv,.int .i64 st,.slice none 0 0,.slice none 0 0,.slice none 0 0,.slice none 0 0,.slice none 0 0,.slice none 0 0,.int .i64 0,.int .i64 0,.int .i64 0,.int .i64 0,.int .i64 0,.int .i64 0] 112 (0,0)))
  (h2:wr.heap[w.heap.size+3]?=some (.cells #[.slice none 0 0,.slice none 0 0,.slice none 0 0,.slice none 0 0,.slice none 0 0,.slice none 0 0] 110 (0,0))) (hg:w.grownBy wr none):
  MkS w pv st (fun _=>.slice none 0 0) (fun _=>[]) (fun _=>0) wr:=
 ⟨h0,h1,h2,⟨fun i _=>World.ownsRow_nil _ _ _ _,fun i j _ _ _ b e=>(by cases e)⟩,hg⟩
theorem xnq{n:Nat}(h:1<n)(h2:n%2=0):leafV n=.iface 177 (.agg #[.int .i64 (fOf n:Int),.int .i64 (vOf n:Int)]):=by
 unfold leafV;rw [if_neg (by omega),if_neg (by omega),if_pos h2];rfl
theorem xnp{n:Nat}(h:1<n)(h2:¬n%2=0):leafV n=.iface 178 (.agg #[.int .i64 (fOf n:Int),.int .i64 (vOf n:Int)]):=by
 unfold leafV;rw [if_neg (by omega),if_neg (by omega),if_neg h2];rfl
theorem xo7(A:List Nat)(n:Nat):xo4 (A++[n])=noteA (xo4 A) n:=by unfold xo4;rw [List.foldl_append];rfl
theorem xo5(A:List Nat):∀i,(xo4 A i).length<=A.length:=by
 have key:∀(A:List Nat) (C:Nat->List Int) (m:Nat),(∀i,(C i).length<=m)->∀i,(A.foldl noteA C i).length<=m+A.length:=by
  intro A;induction A with
  | nil=>intro C m h i;exact h i
  | cons a A ih=>
   intro C m h i
   have:=ih (noteA C a) (m+1) (fun j=>by
    have h1:=h j;unfold noteA updF;split
    ·dsimp only;split
     ·rename_i e;subst e;rw [List.length_append,List.length_singleton];exact Nat.succ_le_succ (h _)
     ·split
      ·rename_i e;subst e;rw [List.length_append,List.length_singleton];exact Nat.succ_le_succ (h _)
      ·omega
    ·dsimp only;split
     ·rename_i e;subst e;rw [List.length_append,List.length_singleton];exact Nat.succ_le_succ (h _)
     ·omega) i
   rw [List.foldl_cons];simp only [List.length_cons];omega
 intro i;have:=key A (fun _=>[]) 0 (fun _=>by simp) i;unfold xo4;omega
theorem xow{w0 w1 w2:World}{B n:Nat}{v:Value}{xs:List Value}{row:Option Nat}(h:w0.ownsRow B 101 1 v n xs)(hg1:w0.grownBy w1 none)(hg2:w1.grownBy w2 row)(hr:∀b cs T fz,row=some b->w1.heap[b]?=some (.cells cs T fz)->T≠101):w2.ownsRow B 101 1 v n xs:=by
 have h1:w1.ownsRow B 101 1 v n xs:=xql h (fun g cs hv hb=>hg1.block g (Array.getElem?_eq_some_iff.1 hb).1 (by simp));exact xql h1 (fun g cs hv hb=>hg2.block g (Array.getElem?_eq_some_iff.1 hb).1 (fun e=>hr g _ _ _ e.symm hb rfl))
theorem xui{w:World}{B:Nat}{v:Value}{n:Nat}{xs:List Value}(h:w.ownsRow B 3 1 v n xs):∀b cs T fz,v.ownBlock=some b->w.heap[b]?=some (.cells cs T fz)->T≠101:=by
 intro b cs T fz e hh;rcases h.2 with ⟨rfl,_⟩|⟨g,cap,cur,rfl,_,hg,_⟩
 ·cases e
 ·cases e;rw [hg] at hh;cases hh;decide
theorem MkS.addT{w:World}{pv:Value}{st:Int}{r:Nat->Value}{C:Nat->List Int}{o:Nat->Int}{wr w2:World}{f tc:Nat}{ta:Option Addr}{o1:Obj}{x:Int}{v av:Value}{an:Nat}{ax:List Value}(h:MkS w pv st r C o wr)(hf:f<6)(hr:r f=.slice ta (C f).length tc)
  (hO:wr.ownsRow (w.heap.size+4) 101 1 av an ax) (ho:w2.ownsRow (w.heap.size+4) 3 1 v ((C f).length+1) (intZ (C f)++[.int .i64 x])) (hg:(wr.alloc o1).drew.grownBy w2 (Value.slice ta (C f).length tc).ownBlock) (hat:v.ownBlock=(Value.slice ta (C f).length tc).ownBlock\/v.ownBlock=some (wr.alloc o1).drew.heap.size):
  (MkS w pv st (updF r f v) (updF C f (C f++[x])) o (w2.setCell ⟨w.heap.size+2,2+f,none⟩ v)/\(w2.setCell ⟨w.heap.size+2,2+f,none⟩ v).ownsRow (w.heap.size+4) 101 1 av an ax)/\w2.cell? ⟨w.heap.size+2,2+f,none⟩=some (.slice ta (C f).length tc)/\w2.frozen? ⟨w.heap.size+2,2+f,none⟩=false:=by
 have hga:wr.grownBy (wr.alloc o1).drew none:=xi3 _ _ _;rw [<-hr] at hg hat
 obtain ⟨m1,m2,m3⟩:=h.tested hf hga hg (v:=v) (zs:=C f++[x]) (by
  have e:(C f++[x]).length=(C f).length+1:=by simp
  have e2:intZ (C f++[x])=intZ (C f)++[.int .i64 x]:=by simp [intZ]
  rw [e,e2];exact ho) (fun b hb=>hat.elim (fun h1=>.inl (h1 ▸ hb)) (fun h1=>.inr (by
   rw [h1] at hb;cases hb;exact hga.size)))
 have hrow:=(h.kept hga).rows.row f (by omega);refine ⟨⟨m1,xow (xow hO hga hg (xui hrow)) (xjb _ _) (xjc w2 (w.heap.size+2) (2+f) v) (fun b cs T fz e hh=>?_)⟩,?_,m2.frozen _⟩
 ·cases e;rw [show w2.heap[w.heap.size+2]?=_ from m2] at hh;cases hh;decide
 ·rw [m2.cell (2+f) (by omega),xd6 _ _ _ _ _ hf,hr]
theorem MkS.addN{w:World}{pv:Value}{st:Int}{r:Nat->Value}{C:Nat->List Int}{o:Nat->Int}{wr w2:World}{f tc:Nat}{ta:Option Addr}{o1:Obj}{x:Int}{v av:Value}{an:Nat}{ax:List Value}(h:MkS w pv st r C o wr)(hf:f<6)(hr:r (6+f)=.slice ta (C (6+f)).length tc)
  (hO:wr.ownsRow (w.heap.size+4) 101 1 av an ax) (ho:w2.ownsRow (w.heap.size+4) 3 1 v ((C (6+f)).length+1) (intZ (C (6+f))++[.int .i64 x])) (hg:(wr.alloc o1).drew.grownBy w2 (Value.slice ta (C (6+f)).length tc).ownBlock) (hat:v.ownBlock=(Value.slice ta (C (6+f)).length tc).ownBlock\/v.ownBlock=some (wr.alloc o1).drew.heap.size):
  (MkS w pv st (updF r (6+f) v) (updF C (6+f) (C (6+f)++[x])) o (w2.setCell ⟨w.heap.size+3,f,none⟩ v)/\(w2.setCell ⟨w.heap.size+3,f,none⟩ v).ownsRow (w.heap.size+4) 101 1 av an ax)/\w2.cell? ⟨w.heap.size+3,f,none⟩=some (.slice ta (C (6+f)).length tc)/\w2.frozen? ⟨w.heap.size+3,f,none⟩=false:=by
 have hga:wr.grownBy (wr.alloc o1).drew none:=xi3 _ _ _;rw [<-hr] at hg hat
 obtain ⟨m1,m2,m3⟩:=h.named hf hga hg (v:=v) (zs:=C (6+f)++[x]) (by
  have e:(C (6+f)++[x]).length=(C (6+f)).length+1:=by simp
  have e2:intZ (C (6+f)++[x])=intZ (C (6+f))++[.int .i64 x]:=by simp [intZ]
  rw [e,e2];exact ho) (fun b hb=>hat.elim (fun h1=>.inl (h1 ▸ hb)) (fun h1=>.inr (by
   rw [h1] at hb;cases hb;exact hga.size)))
 have hrow:=(h.kept hga).rows.row (6+f) (by omega);refine ⟨⟨m1,xow (xow hO hga hg (xui hrow)) (xjb _ _) (xjc w2 (w.heap.size+3) f v) (fun b cs T fz e hh=>?_)⟩,?_,m3.frozen _⟩
 ·cases e;rw [show w2.heap[w.heap.size+3]?=_ from m3] at hh;cases hh;decide
 ·rw [m3.cell f hf,<-hr];rfl
end Go.Proofs.YtlhkfafdioakeaaGreatDoor
