/- Parts of the proof. -/
import Derived.Test.YtlhkfafdioakeaaGreatDoorSf01
import Derived.ArgAppend
import Derived.Laws.AppendOwnNone
import Derived.Laws.Cover3
import Derived.Laws.CopyOwn
import Derived.Deep.CutBlock
import Derived.Deep.RegionWith
import Derived.Deep.RegionLaw
namespace Go.Proofs.YtlhkfafdioakeaaGreatDoor
set_option maxRecDepth 100000
set_option maxHeartbeats 1000000
open Go.RowKit
set_option linter.unusedVariables false
set_option linter.unusedSimpArgs false
theorem xvz{T:TypeId}(b:Nat):∀(vs:List Value) (o:Nat) (w:World) (cur:Array Value),w.heap[b]?=some (.cells cur T (0,0))->
  ∃cur',(w.setCells b o vs).heap[b]?=some (.cells cur' T (0,0))/\cur'.size=cur.size/\(∀j,j<o\/o+vs.length<=j->cur'[j]?=cur[j]?)/\(o+vs.length<=cur.size->∀j,j<vs.length->cur'[o+j]?=vs[j]?)
 | [],o,w,cur,h=>⟨cur,h,rfl,fun _ _=>rfl,fun _ j hj=>by simp at hj⟩
 | v::r,o,w,cur,h=>by
  obtain ⟨cur',h1,h2,h3,h4⟩:=xvz b r (o+1) (w.setCell ⟨b,o,none⟩ v) _ (xjh h o v);refine ⟨cur',by rw [World.setCells];exact h1,by rw [h2];simp,fun j hj=>?_,fun hs j hj=>?_⟩
  ·simp only [List.length_cons] at hj;rw [h3 j (by omega),Array.getElem?_setIfInBounds,if_neg (by omega)]
  ·simp only [List.length_cons] at hs hj;cases j with
   | zero=>
    rw [Nat.add_zero,h3 o (by omega),Array.getElem?_setIfInBounds,if_pos rfl,if_pos (by omega)];rfl
   | succ j=>
    have:=h4 (by simp;omega) j (by omega);rw [show o+(j+1)=o+1+j by omega,this];rfl
theorem xvy(b:Nat):∀(vs:List Value) (o:Nat) (w:World),w.grownBy (w.setCells b o vs) (some b)
 | [],o,w=>xjb _ _
 | v::r,o,w=>xje (xjc w b o v) (xvy b r (o+1) _)
theorem xc7{w:World}{b:Nat}{cs:Array Value}{T:TypeId}(h:w.heap[b]?=some (.cells cs T (0,0)))(j:Nat)(u:Value)(hu:cs[j]?=some u):w.cell? ⟨b,j,none⟩=some u:=by simp only [World.cell?,h];simpa using hu
theorem xc9{w w':World}{b:Nat}{ob:Obj}{row:Option Nat}(h:w.heap[b]?=some ob)(hg:w.grownBy w' row)(hr:row≠some b):w'.heap[b]?=some ob:=by
 rw [hg.block b (Array.getElem?_eq_some_iff.1 h).1 hr.symm,h]
def QRow(B:Nat)(w:World)(T:TypeId)(size:Nat)(v:Value)(n:Nat)(xs:List Value):Prop:=
 xs.length=n*size/\((v=.slice none 0 0/\n=0)\/
  ∃g off cap cur,v=.slice (some ⟨g,off,none⟩) n cap/\B<=g/\w.heap[g]?=some (.cells cur T (0,0))/\n<=cap/\cap<=maxLen/\off+cap*size<=cur.size/\∀j,j<n*size->cur[off+j]?=xs[j]?)
theorem QRow.nil(B:Nat)(w:World)(T:TypeId)(size:Nat):QRow B w T size (.slice none 0 0) 0 []:=⟨by simp,.inl ⟨rfl,rfl⟩⟩
theorem QRow.of{B:Nat}{w:World}{T:TypeId}{size:Nat}{v:Value}{n:Nat}{xs:List Value}(h:w.ownsRow B T size v n xs):QRow B w T size v n xs:=by
 refine ⟨h.1,?_⟩;rcases h.2 with h2|⟨g,cap,cur,h1,h2,h3,h4,h5,h6,h7⟩
 ·exact .inl h2
 ·refine .inr ⟨g,0,cap,cur,h1,h2,h3,h4,h5,by omega,fun j hj=>?_⟩;rw [<-h7,List.getElem?_take_of_lt hj,Nat.zero_add];simp
theorem QRow.mono{B C:Nat}{w:World}{T:TypeId}{size:Nat}{v:Value}{n:Nat}{xs:List Value}(h:QRow B w T size v n xs)(hc:C<=B):QRow C w T size v n xs:=by
 refine ⟨h.1,?_⟩;rcases h.2 with h2|⟨g,off,cap,cur,h1,h2,h3⟩
 ·exact .inl h2
 ·exact .inr ⟨g,off,cap,cur,h1,Nat.le_trans hc h2,h3⟩
theorem QRow.slice{B:Nat}{w:World}{T:TypeId}{size:Nat}{v:Value}{n:Nat}{xs:List Value}(h:QRow B w T size v n xs):∃a c,v=.slice a n c:=by
 rcases h.2 with ⟨h2,rfl⟩|⟨g,off,cap,cur,h1,_⟩
 ·exact ⟨_,_,h2⟩
 ·exact ⟨_,_,h1⟩
theorem QRow.kept{B:Nat}{w w':World}{T:TypeId}{size:Nat}{v:Value}{n:Nat}{xs:List Value}{row:Option Nat}(h:QRow B w T size v n xs)(hg:w.grownBy w' row)(hr:∀b,row=some b->v.ownBlock≠some b):QRow B w' T size v n xs:=by
 refine ⟨h.1,?_⟩;rcases h.2 with h2|⟨g,off,cap,cur,h1,h2,h3,h4⟩
 ·exact .inl h2
 ·refine .inr ⟨g,off,cap,cur,h1,h2,?_,h4⟩;rw [hg.block g (Array.getElem?_eq_some_iff.1 h3).1 (fun e=>hr g e.symm (by rw [h1];rfl)),h3]
theorem QRow.same{B:Nat}{w w':World}{T:TypeId}{size:Nat}{v:Value}{n:Nat}{xs:List Value}(h:QRow B w T size v n xs)(hs:∀b,v.ownBlock=some b->w'.heap[b]?=w.heap[b]?):QRow B w' T size v n xs:=by
 refine ⟨h.1,?_⟩;rcases h.2 with h2|⟨g,off,cap,cur,h1,h2,h3,h4⟩
 ·exact .inl h2
 ·exact .inr ⟨g,off,cap,cur,h1,h2,by rw [hs g (by rw [h1];rfl),h3],h4⟩
theorem QRow.lt{B:Nat}{w:World}{T:TypeId}{size:Nat}{v:Value}{n:Nat}{xs:List Value}(h:QRow B w T size v n xs):∀b,v.ownBlock=some b->B<=b/\b<w.heap.size:=by
 intro b hb;rcases h.2 with ⟨h2,_⟩|⟨g,off,cap,cur,h1,h2,h3,h4⟩
 ·rw [h2] at hb;cases hb
 ·rw [h1] at hb;cases hb;exact ⟨h2,(Array.getElem?_eq_some_iff.1 h3).1⟩
theorem QRow.tag{B:Nat}{w:World}{T:TypeId}{size:Nat}{v:Value}{n:Nat}{xs:List Value}(h:QRow B w T size v n xs):∀b,v.ownBlock=some b->∃cur,w.heap[b]?=some (.cells cur T (0,0)):=by
 intro b hb;rcases h.2 with ⟨h2,_⟩|⟨g,off,cap,cur,h1,h2,h3,h4⟩
 ·rw [h2] at hb;cases hb
 ·rw [h1] at hb;cases hb;exact ⟨_,h3⟩
theorem QRow.few{B:Nat}{w:World}{T:TypeId}{size:Nat}{v:Value}{n:Nat}{xs:List Value}(h:QRow B w T size v n xs):n<=maxLen:=by
 rcases h.2 with ⟨_,rfl⟩|⟨g,off,cap,cur,h1,h2,h3,h4,h5,_⟩
 ·exact Nat.zero_le _
 ·omega
theorem QRow.some{B:Nat}{w:World}{T:TypeId}{size:Nat}{a:Option Addr}{c n:Nat}{xs:List Value}(h:QRow B w T size (.slice a n c) n xs)(hn:0<n):∃g off,a=Option.some ⟨g,off,Option.none⟩/\n<=c:=by
 rcases h.2 with ⟨_,e⟩|⟨g,off,cap,cur,h1,h2,h3,h4,_⟩
 ·omega
 ·cases h1;exact ⟨g,off,rfl,h4⟩
theorem QRow.cell{B:Nat}{w:World}{T:TypeId}{size:Nat}{g off c n:Nat}{xs:List Value}(h:QRow B w T size (.slice (Option.some ⟨g,off,Option.none⟩) n c) n xs)(j:Nat)(hj:j<n*size):w.cell? ⟨g,off+j,Option.none⟩=xs[j]?:=by
 rcases h.2 with ⟨e,_⟩|⟨g',off',cap,cur,h1,h2,h3,h4,h5,h6,h7⟩
 ·cases e
 ·cases h1;simp only [World.cell?,h3];rw [<-h7 j hj];simp
theorem QRow.cells{B:Nat}{w:World}{T:TypeId}{size:Nat}{g off c n:Nat}{xs:List Value}(h:QRow B w T size (.slice (Option.some ⟨g,off,Option.none⟩) n c) n xs):∀j u,xs[j]?=Option.some u->w.cell? ⟨g,off+j,Option.none⟩=Option.some u:=by
 intro j u hj
 have hl:j<n*size:=by
  rw [<-h.1];rcases Nat.lt_or_ge j xs.length with e|e
  ·exact e
  ·rw [List.getElem?_eq_none e] at hj;cases hj
 rw [h.cell j hl,hj]
theorem QRow.spare{B:Nat}{w:World}{T:TypeId}{size:Nat}{g off c n:Nat}{xs:List Value}(h:QRow B w T size (.slice (Option.some ⟨g,off,Option.none⟩) n c) n xs)(j:Nat)(hj:j<c*size):(w.cell? ⟨g,off+j,Option.none⟩).isSome=true/\w.frozen? ⟨g,off+j,Option.none⟩=false:=by
 rcases h.2 with ⟨e,_⟩|⟨g',off',cap,cur,h1,h2,h3,h4,h5,h6,h7⟩
 ·cases e
 ·cases h1;simp only [World.cell?,World.frozen?,h3];have:off+j<cur.size:=by omega
  simp [this]
theorem QRow.tail{B:Nat}{w:World}{T:TypeId}{size:Nat}{g off c n:Nat}{xs:List Value}(h:QRow B w T size (.slice (Option.some ⟨g,off,Option.none⟩) (n+1) c) (n+1) xs):QRow B w T size (.slice (Option.some ⟨g,off+size,Option.none⟩) n (c-1)) n (xs.drop size):=by
 have h0:=h.1;rcases h.2 with ⟨e,_⟩|⟨g',off',cap,cur,h1,h2,h3,h4,h5,h6,h7⟩
 ·cases e
 ·cases h1;have e1:(n+1)*size=n*size+size:=Nat.succ_mul n size
  have e2:c*size=(c-1)*size+size:=by
   rw [<-Nat.succ_mul,show (c-1).succ=c by omega]
  refine ⟨by rw [List.length_drop,h0,e1];omega,.inr ⟨g,off+size,c-1,cur,rfl,h2,h3,by omega,by omega,by omega,fun j hj=>?_⟩⟩;rw [List.getElem?_drop,<-h7 (size+j) (by omega),Nat.add_assoc]
theorem QRow.erase{B:Nat}{w:World}{T:TypeId}{size:Nat}{g off c n i:Nat}{xs:List Value}(h:QRow B w T size (.slice (Option.some ⟨g,off,Option.none⟩) (n+1) c) (n+1) xs)(hi:i<=n):QRow B (w.setCells g (off+size) (xs.take (i*size))) T size (.slice (Option.some ⟨g,off+size,Option.none⟩) n (c-1)) n (xs.take (i*size)++xs.drop ((i+1)*size)):=by
 have h0:=h.1;rcases h.2 with ⟨e,_⟩|⟨g',off',cap,cur,h1,h2,h3,h4,h5,h6,h7⟩
 ·cases e
 ·cases h1;have e1:(n+1)*size=n*size+size:=Nat.succ_mul n size
  have e2:c*size=(c-1)*size+size:=by
   rw [<-Nat.succ_mul,show (c-1).succ=c by omega]
  have e3:(i+1)*size=i*size+size:=Nat.succ_mul i size;have e4:i*size<=n*size:=Nat.mul_le_mul_right size hi;have e5:(n+1)*size<=c*size:=Nat.mul_le_mul_right size h4;have hlen:(xs.take (i*size)).length=i*size:=by rw [List.length_take,h0,e1];omega
  obtain ⟨cur',k1,k2,k3,k4⟩:=xvz g (xs.take (i*size)) (off+size) w cur h3;refine ⟨by rw [List.length_append,hlen,List.length_drop,h0,e1,e3];omega,.inr ⟨g,off+size,c-1,cur',rfl,h2,k1,by omega,by omega,by omega,fun j hj=>?_⟩⟩;by_cases hj2:j<i*size
  ·rw [k4 (by rw [hlen];omega) j (by rw [hlen];exact hj2),List.getElem?_append_left (by rw [hlen];exact hj2)]
  ·rw [k3 _ (.inr (by rw [hlen];omega)),List.getElem?_append_right (by rw [hlen];omega),hlen,List.getElem?_drop,Nat.add_assoc,h7 (size+j) (by omega),e3];congr 1;omega
theorem x1e{P:Program}{ops:Array Oper}{rest:List Oper}{o:Oper}{a:Act}{Q:Exit->Act->World->Prop}(w:World)(hgd:o.guard=none)(s x:Operand)(t:TypeId)
  (ho:o.op=.call { callee:=.builtin .append,args:=#[s,x],argTypes:=#[t,t] })
  (B:Nat) (e:TypeId) (i:TypeInfo) (z:Value) (size bytes:Nat) (ht:P.underlying t=some (.slice e)) (hi:P.info? e=some i) (hz:i.zero=some z)
  (hsize:i.size=size) (hby:i.bytes=bytes) (hzs:z.cells.size=size) (hsz:0<size)
  (v:Value) (n:Nat) (xs:List Value) (hs:a.eval s=v) (hown:QRow B w e size v n xs)
  (ad:Addr) (m c:Nat) (news:List Value) (hx:a.eval x=.slice (some ad) m c) (hl:news.length=m*size) (hnews:∀j u,news[j]?=some u->w.cell? (ad.add j)=some u) (h1:∀u∈news,u.oneCell'=true)
  (hm:0<m) (h63:n+m<=maxLen) (hbytes:(n+m)*bytes<=140737488355328) (hbase:B<=w.heap.size)
  (h:∀v' w',QRow B w' e size v' (n+m) (xs++news)->w.grownBy w' v.ownBlock->(v'.ownBlock=v.ownBlock\/∃b,v'.ownBlock=some b/\w.heap.size<=b)->wpList P ops Q rest (a.put o.dst v') w'):wpList P ops Q (o::rest) a w:=by
 have grown:∀v' w',w'.ownsRow w.heap.size e size v' (n+m) (xs++news)->w.grownBy w' none->wpList P ops Q rest (a.put o.dst v') w':=by
  intro v' w' k1 k2;refine h v' w' ((QRow.of k1).mono hbase) ⟨k2.os,k2.tape,k2.output,k2.size,fun j hj _=>k2.block j hj (by simp)⟩ (.inr ?_);rcases k1.2 with ⟨_,e0⟩|⟨g,cap,cur,e1,e2,_⟩
  ·omega
  ·exact ⟨g,by rw [e1];rfl,e2⟩
 have hcs:=hown;rcases hown.2 with ⟨rfl,rfl⟩|⟨g,off,cap,cur,rfl,k2,k3,k4,k5,k6,k7⟩
 ·refine wpList_append_grows w hgd s x t ho e i z size bytes ht hi hz hsize hby hzs hsz none 0 0 xs hs (fun _=>⟨rfl,rfl⟩) hown.1 (fun b e=>by cases e) ad m c news hx hl hnews h1 (by omega) h63 hbytes grown
 ·refine wpList_append_arg w hgd s x t ho e i z size bytes ht hi hz hsize hby hzs hsz g off n cap xs hs hown.1 hcs.cells ad m c news hx hl hnews h1 (fun hr j hj=>?_) h63 hbytes (fun hr=>?_) (fun _=>grown)
  ·rw [Nat.add_assoc];refine hcs.spare _ ?_;have:(n+m)*size<=cap*size:=Nat.mul_le_mul_right size hr;rw [Nat.add_mul] at this;omega
  ·have hle:(n+m)*size<=cap*size:=Nat.mul_le_mul_right size hr;rw [Nat.add_mul] at hle;have hlx:=hown.1;obtain ⟨cur',j1,j2,j3,j4⟩:=xvz g news (off+n*size) w cur k3;refine h _ _ ⟨by rw [List.length_append,hlx,hl,Nat.add_mul],.inr ⟨g,off,cap,cur',rfl,k2,j1,hr,k5,by omega,fun j hj=>?_⟩⟩ (xvy g news _ w) (.inl rfl);rw [Nat.add_mul] at hj;by_cases hj2:j<n*size
   ·rw [j3 _ (.inl (by omega)),k7 j hj2,List.getElem?_append_left (by omega)]
   ·have:=j4 (by omega) (j-n*size) (by omega);rw [show off+n*size+(j-n*size)=off+j by omega] at this;rw [this,List.getElem?_append_right (by omega),hlx]
def LnR(w:World)(v:Value)(n:Nat)(d:Nat->Nat->Int):Prop:=
 (n=0/\∃a c,v=.slice a 0 c)\/∃g off cap,v=.slice (some ⟨g,off,none⟩) n cap/\n<=3000000000000/\∀j,j<n->∀i,i<4->w.cell? ⟨g,off+j*4+i,none⟩=some (.int .i64 (d j i))
theorem LnR.slice{w:World}{v:Value}{n:Nat}{d:Nat->Nat->Int}(h:LnR w v n d):∃a c,v=.slice a n c:=by
 rcases h with ⟨rfl,a,c,rfl⟩|⟨g,off,cap,rfl,_⟩
 ·exact ⟨_,_,rfl⟩
 ·exact ⟨_,_,rfl⟩
theorem LnR.few{w:World}{v:Value}{n:Nat}{d:Nat->Nat->Int}(h:LnR w v n d):n<=3000000000000:=by
 rcases h with ⟨rfl,_⟩|⟨g,off,cap,_,h1,_⟩
 ·exact Nat.zero_le _
 ·exact h1
theorem LnR.at{w:World}{a:Option Addr}{n c:Nat}{d:Nat->Nat->Int}(h:LnR w (.slice a n c) n d)(hn:0<n):∃g off,a=some ⟨g,off,none⟩/\∀j,j<n->∀i,i<4->w.cell? ⟨g,off+j*4+i,none⟩=some (.int .i64 (d j i)):=by
 rcases h with ⟨rfl,_⟩|⟨g,off,cap,e,_,h2⟩
 ·omega
 ·cases e;exact ⟨g,off,rfl,h2⟩
theorem LnR.grown{w w':World}{v:Value}{n:Nat}{d:Nat->Nat->Int}(h:LnR w v n d)(hg:w.grownBy w' none):LnR w' v n d:=by
 rcases h with h|⟨g,off,cap,e,h1,h2⟩
 ·exact .inl h
 ·exact .inr ⟨g,off,cap,e,h1,fun j hj i hi=>hg.cell (h2 j hj i hi) (by simp)⟩
theorem xj4(pt:Int)(w:World):Calls Tryz.prog 219 #[.int .i64 pt] w fun e w'=>e=.returned (.bool (decide (0<=pt/\pt<8)))/\w'=w:=by
 go_enter Tryz.func219,Tryz.ntmps219;by_cases h1:0<=pt<;>by_cases h2:pt<8<;>(go_wp2_with fail;go_ret;simp [h1,h2])
theorem xj5(n sw:Int)(w:World):Calls Tryz.prog 218 #[.int .i64 n,.int .i64 sw] w fun e w'=>e=.returned (.bool (decide (0<=sw/\sw<n)))/\w'=w:=by
 go_enter Tryz.func218,Tryz.ntmps218;by_cases h1:0<=sw<;>by_cases h2:sw<n<;>(go_wp2_with fail;go_ret;simp [h1,h2])
theorem xlm(y0 y1 y2 y3 sw pt:Int)(b1 b2:Nat)(w:World)(c1:w.cell? ⟨b1,0,none⟩=some (.int .i64 sw))(c2:w.cell? ⟨b2,0,none⟩=some (.int .i64 pt)):Calls Tryz.prog 253 #[.agg #[.int .i64 y0,.int .i64 y1,.int .i64 y2,.int .i64 y3],.pointer (some ⟨b1,0,none⟩),.pointer (some ⟨b2,0,none⟩)] w fun e w'=>e=.returned (.bool (decide (y2=sw/\y3=pt)))/\w.grownBy w' none:=by
 have l1:=World.block_lt_of_cell? w _ c1;have l2:=World.block_lt_of_cell? w _ c2;go_enter Tryz.func253,Tryz.ntmps253;by_cases h1:y2=sw<;>by_cases h2:y3=pt<;>(go_wp2_with fail;go_ret;exact ⟨by simp [h1,h2],World.grownBy_alloc _ _ _⟩)
theorem xl1(v:Value)(n:Nat)(d:Nat->Nat->Int)(sw pt:Int)(b1 b2:Nat)(w:World)(h:LnR w v n d)(c1:w.cell? ⟨b1,0,none⟩=some (.int .i64 sw))(c2:w.cell? ⟨b2,0,none⟩=some (.int .i64 pt)):Calls Tryz.prog 266 #[v,.func (.func 253) #[] #[.pointer (some ⟨b1,0,none⟩),.pointer (some ⟨b2,0,none⟩)]] w fun e w'=>(∃z:Int,e=.returned (.int .i64 z)/\(0<=z↔∃j,j<n/\d j 2=sw/\d j 3=pt))/\w.grownBy w' none:=by
 obtain ⟨a,c,rfl⟩:=h.slice;have hn:=h.few;have HL:=hide h;have C1:=hide c1;have C2:=hide c2;clear h c1 c2;go_enter Tryz.func266,Tryz.ntmps266;go_wp2_with fail;go_loopw [8] (fun s8 wq=>∃i:Nat,i<=n/\s8=.int .i64 i/\w.grownBy wq none/\∀j,j<i->¬(d j 2=sw/\d j 3=pt)) (fun s8 _=>n-(intOf s8).toNat)
 case atStart=>exact ⟨0,by omega,rfl,xjb _ _,fun j hj=>by omega⟩
 case round=>
  obtain ⟨i,hi,rfl,hg,hno⟩:=hrel;have HG:=hide hg;have HN:=hide hno;clear hg hno;by_cases hlt:i<n
  ·obtain ⟨g,off,rfl,hc⟩:=HL.out.at (by omega);have m0:wr.cell? ⟨g,off+i*4,none⟩=some (.int .i64 (d i 0)):=HG.out.cell (hc i hlt 0 (by omega)) (by simp);have m1:=HG.out.cell (hc i hlt 1 (by omega)) (by simp);have m2:=HG.out.cell (hc i hlt 2 (by omega)) (by simp);have m3:=HG.out.cell (hc i hlt 3 (by omega)) (by simp);have hltI:(i:Int)<n:=by omega
   obtain ⟨y0,hy0⟩:∃y,y=d i 0:=⟨_,rfl⟩;obtain ⟨y1,hy1⟩:∃y,y=d i 1:=⟨_,rfl⟩;obtain ⟨y2,hy2⟩:∃y,y=d i 2:=⟨_,rfl⟩;obtain ⟨y3,hy3⟩:∃y,y=d i 3:=⟨_,rfl⟩;rw [<-hy0] at m0;rw [<-hy1] at m1;rw [<-hy2] at m2;rw [<-hy3] at m3;have HY2:=hide hy2;have HY3:=hide hy3;have HC:=hide (xlm y0 y1 y2 y3 sw pt b1 b2 wr (HG.out.cell C1.out (by simp)) (HG.out.cell C2.out (by simp)));clear hy0 hy1 hy2 hy3 hc;go_wp2_with fail;refine HC.out.mono ?_;rintro e w2 ⟨rfl,g2⟩;have G2:=hide (xje HG.out g2);clear g2 HG HC;by_cases hh:y2=sw/\y3=pt
   ·rw [decide_eq_true hh];go_wp2_with fail;go_ret;exact ⟨⟨i,rfl,⟨fun _=>⟨i,hlt,by rw [<-HY2.out,<-HY3.out];exact hh⟩,fun _=>by omega⟩⟩,G2.out⟩
   ·rw [decide_eq_false hh];go_wp2_with fail;refine ⟨⟨i+1,by omega,by go_num,G2.out,fun j hj=>?_⟩,by simp [intOf];omega⟩;rcases Nat.lt_or_ge j i with e|e
    ·exact HN.out j e
    ·obtain rfl:j=i:=by omega
     rw [<-HY2.out,<-HY3.out];exact hh
  ·obtain rfl:n=i:=by omega
   go_wp2_with fail;go_ret;exact ⟨⟨-1,rfl,⟨fun h=>by omega,fun ⟨j,hj,hh⟩=>absurd hh (HN.out j hj)⟩⟩,HG.out⟩
theorem xlb(v:Value)(n:Nat)(d:Nat->Nat->Int)(sw pt:Int)(b1 b2:Nat)(w:World)(h:LnR w v n d)(c1:w.cell? ⟨b1,0,none⟩=some (.int .i64 sw))(c2:w.cell? ⟨b2,0,none⟩=some (.int .i64 pt)):Calls Tryz.prog 252 #[v,.func (.func 253) #[] #[.pointer (some ⟨b1,0,none⟩),.pointer (some ⟨b2,0,none⟩)]] w fun e w'=>e=.returned (.bool (decide (∃j,j<n/\d j 2=sw/\d j 3=pt)))/\w.grownBy w' none:=by
 have HC:=hide (xl1 v n d sw pt b1 b2 w h c1 c2);obtain ⟨a,c,rfl⟩:=h.slice;clear h c1 c2;go_enter Tryz.func252,Tryz.ntmps252;go_wp2_with fail;refine HC.out.mono ?_;rintro e w2 ⟨⟨z,rfl,hz⟩,g2⟩;have HZ:=hide hz;have G2:=hide g2;clear hz g2 HC;go_wp2_with fail;go_ret;exact ⟨congrArg (fun b=>Ending.returned (Value.bool b)) (decide_eq_decide.2 HZ.out),G2.out⟩
theorem xee(w:World)(v:Value)(T:TypeId):(w.alloc (.cells #[v] T)).cell? ⟨w.heap.size,0,none⟩=some v:=by
 simp only [World.cell?,heap_alloc_new];rfl
theorem xln(v:Value)(n:Nat)(d:Nat->Nat->Int)(sw pt:Int)(w:World)(h:LnR w v n d):Calls Tryz.prog 221 #[v,.int .i64 sw,.int .i64 pt] w fun e w'=>e=.returned (.bool (decide (∃j,j<n/\d j 2=sw/\d j 3=pt)))/\w.grownBy w' none:=by
 have HC:=hide (xlb v n d sw pt w.heap.size (w.heap.size+1) ((w.alloc (.cells #[.int .i64 sw] 3)).alloc (.cells #[.int .i64 pt] 3)) (h.grown (xje (World.grownBy_alloc _ _ _) (World.grownBy_alloc _ _ _))) ((World.grownBy_alloc _ _ none).cell (xee w _ _) (by simp)) (by rw [show w.heap.size+1=(w.alloc (.cells #[.int .i64 sw] 3)).heap.size by simp];exact xee _ _ _));have hg:Hid (w.grownBy ((w.alloc (.cells #[.int .i64 sw] 3)).alloc (.cells #[.int .i64 pt] 3)) none):=xje (World.grownBy_alloc _ _ _) (World.grownBy_alloc _ _ _);obtain ⟨a,c,rfl⟩:=h.slice;clear h;go_enter Tryz.func221,Tryz.ntmps221;go_wp2_with fail;refine HC.out.mono ?_;rintro e w2 ⟨rfl,g2⟩;have G2:=hide (xje hg.out g2);clear g2 HC hg;go_wp2_with fail;go_ret;exact ⟨rfl,G2.out⟩
def fromS(d:Nat->Nat->Int)(sw pt:Int):Nat->Option Nat
 | 0=>none
 | n+1=>match fromS d sw pt n with
  | some j=>some j
  | none=>if d n 0=sw/\d n 1=pt then some n else none
theorem xie{d:Nat->Nat->Int}{sw pt:Int}:∀{n:Nat},fromS d sw pt n=none↔∀j,j<n->¬(d j 0=sw/\d j 1=pt)
 | 0=>⟨fun _ j hj=>by omega,fun _=>rfl⟩
 | n+1=>by
  have ih:=xie (d:=d) (sw:=sw) (pt:=pt) (n:=n);rw [fromS];cases h:fromS d sw pt n with
  | some j=>
   rw [h] at ih;exact ⟨fun e=>(by cases e),fun e=>absurd (ih.2 (fun j hj=>e j (by omega))) (by simp)⟩
  | none=>
   have ih:=ih.1 h;by_cases hh:d n 0=sw/\d n 1=pt
   ·rw [if_pos hh];exact ⟨fun e=>(by cases e),fun e=>absurd hh (e n (by omega))⟩
   ·rw [if_neg hh];refine ⟨fun _ j hj=>?_,fun _=>rfl⟩;rcases Nat.lt_or_ge j n with e|e
    ·exact ih j e
    ·obtain rfl:j=n:=by omega
     exact hh
theorem xif{d:Nat->Nat->Int}{sw pt:Int}:∀{n j:Nat},fromS d sw pt n=some j->j<n/\d j 0=sw/\d j 1=pt
 | 0,j,h=>by cases h
 | n+1,j,h=>by
  rw [fromS] at h;cases h2:fromS d sw pt n with
  | some i=>
   rw [h2] at h;cases h;have:=xif h2;exact ⟨by omega,this.2⟩
  | none=>
   rw [h2] at h;simp only at h;by_cases hh:d n 0=sw/\d n 1=pt
   ·rw [if_pos hh] at h;cases h;exact ⟨by omega,hh⟩
   ·rw [if_neg hh] at h;cases h
theorem xid{d:Nat->Nat->Int}{sw pt:Int}{i:Nat}(h1:∀j,j<i->¬(d j 0=sw/\d j 1=pt))(h2:d i 0=sw/\d i 1=pt):∀n,i<n->fromS d sw pt n=some i
 | 0,h=>by omega
 | n+1,h=>by
  rw [fromS];rcases Nat.lt_or_ge i n with e|e
  ·rw [xid h1 h2 n e]
  ·obtain rfl:i=n:=by omega
   rw [xie.2 h1];simp only;rw [if_pos h2]
def fromA(d:Nat->Nat->Int):Option Nat->Value
 | some j=>.tuple #[.agg #[.int .i64 (d j 0),.int .i64 (d j 1),.int .i64 (d j 2),.int .i64 (d j 3)],.bool true]
 | none=>.tuple #[.agg #[.int .i64 0,.int .i64 0,.int .i64 0,.int .i64 0],.bool false]
theorem xlz(v:Value)(n:Nat)(d:Nat->Nat->Int)(sw pt:Int)(w:World)(h:LnR w v n d):Calls Tryz.prog 220 #[v,.int .i64 sw,.int .i64 pt] w fun e w'=>e=.returned (fromA d (fromS d sw pt n))/\w.grownBy w' none:=by
 obtain ⟨a,c,rfl⟩:=h.slice;have hn:=h.few;have HL:=hide h;clear h;obtain ⟨R,hR⟩:∃R,R=fromA d (fromS d sw pt n):=⟨_,rfl⟩;rw [<-hR];have HR:=hide hR;clear hR;go_enter Tryz.func220,Tryz.ntmps220;go_wp2_with fail;obtain ⟨w0,hw0⟩:∃w0,w0=w.alloc (.cells #[.int .i64 0,.int .i64 0,.int .i64 0,.int .i64 0] 139):=⟨_,rfl⟩;have G0:Hid (w.grownBy w0 none):=by rw [hw0];exact World.grownBy_alloc _ _ _
 have R0:Hid (w0.heap[w.heap.size]?=some (.cells #[.int .i64 0,.int .i64 0,.int .i64 0,.int .i64 0] 139 (0,0))):=by show _=_;rw [hw0];exact heap_alloc_new w _
 rw [<-hw0];clear hw0;go_loopw [12] (fun s12 wq=>∃i:Nat,i<=n/\s12=.int .i64 i/\w0.grownBy wq none/\∀j,j<i->¬(d j 0=sw/\d j 1=pt)) (fun s12 _=>n-(intOf s12).toNat)
 case atStart=>exact ⟨0,by omega,rfl,xjb _ _,fun j hj=>by omega⟩
 case round=>
  obtain ⟨i,hi,rfl,hg,hno⟩:=hrel;have HG:=hide hg;have HN:=hide hno;have RR:=xc9 R0.out hg (by simp);have z0:=xc7 RR 0 _ rfl;have z1:=xc7 RR 1 _ rfl;have z2:=xc7 RR 2 _ rfl;have z3:=xc7 RR 3 _ rfl;have zf:∀o,wr.frozen? ⟨w.heap.size,o,none⟩=false:=fun o=>by simp [World.frozen?,RR]
  have hzl:w.heap.size<wr.heap.size:=(Array.getElem?_eq_some_iff.1 RR).1;have HRR:=hide RR;clear hg hno RR;by_cases hlt:i<n
  ·obtain ⟨g,off,rfl,hc⟩:=HL.out.at (by omega);have hgl:g<w.heap.size:=World.block_lt_of_cell? w _ (hc i hlt 0 (by omega));have m0:wr.cell? ⟨g,off+i*4,none⟩=some (.int .i64 (d i 0)):=HG.out.cell (G0.out.cell (hc i hlt 0 (by omega)) (by simp)) (by simp);have m1:=HG.out.cell (G0.out.cell (hc i hlt 1 (by omega)) (by simp)) (by simp);have m2:=HG.out.cell (G0.out.cell (hc i hlt 2 (by omega)) (by simp)) (by simp);have m3:=HG.out.cell (G0.out.cell (hc i hlt 3 (by omega)) (by simp)) (by simp);have hltI:(i:Int)<n:=by omega
   obtain ⟨y0,hy0⟩:∃y,y=d i 0:=⟨_,rfl⟩;obtain ⟨y1,hy1⟩:∃y,y=d i 1:=⟨_,rfl⟩;obtain ⟨y2,hy2⟩:∃y,y=d i 2:=⟨_,rfl⟩;obtain ⟨y3,hy3⟩:∃y,y=d i 3:=⟨_,rfl⟩;rw [<-hy0] at m0;rw [<-hy1] at m1;rw [<-hy2] at m2;rw [<-hy3] at m3;have HY:Hid (y0=d i 0/\y1=d i 1/\y2=d i 2/\y3=d i 3):=⟨hy0,hy1,hy2,hy3⟩;clear hy0 hy1 hy2 hy3 hc;by_cases h0:y0=sw
   ·by_cases h1:y1=pt
    ·go_wp2_with fail;have RW:=xc9 (xjh (xjh (xjh (xjh HRR.out 0 (.int .i64 sw)) 1 (.int .i64 pt)) 2 (.int .i64 y2)) 3 (.int .i64 y3)) (World.grownBy_alloc _ (.cells #[.int .i64 sw,.int .i64 pt,.int .i64 y2,.int .i64 y3] 139) none) (by simp);have gW:=xje (xje (xje (xje (xjc wr w.heap.size 0 (.int .i64 sw)) (xjc _ _ 1 (.int .i64 pt))) (xjc _ _ 2 (.int .i64 y2))) (xjc _ _ 3 (.int .i64 y3))) (World.grownBy_alloc _ (.cells #[.int .i64 sw,.int .i64 pt,.int .i64 y2,.int .i64 y3] 139) (some w.heap.size));have e0:=xc7 RW 0 _ rfl;have e1:=xc7 RW 1 _ rfl;have e2:=xc7 RW 2 _ rfl;have e3:=xc7 RW 3 _ rfl;generalize World.alloc _ _=W at RW gW e0 e1 e2 e3 ⊢;refine bodyPost_ret (v:=.tuple #[.agg #[.int .i64 sw,.int .i64 pt,.int .i64 y2,.int .i64 y3],.bool true]) (by simp [results,Tryz.results220,go_sem,e0,e1,e2,e3]) rfl ?_;refine ⟨?_,xja (xje G0.out HG.out) gW (fun b e=>by cases e;exact Nat.le_refl _)⟩;rw [HR.out,xid (i:=i) HN.out (by rw [<-HY.out.1,<-HY.out.2.1];exact ⟨h0,h1⟩) n hlt,fromA,<-HY.out.1,<-HY.out.2.1,<-HY.out.2.2.1,<-HY.out.2.2.2,h0,h1]
    ·go_wp2_with fail;refine ⟨⟨i+1,by omega,by go_num,xje HG.out (World.grownBy_alloc _ _ _),fun j hj=>?_⟩,by simp [intOf];omega⟩;rcases Nat.lt_or_ge j i with e|e
     ·exact HN.out j e
     ·obtain rfl:j=i:=by omega
      rw [<-HY.out.1,<-HY.out.2.1];exact fun h=>h1 h.2
   ·go_wp2_with fail;refine ⟨⟨i+1,by omega,by go_num,xje HG.out (World.grownBy_alloc _ _ _),fun j hj=>?_⟩,by simp [intOf];omega⟩;rcases Nat.lt_or_ge j i with e|e
    ·exact HN.out j e
    ·obtain rfl:j=i:=by omega
     rw [<-HY.out.1,<-HY.out.2.1];exact fun h=>h0 h.1
  ·obtain rfl:n=i:=by omega
   go_wp2_with fail;have RW:=xjh (xjh (xjh (xjh HRR.out 0 (.int .i64 0)) 1 (.int .i64 0)) 2 (.int .i64 0)) 3 (.int .i64 0);have gW:=xje (xje (xje (xjc wr w.heap.size 0 (.int .i64 0)) (xjc _ _ 1 (.int .i64 0))) (xjc _ _ 2 (.int .i64 0))) (xjc _ _ 3 (.int .i64 0));have e0:=xc7 RW 0 _ rfl;have e1:=xc7 RW 1 _ rfl;have e2:=xc7 RW 2 _ rfl;have e3:=xc7 RW 3 _ rfl;generalize World.setCell _ _ _=W at RW gW e0 e1 e2 e3 ⊢;refine bodyPost_ret (v:=.tuple #[.agg #[.int .i64 0,.int .i64 0,.int .i64 0,.int .i64 0],.bool false]) (by simp [results,Tryz.results220,go_sem,e0,e1,e2,e3]) rfl ?_;refine ⟨?_,xja (xje G0.out HG.out) gW (fun b e=>by cases e;exact Nat.le_refl _)⟩;rw [HR.out,xie.2 HN.out];rfl
def hostS(d:Nat->Nat->Int)(n:Nat)(sw pt:Int):Prop:=(0<=pt/\pt<8)/\∀j,j<n->¬(d j 0=sw/\d j 1=pt)/\¬(d j 2=sw/\d j 3=pt)
instance(d:Nat->Nat->Int)(n:Nat)(sw pt:Int):Decidable (hostS d n sw pt):=by unfold hostS;exact inferInstance
theorem xl0(v:Value)(n:Nat)(d:Nat->Nat->Int)(sw pt:Int)(w:World)(h:LnR w v n d):Calls Tryz.prog 163 #[v,.int .i64 sw,.int .i64 pt] w fun e w'=>e=.returned (.bool (decide (hostS d n sw pt)))/\w.grownBy w' none:=by
 have HF:=hide (xlz v n d sw pt w h);have HE:Hid (∀ww,w.grownBy ww none->Calls Tryz.prog 221 #[v,.int .i64 sw,.int .i64 pt] ww fun e w'=>e=.returned (.bool (decide (∃j,j<n/\d j 2=sw/\d j 3=pt)))/\ww.grownBy w' none):=fun ww hg=>xln v n d sw pt ww (h.grown hg)
 have HP:Hid (∀ww,Calls Tryz.prog 219 #[.int .i64 pt] ww fun e w'=>e=.returned (.bool (decide (0<=pt/\pt<8)))/\w'=ww):=fun ww=>xj4 pt ww
 obtain ⟨a,c,rfl⟩:=h.slice;clear h;obtain ⟨R,hR⟩:∃R,R=decide (hostS d n sw pt):=⟨_,rfl⟩;rw [<-hR];have HR:=hide hR;clear hR;go_enter Tryz.func163,Tryz.ntmps163;go_wp2_with fail;refine HF.out.mono ?_;rintro e w2 ⟨rfl,g2⟩;have G2:=hide g2;clear g2 HF;cases hf:fromS d sw pt n with
 | some j=>
  have H0:Hid (R=false):=by
   show _=_;rw [HR.out];exact decide_eq_false (fun hh=>by have:=xif hf;exact (hh.2 j this.1).1 this.2)
  clear hf HR;unfold fromA;go_wp2_with fail;refine (HP.out _).mono ?_;rintro e w3 ⟨rfl,rfl⟩;have G3:=hide (xje G2.out (World.grownBy_alloc w2 (.cells #[.int .i64 (d j 0),.int .i64 (d j 1),.int .i64 (d j 2),.int .i64 (d j 3)] 139) none));by_cases hp:0<=pt/\pt<8
  ·rw [decide_eq_true hp];go_wp2_with fail;go_ret;exact ⟨by rw [H0.out];rfl,G3.out⟩
  ·rw [decide_eq_false hp];go_wp2_with fail;go_ret;exact ⟨by rw [H0.out];rfl,G3.out⟩
 | none=>
  have HN:=hide (xie.1 hf);clear hf;unfold fromA;go_wp2_with fail;refine (HP.out _).mono ?_;rintro e w3 ⟨rfl,rfl⟩;have G3:=hide (xje G2.out (World.grownBy_alloc w2 (.cells #[.int .i64 0,.int .i64 0,.int .i64 0,.int .i64 0] 139) none));by_cases hp:0<=pt/\pt<8
  ·have HP2:=hide hp;rw [decide_eq_true hp];clear hp;go_wp2_with fail;refine (HE.out _ G3.out).mono ?_;rintro e w4 ⟨rfl,g4⟩;have G4:=hide (xje G3.out g4);clear g4;by_cases hx:∃j,j<n/\d j 2=sw/\d j 3=pt
   ·have H0:Hid (R=false):=by
     show _=_;rw [HR.out];exact decide_eq_false (fun hh=>by obtain ⟨j,h1,h2⟩:=hx;exact (hh.2 j h1).2 h2)
    rw [decide_eq_true hx];clear hx HR;go_wp2_with fail;go_ret;exact ⟨by rw [H0.out];rfl,G4.out⟩
   ·have H0:Hid (R=true):=by
     show _=_;rw [HR.out];exact decide_eq_true ⟨HP2.out,fun j hj=>⟨HN.out j hj,fun h=>hx ⟨j,hj,h⟩⟩⟩
    rw [decide_eq_false hx];clear hx HR;go_wp2_with fail;go_ret;exact ⟨by rw [H0.out];rfl,G4.out⟩
  ·have H0:Hid (R=false):=by
    show _=_;rw [HR.out];exact decide_eq_false (fun hh=>hp hh.1)
   rw [decide_eq_false hp];clear HR;go_wp2_with fail;go_ret;exact ⟨by rw [H0.out];rfl,G3.out⟩
theorem xgq{P:Program}(w:World)(t e:TypeId)(a:Option Addr)(l c:Nat)(h:P.underlying t=some (.slice e)):(binOp .eql t (.slice a l c) (.slice none 0 0)).run P w=.ok (.bool a.isNone) w:=by
 simp only [binOp];simp [run_equal_slice_nil w t e a l c h]
def Src(w:World)(v:Value)(n size:Nat)(xs:List Value):Prop:=
 xs.length=n*size/\(∀u∈xs,u.oneCell'=true)/\((v=.slice none 0 0/\n=0)\/∃ad c,v=.slice (some ad) n c/\∀j u,xs[j]?=some u->w.cell? (ad.add j)=some u)
theorem QRow.src{B:Nat}{w:World}{T:TypeId}{size:Nat}{v:Value}{n:Nat}{xs:List Value}(h:QRow B w T size v n xs)(h1:∀u∈xs,u.oneCell'=true):Src w v n size xs:=by
 refine ⟨h.1,h1,?_⟩;have hc:=h;rcases h.2 with ⟨e,e2⟩|⟨g,off,cap,cur,rfl,_⟩
 ·exact .inl ⟨e,e2⟩
 ·refine .inr ⟨_,_,rfl,fun j u hj=>?_⟩;rw [show (⟨g,off,none⟩:Addr).add j=⟨g,off+j,none⟩ by unfold Addr.add;split<;>simp_all];exact hc.cells j u hj
theorem Tryz.infoNLk:(Tryz.prog.info? 139).map (fun i=>(i.zero,i.size,i.bytes))=some (some (.agg #[.int .i64 0,.int .i64 0,.int .i64 0,.int .i64 0]),4,32):=by kernel_rfl
theorem xeh(v:Value)(n:Nat)(xs:List Value)(w:World)(h:Src w v n 4 xs)(hn:n*32<=140737488355328):Calls Tryz.prog 157 #[v] w fun e w'=>∃v',e=.returned v'/\w'.ownsRow w.heap.size 139 4 v' n xs/\w.grownBy w' none:=by
 obtain ⟨hl,h1,h2⟩:=h;have HL:=hide hl;have H1:=hide h1;clear hl h1;have hU:∀(a:Option Addr) (l c:Nat) (ww:World),(binOp .eql 75 (.slice a l c) (.slice none 0 0)).run Tryz.prog ww=.ok (.bool a.isNone) ww:=fun a l c ww=>xgq ww _ _ a l c Tryz.underlying75
 obtain ⟨i0,hi0,hz0,hz1,hz2⟩:=info_parts Tryz.infoNLk;have HI:Hid (Tryz.prog.info? 139=some i0):=hi0;have HZ0:=hide hz0;have HZ1:=hide hz1;have HZ2:=hide hz2;clear hi0 hz0 hz1 hz2;rcases h2 with ⟨rfl,rfl⟩|⟨ad,c,rfl,hc⟩
 ·go_enter Tryz.func157,Tryz.ntmps157;go_wp2_with fail;go_ret;obtain rfl:xs=[]:=List.eq_nil_of_length_eq_zero (by have:=HL.out;omega);exact ⟨_,rfl,World.ownsRow_nil _ _ _ _,xjb _ _⟩
 ·have HC:=hide hc;clear hc;go_enter Tryz.func157,Tryz.ntmps157;have OE:Hid ((w.alloc (.cells #[] 139)).ownsRow w.heap.size 139 4 (.slice (some ⟨w.heap.size,0,none⟩) 0 0) 0 []):=⟨rfl,.inr ⟨_,_,_,rfl,Nat.le_refl _,heap_alloc_new w _,Nat.le_refl _,Nat.zero_le _,rfl,rfl⟩⟩;go_wp2_with (at_builtin;refine wpList_append_own_at _ rfl _ _ 75 rfl w.heap.size 139 i0 _ 4 32 Tryz.underlying75 HI.out HZ0.out HZ1.out HZ2.out rfl (by decide) _ _ _ rfl OE.out ad n c xs rfl HL.out (fun j u hj=>(World.grownBy_alloc _ _ none).cell (HC.out j u hj) (by simp)) H1.out (by unfold maxLen;omega) (by omega) (by simp) ?_);intro v' w' o1 g1 _ _;have O1:Hid (w'.ownsRow w.heap.size 139 4 v' n xs):=by show World.ownsRow _ _ _ _ _ _ _;simpa using o1
  have G1:Hid (w.grownBy w' none):=xja (World.grownBy_alloc _ _ none) g1 (fun b e=>by cases e;exact Nat.le_refl _);clear o1 g1;go_wp2_with fail;go_ret;exact ⟨_,rfl,O1.out,G1.out⟩
theorem Tryz.infoNSt:(Tryz.prog.info? 9).map (fun i=>(i.zero,i.size,i.bytes))=some (some (.string ByteArray.empty),1,16):=by kernel_rfl
theorem xej(v:Value)(n:Nat)(xs:List Value)(w:World)(h:Src w v n 1 xs)(hn:n*16<=140737488355328):Calls Tryz.prog 183 #[v] w fun e w'=>∃v',e=.returned v'/\w'.ownsRow w.heap.size 9 1 v' n xs/\w.grownBy w' none:=by
 obtain ⟨hl,h1,h2⟩:=h;have HL:=hide hl;have H1:=hide h1;clear hl h1;have hU:∀(a:Option Addr) (l c:Nat) (ww:World),(binOp .eql 35 (.slice a l c) (.slice none 0 0)).run Tryz.prog ww=.ok (.bool a.isNone) ww:=fun a l c ww=>xgq ww _ _ a l c Tryz.underlying35
 obtain ⟨i0,hi0,hz0,hz1,hz2⟩:=info_parts Tryz.infoNSt;have HI:Hid (Tryz.prog.info? 9=some i0):=hi0;have HZ0:=hide hz0;have HZ1:=hide hz1;have HZ2:=hide hz2;clear hi0 hz0 hz1 hz2;rcases h2 with ⟨rfl,rfl⟩|⟨ad,c,rfl,hc⟩
 ·go_enter Tryz.func183,Tryz.ntmps183;go_wp2_with fail;go_ret;obtain rfl:xs=[]:=List.eq_nil_of_length_eq_zero (by have:=HL.out;omega);exact ⟨_,rfl,World.ownsRow_nil _ _ _ _,xjb _ _⟩
 ·have HC:=hide hc;clear hc;go_enter Tryz.func183,Tryz.ntmps183;have OE:Hid ((w.alloc (.cells #[] 9)).ownsRow w.heap.size 9 1 (.slice (some ⟨w.heap.size,0,none⟩) 0 0) 0 []):=⟨rfl,.inr ⟨_,_,_,rfl,Nat.le_refl _,heap_alloc_new w _,Nat.le_refl _,Nat.zero_le _,rfl,rfl⟩⟩;go_wp2_with (at_builtin;refine wpList_append_own_at _ rfl _ _ 35 rfl w.heap.size 9 i0 _ 1 16 Tryz.underlying35 HI.out HZ0.out HZ1.out HZ2.out rfl (by decide) _ _ _ rfl OE.out ad n c xs rfl HL.out (fun j u hj=>(World.grownBy_alloc _ _ none).cell (HC.out j u hj) (by simp)) H1.out (by unfold maxLen;omega) (by omega) (by simp) ?_);intro v' w' o1 g1 _ _;have O1:Hid (w'.ownsRow w.heap.size 9 1 v' n xs):=by show World.ownsRow _ _ _ _ _ _ _;simpa using o1
  have G1:Hid (w.grownBy w' none):=xja (World.grownBy_alloc _ _ none) g1 (fun b e=>by cases e;exact Nat.le_refl _);clear o1 g1;go_wp2_with fail;go_ret;exact ⟨_,rfl,O1.out,G1.out⟩
theorem Tryz.infoNPk:(Tryz.prog.info? 46).map (fun i=>(i.zero,i.size,i.bytes))=some (some (.agg #[.int .i64 0,.int .i64 0,.int .i64 0,.int .i64 0,.int .i64 0,.int .i64 0]),6,48):=by kernel_rfl
theorem xei(v:Value)(n:Nat)(xs:List Value)(w:World)(h:Src w v n 6 xs)(hn:n*48<=140737488355328):Calls Tryz.prog 184 #[v] w fun e w'=>∃v',e=.returned v'/\w'.ownsRow w.heap.size 46 6 v' n xs/\w.grownBy w' none:=by
 obtain ⟨hl,h1,h2⟩:=h;have HL:=hide hl;have H1:=hide h1;clear hl h1;have hU:∀(a:Option Addr) (l c:Nat) (ww:World),(binOp .eql 29 (.slice a l c) (.slice none 0 0)).run Tryz.prog ww=.ok (.bool a.isNone) ww:=fun a l c ww=>xgq ww _ _ a l c Tryz.underlying29
 obtain ⟨i0,hi0,hz0,hz1,hz2⟩:=info_parts Tryz.infoNPk;have HI:Hid (Tryz.prog.info? 46=some i0):=hi0;have HZ0:=hide hz0;have HZ1:=hide hz1;have HZ2:=hide hz2;clear hi0 hz0 hz1 hz2;rcases h2 with ⟨rfl,rfl⟩|⟨ad,c,rfl,hc⟩
 ·go_enter Tryz.func184,Tryz.ntmps184;go_wp2_with fail;go_ret;obtain rfl:xs=[]:=List.eq_nil_of_length_eq_zero (by have:=HL.out;omega);exact ⟨_,rfl,World.ownsRow_nil _ _ _ _,xjb _ _⟩
 ·have HC:=hide hc;clear hc;go_enter Tryz.func184,Tryz.ntmps184;have OE:Hid ((w.alloc (.cells #[] 46)).ownsRow w.heap.size 46 6 (.slice (some ⟨w.heap.size,0,none⟩) 0 0) 0 []):=⟨rfl,.inr ⟨_,_,_,rfl,Nat.le_refl _,heap_alloc_new w _,Nat.le_refl _,Nat.zero_le _,rfl,rfl⟩⟩;go_wp2_with (at_builtin;refine wpList_append_own_at _ rfl _ _ 29 rfl w.heap.size 46 i0 _ 6 48 Tryz.underlying29 HI.out HZ0.out HZ1.out HZ2.out rfl (by decide) _ _ _ rfl OE.out ad n c xs rfl HL.out (fun j u hj=>(World.grownBy_alloc _ _ none).cell (HC.out j u hj) (by simp)) H1.out (by unfold maxLen;omega) (by omega) (by simp) ?_);intro v' w' o1 g1 _ _;have O1:Hid (w'.ownsRow w.heap.size 46 6 v' n xs):=by show World.ownsRow _ _ _ _ _ _ _;simpa using o1
  have G1:Hid (w.grownBy w' none):=xja (World.grownBy_alloc _ _ none) g1 (fun b e=>by cases e;exact Nat.le_refl _);clear o1 g1;go_wp2_with fail;go_ret;exact ⟨_,rfl,O1.out,G1.out⟩
theorem Tryz.infoNRl:(Tryz.prog.info? 68).map (fun i=>(i.zero,i.size,i.bytes))=some (some (.agg #[.int .i64 0,.int .i64 0,.int .i64 0,.int .i64 0,.int .i64 0,.int .i64 0,.int .i64 0,.slice none 0 0]),8,80):=by kernel_rfl
def tlO(size off c:Nat):Nat:=if c=1 then off else off+size
theorem xzl(g size off c:Nat):(if c=1 then some (⟨g,off,none⟩:Addr) else some ⟨g,off+size,none⟩)=some ⟨g,tlO size off c,none⟩:=by
 unfold tlO;by_cases h:c=1
 ·rw [if_pos h,if_pos h]
 ·rw [if_neg h,if_neg h]
theorem QRow.tailT{B:Nat}{w:World}{T:TypeId}{size:Nat}{g off c n:Nat}{xs:List Value}(h:QRow B w T size (.slice (Option.some ⟨g,off,Option.none⟩) (n+1) c) (n+1) xs):QRow B w T size (.slice (Option.some ⟨g,tlO size off c,Option.none⟩) n (c-1)) n (xs.drop size):=by
 unfold tlO;by_cases hc:c=1
 ·rw [if_pos hc];have h0:=h.1;rcases h.2 with ⟨e,_⟩|⟨g',off',cap,cur,h1,h2,h3,h4,h5,h6,h7⟩
  ·cases e
  ·cases h1;obtain rfl:n=0:=by omega
   refine ⟨by rw [List.length_drop,h0];omega,.inr ⟨g,off,c-1,cur,rfl,h2,h3,by omega,by omega,by subst hc;omega,fun j hj=>by omega⟩⟩
 ·rw [if_neg hc];exact h.tail
theorem xfh{P:Program}(w:World)(dT sT ty elem:TypeId)(i:TypeInfo)(d a:Option Addr)(dLen dCap sCap:Nat)(hu:P.underlying dT=some (.slice elem))(hi:P.info? elem=some i):
  (Builtin.copy_ #[dT,sT] ty #[.slice d dLen dCap,.slice a 0 sCap]).run P w=.ok (goInt 0) w:=by
 have hl:∀(x:Addr),(loadCells x 0).run P w=.ok #[] w:=fun x=>by simpa using run_loadCells_list (P:=P) w x [] (by simp)
 have hmin:Nat.min 0 dLen=0:=Nat.min_eq_left (Nat.zero_le _);cases d<;>cases a<;>simp [Builtin.copy_,run_underlying hu,Builtin.lenOf,Builtin.firstCells,sizeOf,typeInfo,hi,hmin,storeCells,hl]
theorem xxf{P:Program}{ops:Array Oper}{o:Oper}{a:Act}{w w2:World}{K:Act->World->Prop}{Q:Exit->Act->World->Prop}{E:Prop}(hg:o.guard=none)(d s:Operand)(dT sT:TypeId)
  (ho:o.op=.call { callee:=.builtin .copy,args:=#[d,s],argTypes:=#[dT,sT] }) (vd vs v:Value) (hd:a.eval d=vd) (hs:a.eval s=vs)
  (hrun:∀ty,(Builtin.copy_ #[dT,sT] ty #[vd,vs]).run P w=.ok v w2)
  (h:K (a.put o.dst v) w2):if Region.wanted o (yielded ops a.tmps)=true then Oper.wp P o a w K Q else E:=by
 have hw:Region.wanted o (yielded ops a.tmps)=true:=by simp [Region.wanted,hg]
 rw [if_pos hw];unfold Oper.wp;simp [execOp,ho,resolve,invoke,builtin,hs,hd,hrun,Result.andThen];exact h
theorem xy5(B:Nat)(b o g off n c:Nat)(T:TypeId)(cur:Array Value)(x:Nat->Int)(xs:List Value)(w:World)(hb:w.heap[b]?=some (.cells cur T (0,0)))(ho:cur[o]?=some (.slice (some ⟨g,off,none⟩) (n+1) c))(h:QRow B w 46 6 (.slice (some ⟨g,off,none⟩) (n+1) c) (n+1) (.int .i64 (x 0) :: .int .i64 (x 1) :: .int .i64 (x 2) :: .int .i64 (x 3) :: .int .i64 (x 4) :: .int .i64 (x 5)::xs)):
  Calls Tryz.prog 175 #[.pointer (some ⟨b,o,none⟩),.int .i64 0] w fun e w'=>e=.returned (.agg #[.int .i64 (x 0),.int .i64 (x 1),.int .i64 (x 2),.int .i64 (x 3),.int .i64 (x 4),.int .i64 (x 5)])/\w'.heap[b]?=some (.cells (cur.setIfInBounds o (.slice (some ⟨g,tlO 6 off c,none⟩) n (c-1))) T (0,0))/\w.grownBy w' (some b):=by
 have hnc:=(h.some (by omega)).choose_spec.choose_spec.2;have hfew:=h.few;unfold maxLen at hfew;have m0:w.cell? ⟨g,off,none⟩=some (.int .i64 (x 0)):=h.cell 0 (by omega);have m1:w.cell? ⟨g,off+1,none⟩=some (.int .i64 (x 1)):=h.cell 1 (by omega);have m2:w.cell? ⟨g,off+2,none⟩=some (.int .i64 (x 2)):=h.cell 2 (by omega);have m3:w.cell? ⟨g,off+3,none⟩=some (.int .i64 (x 3)):=h.cell 3 (by omega);have m4:w.cell? ⟨g,off+4,none⟩=some (.int .i64 (x 4)):=h.cell 4 (by omega);have m5:w.cell? ⟨g,off+5,none⟩=some (.int .i64 (x 5)):=h.cell 5 (by omega);have p0:=xc7 hb o _ ho;have pf:w.frozen? ⟨b,o,none⟩=false:=by simp [World.frozen?,hb]
 have hgl:=World.block_lt_of_cell? w _ m0;have hbl:=World.block_lt_of_cell? w _ p0;simp only at hgl hbl;have HB:=hide hb;have HH:=hide h;obtain ⟨i0,hi0,hz0,hz1,hz2⟩:=info_parts Tryz.infoNPk;have HI:Hid (Tryz.prog.info? 46=some i0):=hi0;clear hb h hi0 hz0 hz1 hz2 ho;go_enter Tryz.func175,Tryz.ntmps175;go_wp2_with fail;have hif:=xzl g 6 off c;have h1n:(1:Int)<=(n:Int)+1:=by omega
 go_region_law (refine xxf rfl (.tmp 15) (.tmp 18) 29 29 rfl (.slice (some ⟨g,tlO 6 off c,none⟩) n (c-1)) (.slice (some ⟨g,off,none⟩) 0 c) (goInt 0) (by simp [Act.eval,Act.put]) (by simp [Act.eval,Act.put]) (fun ty=>xfh _ _ _ ty _ i0 _ _ _ _ _ Tryz.underlying29 HI.out) ?_)
 all_goals
  go_wp2_with fail;refine bodyPost_ret (v:=.agg #[.int .i64 (x 0),.int .i64 (x 1),.int .i64 (x 2),.int .i64 (x 3),.int .i64 (x 4),.int .i64 (x 5)]) (by simp [results,Tryz.results175,go_sem]) rfl ?_;exact ⟨rfl,xc9 (row:=none) (xc9 (row:=none) (xjh HB.out o _) (World.grownBy_alloc _ _ none) (by simp)) (xi7 (World.grownBy_alloc _ _ none)) (by simp),xi7 (xje (xje (xjc _ _ _ _) (World.grownBy_alloc _ _ _)) (World.grownBy_alloc _ _ _))⟩
theorem xy6(B:Nat)(b o g off n c:Nat)(T:TypeId)(cur:Array Value)(pr:Int)(x:Nat->Int)(va:Option Addr)(vn vc:Nat)(xs:List Value)(w:World)(hb:w.heap[b]?=some (.cells cur T (0,0)))(ho:cur[o]?=some (.slice (some ⟨g,off,none⟩) (n+1) c))(h:QRow B w 68 8 (.slice (some ⟨g,off,none⟩) (n+1) c) (n+1) (.int .i64 pr :: .int .i64 (x 0) :: .int .i64 (x 1) :: .int .i64 (x 2) :: .int .i64 (x 3) :: .int .i64 (x 4) :: .int .i64 (x 5) :: .slice va vn vc::xs)):
  Calls Tryz.prog 222 #[.pointer (some ⟨b,o,none⟩),.int .i64 0] w fun e w'=>e=.returned (.agg #[.int .i64 pr,.int .i64 (x 0),.int .i64 (x 1),.int .i64 (x 2),.int .i64 (x 3),.int .i64 (x 4),.int .i64 (x 5),.slice va vn vc])/\w'.heap[b]?=some (.cells (cur.setIfInBounds o (.slice (some ⟨g,tlO 8 off c,none⟩) n (c-1))) T (0,0))/\w.grownBy w' (some b):=by
 have hnc:=(h.some (by omega)).choose_spec.choose_spec.2;have hfew:=h.few;unfold maxLen at hfew;have m0:w.cell? ⟨g,off,none⟩=some (.int .i64 pr):=h.cell 0 (by omega);have m1:w.cell? ⟨g,off+1,none⟩=some (.int .i64 (x 0)):=h.cell 1 (by omega);have m2:w.cell? ⟨g,off+2,none⟩=some (.int .i64 (x 1)):=h.cell 2 (by omega);have m3:w.cell? ⟨g,off+3,none⟩=some (.int .i64 (x 2)):=h.cell 3 (by omega);have m4:w.cell? ⟨g,off+4,none⟩=some (.int .i64 (x 3)):=h.cell 4 (by omega);have m5:w.cell? ⟨g,off+5,none⟩=some (.int .i64 (x 4)):=h.cell 5 (by omega);have m6:w.cell? ⟨g,off+6,none⟩=some (.int .i64 (x 5)):=h.cell 6 (by omega);have m7:w.cell? ⟨g,off+7,none⟩=some (.slice va vn vc):=h.cell 7 (by omega);have p0:=xc7 hb o _ ho;have pf:w.frozen? ⟨b,o,none⟩=false:=by simp [World.frozen?,hb]
 have hgl:=World.block_lt_of_cell? w _ m0;have hbl:=World.block_lt_of_cell? w _ p0;simp only at hgl hbl;have HB:=hide hb;have HH:=hide h;obtain ⟨i0,hi0,hz0,hz1,hz2⟩:=info_parts Tryz.infoNRl;have HI:Hid (Tryz.prog.info? 68=some i0):=hi0;clear hb h hi0 hz0 hz1 hz2 ho;go_enter Tryz.func222,Tryz.ntmps222;go_wp2_with fail;have hif:=xzl g 8 off c;have h1n:(1:Int)<=(n:Int)+1:=by omega
 go_region_law (refine xxf rfl (.tmp 15) (.tmp 18) 36 36 rfl (.slice (some ⟨g,tlO 8 off c,none⟩) n (c-1)) (.slice (some ⟨g,off,none⟩) 0 c) (goInt 0) (by simp [Act.eval,Act.put]) (by simp [Act.eval,Act.put]) (fun ty=>xfh _ _ _ ty _ i0 _ _ _ _ _ Tryz.underlying36 HI.out) ?_)
 all_goals
  go_wp2_with fail;refine bodyPost_ret (v:=.agg #[.int .i64 pr,.int .i64 (x 0),.int .i64 (x 1),.int .i64 (x 2),.int .i64 (x 3),.int .i64 (x 4),.int .i64 (x 5),.slice va vn vc]) (by simp [results,Tryz.results222,go_sem]) rfl ?_;exact ⟨rfl,xc9 (row:=none) (xc9 (row:=none) (xjh HB.out o _) (World.grownBy_alloc _ _ none) (by simp)) (xi7 (World.grownBy_alloc _ _ none)) (by simp),xi7 (xje (xje (xjc _ _ _ _) (World.grownBy_alloc _ _ _)) (World.grownBy_alloc _ _ _))⟩
theorem QRow.drew{B:Nat}{w:World}{T:TypeId}{size:Nat}{v:Value}{n:Nat}{xs:List Value}(h:QRow B w T size v n xs):QRow B w.drew T size v n xs:=h
theorem xfg{B:Nat}{w:World}{g off n c i:Nat}{L:List ByteArray}(h:QRow B w 9 1 (.slice (some ⟨g,off,none⟩) (n+1) c) (n+1) (L.map .string))(hi:i<=n)(ty:TypeId):
  (Builtin.copy_ #[35,35] ty #[.slice (some ⟨g,tlO 1 off c,none⟩) n (c-1),.slice (some ⟨g,off,none⟩) i c]).run Tryz.prog w=.ok (goInt i) (w.setCells g (off+1) ((L.map .string).take i)):=by
 have hnc:=(h.some (by omega)).choose_spec.choose_spec.2;have hl:L.length=n+1:=by have:=h.1;simp at this;omega
 obtain ⟨i0,hi0,hz0,hz1,hz2⟩:=info_parts Tryz.infoNSt;by_cases h0:i=0
 ·subst h0;exact xfh w _ _ ty _ i0 _ _ _ _ _ Tryz.underlying35 hi0
 ·have hlen:((L.map Value.string).take i).length=i:=by simp;omega
  have ht:tlO 1 off c=off+1:=by unfold tlO;rw [if_neg (by omega)]
  rw [ht];have:=run_copy_cells (P:=Tryz.prog) w 35 35 ty 9 g (off+1) n (c-1) ⟨g,off,none⟩ i c ((L.map .string).take i) Tryz.underlying35 (by rw [hi0];simp [hz1]) (by rw [hlen];exact (Nat.min_eq_left hi).symm) (fun j v hj=>?_) (fun j hj=>?_) (fun j hj=>?_) (fun v hv=>?_)
  ·rw [hlen] at this;exact this
  ·rw [show (⟨g,off,none⟩:Addr).add j=⟨g,off+j,none⟩ by unfold Addr.add;split<;>simp_all];refine h.cells j v ?_
   have hj2:j<i:=by
    rcases Nat.lt_or_ge j i with e|e
    ·exact e
    ·rw [List.getElem?_eq_none (by rw [hlen];exact e)] at hj;cases hj
   rw [List.getElem?_take_of_lt hj2] at hj;exact hj
  ·rw [hlen] at hj;rw [Nat.add_assoc];exact (h.spare (1+j) (by omega)).1
  ·rw [hlen] at hj;rw [Nat.add_assoc];exact (h.spare (1+j) (by omega)).2
  ·obtain ⟨y,_,rfl⟩:=List.mem_map.1 (List.mem_of_mem_take hv);rfl
theorem xg0(L:List ByteArray)(n i:Nat)(hl:L.length=n+1)(hi:i<=n):(L.map Value.string).take (i*1)++(L.map Value.string).drop ((i+1)*1)=(L.eraseIdx i).map Value.string:=by
 rw [Nat.mul_one,Nat.mul_one,List.eraseIdx_eq_take_drop_succ,List.map_append,List.map_take,List.map_drop]
theorem QRow.eraseT{B:Nat}{w:World}{g off n c i:Nat}{L:List ByteArray}(h:QRow B w 9 1 (.slice (Option.some ⟨g,off,Option.none⟩) (n+1) c) (n+1) (L.map .string))(hi:i<=n):QRow B (w.setCells g (off+1) ((L.map .string).take i)) 9 1 (.slice (Option.some ⟨g,tlO 1 off c,Option.none⟩) n (c-1)) n ((L.eraseIdx i).map .string):=by
 have hnc:=(h.some (by omega)).choose_spec.choose_spec.2;have hl:L.length=n+1:=by have:=h.1;simp at this;omega
 by_cases hc:c=1
 ·obtain rfl:n=0:=by omega
  obtain rfl:i=0:=by omega
  have:=h.tailT;rw [<-xg0 L 0 0 hl (Nat.le_refl _)];exact this
 ·have:=h.erase hi;rw [xg0 L n i hl hi,Nat.mul_one] at this;unfold tlO;rw [if_neg hc];exact this
theorem xy7(B:Nat)(b o g off n c i:Nat)(T:TypeId)(cur:Array Value)(x:ByteArray)(L:List ByteArray)(w:World)(hb:w.heap[b]?=some (.cells cur T (0,0)))(ho:cur[o]?=some (.slice (some ⟨g,off,none⟩) (n+1) c))(hgb:g≠b)(hi:i<=n)(hx:L[i]?=some x)(h:QRow B w 9 1 (.slice (some ⟨g,off,none⟩) (n+1) c) (n+1) (L.map .string)):
  Calls Tryz.prog 227 #[.pointer (some ⟨b,o,none⟩),.int .i64 i] w fun e w'=>e=.returned (.string x)/\w'.heap[b]?=some (.cells (cur.setIfInBounds o (.slice (some ⟨g,tlO 1 off c,none⟩) n (c-1))) T (0,0))/\QRow B w' 9 1 (.slice (some ⟨g,tlO 1 off c,none⟩) n (c-1)) n ((L.eraseIdx i).map .string)/\∃w1,w.grownBy w1 (some g)/\w1.grownBy w' (some b)/\QRow B w1 9 1 (.slice (some ⟨g,tlO 1 off c,none⟩) n (c-1)) n ((L.eraseIdx i).map .string):=by
 have hnc:=(h.some (by omega)).choose_spec.choose_spec.2;have hfew:=h.few;unfold maxLen at hfew
 have m0:w.cell? ⟨g,off+i,none⟩=some (.string x):=by
  rw [h.cell i (by omega),List.getElem?_map,hx];rfl
 have p0:=xc7 hb o _ ho;have pf:w.frozen? ⟨b,o,none⟩=false:=by simp [World.frozen?,hb]
 have hgl:=World.block_lt_of_cell? w _ m0;have hbl:=World.block_lt_of_cell? w _ p0;simp only at hgl hbl;have HB:=hide hb;have HH:=hide h;have HX:=hide hx;have HNE:=hide hgb;have hl:L.length=n+1:=by have:=h.1;simp at this;omega
 obtain ⟨i0,hi0,hz0,hz1,hz2⟩:=info_parts Tryz.infoNSt;have HI:Hid (Tryz.prog.info? 9=some i0):=hi0;have HI1:Hid ((Tryz.prog.info? 9).map (·.size)=some 1):=by show _=_;rw [hi0];simp [hz1]
 have HO:=hide ho;clear hb h hi0 hz0 hz1 hz2 ho hx hgb;have hif:=xzl g 1 off c;have h1n:(1:Int)<=(n:Int)+1:=by omega
 have hin:(i:Int)<(n:Int)+1:=by omega
 have hic:(i:Int)<=c:=by omega
 go_enter Tryz.func227,Tryz.ntmps227;go_wp2_with fail
 go_region_law (refine xxf rfl (.tmp 15) (.tmp 18) 35 35 rfl (.slice (some ⟨g,tlO 1 off c,none⟩) n (c-1)) (.slice (some ⟨g,off,none⟩) i c) (goInt i) (by simp [Act.eval,Act.put]) (by simp [Act.eval,Act.put]) (fun ty=>xfg HH.out.drew hi ty) ?_)
 all_goals
  have Q2:=hide (HH.out.drew.eraseT hi);have g2:=xvy g ((L.map .string).take i) (off+1) w.drew;have B2:=xc9 (b:=b) HB.out (show w.grownBy _ (some g) from xjf g2) (fun e=>HNE.out (Option.some.inj e));have GG2:=hide (show w.grownBy _ (some g) from xjf g2);generalize World.setCells _ _ _ _=w2 at Q2 g2 B2 GG2 ⊢;have HB2:=hide B2;have pz:w2.cell? ⟨b,o,none⟩=some (.slice (some ⟨g,off,none⟩) (n+1) c):=xc7 B2 o _ HO.out;have pf2:w2.frozen? ⟨b,o,none⟩=false:=by simp [World.frozen?,B2]
  clear g2 B2 p0 pf m0;go_wp2_with fail;go_ret;exact ⟨rfl,xjh HB2.out o _,Q2.out.kept (xjc _ _ _ _) (fun b' e k=>by cases e;exact HNE.out (Option.some.inj k)),w2,GG2.out,xjc _ _ _ _,Q2.out⟩
end Go.Proofs.YtlhkfafdioakeaaGreatDoor
