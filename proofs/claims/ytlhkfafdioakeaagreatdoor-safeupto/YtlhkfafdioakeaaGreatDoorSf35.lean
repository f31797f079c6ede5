/- Parts of the proof. -/
import Derived.Test.YtlhkfafdioakeaaGreatDoorSf31
import Derived.Test.YtlhkfafdioakeaaGreatDoorSf34
import Derived.Deep.DeepCutAuto
namespace Go.Proofs.YtlhkfafdioakeaaGreatDoor
set_option maxRecDepth 100000
set_option maxHeartbeats 4000000
open Go.RowKit Go.Weft
set_option linter.unusedVariables false
set_option linter.unusedSimpArgs false
theorem xdu(D room:Nat)(T:Nat->List Rl)(s0:ByteArray)(t:Code)(ld:Nat->Nat->Int)(w0:World)(gb sb:Nat)(G:Gg)(hW:BrW w0 G s0 t ld):∀(m deep:Nat),deep+m=31->∀(k:Nat->Int) (c:Nat) (F:List (Nat->Int)) (fv:Value) (w:World),Rt k->c<=250->BrS w0 gb sb G false fv F false c w->F.length<=1660*c->Calls Tryz.prog 82 #[.pointer (some ⟨gb,0,none⟩),.agg #[.int .i64 (k 0),.int .i64 (k 1),.int .i64 (k 2),.int .i64 (k 3),.int .i64 (k 4),.int .i64 (k 5)],.int .i64 deep,.pointer (some ⟨sb,0,none⟩)] w (BrO (netX D ld G.ln room t T) w0 gb sb G false fv F c m k w)
 | 0,deep,hd,k,c,F,fv,w,hk,hc,h,hF=>xdv _ w0 gb sb G false fv F c 0 deep k w h hc (.inl (by omega)) (by omega)
 | m+1,deep,hd,k,c,F,fv,w,hk,hc,h,hF=>by
  by_cases e:c=250
  ·exact xdv _ w0 gb sb G false fv F c (m+1) deep k w h hc (.inr e) (by omega)
  ·exact xdw D room T s0 t ld w0 gb sb G hW m deep (by omega) (fun k c F fv w hk hc h hF=>xdu D room T s0 t ld w0 gb sb G hW m (deep+1) (by omega) k c F fv w hk hc h hF) k c F fv w hk (by omega) h hF
theorem xrw{L:List (Nat->Int)}{i:Nat}{k:Nat->Int}(h:L[i]?=some k){j:Nat}(hj:j<6):(pksC L)[i*6+j]?=some (.int .i64 (k j)):=by
 induction L generalizing i with
 | nil=>simp at h
 | cons z L ih=>
  show (pkC z++pksC L)[i*6+j]?=_;cases i with
  | zero=>
   simp at h;subst h;rw [Nat.zero_mul,Nat.zero_add,List.getElem?_append_left (by simp [pkC];omega)];rcases (show j=0\/j=1\/j=2\/j=3\/j=4\/j=5 by omega) with rfl|rfl|rfl|rfl|rfl|rfl<;>rfl
  | succ i=>
   rw [List.getElem?_append_right (by simp [pkC];omega),show (i+1)*6+j-(pkC z).length=i*6+j by simp [pkC];omega];exact ih (by simpa using h)
structure EnI(X:Nx Rl (Nat->Int))(w0:World)(gb sb:Nat)(G:Gg)(sent:List (Nat->Int))(w:World)(i:Nat)(en:Bool)(wr:World):Prop where
 ex:∃fv F c,BrS w0 gb sb G false fv F en c wr/\(en=false->F=(sent.take i).flatMap (fun k=>(X.tot k).1)/\c=sumL X.c (sent.take i)/\(∀k∈sent.take i,X.good k)/\c<=250/\F.length<=1660*c)/\(∀b,fv.ownBlock=some b->w.heap.size<=b)/\F.length<=1660*c/\c<=251
 kp:Kp (fun b=>b=gb) w wr
theorem EnI.next{X:Nx Rl (Nat->Int)}{w0:World}{gb sb:Nat}{G:Gg}{sent:List (Nat->Int)}{w wr w3 w4:World}{i:Nat}(hsb:w.heap.size<=sb){fv:Value}{F:List (Nat->Int)}{c:Nat}(hkp:Kp (fun b=>b=gb) w wr)(h2:F=(sent.take i).flatMap (fun k=>(X.tot k).1)/\c=sumL X.c (sent.take i)/\(∀k∈sent.take i,X.good k)/\c<=250/\F.length<=1660*c)(h3:∀b,fv.ownBlock=some b->w.heap.size<=b){k:Nat->Int}(hk:sent[i]?=some k)(hg:wr.grownBy w3 none){e:Ending}{m:Nat}(ho:BrO X w0 gb sb G false fv F c m k w3 e w4):
  e=.returned (.tuple #[])/\∃en',w4.cell? ⟨gb,7,none⟩=some (.bool en')/\EnI X w0 gb sb G sent w (i+1) en' w4:=by
 obtain ⟨rfl,fv',F',en',c',hs,hend,hlt,h251,hlen,hk2,hfv⟩:=ho;have hw3:w.heap.size<=w3.heap.size:=Nat.le_trans hkp.size hg.size;refine ⟨rfl,en',xc7 hs.blk 7 _ rfl,⟨⟨fv',F',c',hs,fun e=>?_,fun b hb=>?_,by have:=h2.2.2.2.2;omega,h251⟩,?_⟩⟩
 ·obtain ⟨f,cc,e1,e2,e3,e4⟩:=hend e;obtain ⟨q1,q2,q3,q4,q5⟩:=h2;have ht:=xzy X e1;have hc:X.c k=cc:=by unfold Nx.c;rw [ht]
  rw [List.take_add_one,hk];refine ⟨?_,?_,fun z hz=>?_,e4,by omega⟩
  ·show F'=(sent.take i++[k]).flatMap _;rw [List.flatMap_append,e2,q1];simp [ht]
  ·show c'=sumL X.c (sent.take i++[k]);rw [xxv,xxy,e3,q2,hc]
  ·have hz:z∈sent.take i++[k]:=hz;rw [List.mem_append,List.mem_singleton] at hz;rcases hz with hz|rfl
   ·exact q3 z hz
   ·exact ⟨_,_,e1⟩
 ·rcases hfv b hb with e|e
  ·exact h3 b e
  ·omega
 ·refine ⟨hk2.1.trans (hg.os.trans hkp.1),hk2.2.1.trans (hg.tape.trans hkp.2.1),hk2.2.2.1.trans (hg.output.trans hkp.2.2.1),Nat.le_trans hw3 hk2.size,fun b hb hn=>?_⟩;have hb3:b<w3.heap.size:=by omega
  rw [hk2.2.2.2.2 b hb3 (fun e=>?_),hg.block b (Nat.lt_of_lt_of_le hb hkp.size) (by simp),hkp.2.2.2.2 b hb hn];rcases e with e|e|e
  ·exact hn e
  ·omega
  ·have:=h3 b e;omega
def EndO(X:Nx Rl (Nat->Int))(w0:World)(gb:Nat)(G:Gg)(sent:List (Nat->Int))(w:World)(e:Ending)(w':World):Prop:=
 ∃fv F en,e=.returned (.bool (!en))/\w'.heap[gb]?=some (.cells (gmA G fv en false) 96 (0,0))/\QRow w.heap.size w' 46 6 fv F.length (pksC F)/\(en=false->Ends X sent/\F=sent.flatMap (fun k=>(X.tot k).1))/\Kp (fun b=>b=gb) w w'/\F.length<=1000000
theorem xgl(D room:Nat)(T:Nat->List Rl)(s0:ByteArray)(t:Code)(ld:Nat->Nat->Int)(w0:World)(gb:Nat)(G:Gg)(hW:BrW w0 G s0 t ld)(fv0:Value)(en0:Bool)(sent:List (Nat->Int))(w:World)(h0:w0.grownBy w none)(hgl:w0.heap.size<=gb)(hb:w.heap[gb]?=some (.cells (gmA G fv0 en0 false) 96 (0,0)))(hsn:G.sn=sent.length)(hq:QRow 0 w 46 6 (.slice G.sa G.sn G.sc) G.sn (pksC sent))(hr:∀k∈sent,Rt k)(hsl:sent.length<=6)(hsb:∀b,(Value.slice G.sa G.sn G.sc).ownBlock=some b->b≠gb):
  Calls Tryz.prog 44 #[.pointer (some ⟨gb,0,none⟩)] w (EndO (netX D ld G.ln room t T) w0 gb G sent w):=by
 obtain ⟨P,hP⟩:∃P,P=EndO (netX D ld G.ln room t T) w0 gb G sent w:=⟨_,rfl⟩;rw [<-hP];have HP:=hide hP;have HBR:=hide (xdu D room T s0 t ld w0 gb w.heap.size G hW 31 0 rfl);have c6:w.cell? ⟨gb,6,none⟩=some fv0:=xc7 hb 6 _ rfl;have c7:w.cell? ⟨gb,7,none⟩=some (.bool en0):=xc7 hb 7 _ rfl;have cf:∀o,w.frozen? ⟨gb,o,none⟩=false:=fun o=>by simp [World.frozen?,hb]
 have hgbl:gb<w.heap.size:=(Array.getElem?_eq_some_iff.1 hb).1;have HB:=hide hb;have HQ:=hide hq;have HR:=hide hr;have H0:=hide h0;have HSB:=hide hsb;clear hb hq hr h0 hP hW hsb;go_enter Tryz.func44,Tryz.ntmps44;go_wp2_with fail;obtain ⟨wS,hwS⟩:∃wS,wS=((w.setCell ⟨gb,6,none⟩ (.slice none 0 0)).setCell ⟨gb,7,none⟩ (.bool false)).alloc (.cells #[.int .i64 0] 3):=⟨_,rfl⟩
 have I0:Hid (EnI (netX D ld G.ln room t T) w0 gb w.heap.size G sent w 0 false wS):=by
  obtain ⟨wA,hA⟩:∃wA,wA=(w.setCell ⟨gb,6,none⟩ (.slice none 0 0)).setCell ⟨gb,7,none⟩ (.bool false):=⟨_,rfl⟩;have g1:w.grownBy wA (some gb):=by rw [hA];exact xje (xjc _ _ _ _) (xjc _ _ _ _)
  have b1:wA.heap[gb]?=some (.cells (gmA G (.slice none 0 0) false false) 96 (0,0)):=by rw [hA];exact xjh (xjh HB.out 6 _) 7 _
  have z1:wA.heap.size=w.heap.size:=by rw [hA];simp [World.setCell]
  rw [<-hA] at hwS;have g2:wA.grownBy wS none:=by rw [hwS];exact World.grownBy_alloc _ _ _
  have b2:wS.heap[w.heap.size]?=some (.cells #[.int .i64 ((0:Nat):Int)] 3 (0,0)):=by rw [hwS,<-z1];exact heap_alloc_new wA _
  refine ⟨⟨.slice none 0 0,[],0,⟨xje (xi9 H0.out g1 hgl) g2,xc9 b1 g2 (by simp),b2,QRow.nil _ _ _ _,hgl,H0.out.size⟩,fun _=>⟨rfl,rfl,(fun k hk=>by cases hk),by omega,Nat.le_refl _⟩,(fun b hb=>by cases hb),Nat.le_refl _,by omega⟩,((Kp.refl _ w).step g1 (fun b e=>.inl (by cases e;rfl))).step g2 (fun b e=>by cases e)⟩
 rw [<-hwS];clear hwS c6 c7 cf;obtain ⟨sn,hsn'⟩:∃sn,sn=G.sn:=⟨_,rfl⟩;have HSN:=hide hsn';have hsn6:sn<=6:=by omega
 go_loopw [4] (fun s4 wr=>∃(i:Nat) (en:Bool),i<=sn/\s4=.int .i64 i/\EnI (netX D ld G.ln room t T) w0 gb w.heap.size G sent w i en wr) (fun s4 _=>sn-(intOf s4).toNat)
 case atStart=>exact ⟨0,false,Nat.zero_le _,rfl,I0.out⟩
 case round=>
  obtain ⟨i,en,hi,rfl,hE⟩:=hrel;obtain ⟨fv,F,c,hs,he,hf,hfl,hcl⟩:=hE.ex;obtain ⟨va,vc,rfl⟩:=hs.row.slice;have hkp:=hE.kp;have b5:wr.cell? ⟨gb,5,none⟩=some (.slice G.sa sn G.sc):=by rw [hsn'];exact xc7 hs.blk 5 _ rfl
  have b7:wr.cell? ⟨gb,7,none⟩=some (.bool en):=xc7 hs.blk 7 _ rfl
  have hqw:QRow 0 wr 46 6 (.slice G.sa sn G.sc) sn (pksC sent):=by
   rw [hsn'];exact HQ.out.same (fun b hb=>hkp.2.2.2.2 b (HQ.out.lt b hb).2 (HSB.out b hb))
  have FIN:Hid (∀wz,wr.grownBy wz none->(en=false->i=sn)->P (.returned (.bool (!en))) wz):=fun wz hz hen=>by
   rw [HP.out];have hq2:=(hs.quiet hz).row;refine ⟨_,F,en,rfl,(hs.quiet hz).blk,⟨hq2.1,?_⟩,fun e=>?_,hkp.step hz (fun b e=>by cases e),?_⟩
   ·rcases hq2.2 with h1|⟨g,off,cap,cur,e1,e2,e3⟩
    ·exact .inl h1
    ·exact .inr ⟨g,off,cap,cur,e1,hf g (by rw [e1];rfl),e3⟩
   ·obtain ⟨q1,q2,q3,q4,q5⟩:=he e;have hi2:i=sent.length:=by rw [hen e,hsn'];exact hsn
    rw [hi2,List.take_length] at q1 q2 q3;exact ⟨⟨q3,by rw [<-q2];exact q4⟩,q1⟩
   ·omega
  by_cases hlt:i<sn
  ·cases en with
   | true=>
    have hltI:(i:Int)<sn:=by omega
    have FF:=hide (FIN.out wr (xjb _ _) (fun e=>by cases e));clear hE hs he hf hkp hqw FIN hfl hcl;go_wp2_with fail;exact FF.out
   | false=>
    have hltI:(i:Int)<sn:=by omega
    obtain ⟨g,off,hga,_⟩:=hqw.some (by omega);rw [hga] at hqw b5;obtain ⟨k,hk⟩:∃k,sent[i]?=some k:=⟨_,List.getElem?_eq_getElem (by omega)⟩;have hkr:=HR.out k (List.mem_of_getElem? hk)
    have cZ:∀j,j<6->wr.cell? ⟨g,off+i*6+j,none⟩=some (.int .i64 (k j)):=fun j hj=>by
     rw [Nat.add_assoc];exact hqw.cells (i*6+j) _ (xrw hk hj)
    have c0:wr.cell? ⟨g,off+i*6,none⟩=some (.int .i64 (k 0)):=cZ 0 (by omega);have c1:wr.cell? ⟨g,off+i*6+1,none⟩=some (.int .i64 (k 1)):=cZ 1 (by omega);have c2:wr.cell? ⟨g,off+i*6+2,none⟩=some (.int .i64 (k 2)):=cZ 2 (by omega);have c3:wr.cell? ⟨g,off+i*6+3,none⟩=some (.int .i64 (k 3)):=cZ 3 (by omega);have c4:wr.cell? ⟨g,off+i*6+4,none⟩=some (.int .i64 (k 4)):=cZ 4 (by omega);have c5:wr.cell? ⟨g,off+i*6+5,none⟩=some (.int .i64 (k 5)):=cZ 5 (by omega);have hh:=he rfl
    have CALL:Hid (Calls Tryz.prog 82 #[.pointer (some ⟨gb,0,none⟩),.agg #[.int .i64 (k 0),.int .i64 (k 1),.int .i64 (k 2),.int .i64 (k 3),.int .i64 (k 4),.int .i64 (k 5)],.int .i64 0,.pointer (some ⟨w.heap.size,0,none⟩)] wr fun e w4=>e=.returned (.tuple #[])/\∃en',w4.cell? ⟨gb,7,none⟩=some (.bool en')/\EnI (netX D ld G.ln room t T) w0 gb w.heap.size G sent w (i+1) en' w4):=by
     refine Calls.mono (HBR.out k c F (.slice va F.length vc) wr hkr hh.2.2.2.1 hs hh.2.2.2.2) ?_;intro e w4 ho;exact EnI.next (Nat.le_refl _) hkp hh hf hk (xjb _ _) ho
    clear hE hs he hf hkp hqw FIN cZ hh hk hkr hfl hcl;go_wp2_with fail;refine CALL.out.mono ?_;rintro e w4 ⟨rfl,en',e7,hE4⟩;have HE4:=hide hE4;clear hE4 CALL;go_wp2_with fail;exact ⟨⟨i+1,en',by omega,by go_num,HE4.out⟩,by simp [intOf];omega⟩
  ·obtain rfl:i=sn:=by omega
   have FF:=hide (FIN.out wr (xjb _ _) (fun e=>rfl));clear hE hs he hf hkp hqw FIN hfl hcl;go_wp2_with fail;exact FF.out
structure GAt(K:Gk)(gb:Nat)(G:Gg)(fv:Value)(en:Bool)(n:Nat)(role:Nat->Role)(N:NetM)(S:Gs Rl (Nat->Int))(sent:List (Nat->Int))(w:World):Prop where
 net:NOK K n role N S sent w
 blk:w.heap[gb]?=some (.cells (gmA G fv en false) 96 (0,0))
 fr:role gb=.free
 gl:K.w0.heap.size<=gb
 sn:G.sn=sent.length
 sq:QRow K.w0.heap.size w 46 6 (.slice G.sa G.sn G.sc) G.sn (pksC sent)
 sf:∀b,(Value.slice G.sa G.sn G.sc).ownBlock=some b->role b=.free
 six:sent.length<=6
 nb:G.nb=K.nb
 D:G.D=K.D
 ln:G.ln=K.ln
 rt:∀k∈sent,Rt k
section
variable{K:Gk}{gb:Nat}{G:Gg}{fv:Value}{en:Bool}{n:Nat}{role:Nat->Role}{N:NetM}{S:Gs Rl (Nat->Int)}{sent:List (Nat->Int)}{w w':World}
theorem GAt.sne(h:GAt K gb G fv en n role N S sent w):∀b,(Value.slice G.sa G.sn G.sc).ownBlock=some b->b≠gb:=fun b hb e=>by
 obtain ⟨cur,h2⟩:=h.sq.tag b hb;rw [e,h.blk] at h2;cases h2
theorem GAt.quiet(h:GAt K gb G fv en n role N S sent w)(hg:w.grownBy w' none):GAt K gb G fv en n role N S sent w':=
 { h with net:=h.net.quiet hg,blk:=xc9 h.blk hg (by simp),sq:=h.sq.kept hg (fun b e=>by cases e) }
theorem GAt.step(h:GAt K gb G fv en n role N S sent w){m:Nat}{role':Nat->Role}{N':NetM}{S':Gs Rl (Nat->Int)}(hs:NStep w w' role role')(hn:NOK K m role' N' S' sent w'):GAt K gb G fv en m role' N' S' sent w':=by
 have hgl:gb<w.heap.size:=(Array.getElem?_eq_some_iff.1 h.blk).1;refine { h with net:=hn,blk:=?_,fr:=(hs.same gb hgl).trans h.fr,sq:=?_,sf:=fun b hb=>?_ }
 ·rw [hs.kp.2.2.2.2 gb hgl (fun e=>e h.fr)];exact h.blk
 ·exact h.sq.same (fun b hb=>hs.kp.2.2.2.2 b (h.sq.lt b hb).2 (fun e=>e (h.sf b hb)))
 ·exact (hs.same b (h.sq.lt b hb).2).trans (h.sf b hb)
theorem GAt.more(h:GAt K gb G fv en n role N S sent w){m:Nat}(hm:n<=m):GAt K gb G fv en m role N S sent w:={ h with net:=h.net.more hm }
theorem GAt.write(h:GAt K gb G fv en n role N S sent w){o:Nat}{v:Value}{G':Gg}{fv':Value}{en':Bool}(hv:(gmA G fv en false).setIfInBounds o v=gmA G' fv' en' false)(h1:G'.sa=G.sa)(h2:G'.sn=G.sn)(h3:G'.sc=G.sc)(h4:G'.nb=G.nb)(h5:G'.D=G.D)(h6:G'.ln=G.ln):GAt K gb G' fv' en' n role N S sent (w.setCell ⟨gb,o,none⟩ v):=by
 have g1:w.grownBy (w.setCell ⟨gb,o,none⟩ v) (some gb):=xjc _ _ _ _;refine ⟨h.net.grown g1 (fun b e=>by cases e;exact h.fr) (xi9 h.net.old g1 h.gl),?_,h.fr,h.gl,by rw [h2];exact h.sn,?_,by rw [h1,h2,h3];exact h.sf,h.six,h4.trans h.nb,h5.trans h.D,h6.trans h.ln,h.rt⟩
 ·rw [<-hv];exact xjh h.blk o v
 ·rw [h1,h2,h3];exact h.sq.kept g1 (fun b e hb=>by cases e;exact h.sne _ hb rfl)
end
section
variable{K:Gk}{gb:Nat}{G:Gg}{fv:Value}{en:Bool}{n:Nat}{role:Nat->Role}{N:NetM}{S:Gs Rl (Nat->Int)}{sent:List (Nat->Int)}{w:World}
def GSt(K:Gk)(gb:Nat)(G:Gg)(fv:Value)(en:Bool)(m:Nat)(sent:List (Nat->Int))(e:Ending)(w':World):Prop:=∃(er:Int) (role':Nat->Role) (N':NetM) (S':Gs Rl (Nat->Int)),e=.returned (.int .i64 er)/\GAt K gb G fv en m role' N' S' sent w'
theorem mDo(hK:K.ok)(h:GAt K gb G fv en n role N S sent w)(hn:n<=9000003){s:Nat}(hs:s<K.D):Calls Tryz.prog 71 #[.pointer (some ⟨K.nb,0,none⟩),.int .i64 s] w (GSt K gb G fv en (n+1) sent):=(wDo hK h.net (by omega) hs).mono fun e w' ho=>by
 obtain ⟨role',N',S',h1,h2,h3⟩:=ho;rcases h3 with ⟨rfl,_⟩|⟨rfl,_⟩
 ·exact ⟨_,role',N',S',rfl,h.step h1 h2⟩
 ·exact ⟨_,role',N',S',rfl,h.step h1 h2⟩
theorem xmn(hK:K.ok)(h:GAt K gb G fv en n role N S sent w)(hn:n<=9000003){s:Nat}(hs:s<K.D):Calls Tryz.prog 73 #[.pointer (some ⟨K.nb,0,none⟩),.int .i64 s] w (GSt K gb G fv en (n+1) sent):=(x0r hK h.net (by omega) hs).mono fun e w' ho=>by
 obtain ⟨role',N',S',h1,h2,h3⟩:=ho;rcases h3 with ⟨rfl,_⟩|⟨rfl,_⟩
 ·exact ⟨_,role',N',S',rfl,h.step h1 h2⟩
 ·exact ⟨_,role',N',S',rfl,h.step h1 h2⟩
theorem mTake(hK:K.ok)(h:GAt K gb G fv en n role N S sent w)(hn:n<=9000003){s:Nat}(hs:s<K.D)(i:Nat):Calls Tryz.prog 69 #[.pointer (some ⟨K.nb,0,none⟩),.int .i64 s,.int .i64 i] w (GSt K gb G fv en (n+1) sent):=(wTake hK h.net (by omega) hs i).mono fun e w' ho=>by
 obtain ⟨role',N',S',h1,h2,h3⟩:=ho;rcases h3 with ⟨rfl,_⟩|⟨rfl,_⟩
 ·exact ⟨_,role',N',S',rfl,h.step h1 h2⟩
 ·exact ⟨_,role',N',S',rfl,h.step h1 h2⟩
end
theorem GAt.cell1{K:Gk}{gb:Nat}{G:Gg}{fv:Value}{en:Bool}{n:Nat}{role:Nat->Role}{N:NetM}{S:Gs Rl (Nat->Int)}{sent:List (Nat->Int)}{w:World}(h:GAt K gb G fv en n role N S sent w):w.cell? ⟨gb,1,none⟩=some (.pointer (some ⟨K.nb,0,none⟩)):=by rw [<-h.nb];exact xc7 h.blk 1 _ rfl
structure GP(K:Gk)(gb:Nat)(G:Gg)(fv:Value)(en:Bool)(n:Nat)(role:Nat->Role)(N:NetM)(S:Gs Rl (Nat->Int))(sentN sentR:List (Nat->Int))(xb:Nat)(x:Nat->Int)(w:World):Prop where
 net:NOK K n role N S sentN w
 blk:w.heap[gb]?=some (.cells (gmA G fv en false) 96 (0,0))
 fr:role gb=.free
 gl:K.w0.heap.size<=gb
 sn:G.sn=sentR.length
 sq:QRow K.w0.heap.size w 46 6 (.slice G.sa G.sn G.sc) G.sn (pksC sentR)
 sf:∀b,(Value.slice G.sa G.sn G.sc).ownBlock=some b->role b=.free
 sx:∀b,(Value.slice G.sa G.sn G.sc).ownBlock=some b->b≠xb
 nb:G.nb=K.nb
 D:G.D=K.D
 ln:G.ln=K.ln
 px:pkBlk w xb x
 xf:role xb=.free
 xl:K.w0.heap.size<=xb
 rt:∀k∈sentR,Rt k
section
variable{K:Gk}{gb:Nat}{G:Gg}{fv:Value}{en:Bool}{n:Nat}{role:Nat->Role}{N:NetM}{S:Gs Rl (Nat->Int)}{sentN sentR sent:List (Nat->Int)}{xb:Nat}{x:Nat->Int}{w w':World}
theorem GP.ne(h:GP K gb G fv en n role N S sentN sentR xb x w):gb≠xb:=fun e=>by
 have h1:=h.px;unfold pkBlk at h1;rw [<-e,h.blk] at h1;cases h1
theorem GP.sne(h:GP K gb G fv en n role N S sentN sentR xb x w):∀b,(Value.slice G.sa G.sn G.sc).ownBlock=some b->b≠gb:=fun b hb e=>by
 obtain ⟨cur,h2⟩:=h.sq.tag b hb;rw [e,h.blk] at h2;cases h2
theorem GP.quiet(h:GP K gb G fv en n role N S sentN sentR xb x w)(hg:w.grownBy w' none):GP K gb G fv en n role N S sentN sentR xb x w':=
 { h with net:=h.net.quiet hg,blk:=xc9 h.blk hg (by simp),sq:=h.sq.kept hg (fun b e=>by cases e),px:=h.px.grown hg (by simp) }
theorem GP.setX(h:GP K gb G fv en n role N S sentN sentR xb x w)(i:Nat)(hi:i<6)(z:Int):GP K gb G fv en n role N S sentN sentR xb (fun j=>if j=i then z else x j) (w.setCell ⟨xb,i,none⟩ (.int .i64 z)):=by
 have g1:w.grownBy (w.setCell ⟨xb,i,none⟩ (.int .i64 z)) (some xb):=xjc _ _ _ _;exact { h with net:=h.net.grown g1 (fun b e=>by cases e;exact h.xf) (xi9 h.net.old g1 h.xl),blk:=xc9 h.blk g1 (by simp;exact fun e=>h.ne e.symm),sq:=h.sq.kept g1 (fun b e hb=>by cases e;exact h.sx _ hb rfl),px:=h.px.set i hi z }
theorem GP.back(h:GP K gb G fv en n role N S sent sent xb x w)(h6:sent.length<=6):GAt K gb G fv en n role N S sent (w.setCell ⟨gb,10,none⟩ (.bool false)):=by
 have hA:GAt K gb G fv en n role N S sent w:=⟨h.net,h.blk,h.fr,h.gl,h.sn,h.sq,h.sf,h6,h.nb,h.D,h.ln,h.rt⟩;exact hA.write (G':=G) (fv':=fv) (en':=en) rfl rfl rfl rfl rfl rfl rfl
theorem GP.push(h:GP K gb G fv en n role N S (sent++[x]) sent xb x w)(hx:Rt x)(h6:sent.length<6){w3 w4 w5:World}(hg:w.grownBy w3 none){va:Option Addr}{vc:Nat}(q:QRow K.w0.heap.size w4 46 6 (.slice va (G.sn+1) vc) (G.sn+1) (pksC sent++pkC x))(hg2:w3.grownBy w4 (Value.slice G.sa G.sn G.sc).ownBlock)(hat:(Value.slice va (G.sn+1) vc).ownBlock=(Value.slice G.sa G.sn G.sc).ownBlock\/∃b,(Value.slice va (G.sn+1) vc).ownBlock=some b/\w3.heap.size<=b)(h5:w5=w4.setCell ⟨gb,5,none⟩ (.slice va (G.sn+1) vc)):
  GAt K gb { G with sa:=va,sn:=G.sn+1,sc:=vc } fv en n role N S (sent++[x]) w5:=by
 have h3:=h.quiet hg;have g5:w4.grownBy w5 (some gb):=by rw [h5];exact xjc _ _ _ _
 have b4:w4.heap[gb]?=some (.cells (gmA G fv en false) 96 (0,0)):=xc9 h3.blk hg2 (fun e=>h3.sne gb e rfl);have hlow:=h3.sq.lt;have hgb3:gb<w3.heap.size:=(Array.getElem?_eq_some_iff.1 h3.blk).1;have old4:K.w0.grownBy w4 none:=xja h3.net.old hg2 (fun b e=>(hlow b e).1);have net4:NOK K n role N S (sent++[x]) w4:=h3.net.grown hg2 (fun b e=>h.sf b e) old4;have net5:NOK K n role N S (sent++[x]) w5:=net4.grown g5 (fun b e=>by cases e;exact h.fr) (xi9 old4 g5 h.gl)
 have hvg:∀b,(Value.slice va (G.sn+1) vc).ownBlock=some b->b≠gb:=fun b hb=>by
  rcases hat with e|⟨b',e,hb'⟩
  ·rw [e] at hb;exact h.sne b hb
  ·rw [e] at hb;cases hb;omega
 refine ⟨net5,?_,h.fr,h.gl,?_,?_,fun b hb=>?_,by simp;omega,h.nb,h.D,h.ln,fun z hz=>?_⟩
 ·rw [h5];exact xjh b4 5 _
 ·show G.sn+1=_;rw [h.sn];simp
 ·rw [xrv];have:pksC [x]=pkC x:=by simp [pksC]
  rw [this];exact q.kept g5 (fun b e hb=>by cases e;exact hvg _ hb rfl)
 ·rcases hat with e|⟨b',e,hb'⟩
  ·have hb:(Value.slice va (G.sn+1) vc).ownBlock=some b:=hb;rw [e] at hb;exact h.sf b hb
  ·have hb:(Value.slice va (G.sn+1) vc).ownBlock=some b:=hb;rw [e] at hb;cases hb;exact h3.net.at'.new hb'
 ·rw [List.mem_append,List.mem_singleton] at hz;rcases hz with hz|rfl
  ·exact h.rt z hz
  ·exact hx
end
theorem mSend{K:Gk}(hK:K.ok){gb:Nat}{G:Gg}{fv:Value}{en:Bool}{n:Nat}{role:Nat->Role}{N:NetM}{S:Gs Rl (Nat->Int)}{sent:List (Nat->Int)}{xb:Nat}{x:Nat->Int}{w:World}(h:GP K gb G fv en n role N S sent sent xb x w){s:Nat}(hs:s<K.D)(pt:Nat)(hx:Rt x):
  Calls Tryz.prog 67 #[.pointer (some ⟨K.nb,0,none⟩),.int .i64 s,.int .i64 pt,.agg #[.int .i64 (x 0),.int .i64 (x 1),.int .i64 (x 2),.int .i64 (x 3),.int .i64 (x 4),.int .i64 (x 5)]] w fun e w'=>∃er role' N' S' sent',e=.returned (.int .i64 er)/\GP K gb G fv en (n+1) role' N' S' sent' sent xb x w'/\((er=0/\hostS K.ld K.ln s pt/\sent'=sent++[atP s pt x])\/(er=16/\¬hostS K.ld K.ln s pt/\sent'=sent)\/(er=7/\sent'=sent)):=by
 refine (wSend hK h.net hs pt x hx.1).mono ?_;rintro e w' ⟨er,role',N',S',sent',rfl,h1,h2,h3⟩;have hgl:gb<w.heap.size:=(Array.getElem?_eq_some_iff.1 h.blk).1;have hxl:xb<w.heap.size:=(Array.getElem?_eq_some_iff.1 h.px).1;refine ⟨er,role',N',S',sent',rfl,{ h with net:=h2,blk:=?_,fr:=(h1.same gb hgl).trans h.fr,sq:=?_,sf:=fun b hb=>?_,px:=?_,xf:=(h1.same xb hxl).trans h.xf },?_⟩
 ·rw [h1.kp.2.2.2.2 gb hgl (fun e=>e h.fr)];exact h.blk
 ·exact h.sq.same (fun b hb=>h1.kp.2.2.2.2 b (h.sq.lt b hb).2 (fun e=>e (h.sf b hb)))
 ·exact (h1.same b (h.sq.lt b hb).2).trans (h.sf b hb)
 ·unfold pkBlk;rw [h1.kp.2.2.2.2 xb hxl (fun e=>e h.xf)];exact h.px
 ·rcases h3 with ⟨e1,e2,e3⟩|⟨e1,h3⟩
  ·exact .inl ⟨e1,e2,e3⟩
  ·rcases h3 with ⟨e2,e3⟩|⟨e2,e3⟩|e2
   ·exact .inr (.inl ⟨e2,e3,e1⟩)
   ·exact absurd ((xty hx.1).2 hx) e3
   ·exact .inr (.inr ⟨e2,e1⟩)
def MvO(K:Gk)(gb:Nat)(G:Gg)(fv:Value)(en:Bool)(n:Nat)(w':World):Prop:=
 ∃G' role N S sent,GAt K gb G' fv en n role N S sent w'/\G'.pb=G.pb/\G'.la=G.la/\G'.lc=G.lc/\G'.room=G.room
theorem xnl{s:List (Nat->Int)}{k:Nat->Int}(hs:Srt s)(hn:∀x∈s,Nm x)(hk:Nm k):Srt (xnd s [k])/\((k∈s/\(xnd s [k]).length=s.length)\/(k∉s/\(xnd s [k]).length=s.length+1)):=by
 have h1:Srt (xnd s [k]):=xnk _ s [k] (Nat.le_refl _) hs (List.pairwise_singleton _ _) hn (fun x hx=>by rw [List.mem_singleton.1 hx];exact hk);refine ⟨h1,?_⟩;have hm:∀x,x∈xnd s [k]↔x∈s\/x=k:=fun x=>by rw [xng,List.mem_singleton]
 by_cases hk:k∈s
 ·refine .inl ⟨hk,Nat.le_antisymm ?_ ?_⟩
  ·refine xoy _ _ h1.nodup (fun x hx=>?_);rcases (hm x).1 hx with h|rfl
   ·exact h
   ·exact hk
  ·exact xoy _ _ hs.nodup (fun x hx=>(hm x).2 (.inl hx))
 ·refine .inr ⟨hk,Nat.le_antisymm ?_ ?_⟩
  ·refine xoy (xnd s [k]) (k::s) h1.nodup (fun x hx=>?_);rcases (hm x).1 hx with h|rfl
   ·simp [h]
   ·simp
  ·refine xoy (k::s) _ (List.nodup_cons.2 ⟨hk,hs.nodup⟩) (fun x hx=>?_);rcases List.mem_cons.1 hx with rfl|h
   ·exact (hm _).2 (.inr rfl)
   ·exact (hm x).2 (.inl h)
structure ClI(X:Nx Rl (Nat->Int))(sent seen out work:List (Nat->Int))(T:(Nat->Int)->(Nat->Int)->Prop):Prop where
 rw:∀k∈work,Rt k
 rs:∀k∈seen,Rt k
 ss:Srt seen
 ro:∀k∈out,Rt k
 so:Srt out
 snt:∀k∈sent,k∈seen\/k∈work
 cl:∀k∈seen,∀x∈X.pol k,T k x->(X.nxt x=none->x∈out)/\∀t y,X.nxt x=some (t,y)->y∈seen\/y∈work
def TAll:(Nat->Int)->(Nat->Int)->Prop:=fun _ _=>True
def TJ(X:Nx Rl (Nat->Int))(k0:Nat->Int)(i:Nat):(Nat->Int)->(Nat->Int)->Prop:=fun k x=>k=k0->x∈(X.pol k0).take i
section
variable{X:Nx Rl (Nat->Int)}{sent seen out work:List (Nat->Int)}{T:(Nat->Int)->(Nat->Int)->Prop}{k x y:Nat->Int}{i t:Nat}
theorem xjo{s:List (Nat->Int)}{k x:Nat->Int}:x∈xnd s [k]↔x∈s\/x=k:=by rw [xng,List.mem_singleton]
theorem xjp{s:List (Nat->Int)}{k x:Nat->Int}:x∈s++[k]↔x∈s\/x=k:=by rw [List.mem_append,List.mem_singleton]
theorem ClI.few(h:ClI X sent seen out work T):out.length<=1073741824:=xt1 h.so h.ro
theorem ClI.pop_old(h:ClI X sent seen out (work++[k]) TAll)(hk:k∈seen):ClI X sent (xnd seen [k]) out work TAll:=by
 have hm:∀z,z∈xnd seen [k]↔z∈seen:=fun z=>by
  rw [xjo];constructor
  ·rintro (e|rfl)
   ·exact e
   ·exact hk
  ·exact .inl
 have hw:∀z,(z∈seen\/z∈work++[k])->z∈xnd seen [k]\/z∈work:=fun z hz=>by
  rw [hm,xjp] at *;rcases hz with e|e|rfl
  ·exact .inl e
  ·exact .inr e
  ·exact .inl hk
 refine ⟨fun z hz=>h.rw z (by simp [hz]),fun z hz=>h.rs z ((hm z).1 hz),(xnl h.ss (fun z hz=>(h.rs z hz).1) (h.rs k hk).1).1,h.ro,h.so,fun z hz=>hw z (h.snt z hz),fun z hz x hx ht=>?_⟩;obtain ⟨a,b⟩:=h.cl z ((hm z).1 hz) x hx ht;exact ⟨a,fun t y e=>hw y (b t y e)⟩
theorem ClI.pop_new(h:ClI X sent seen out (work++[k]) TAll):ClI X sent (xnd seen [k]) out work (TJ X k 0):=by
 have hkr:=h.rw k (by simp)
 have hw:∀z,(z∈seen\/z∈work++[k])->z∈xnd seen [k]\/z∈work:=fun z hz=>by
  rw [xjo];rw [xjp] at hz;rcases hz with e|e|e
  ·exact .inl (.inl e)
  ·exact .inr e
  ·exact .inl (.inr e)
 refine ⟨fun z hz=>h.rw z (by simp [hz]),fun z hz=>?_,(xnl h.ss (fun z hz=>(h.rs z hz).1) hkr.1).1,h.ro,h.so,fun z hz=>hw z (h.snt z hz),fun z hz x hx ht=>?_⟩
 ·rcases xjo.1 hz with e|rfl
  ·exact h.rs z e
  ·exact hkr
 ·rcases xjo.1 hz with e|e
  ·obtain ⟨a,b⟩:=h.cl z e x hx trivial;exact ⟨a,fun t y e=>hw y (b t y e)⟩
  ·have:=ht e;simp at this
theorem ClI.done(h:ClI X sent seen out work (TJ X k i))(hi:(X.pol k).length<=i):ClI X sent seen out work TAll:=
 ⟨h.rw,h.rs,h.ss,h.ro,h.so,h.snt,fun z hz x hx _=>h.cl z hz x hx (fun e=>by rw [List.take_of_length_le hi,<-e];exact hx)⟩
theorem xza{l:List (Nat->Int)}{x z:Nat->Int}{i:Nat}(hx:l[i]?=some x)(h:z∈l.take (i+1)):z∈l.take i\/z=x:=by
 rw [List.take_add_one,hx] at h;exact xjp.1 h
theorem ClI.out1(h:ClI X sent seen out work (TJ X k i))(hx:(X.pol k)[i]?=some x)(hn:X.nxt x=none)(hr:Rt x):ClI X sent seen (xnd out [x]) work (TJ X k (i+1)):=by
 refine ⟨h.rw,h.rs,h.ss,fun z hz=>?_,(xnl h.so (fun z hz=>(h.ro z hz).1) hr.1).1,h.snt,fun z hz u hu ht=>?_⟩
 ·rcases xjo.1 hz with e|rfl
  ·exact h.ro z e
  ·exact hr
 ·by_cases e:z=k
  ·rcases xza hx (ht e) with h1|rfl
   ·obtain ⟨a,b⟩:=h.cl z hz u hu (fun _=>h1);exact ⟨fun e=>xjo.2 (.inl (a e)),b⟩
   ·exact ⟨fun _=>xjo.2 (.inr rfl),fun t y e=>by rw [hn] at e;cases e⟩
  ·obtain ⟨a,b⟩:=h.cl z hz u hu (fun e1=>absurd e1 e);exact ⟨fun e=>xjo.2 (.inl (a e)),b⟩
theorem ClI.work1(h:ClI X sent seen out work (TJ X k i))(hx:(X.pol k)[i]?=some x)(hn:X.nxt x=some (t,y))(hr:Rt y):ClI X sent seen out (work++[y]) (TJ X k (i+1)):=by
 have hw:∀z,(z∈seen\/z∈work)->z∈seen\/z∈work++[y]:=fun z hz=>by
  rw [xjp];rcases hz with e|e
  ·exact .inl e
  ·exact .inr (.inl e)
 refine ⟨fun z hz=>?_,h.rs,h.ss,h.ro,h.so,fun z hz=>hw z (h.snt z hz),fun z hz u hu ht=>?_⟩
 ·rcases xjp.1 hz with e|rfl
  ·exact h.rw z e
  ·exact hr
 ·by_cases e:z=k
  ·rcases xza hx (ht e) with h1|rfl
   ·obtain ⟨a,b⟩:=h.cl z hz u hu (fun _=>h1);exact ⟨a,fun t y e=>hw y (b t y e)⟩
   ·refine ⟨fun e=>(by rw [hn] at e;cases e),fun t' y' e=>?_⟩;rw [hn] at e;cases e;exact .inr (xjp.2 (.inr rfl))
  ·obtain ⟨a,b⟩:=h.cl z hz u hu (fun e1=>absurd e1 e);exact ⟨a,fun t y e=>hw y (b t y e)⟩
theorem ClI.fin(h:ClI X sent seen out [] TAll):∀k,Reach X sent k->∀x∈X.pol k,X.nxt x=none->x∈out:=by
 have hs:∀k,Reach X sent k->k∈seen:=fun k hk=>by
  induction hk with
  | base k hk=>
   rcases h.snt k hk with e|e
   ·exact e
   ·cases e
  | step k x t y _ hx hn ih=>
   rcases (h.cl k ih x hx trivial).2 t y hn with e|e
   ·exact e
   ·cases e
 exact fun k hk x hx hn=>(h.cl k (hs k hk) x hx trivial).1 hn
end
structure ClM(w:World)(gb:Nat)(vs vo vw:Value)(seen out work:List (Nat->Int))(wr:World):Prop where
 gr:w.grownBy wr none
 s:∃d,OwnV w.heap.size wr vs seen.length d/\Is seen seen.length d
 o:∃d,OwnV w.heap.size wr vo out.length d/\Is out out.length d
 q:QRow w.heap.size wr 46 6 vw work.length (pksC work)
 ap:∀b,vw.ownBlock=some b->vs.ownBlock≠some b/\vo.ownBlock≠some b
section
variable{w wr w3 w4:World}{gb:Nat}{vs vo vw v':Value}{seen out work L:List (Nat->Int)}{k:Nat->Int}
theorem ClM.quiet(h:ClM w gb vs vo vw seen out work wr)(hg:wr.grownBy w3 none):ClM w gb vs vo vw seen out work w3:=by
 obtain ⟨d,s1,s2⟩:=h.s;obtain ⟨e,o1,o2⟩:=h.o;exact ⟨xje h.gr hg,⟨d,s1.grown hg (fun b e=>by cases e),s2⟩,⟨e,o1.grown hg (fun b e=>by cases e),o2⟩,h.q.kept hg (fun b e=>by cases e),h.ap⟩
theorem ClM.setS(h:ClM w gb vs vo vw seen out work wr)(hg:wr.grownBy w3 none){n:Nat}{d:Nat->Nat->Int}(ho:OwnV wr.heap.size w3 v' n d)(hi:Is L n d):ClM w gb v' vo vw L out work w3:=by
 have h3:=h.quiet hg;obtain rfl:n=L.length:=hi.1.symm;refine ⟨h3.gr,⟨d,ho.mono h.gr.size,hi⟩,h3.o,h3.q,fun b hb=>⟨fun e=>?_,(h.ap b hb).2⟩⟩;have h1:=(ho.lt b e).1;have h2:=(h.q.lt b hb).2;omega
theorem ClM.setO(h:ClM w gb vs vo vw seen out work wr)(hg:wr.grownBy w3 none){n:Nat}{d:Nat->Nat->Int}(ho:OwnV wr.heap.size w3 v' n d)(hi:Is L n d):ClM w gb vs v' vw seen L work w3:=by
 have h3:=h.quiet hg;obtain rfl:n=L.length:=hi.1.symm;refine ⟨h3.gr,h3.s,⟨d,ho.mono h.gr.size,hi⟩,h3.q,fun b hb=>⟨(h.ap b hb).1,fun e=>?_⟩⟩;have h1:=(ho.lt b e).1;have h2:=(h.q.lt b hb).2;omega
theorem xrz(L:List (Nat->Int))(k:Nat->Int):pksC (L++[k])=pksC L++pkC k:=by
 rw [xrv];simp [pksC]
theorem ClM.push(h:ClM w gb vs vo vw seen out work wr)(hg:wr.grownBy w3 none)(q:QRow w.heap.size w4 46 6 v' (work.length+1) (pksC work++pkC k))(hg2:w3.grownBy w4 vw.ownBlock)(hat:v'.ownBlock=vw.ownBlock\/∃b,v'.ownBlock=some b/\wr.heap.size<=b):ClM w gb vs vo v' seen out (work++[k]) w4:=by
 have h3:=h.quiet hg;have hlow:=h3.q.lt;obtain ⟨d,s1,s2⟩:=h3.s;obtain ⟨e,o1,o2⟩:=h3.o;refine ⟨xja h3.gr hg2 (fun b e=>(hlow b e).1),⟨d,s1.grown hg2 (fun b e=>(h3.ap b e).1),s2⟩,⟨e,o1.grown hg2 (fun b e=>(h3.ap b e).2),o2⟩,?_,fun b hb=>?_⟩
 ·rw [xrz,List.length_append];exact q
 ·rcases hat with e|⟨b',e,hb'⟩
  ·rw [e] at hb;exact h.ap b hb
  ·rw [e] at hb;cases hb;obtain ⟨_,s3,_⟩:=h.s;obtain ⟨_,o3,_⟩:=h.o;refine ⟨fun e=>?_,fun e=>?_⟩
   ·have:=(s3.lt b e).2;omega
   ·have:=(o3.lt b e).2;omega
theorem ClM.pop{a:Option Addr}{n c:Nat}(h:ClM w gb vs vo (.slice a n c) seen out (work++[k]) wr):n=work.length+1/\ClM w gb vs vo (.slice a work.length c) seen out work wr:=by
 have hq:=h.q;rw [xrz,List.length_append] at hq;have hq:QRow w.heap.size wr 46 6 (.slice a n c) (work.length+1) (pksC work++pkC k):=hq;obtain ⟨a',c',e⟩:=hq.slice;cases e;refine ⟨rfl,h.gr,h.s,h.o,?_,fun b hb=>h.ap b (by cases a with|none=>cases hb|some a=>exact hb)⟩;have hl:=hq.1;have hk:(pkC k).length=6:=rfl;rw [List.length_append,hk] at hl;refine ⟨by omega,?_⟩;rcases hq.2 with ⟨_,e⟩|⟨g,off,cap,cur,e,h2,h3,h4,h5,h6,h7⟩
 ·omega
 ·cases e;exact .inr ⟨g,off,c,cur,rfl,h2,h3,by omega,h5,h6,fun j hj=>by rw [h7 j (by omega),List.getElem?_append_left (by omega)]⟩
end
theorem xi4{w w1:World}{b o:Nat}{v:Value}{cs:Array Value}{T:TypeId}(h:w.grownBy w1 none)(hb:w1.heap[b]?=some (.cells cs T (0,0)))(hc:cs.setIfInBounds o v=cs):w.grownBy (w1.setCell ⟨b,o,none⟩ v) none:=by
 have g:=xjc w1 b o v;refine ⟨g.os.trans h.os,g.tape.trans h.tape,g.output.trans h.output,Nat.le_trans h.size g.size,fun k hk _=>?_⟩;by_cases e:k=b
 ·subst e;rw [xjh hb o v,hc,<-hb];exact h.block k hk (by simp)
 ·rw [xjj e];exact h.block k hk (by simp)
def atL(L:List (Nat->Int)):Nat->Nat->Int:=fun j=>(L[j]?).getD fun _=>0
theorem xb5(L:List (Nat->Int)):Is L L.length (atL L):=⟨rfl,fun j hj=>by unfold atL;rw [List.getElem?_eq_getElem hj];rfl⟩
theorem QRow.pkR{B:Nat}{w:World}{v:Value}{n:Nat}{L:List (Nat->Int)}(h:QRow B w 46 6 v n (pksC L))(hn:n<=3000000000000):PkR w v n (atL L):=by
 have hl:=h.1;rw [xrx] at hl;rcases h.2 with ⟨rfl,rfl⟩|⟨g,off,cap,cur,rfl,h2,h3⟩
 ·exact .inl ⟨Option.none,0,rfl,rfl,fun _=>rfl⟩
 ·refine .inr ⟨g,off,cap,rfl,hn,fun j hj i hi=>?_⟩;have hjl:j<L.length:=by omega
  have hg:L[j]?=Option.some (atL L j):=by unfold atL;rw [List.getElem?_eq_getElem hjl];rfl
  rw [Nat.add_assoc];exact h.cells (j*6+i) _ (xrw hg hi)
end Go.Proofs.YtlhkfafdioakeaaGreatDoor
