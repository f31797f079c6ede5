/- Parts of the proof. -/
import Derived.Test.YtlhkfafdioakeaaGreatDoorSf35
import Derived.Deep.RegionHeld3
namespace Go.Proofs.YtlhkfafdioakeaaGreatDoor
set_option maxRecDepth 100000
set_option maxHeartbeats 4000000
open Go.RowKit Go.Weft
set_option linter.unusedVariables false
set_option linter.unusedSimpArgs false
def CloO(X:Nx Rl (Nat->Int))(sent:List (Nat->Int))(w:World)(e:Ending)(w':World):Prop:=
 ∃va vn vc ok,e=.returned (.tuple #[.slice va vn vc,.bool ok])/\w.grownBy w' none/\(ok=true->∃d out,PkR w' (.slice va vn vc) vn d/\Is out vn d/\(∀x∈out,Rt x)/\∀k,Reach X sent k->∀x∈X.pol k,X.nxt x=none->x∈out)
theorem xkg(k:Nat->Int):Is [k] 1 (fun _=>k):=⟨rfl,fun j hj=>by cases j with|zero=>rfl|succ j=>omega⟩
def lenV:Value->Nat
 | .slice _ n _=>n
 | _=>0
theorem xek(D room:Nat)(T:Nat->List Rl)(s0:ByteArray)(t:Code)(ld:Nat->Nat->Int)(w0:World)(gb:Nat)(G:Gg)(hW:BrW w0 G s0 t ld)(fv:Value)(en:Bool)(sent:List (Nat->Int))(w:World)(h0:w0.grownBy w none)(hb:w.heap[gb]?=some (.cells (gmA G fv en false) 96 (0,0)))(hsn:G.sn=sent.length)(hq:QRow 0 w 46 6 (.slice G.sa G.sn G.sc) G.sn (pksC sent))(hr:∀k∈sent,Rt k)(hsl:sent.length<=6):
  Calls Tryz.prog 80 #[.pointer (some ⟨gb,0,none⟩)] w (CloO (netX D ld G.ln room t T) sent w):=by
 obtain ⟨X,hX⟩:∃X,X=netX D ld G.ln room t T:=⟨_,rfl⟩;rw [<-hX];obtain ⟨P,hP⟩:∃P,P=CloO X sent w:=⟨_,rfl⟩;rw [<-hP];have HX:=hide hX;have HP:=hide hP;have hgbl:gb<w.heap.size:=(Array.getElem?_eq_some_iff.1 hb).1;obtain ⟨sn,hsn'⟩:∃sn,sn=G.sn:=⟨_,rfl⟩;have hsn6:sn<=6:=by omega
 have HSN:Hid (sn=sent.length):=by show sn=_;omega
 rw [<-hsn'] at hq
 have HGB:Hid (∀ww,w.grownBy ww none->ww.heap[gb]?=some (.cells (gmA G fv en false) 96 (0,0))/\ww.cell? ⟨gb,0,none⟩=some (.pointer (some ⟨G.pb,0,none⟩))/\ww.cell? ⟨gb,3,none⟩=some (.slice G.la G.ln G.lc)/\ww.cell? ⟨gb,5,none⟩=some (.slice G.sa sn G.sc)/\ww.cell? ⟨gb,10,none⟩=some (.bool false)/\ww.frozen? ⟨gb,10,none⟩=false):=fun ww hg=>by
  have hbk:=xc9 hb hg (by simp);exact ⟨hbk,xc7 hbk 0 _ rfl,xc7 hbk 3 _ rfl,by rw [hsn'];exact xc7 hbk 5 _ rfl,xc7 hbk 10 _ rfl,by simp [World.frozen?,hbk]⟩
 have HQ:=hide hq;have HR:=hide hr;have H0:=hide h0;have HW:=hide hW;have I0:Hid (ClM w gb (.slice none 0 0) (.slice none 0 0) (.slice none 0 0) [] [] (sent.take 0) w):=⟨xjb _ _,⟨fun _ _=>0,OwnV.nil _ _ _,⟨rfl,fun j hj=>by simp at hj⟩⟩,⟨fun _ _=>0,OwnV.nil _ _ _,⟨rfl,fun j hj=>by simp at hj⟩⟩,QRow.nil _ _ _ _,(fun b hb=>by cases hb)⟩;clear hX hP hb hq hr h0 hW hsn hsn';go_enter Tryz.func80,Tryz.ntmps80;go_wp2_with fail;go_loopw [5,6] (fun s5 s6 wr=>∃(i:Nat),i<=sn/\s6=.int .i64 i/\ClM w gb (.slice none 0 0) (.slice none 0 0) s5 [] [] (sent.take i) wr) (fun _ s6 _=>sn-(intOf s6).toNat)
 case atStart=>exact ⟨0,Nat.zero_le _,rfl,I0.out⟩
 case round=>
  obtain ⟨i,hi,rfl,hM⟩:=hrel;obtain ⟨va,vc,hva⟩:=hM.q.slice;have hlen:(sent.take i).length=i:=by have:=HSN.out;rw [List.length_take];omega
  rw [hlen] at hva;subst hva;obtain ⟨gB,g0,g3,g5,g10,gf⟩:=HGB.out wr hM.gr;have HM:=hide hM;have HLEN:=hide hlen;clear gB hlen;by_cases hlt:i<sn
  ·have hltI:(i:Int)<sn:=by omega
   have hqw:=HQ.out.kept hM.gr (fun b e=>by cases e);obtain ⟨g,off,hga,_⟩:=hqw.some (by omega);rw [hga] at hqw g5;obtain ⟨k,hk⟩:∃k,sent[i]?=some k:=⟨_,List.getElem?_eq_getElem (by have:=HSN.out;omega)⟩
   have cZ:∀j,j<6->wr.cell? ⟨g,off+i*6+j,none⟩=some (.int .i64 (k j)):=fun j hj=>by
    rw [Nat.add_assoc];exact hqw.cells (i*6+j) _ (xrw hk hj)
   have c0:wr.cell? ⟨g,off+i*6,none⟩=some (.int .i64 (k 0)):=cZ 0 (by omega);have c1:wr.cell? ⟨g,off+i*6+1,none⟩=some (.int .i64 (k 1)):=cZ 1 (by omega);have c2:wr.cell? ⟨g,off+i*6+2,none⟩=some (.int .i64 (k 2)):=cZ 2 (by omega);have c3:wr.cell? ⟨g,off+i*6+3,none⟩=some (.int .i64 (k 3)):=cZ 3 (by omega);have c4:wr.cell? ⟨g,off+i*6+4,none⟩=some (.int .i64 (k 4)):=cZ 4 (by omega);have c5:wr.cell? ⟨g,off+i*6+5,none⟩=some (.int .i64 (k 5)):=cZ 5 (by omega);have hw0:Hid (w.heap.size<=wr.heap.size):=hM.gr.size;obtain ⟨i0,hi0,hz0,hz1',hz2'⟩:=info_parts Tryz.infoNPk;have HIF:Hid (Tryz.prog.info? 46=some i0/\i0.zero=some (.agg #[.int .i64 0,.int .i64 0,.int .i64 0,.int .i64 0,.int .i64 0,.int .i64 0])/\i0.size=6/\i0.bytes=48):=⟨hi0,hz0,hz1',hz2'⟩
   have QR:Hid (∀ww,wr.grownBy ww none->QRow w.heap.size ww 46 6 (.slice va i vc) i (pksC (sent.take i))):=fun ww hg=>by
    have:=(HM.out.quiet hg).q;rw [HLEN.out] at this;exact this
   have FIND:Hid (∀w3 w4 v',wr.grownBy w3 none->QRow w.heap.size w4 46 6 v' (i+1) (pksC (sent.take i)++[.int .i64 (k 0),.int .i64 (k 1),.int .i64 (k 2),.int .i64 (k 3),.int .i64 (k 4),.int .i64 (k 5)])->w3.grownBy w4 (Value.slice va i vc).ownBlock->(v'.ownBlock=(Value.slice va i vc).ownBlock\/∃b,v'.ownBlock=some b/\wr.heap.size<=b)->ClM w gb (.slice none 0 0) (.slice none 0 0) v' [] [] (sent.take (i+1)) w4):=fun w3 w4 v' h1 h2 h3 h4=>by
    rw [List.take_add_one,hk];exact HM.out.push h1 (by rw [HLEN.out];exact h2) h3 h4
   clear cZ hqw hM hi0 hz0 hz1' hz2' hk HM g0 g3 g10 gf;go_wp2_with (at_builtin;refine x1e _ rfl _ _ 29 rfl w.heap.size 46 i0 _ 6 48 Tryz.underlying29 HIF.out.1 HIF.out.2.1 HIF.out.2.2.1 HIF.out.2.2.2 rfl (by decide) (.slice va i vc) i (pksC (sent.take i)) rfl (QR.out _ (World.grownBy_alloc _ _ none)) ⟨wr.heap.size,0,none⟩ 1 1 [.int .i64 (k 0),.int .i64 (k 1),.int .i64 (k 2),.int .i64 (k 3),.int .i64 (k 4),.int .i64 (k 5)] rfl rfl (fun j u hj=>xed wr [.int .i64 (k 0),.int .i64 (k 1),.int .i64 (k 2),.int .i64 (k 3),.int .i64 (k 4),.int .i64 (k 5)] 46 j u hj) (by intro u hu;simp at hu;rcases hu with rfl|rfl|rfl|rfl|rfl|rfl<;>rfl) (by omega) (by unfold maxLen;omega) (by omega) (by have:=hw0.out;simp;omega) ?_);intro v' w4 q4 g4 at4;have F4:=hide (FIND.out _ _ _ (World.grownBy_alloc _ _ none) q4 g4 (at4.imp id fun ⟨b,e,h⟩=>⟨b,e,by omega⟩));clear q4 g4 at4;go_wp2_with fail;exact ⟨⟨i+1,by omega,by go_num,F4.out⟩,by simp [intOf];omega⟩
  ·obtain rfl:i=sn:=by omega
   have M0:Hid (ClM w gb (.slice none 0 0) (.slice none 0 0) (.slice va i vc) [] [] sent wr):=by
    have:=HM.out;rw [List.take_of_length_le (by have:=HSN.out;omega)] at this;exact this
   clear hM HM;go_wp2_with fail;go_loopw [4,5,7] (fun s4 s5 s7 wq=>∃seen out work,ClM w gb s7 s4 s5 seen out work wq/\ClI X sent seen out work TAll/\seen.length<=400/\work.length<=6+1660*seen.length) (fun s4 s5 s7 _=>(401-lenV s7)*1661+lenV s5)
   case atStart=>exact ⟨[],[],sent,M0.out,⟨HR.out,(fun k hk=>by cases hk),List.Pairwise.nil,(fun k hk=>by cases hk),List.Pairwise.nil,fun k hk=>.inr hk,(fun k hk=>by cases hk)⟩,by simp,by simpa using hsl⟩
   case round=>
    obtain ⟨seen,out,work,hM,hI,hs4,hwl⟩:=hrel;obtain ⟨ds,ho1,hi1⟩:=hM.s;obtain ⟨sa,sc,rfl⟩:=ho1.slice;obtain ⟨dO,ho2,hi2⟩:=hM.o;obtain ⟨oa,oc,rfl⟩:=ho2.slice;by_cases hz:work=[]
    ·subst hz;obtain ⟨qa,qc,hqs⟩:=hM.q.slice;have hqs:_=Value.slice qa 0 qc:=hqs;subst hqs
     have FIN:Hid (P (.returned (.tuple #[.slice oa out.length oc,.bool true])) wr):=by
      rw [HP.out];obtain ⟨d,o1,o2⟩:=hM.o;exact ⟨oa,out.length,oc,true,rfl,hM.gr,fun _=>⟨d,out,o1.row.any,o2,hI.ro,hI.fin⟩⟩
     clear hM hI ho1 hi1 ho2 hi2;go_wp2_with fail;exact FIN.out
    ·obtain ⟨wk,k,rfl⟩:∃l k,work=l++[k]:=⟨work.dropLast,work.getLast hz,(List.dropLast_concat_getLast hz).symm⟩;obtain ⟨m,hm⟩:∃m,m=wk.length:=⟨_,rfl⟩
     obtain ⟨qa,qc,hqs⟩:∃a c,_=Value.slice a (m+1) c:=by
      obtain ⟨a,c,e⟩:=hM.q.slice;rw [List.length_append,<-hm] at e;exact ⟨a,c,e⟩
     subst hqs;have hq:=hM.q;rw [List.length_append,<-hm] at hq;have hq:QRow w.heap.size wr 46 6 (.slice qa (m+1) qc) (m+1) (pksC (wk++[k])):=hq;obtain ⟨g,off,rfl,hcap⟩:=hq.some (by omega);have hmw:m<=6+1660*400:=by rw [List.length_append,<-hm] at hwl;simp at hwl;omega
     have cZ:∀j,j<6->wr.cell? ⟨g,off+m*6+j,none⟩=some (.int .i64 (k j)):=fun j hj=>by
      rw [Nat.add_assoc];exact hq.cells (m*6+j) _ (xrw (by rw [hm];simp) hj)
     have c0:wr.cell? ⟨g,off+m*6,none⟩=some (.int .i64 (k 0)):=cZ 0 (by omega);have c1:wr.cell? ⟨g,off+m*6+1,none⟩=some (.int .i64 (k 1)):=cZ 1 (by omega);have c2:wr.cell? ⟨g,off+m*6+2,none⟩=some (.int .i64 (k 2)):=cZ 2 (by omega);have c3:wr.cell? ⟨g,off+m*6+3,none⟩=some (.int .i64 (k 3)):=cZ 3 (by omega);have c4:wr.cell? ⟨g,off+m*6+4,none⟩=some (.int .i64 (k 4)):=cZ 4 (by omega);have c5:wr.cell? ⟨g,off+m*6+5,none⟩=some (.int .i64 (k 5)):=cZ 5 (by omega);obtain ⟨sl,hsl2⟩:∃sl,sl=seen.length:=⟨_,rfl⟩;rw [<-hsl2] at hs4
     have HM:Hid (ClM w gb (.slice sa sl sc) (.slice oa out.length oc) (.slice (some ⟨g,off,none⟩) m qc) seen out wk wr):=by
      have:=(hM.pop).2;rw [<-hm,<-hsl2] at this;exact this
     have HI:=hide hI;have HML:=hide hm
     have HWL:Hid (m+1<=6+1660*sl):=by
      show m+1<=6+1660*sl;rw [List.length_append,<-hm,<-hsl2] at hwl;simpa using hwl
     have HSL:=hide hsl2;rw [<-hsl2];clear cZ hq hM hI ho1 hi1 ho2 hi2 hm hsl2 hwl hz;obtain ⟨W1,hW1⟩:∃W1,W1=wr.alloc (.cells (pkA k) 46):=⟨_,rfl⟩;obtain ⟨W2,hW2⟩:∃W2,W2=W1.alloc (.cells (pkA k) 46):=⟨_,rfl⟩;have hz1:W1.heap.size=wr.heap.size+1:=by rw [hW1];simp
     have g1:wr.grownBy W1 none:=by rw [hW1];exact World.grownBy_alloc _ _ _
     have g12:W1.grownBy W2 none:=by rw [hW2];exact World.grownBy_alloc _ _ _
     have KB:Hid (pkBlk W2 wr.heap.size k):=by
      have:pkBlk W1 wr.heap.size k:=by rw [hW1];exact pkBlk.alloc wr k
      exact this.grown g12 (by simp)
     have G2:=hide (xje g1 g12)
     have UN:Hid (Calls Tryz.prog 27 #[.slice sa sl sc,.slice (some ⟨wr.heap.size+1,0,none⟩) 1 1] W2 fun e w'=>∃a n c d,e=.returned (.slice a n c)/\OwnV W2.heap.size w' (.slice a n c) n d/\Is (xnd seen [k]) n d/\W2.grownBy w' none):=by
      have hk:=HI.out.rw k (by simp);obtain ⟨d1,o1,i1⟩:=(HM.out.quiet G2.out).s;rw [<-HSL.out] at o1 i1;have hrow:=xpp W1 k;rw [<-hW2,hz1] at hrow;refine (x0d _ _ sl 1 d1 (fun _=>k) seen [k] W2 o1.row.any hrow i1 (xkg k) (fun x hx=>(HI.out.rs x hx).1) (fun x hx=>by rw [List.mem_singleton.1 hx];exact hk.1) (by omega)).mono ?_;rintro e w' ⟨v,n,d,rfl,h1,h2,h3⟩;obtain ⟨a,c,rfl⟩:=h1.slice;exact ⟨a,n,c,d,rfl,h1,h2,h3⟩
     clear g1 g12;unfold pkA at hW1 hW2;go_wp2_with fail;rw [<-hW1,<-hW2];refine UN.out.mono ?_;rintro e w3 ⟨ua,un,uc,dU,rfl,ho,hi,g3⟩;have hk:=HI.out.rw k (by simp);have hun:=(xnl HI.out.ss (fun x hx=>(HI.out.rs x hx).1) hk.1).2;rw [hi.1,<-HSL.out] at hun;have M3:Hid (ClM w gb (.slice ua un uc) (.slice oa out.length oc) (.slice (some ⟨g,off,none⟩) m qc) (xnd seen [k]) out wk w3):=HM.out.setS (xje G2.out g3) (ho.mono G2.out.size) hi;have KB3:Hid (pkBlk w3 wr.heap.size k):=KB.out.grown g3 (by simp);have HKR:=hide hk;have hgs:wr.heap.size<w3.heap.size:=by have:=KB3.out;unfold pkBlk at this;exact (Array.getElem?_eq_some_iff.1 this).1
     have HLU:Hid ((xnd seen [k]).length=un):=hi.1;clear hW1 hW2 hz1 UN ho hi g3 hk c0 c1 c2 c3 c4 c5 KB;rcases hun with ⟨hks,rfl⟩|⟨hks,rfl⟩
     ·have I3:Hid (ClI X sent (xnd seen [k]) out wk TAll):=HI.out.pop_old hks;clear hks;go_wp2_with fail;exact ⟨⟨xnd seen [k],out,wk,M3.out,I3.out,by rw [HLU.out];exact hs4,by rw [HLU.out,<-HML.out];have:=HWL.out;omega⟩,by simp [lenV]⟩
     ·have I3:Hid (ClI X sent (xnd seen [k]) out wk (TJ X k 0)):=HI.out.pop_new;clear hks;by_cases hbig:400<sl+1
      ·have hbigI:(400:Int)<(sl:Int)+1:=by omega
       have FIN:Hid (P (.returned (.tuple #[.slice none 0 0,.bool false])) w3):=by
        rw [HP.out];exact ⟨none,0,0,false,rfl,M3.out.gr,fun e=>by cases e⟩
       go_wp2_with fail;exact FIN.out
      ·have hbigI:¬(400:Int)<(sl:Int)+1:=by omega
       have HEV:Hid (∀ww,w3.grownBy ww none->Calls Tryz.prog 25 #[.pointer (some ⟨G.pb,0,none⟩),.agg #[.int .i64 (k 0),.int .i64 (k 1),.int .i64 (k 2),.int .i64 (k 3),.int .i64 (k 4),.int .i64 (k 5)]] ww fun e w'=>∃a c d,e=.returned (.tuple #[.slice a (polT t k).length c,.bool true])/\OwnV ww.heap.size w' (.slice a (polT t k).length c) (polT t k).length d/\Is (polT t k) (polT t k).length d/\ww.grownBy w' none):=fun ww hg=>by
        refine (xkp G.pb t k ww (HW.out.pol.grown (xje (xje H0.out M3.out.gr) hg)) HKR.out).mono ?_;rintro e w' ⟨a,c',n,d,A,rfl,h1,h2,h3,h4⟩;obtain rfl:=xsc HW.out.rd HKR.out h3;obtain rfl:n=(polT t k).length:=h2.1.symm;exact ⟨a,c',d,rfl,h1,h2,h4⟩
       obtain ⟨n,hn⟩:∃n,n=(polT t k).length:=⟨_,rfl⟩;rw [<-hn] at HEV;have HN:=hide hn;have hn1660:n<=1660:=by rw [hn];exact xsb HW.out.rd HKR.out
       have HS:Hid (∀wx,w3.grownBy wx none->(wx.cell? ⟨gb,0,none⟩=some (.pointer (some ⟨G.pb,0,none⟩))/\wx.cell? ⟨wr.heap.size,0,none⟩=some (.int .i64 (k 0))/\wx.cell? ⟨wr.heap.size,1,none⟩=some (.int .i64 (k 1))/\wx.cell? ⟨wr.heap.size,2,none⟩=some (.int .i64 (k 2))/\wx.cell? ⟨wr.heap.size,3,none⟩=some (.int .i64 (k 3))/\wx.cell? ⟨wr.heap.size,4,none⟩=some (.int .i64 (k 4))/\wx.cell? ⟨wr.heap.size,5,none⟩=some (.int .i64 (k 5)))):=fun wx hx=>⟨(HGB.out wx (xje M3.out.gr hx)).2.1,hx.cell (KB3.out.cell 0 (by omega)) (by simp),hx.cell (KB3.out.cell 1 (by omega)) (by simp),hx.cell (KB3.out.cell 2 (by omega)) (by simp),hx.cell (KB3.out.cell 3 (by omega)) (by simp),hx.cell (KB3.out.cell 4 (by omega)) (by simp),hx.cell (KB3.out.cell 5 (by omega)) (by simp)⟩
       have HG0:Hid (w3.grownBy w3.drew none):=xi7 (xjb _ _);clear hn g0 g3 g10 gf;go_wp2_with fail
       go_region_held3 (fun wx=>(wx.cell? ⟨gb,0,none⟩=some (.pointer (some ⟨G.pb,0,none⟩))/\wx.cell? ⟨wr.heap.size,0,none⟩=some (.int .i64 (k 0))/\wx.cell? ⟨wr.heap.size,1,none⟩=some (.int .i64 (k 1))/\wx.cell? ⟨wr.heap.size,2,none⟩=some (.int .i64 (k 2))/\wx.cell? ⟨wr.heap.size,3,none⟩=some (.int .i64 (k 3))/\wx.cell? ⟨wr.heap.size,4,none⟩=some (.int .i64 (k 4))/\wx.cell? ⟨wr.heap.size,5,none⟩=some (.int .i64 (k 5)))) (first|exact HS.out _ HG0.out|exact HS.out _ hg9) ((
          go_at_call 25;refine Calls.mono (HEV.out _ HG0.out) ?_;rintro e w9 ⟨a,c9,d,rfl,ho9,hi9,hg8⟩;have hg9:=xje HG0.out hg8;have HO9:=hide (ho9.mono HG0.out.size);have HI9:=hide hi9;clear ho9 hi9 hg8))
       all_goals
        have HG9:=hide hg9;obtain ⟨hbk,e0,e3,e5,e10,ef⟩:=HGB.out w9 (xje M3.out.gr hg9);have hg10:w3.grownBy (w9.setCell ⟨gb,10,none⟩ (.bool false)) none:=xi4 hg9 hbk rfl;have ho10:OwnV w3.heap.size (w9.setCell ⟨gb,10,none⟩ (.bool false)) (.slice a n c9) n d:=HO9.out.grown (xjc _ _ _ _) (fun b e hb=>by cases e;have:=(HO9.out.lt _ hb).1;have:=M3.out.gr.size;omega);obtain ⟨wL,hwL⟩:∃wL,wL=w9.setCell ⟨gb,10,none⟩ (.bool false):=⟨_,rfl⟩;rw [<-hwL] at hg10 ho10;have ML:=hide (M3.out.quiet hg10);have HOL:=hide ho10
        have HAP:Hid (∀b,(Value.slice (some ⟨g,off,none⟩) m qc).ownBlock=some b->(Value.slice a n c9).ownBlock≠some b):=fun b hb e=>by
         have h1:=(M3.out.q.lt b hb).2;have h2:=(ho10.lt b e).1;omega
        have hzL:w3.heap.size<=wL.heap.size:=hg10.size;clear hg9 hg10 ho10 HS HEV HO9 HG9 hbk e0 e3 e5 M3 KB3 HG0;go_wp2_with fail;rw [<-hwL];clear hwL e10 ef;go_loopw [4,5,12] (fun s4 s5 s12 wq=>∃(j:Nat) (out work:List (Nat->Int)),j<=n/\s12=.int .i64 j/\ClM w gb (.slice ua (sl+1) uc) s4 s5 (xnd seen [k]) out work wq/\ClI X sent (xnd seen [k]) out work (TJ X k j)/\work.length<=m+j/\OwnV w3.heap.size wq (.slice a n c9) n d/\∀b,s5.ownBlock=some b->(Value.slice a n c9).ownBlock≠some b) (fun _ _ s12 _=>n-(intOf s12).toNat)
        case atStart=>exact ⟨0,out,wk,Nat.zero_le _,rfl,ML.out,I3.out,by rw [HML.out];exact Nat.le_refl _,HOL.out,HAP.out⟩
        case round=>
         obtain ⟨j,out2,work2,hj,rfl,hM,hI2,hwl2,hO,hap⟩:=hrel;obtain ⟨dO2,oo2,oi2⟩:=hM.o;obtain ⟨oa2,oc2,rfl⟩:=oo2.slice;obtain ⟨qa2,qc2,rfl⟩:=hM.q.slice;obtain ⟨m2,hm2⟩:∃m2,m2=work2.length:=⟨_,rfl⟩;rw [<-hm2] at hwl2 hap hM;rw [<-hm2];have HM2:=hide hM;have HI2:=hide hI2;have HO2:=hide hO;have HAP2:=hide hap;have HM2L:=hide hm2;clear oo2 oi2 hm2 hap;by_cases hlt:j<n
         ·have hltI:(j:Int)<n:=by omega
          have HGBw:Hid (∀ww,wr.grownBy ww none->ww.cell? ⟨gb,3,none⟩=some (.slice G.la G.ln G.lc)/\LnR ww (.slice G.la G.ln G.lc) G.ln ld):=fun ww hg=>⟨(HGB.out ww (xje HM2.out.gr hg)).2.2.1,HW.out.lnk.grown (xje (xje H0.out HM2.out.gr) hg)⟩
          have hgw:gb<wr.heap.size:=Nat.lt_of_lt_of_le hgbl hM.gr.size;rcases hO with ⟨_,h0⟩|⟨lb,lcap,hlb,hle,hOw⟩
          ·omega
          cases hle;obtain ⟨x,hx⟩:∃x,x=d j:=⟨_,rfl⟩;have hget:(polT t k)[j]?=some x:=by rw [hx];exact HI9.out.get j hlt
          have cZ:∀i,i<6->wr.cell? ⟨lb,j*6+i,none⟩=some (.int .i64 (x i)):=fun i hi=>by rw [hx];exact hOw.cell j hlt i hi
          have c0:wr.cell? ⟨lb,j*6,none⟩=some (.int .i64 (x 0)):=cZ 0 (by omega);have c1:wr.cell? ⟨lb,j*6+1,none⟩=some (.int .i64 (x 1)):=cZ 1 (by omega);have c2:wr.cell? ⟨lb,j*6+2,none⟩=some (.int .i64 (x 2)):=cZ 2 (by omega);have c3:wr.cell? ⟨lb,j*6+3,none⟩=some (.int .i64 (x 3)):=cZ 3 (by omega);have c4:wr.cell? ⟨lb,j*6+4,none⟩=some (.int .i64 (x 4)):=cZ 4 (by omega);have c5:wr.cell? ⟨lb,j*6+5,none⟩=some (.int .i64 (x 5)):=cZ 5 (by omega);have HXR:=hide (xsd HW.out.rd HKR.out x (List.mem_of_getElem? hget)).1;have HGET:Hid ((X.pol k)[j]?=some x):=by show (X.pol k)[j]?=some x;rw [HX.out];exact hget
          obtain ⟨W4,hW4⟩:∃W4,W4=wr.alloc (.cells (pkA x) 46):=⟨_,rfl⟩;have GW4:Hid (wr.grownBy W4 none):=by show wr.grownBy W4 none;rw [hW4];exact World.grownBy_alloc _ _ _
          have XB4:Hid (pkBlk W4 wr.heap.size x):=by show pkBlk W4 wr.heap.size x;rw [hW4];exact pkBlk.alloc wr x
          unfold pkA at hW4;have HLK:Hid (∀ww,wr.grownBy ww none->Calls Tryz.prog 133 #[.pointer (some ⟨gb,0,none⟩),.int .i64 (x 0),.int .i64 (x 1)] ww fun e w'=>e=.returned (.int .i64 (linkI ld (x 0) (x 1) G.ln))/\ww.grownBy w' none):=fun ww hg=>xin gb G.la G.ln G.lc ld (x 0) (x 1) ww (HGBw.out ww hg).1 (HGBw.out ww hg).2
          clear hM hI2 hOw hx hget cZ hlb;cases hfr:fromS ld (x 0) (x 1) G.ln with
          | none=>
           have hlk:linkI ld (x 0) (x 1) G.ln=-1:=by unfold linkI;rw [hfr]
           rw [hlk] at HLK
           have HNX:Hid (X.nxt x=none):=by
            show X.nxt x=none;rw [HX.out];show (match fromS ld (x 0) (x 1) G.ln with|some j=>some ((ld j 2).toNat,atP (ld j 2) (ld j 3) x)|none=>none)=none;rw [hfr]
           clear hfr hlk;go_wp2_with fail;rw [<-hW4];refine (HLK.out W4 GW4.out).mono ?_;rintro e w5 ⟨rfl,g5⟩;have G5:=hide (xje GW4.out g5);have XB5:=hide (XB4.out.grown g5 (by simp));have p0:=XB5.out.cell 0 (by omega);have p1:=XB5.out.cell 1 (by omega);have p2:=XB5.out.cell 2 (by omega);have p3:=XB5.out.cell 3 (by omega);have p4:=XB5.out.cell 4 (by omega);have p5:=XB5.out.cell 5 (by omega);obtain ⟨W6,hW6⟩:∃W6,W6=w5.alloc (.cells (pkA x) 46):=⟨_,rfl⟩;have g56:w5.grownBy W6 none:=by rw [hW6];exact World.grownBy_alloc _ _ _
           have G6:=hide (xje G5.out g56)
           have UN:Hid (Calls Tryz.prog 27 #[.slice oa2 out2.length oc2,.slice (some ⟨w5.heap.size,0,none⟩) 1 1] W6 fun e w'=>∃a n c d,e=.returned (.slice a n c)/\OwnV wr.heap.size w' (.slice a n c) n d/\Is (xnd out2 [x]) n d/\wr.grownBy w' none):=by
            obtain ⟨d1,o1,i1⟩:=(HM2.out.quiet G6.out).o;have hrow:=xpp w5 x;rw [<-hW6] at hrow;refine (x0d _ _ out2.length 1 d1 (fun _=>x) out2 [x] W6 o1.row.any hrow i1 (xkg x) (fun z hz=>(HI2.out.ro z hz).1) (fun z hz=>by rw [List.mem_singleton.1 hz];exact HXR.out.1) (by have:=HI2.out.few;omega)).mono ?_;rintro e w' ⟨v,n,d,rfl,h1,h2,h3⟩;obtain ⟨a,c,rfl⟩:=h1.slice;exact ⟨a,n,c,d,rfl,h1.mono G6.out.size,h2,xje G6.out h3⟩
           clear g5 g56 hW4 c0 c1 c2 c3 c4 c5 HLK;unfold pkA at hW6;go_wp2_with fail;rw [<-hW6];refine UN.out.mono ?_;rintro e w7 ⟨ua7,un7,uc7,d7,rfl,ho7,hi7,g7⟩;have M7:=hide (HM2.out.setO g7 ho7 hi7);have I7:=hide (HI2.out.out1 HGET.out HNX.out HXR.out);have O7:=hide (HO2.out.grown g7 (fun b e=>by cases e));clear ho7 hi7 g7 UN hW6 p0 p1 p2 p3 p4 p5;go_wp2_with fail;exact ⟨⟨j+1,xnd out2 [x],work2,by omega,by go_num,M7.out,I7.out,by have:=HM2L.out;omega,O7.out,HAP2.out⟩,by simp [intOf];omega⟩
          | some jl=>
           have hlk:linkI ld (x 0) (x 1) G.ln=(jl:Int):=by unfold linkI;rw [hfr]
           rw [hlk] at HLK
           have HNX:Hid (X.nxt x=some ((ld jl 2).toNat,atP (ld jl 2) (ld jl 3) x)):=by
            show X.nxt x=_;rw [HX.out];show (match fromS ld (x 0) (x 1) G.ln with|some j=>some ((ld j 2).toNat,atP (ld j 2) (ld j 3) x)|none=>none)=_;rw [hfr]
           obtain ⟨hjl,_,_⟩:=xif hfr;have hldj:=HW.out.lds jl hjl;have HYR:Hid (Rt (atP (ld jl 2) (ld jl 3) x)):=(xb6 HXR.out (a:=ld jl 2) (b:=ld jl 3) (by omega) (by omega)).1;clear hfr hlk;go_wp2_with fail;rw [<-hW4];refine (HLK.out W4 GW4.out).mono ?_;rintro e w5 ⟨rfl,g5⟩;have G5:=hide (xje GW4.out g5);have XB5:=hide (XB4.out.grown g5 (by simp));have p0:=XB5.out.cell 0 (by omega);have p1:=XB5.out.cell 1 (by omega);have p2:=XB5.out.cell 2 (by omega);have p3:=XB5.out.cell 3 (by omega);have p4:=XB5.out.cell 4 (by omega);have p5:=XB5.out.cell 5 (by omega);have pf:∀o,w5.frozen? ⟨wr.heap.size,o,none⟩=false:=fun o=>by have:=XB5.out;unfold pkBlk at this;simp [World.frozen?,this]
           obtain ⟨e3,hln5⟩:=HGBw.out w5 G5.out;obtain ⟨lg,loff,hla,hlcc⟩:=hln5.at (show 0<G.ln by omega);have m2c:w5.cell? ⟨lg,loff+jl*4+2,none⟩=some (.int .i64 (ld jl 2)):=hlcc jl hjl 2 (by omega);have m3c:w5.cell? ⟨lg,loff+jl*4+3,none⟩=some (.int .i64 (ld jl 3)):=hlcc jl hjl 3 (by omega)
           have hlgl:lg<wr.heap.size:=by
            obtain ⟨lg',loff',hla',hl2⟩:=(HGBw.out wr (xjb _ _)).2.at (show 0<G.ln by omega);rw [hla] at hla';cases hla';exact World.block_lt_of_cell? wr _ (hl2 jl hjl 2 (by omega))
           rw [hla] at e3;have hjI:(jl:Int)<G.ln:=by omega
           have nl:¬lg=wr.heap.size:=by omega
           have nl':¬wr.heap.size=lg:=by omega
           have ng:¬gb=wr.heap.size:=by omega
           have ng':¬wr.heap.size=gb:=by omega
           obtain ⟨y2,hy2⟩:∃y,y=ld jl 2:=⟨_,rfl⟩;obtain ⟨y3,hy3⟩:∃y,y=ld jl 3:=⟨_,rfl⟩;rw [<-hy2] at m2c;rw [<-hy3] at m3c;rw [<-hy2,<-hy3] at HNX HYR;obtain ⟨W6,hW6⟩:∃W6,W6=(w5.setCell ⟨wr.heap.size,0,none⟩ (.int .i64 y2)).setCell ⟨wr.heap.size,1,none⟩ (.int .i64 y3):=⟨_,rfl⟩
           have G6:Hid (wr.grownBy W6 none):=by
            have gs:w5.grownBy W6 (some wr.heap.size):=by rw [hW6];exact xje (xjc _ _ _ _) (xjc _ _ _ _)
            exact xja G5.out gs (fun b e=>by cases e;exact Nat.le_refl _)
           have hz6:W6.heap.size=w5.heap.size:=by rw [hW6];simp [World.setCell]
           have HZ5:Hid (wr.heap.size<=w5.heap.size):=G5.out.size;have HZW:Hid (w.heap.size<=w5.heap.size):=Nat.le_trans HM2.out.gr.size G5.out.size
           have HNW:Hid (∀j u,([.int .i64 y2,.int .i64 y3,.int .i64 (x 2),.int .i64 (x 3),.int .i64 (x 4),.int .i64 (x 5)]:List Value)[j]?=some u->(((w5.setCell ⟨wr.heap.size,0,none⟩ (.int .i64 y2)).setCell ⟨wr.heap.size,1,none⟩ (.int .i64 y3)).alloc (.cells #[.int .i64 y2,.int .i64 y3,.int .i64 (x 2),.int .i64 (x 3),.int .i64 (x 4),.int .i64 (x 5)] 46)).cell? ((⟨w5.heap.size,0,none⟩:Addr).add j)=some u):=fun j u hj=>by
            have:=xed W6 [.int .i64 y2,.int .i64 y3,.int .i64 (x 2),.int .i64 (x 3),.int .i64 (x 4),.int .i64 (x 5)] 46 j u hj;rw [hz6,hW6] at this;exact this
           have G7:Hid (wr.grownBy (((w5.setCell ⟨wr.heap.size,0,none⟩ (.int .i64 y2)).setCell ⟨wr.heap.size,1,none⟩ (.int .i64 y3)).alloc (.cells #[.int .i64 y2,.int .i64 y3,.int .i64 (x 2),.int .i64 (x 3),.int .i64 (x 4),.int .i64 (x 5)] 46)) none):=by
            show wr.grownBy (((w5.setCell ⟨wr.heap.size,0,none⟩ (.int .i64 y2)).setCell ⟨wr.heap.size,1,none⟩ (.int .i64 y3)).alloc (.cells #[.int .i64 y2,.int .i64 y3,.int .i64 (x 2),.int .i64 (x 3),.int .i64 (x 4),.int .i64 (x 5)] 46)) none;rw [<-hW6];exact xje G6.out (World.grownBy_alloc _ _ none)
           obtain ⟨i0,hi0,hz0,hz1',hz2'⟩:=info_parts Tryz.infoNPk;have HIF:Hid (Tryz.prog.info? 46=some i0/\i0.zero=some (.agg #[.int .i64 0,.int .i64 0,.int .i64 0,.int .i64 0,.int .i64 0,.int .i64 0])/\i0.size=6/\i0.bytes=48):=⟨hi0,hz0,hz1',hz2'⟩
           have QR:Hid (∀ww,wr.grownBy ww none->QRow w.heap.size ww 46 6 (.slice qa2 m2 qc2) m2 (pksC work2)):=fun ww hg=>by
            have:=(HM2.out.quiet hg).q;rw [<-HM2L.out] at this;exact this
           have FIND:Hid (∀w8 w9 v',wr.grownBy w8 none->QRow w.heap.size w9 46 6 v' (m2+1) (pksC work2++[.int .i64 y2,.int .i64 y3,.int .i64 (x 2),.int .i64 (x 3),.int .i64 (x 4),.int .i64 (x 5)])->w8.grownBy w9 (Value.slice qa2 m2 qc2).ownBlock->(v'.ownBlock=(Value.slice qa2 m2 qc2).ownBlock\/∃b,v'.ownBlock=some b/\wr.heap.size<=b)->ClM w gb (.slice ua (sl+1) uc) (.slice oa2 out2.length oc2) v' (xnd seen [k]) out2 (work2++[atP y2 y3 x]) w9/\OwnV w3.heap.size w9 (.slice (some ⟨lb,0,none⟩) n c9) n d/\∀b,v'.ownBlock=some b->(Value.slice (some ⟨lb,0,none⟩) n c9).ownBlock≠some b):=fun w8 w9 v' h1 h2 h3 h4=>by
            refine ⟨HM2.out.push h1 (by rw [<-HM2L.out];exact h2) h3 h4,(HO2.out.grown h1 (fun b e=>by cases e)).grown h3 (fun b e=>HAP2.out b e),fun b hb e=>?_⟩;rcases h4 with e4|⟨b',e4,hb'⟩
            ·rw [e4] at hb;exact HAP2.out b hb e
            ·rw [e4] at hb;cases hb;have:=(HO2.out.lt b e).2;omega
           have I7:=hide (HI2.out.work1 HGET.out HNX.out HYR.out);clear g5 hW4 c0 c1 c2 c3 c4 c5 HLK hlcc hln5 hla hy2 hy3 hldj hi0 hz0 hz1' hz2' G6 hz6 hW6;go_wp2_with (at_builtin;refine x1e _ rfl _ _ 29 rfl w.heap.size 46 i0 _ 6 48 Tryz.underlying29 HIF.out.1 HIF.out.2.1 HIF.out.2.2.1 HIF.out.2.2.2 rfl (by decide) (.slice qa2 m2 qc2) m2 (pksC work2) rfl (QR.out _ G7.out) ⟨w5.heap.size,0,none⟩ 1 1 [.int .i64 y2,.int .i64 y3,.int .i64 (x 2),.int .i64 (x 3),.int .i64 (x 4),.int .i64 (x 5)] rfl rfl HNW.out (by intro u hu;simp at hu;rcases hu with rfl|rfl|rfl|rfl|rfl|rfl<;>rfl) (by omega) (by unfold maxLen;omega) (by omega) (by have:=HZW.out;simp;omega) ?_);intro v' w8 q8 g8 at8;have F8:=hide (FIND.out _ _ _ G7.out q8 g8 (at8.imp id fun ⟨b,e,h⟩=>⟨b,e,by have:=HZ5.out;omega⟩));clear q8 g8 at8;go_wp2_with fail;exact ⟨⟨j+1,out2,work2++[atP y2 y3 x],by omega,by go_num,F8.out.1,I7.out,by rw [List.length_append,<-HM2L.out];simp;omega,F8.out.2.1,F8.out.2.2⟩,by simp [intOf];omega⟩
         ·obtain rfl:j=n:=by omega
          have I7:Hid (ClI X sent (xnd seen [k]) out2 work2 TAll):=HI2.out.done (by rw [HX.out];show (polT t k).length<=j;rw [<-HN.out];exact Nat.le_refl _);clear hM hI2 hO;go_wp2_with fail;exact ⟨⟨xnd seen [k],out2,work2,HM2.out,I7.out,by rw [HLU.out];omega,by rw [HLU.out,<-HM2L.out];have:=HWL.out;omega⟩,by simp [lenV];omega⟩
end Go.Proofs.YtlhkfafdioakeaaGreatDoor
