/- Parts of the proof. -/
import Derived.Test.YtlhkfafdioakeaaGreatDoorSf05
namespace Go.Proofs.YtlhkfafdioakeaaGreatDoor
set_option maxRecDepth 100000
set_option maxHeartbeats 1000000
open Go.RowKit
set_option linter.unusedVariables false
set_option linter.unusedSimpArgs false
theorem xnb(m:Msg)(hc:canS m)(w:World):Calls Tryz.prog 226 #[.string (strB (encB m))] w fun e w'=>∃m' v,Same m' m/\xaf w.heap.size w' m' v/\e=.returned (.tuple #[v,.int .i64 0])/\w.grownBy w' none:=by
 have hsame:=xtl m hc;have hcan:=hsame.can hc;have hl:=xgi m;have hw:=xfo (strB (encB m)) w (by rw [xxs];omega) (by rw [xxs];have:=hc.2;omega) (by rw [xgj m hc.2,xxs];omega);refine hw.mono ?_;intro e w' h;unfold xaz xa0 at h;obtain ⟨h1,h2|⟨_,v,h3,h4⟩⟩:=h
 ·exact absurd ⟨hcan.1,by rw [hcan.2];rfl⟩ h2.1
 ·exact ⟨_,v,hsame,h3,h4,h1⟩
theorem PkRow.addr{w:World}{v:Value}{n:Nat}{ps:Nat->Nat->Int}(h:PkRow w v n ps){b:Nat}(hb:v.ownBlock=some b):∃off c,v=.slice (some ⟨b,off,none⟩) n c:=by
 rcases h with ⟨rfl,_⟩|⟨g,off,cap,rfl,_⟩
 ·cases hb
 ·cases hb;exact ⟨_,_,rfl⟩
def xaw(B nb:Nat)(role:Nat->Role)(N:NetM)(s i:Nat)(m:Msg)(w:World)(e:Ending)(w':World):Prop:=
 ∃m' av pv,Same m' m/\e=.returned (msgV m' av pv)/\∃role' u,NetAt w' B nb role' (N.put s ((N.dv s).withDown ((N.dv s).dl.eraseIdx i) u))/\NStep w w' role role'/\PkRow w' av m'.na m'.acts/\PkRow w' pv m'.np m'.pks/\(∀b,av.ownBlock=some b->role' b=.free/\w.heap.size<=b/\b<w'.heap.size)/\∀b,pv.ownBlock=some b->role' b=.free/\w.heap.size<=b/\b<w'.heap.size
theorem xzf(w:World){B nb:Nat}{role:Nat->Role}{N:NetM}(h:NetAt w B nb role N)(hB:B<=w.heap.size){s i:Nat}(hs:s<N.D)(m:Msg)(hc:canS m)(hi:(N.dv s).dl[i]?=some (strB (encB m))):
  Calls Tryz.prog 168 #[.pointer (some ⟨N.db,s*5+2,none⟩),.int .i64 i] w (xaw B nb role N s i m w):=by
 obtain ⟨P,hP⟩:∃P,P=xaw B nb role N s i m w:=⟨_,rfl⟩;rw [<-hP];have HP:=hide hP;obtain ⟨w0,rfl⟩:∃w0,w0=w:=⟨_,rfl⟩;obtain ⟨w,hw⟩:∃w,w=w0.alloc (.cells (mA (mz 0)) 213):=⟨_,rfl⟩;have G0:Hid (w0.grownBy w none):=by rw [hw];exact World.grownBy_alloc _ _ _
 have R0:Hid (mBlk w w0.heap.size (mz 0)):=by rw [hw];exact mBlk.alloc _ _
 have hzw:w0.heap.size<w.heap.size:=by rw [hw];simp
 unfold mA mz at hw;simp only [if_true,Nat.reduceEqDiff,if_false,Nat.reduceLT] at hw;have h0:=h
 replace h:=h.grown G0.out (fun b e=>by cases e)
 replace hB:=Nat.le_trans hB G0.out.size
 have hil:i<(N.dv s).dl.length:=by
  rcases Nat.lt_or_ge i (N.dv s).dl.length with e|e
  ·exact e
  ·rw [List.getElem?_eq_none e] at hi;cases hi
 obtain ⟨n,hn⟩:∃n,(N.dv s).dl.length=n+1:=⟨(N.dv s).dl.length-1,by omega⟩;have hrow:=(h.dvs s hs).row 2 (by omega);obtain ⟨va,vc,hv⟩:=hrow.q.slice;have hv2:(N.dv s).vs 2=.slice va (n+1) vc:=by rw [hv];show Value.slice va (N.dv s).dl.length vc=_;rw [hn]
 have hq:QRow 0 w 9 1 (.slice va (n+1) vc) (n+1) ((N.dv s).dl.map .string):=by
  have:=hrow.q;rw [hv2] at this;have e:(N.dv s).len 2=n+1:=hn;rw [e] at this;exact this
 obtain ⟨g,off,rfl,hcap⟩:=hq.some (by omega);obtain ⟨cur,c1,c2,c3⟩:=h.dev;have hgr:role g=.row s 2:=hrow.rl g (by rw [hv2];rfl);have hgb:g≠N.db:=fun e=>by rw [e,h.dbR] at hgr;cases hgr
 have HT:=hide (xy7 0 N.db (s*5+2) g off n vc i 250 cur (strB (encB m)) (N.dv s).dl w c1 (by rw [c3 s hs 2 (by omega),hv2]) hgb (by omega) hi hq);have HD:Hid (∀ww,Calls Tryz.prog 226 #[.string (strB (encB m))] ww fun e w'=>∃m' v,Same m' m/\xaf ww.heap.size w' m' v/\e=.returned (.tuple #[v,.int .i64 0])/\ww.grownBy w' none):=fun ww=>xnb m hc ww
 have FIN:Hid (∀w1 wx,w1.heap[N.db]?=some (.cells (cur.setIfInBounds (s*5+2) (.slice (some ⟨g,tlO 1 off vc,none⟩) n (vc-1))) 250 (0,0))->w.grownBy wx (some g)->wx.grownBy w1 (some N.db)->QRow 0 wx 9 1 (.slice (some ⟨g,tlO 1 off vc,none⟩) n (vc-1)) n (((N.dv s).dl.eraseIdx i).map .string)->∃role' u,NetAt w1 B nb role' (N.put s ((N.dv s).withDown ((N.dv s).dl.eraseIdx i) u))/\NStep w w1 role role'):=fun w1 wx k1 k2 k3 k4=>by
  have hq2:QRow 0 wx (tyJ 2) (szJ 2) (((N.dv s).withDown ((N.dv s).dl.eraseIdx i) (.slice (some ⟨g,tlO 1 off vc,none⟩) n (vc-1))).vs 2) (((N.dv s).withDown ((N.dv s).dl.eraseIdx i) (.slice (some ⟨g,tlO 1 off vc,none⟩) n (vc-1))).len 2) (((N.dv s).withDown ((N.dv s).dl.eraseIdx i) (.slice (some ⟨g,tlO 1 off vc,none⟩) n (vc-1))).xs 2):=by
   have e:((N.dv s).dl.eraseIdx i).length=n:=by rw [List.length_eraseIdx_of_lt hil];omega
   show QRow 0 wx 9 1 (.slice (some ⟨g,tlO 1 off vc,none⟩) n (vc-1)) ((N.dv s).dl.eraseIdx i).length (((N.dv s).dl.eraseIdx i).map .string);rw [e];exact k4
  obtain ⟨role',r1,r2⟩:=h.setRow (w2:=w1) hB hs (show 2<5 by omega) k2 (fun b e _=>by cases e;exact hgr) (d':=(N.dv s).withDown ((N.dv s).dl.eraseIdx i) (.slice (some ⟨g,tlO 1 off vc,none⟩) n (vc-1))) (fun i _ hi=>DvM.withDown_other hi) hq2 (fun b k _=>by cases k;exact hgr) (fun r hm=>(h.dvs s hs).ru r hm) k3 (fun cu hcu=>by
   rw [k2.block N.db (h.low N.db (by rw [h.dbR];exact fun e=>by cases e)).2 (fun e=>hgb (Option.some.inj e).symm),c1] at hcu;cases hcu;exact k1)
  exact ⟨role',_,r2,((Kp.refl _ w).step k2 (fun b e=>.inl (by cases e;rw [hgr];exact fun e=>by cases e))).step k3 (fun b e=>.inl (by cases e;rw [h.dbR];exact fun e=>by cases e)),r1⟩
 have HNF:Hid (role w0.heap.size=.free):=h0.new (Nat.le_refl _);have HGR:Hid (role g=.row s 2/\role N.db=.dev):=⟨hgr,h.dbR⟩;generalize hdb:N.db=db at *;clear hc h h0 hB hi hil hn hrow hv hv2 hq hcap c1 c2 c3 hgr hgb hP hdb;go_enter Tryz.func168,Tryz.ntmps168;go_wp2_with fail;rw [<-hw];clear hw;refine HT.out.mono ?_;rintro e w1 ⟨rfl,k1,_,wx,k2,k3,k4⟩;obtain ⟨role',u,n1,n2⟩:=FIN.out w1 wx k1 k2 k3 k4;have N1:=hide n1;have N2:=hide n2;have R1:=hide ((R0.out.grown k2 (fun e=>by have h1:=HNF.out;rw [<-Option.some.inj e,HGR.out.1] at h1;cases h1)).grown k3 (fun e=>by have h1:=HNF.out;rw [<-Option.some.inj e,HGR.out.2] at h1;cases h1));clear k1 k2 k3 k4 n1 n2 HT FIN R0;go_wp2_with fail;refine (HD.out _).mono ?_;rintro e w2 ⟨m',v,hsm,hmf,rfl,g2⟩;obtain ⟨av,pv,rfl,p1,p2,p3,p4,p5,p6⟩:=hmf;obtain ⟨aa,ac,rfl⟩:=p1.slice;obtain ⟨pa,pc,rfl⟩:=p2.slice;have HSM:=hide hsm;have R2m:=hide (R1.out.grown g2 (by simp));have hz2:w0.heap.size<w2.heap.size:=(Array.getElem?_eq_some_iff.1 R2m.out).1;have hz1:w0.heap.size<w1.heap.size:=(Array.getElem?_eq_some_iff.1 R1.out).1;have PP:Hid (PkRow w2 (.slice aa m'.na ac) m'.na m'.acts/\PkRow w2 (.slice pa m'.np pc) m'.np m'.pks/\RowIn w2.heap.size (.slice aa m'.na ac)/\RowIn w2.heap.size (.slice pa m'.np pc)/\xah w1.heap.size (.slice aa m'.na ac)/\xah w1.heap.size (.slice pa m'.np pc)):=⟨p1,p2,p3,p4,p5,p6⟩;have G2:=hide g2;obtain ⟨wB,hwB⟩:∃wB,wB=w2.alloc (.cells (mA (mC m' (.slice aa m'.na ac) (.slice pa m'.np pc))) 213):=⟨_,rfl⟩;have gB:w2.grownBy wB none:=by rw [hwB];exact World.grownBy_alloc _ _ _
 have RB:Hid (mBlk wB w2.heap.size (mC m' (.slice aa m'.na ac) (.slice pa m'.np pc))):=by rw [hwB];exact mBlk.alloc _ _
 have RR:=hide (R2m.out.grown gB (by simp));have GB:=hide gB;unfold mA mC at hwB;simp only [if_true,Nat.reduceEqDiff,if_false,Nat.reduceLT,Nat.reduceSub] at hwB;unfold msgV;clear hsm p1 p2 p3 p4 p5 p6 g2 HD R1 gB R2m;go_upto_region 2 with fail
 rw [<-hwB];clear hwB;obtain ⟨d0,d1,d2,d3,d4,d5,d6,d7,d8,d9⟩:=RR.out.tenCells;obtain ⟨c0,c1,c2,c3,c4,c5,c6,c7,c8,c9⟩:=RB.out.tenCells;have f0:=RR.out.frozen;simp only [mz,if_true,Nat.reduceEqDiff,if_false,Nat.reduceLT] at d0 d1 d2 d3 d4 d5 d6 d7 d8 d9;simp only [mC,if_true,Nat.reduceEqDiff,if_false,Nat.reduceLT,Nat.reduceSub] at c0 c1 c2 c3 c4 c5 c6 c7 c8 c9;go_wp2_with fail;change bodyPost _ _ _ _ _ (put10 wB w0.heap.size (mC m' (.slice aa m'.na ac) (.slice pa m'.np pc)));have hp:=xst RR.out (mC m' (.slice aa m'.na ac) (.slice pa m'.np pc));have hgp:=xsu wB w0.heap.size (mC m' (.slice aa m'.na ac) (.slice pa m'.np pc));generalize put10 _ _ _=w3 at hp hgp ⊢;obtain ⟨e0,e1,e2,e3,e4,e5,e6,e7,e8,e9⟩:=hp.tenCells;simp only [mC,if_true,Nat.reduceEqDiff,if_false,Nat.reduceLT,Nat.reduceSub] at e0 e1 e2 e3 e4 e5 e6 e7 e8 e9;refine bodyPost_ret (v:=msgV m' (.slice aa m'.na ac) (.slice pa m'.np pc)) (by unfold msgV;simp [results,Tryz.results168,go_sem,e0,e1,e2,e3,e4,e5,e6,e7,e8,e9]) rfl ?_;rw [HP.out];have hfree:role' w0.heap.size=.free:=by rw [N2.out.same w0.heap.size hzw];exact HNF.out
 have n3:=((N1.out.grown G2.out (fun b e=>by cases e)).grown GB.out (fun b e=>by cases e)).grown hgp (fun b e=>by cases e;exact hfree);have s1:=G2.out.size;have s2:=GB.out.size;have s3:=hgp.size;have st:=(NStep.of (role:=role) G0.out).trans N2.out;refine ⟨m',_,_,HSM.out,rfl,role',u,n3,⟨((st.kp.step G2.out (fun b e=>by cases e)).step GB.out (fun b e=>by cases e)).step hgp (fun b e=>.inr (by cases e;exact Nat.le_refl _)),st.same⟩,(PP.out.1.grown GB.out).row hgp PP.out.2.2.2.2.1 hz1,(PP.out.2.1.grown GB.out).row hgp PP.out.2.2.2.2.2 hz1,fun b hb=>?_,fun b hb=>?_⟩
 ·obtain ⟨off,c,e⟩:=PP.out.1.addr hb;have a1:=PP.out.2.2.1 b off _ c e;have a2:=PP.out.2.2.2.2.1 b off _ c e;exact ⟨N1.out.new a2,by omega,by omega⟩
 ·obtain ⟨off,c,e⟩:=PP.out.2.1.addr hb;have a1:=PP.out.2.2.2.1 b off _ c e;have a2:=PP.out.2.2.2.2.2 b off _ c e;exact ⟨N1.out.new a2,by omega,by omega⟩
def xax(B nb:Nat)(role:Nat->Role)(N:NetM)(s i:Nat)(m:Msg)(w:World)(e:Ending)(w':World):Prop:=
 ∃m' av pv,Same m' m/\e=.returned (msgV m' av pv)/\∃role' u,NetAt w' B nb role' (N.put s ((N.dv s).withUp ((N.dv s).ul.eraseIdx i) u))/\NStep w w' role role'/\PkRow w' av m'.na m'.acts/\PkRow w' pv m'.np m'.pks/\(∀b,av.ownBlock=some b->role' b=.free/\w.heap.size<=b/\b<w'.heap.size)/\∀b,pv.ownBlock=some b->role' b=.free/\w.heap.size<=b/\b<w'.heap.size
theorem xzg(w:World){B nb:Nat}{role:Nat->Role}{N:NetM}(h:NetAt w B nb role N)(hB:B<=w.heap.size){s i:Nat}(hs:s<N.D)(m:Msg)(hc:canS m)(hi:(N.dv s).ul[i]?=some (strB (encB m))):
  Calls Tryz.prog 168 #[.pointer (some ⟨N.db,s*5+3,none⟩),.int .i64 i] w (xax B nb role N s i m w):=by
 obtain ⟨P,hP⟩:∃P,P=xax B nb role N s i m w:=⟨_,rfl⟩;rw [<-hP];have HP:=hide hP;obtain ⟨w0,rfl⟩:∃w0,w0=w:=⟨_,rfl⟩;obtain ⟨w,hw⟩:∃w,w=w0.alloc (.cells (mA (mz 0)) 213):=⟨_,rfl⟩;have G0:Hid (w0.grownBy w none):=by rw [hw];exact World.grownBy_alloc _ _ _
 have R0:Hid (mBlk w w0.heap.size (mz 0)):=by rw [hw];exact mBlk.alloc _ _
 have hzw:w0.heap.size<w.heap.size:=by rw [hw];simp
 unfold mA mz at hw;simp only [if_true,Nat.reduceEqDiff,if_false,Nat.reduceLT] at hw;have h0:=h
 replace h:=h.grown G0.out (fun b e=>by cases e)
 replace hB:=Nat.le_trans hB G0.out.size
 have hil:i<(N.dv s).ul.length:=by
  rcases Nat.lt_or_ge i (N.dv s).ul.length with e|e
  ·exact e
  ·rw [List.getElem?_eq_none e] at hi;cases hi
 obtain ⟨n,hn⟩:∃n,(N.dv s).ul.length=n+1:=⟨(N.dv s).ul.length-1,by omega⟩;have hrow:=(h.dvs s hs).row 3 (by omega);obtain ⟨va,vc,hv⟩:=hrow.q.slice;have hv2:(N.dv s).vs 3=.slice va (n+1) vc:=by rw [hv];show Value.slice va (N.dv s).ul.length vc=_;rw [hn]
 have hq:QRow 0 w 9 1 (.slice va (n+1) vc) (n+1) ((N.dv s).ul.map .string):=by
  have:=hrow.q;rw [hv2] at this;have e:(N.dv s).len 3=n+1:=hn;rw [e] at this;exact this
 obtain ⟨g,off,rfl,hcap⟩:=hq.some (by omega);obtain ⟨cur,c1,c2,c3⟩:=h.dev;have hgr:role g=.row s 3:=hrow.rl g (by rw [hv2];rfl);have hgb:g≠N.db:=fun e=>by rw [e,h.dbR] at hgr;cases hgr
 have HT:=hide (xy7 0 N.db (s*5+3) g off n vc i 250 cur (strB (encB m)) (N.dv s).ul w c1 (by rw [c3 s hs 3 (by omega),hv2]) hgb (by omega) hi hq);have HD:Hid (∀ww,Calls Tryz.prog 226 #[.string (strB (encB m))] ww fun e w'=>∃m' v,Same m' m/\xaf ww.heap.size w' m' v/\e=.returned (.tuple #[v,.int .i64 0])/\ww.grownBy w' none):=fun ww=>xnb m hc ww
 have FIN:Hid (∀w1 wx,w1.heap[N.db]?=some (.cells (cur.setIfInBounds (s*5+3) (.slice (some ⟨g,tlO 1 off vc,none⟩) n (vc-1))) 250 (0,0))->w.grownBy wx (some g)->wx.grownBy w1 (some N.db)->QRow 0 wx 9 1 (.slice (some ⟨g,tlO 1 off vc,none⟩) n (vc-1)) n (((N.dv s).ul.eraseIdx i).map .string)->∃role' u,NetAt w1 B nb role' (N.put s ((N.dv s).withUp ((N.dv s).ul.eraseIdx i) u))/\NStep w w1 role role'):=fun w1 wx k1 k2 k3 k4=>by
  have hq2:QRow 0 wx (tyJ 3) (szJ 3) (((N.dv s).withUp ((N.dv s).ul.eraseIdx i) (.slice (some ⟨g,tlO 1 off vc,none⟩) n (vc-1))).vs 3) (((N.dv s).withUp ((N.dv s).ul.eraseIdx i) (.slice (some ⟨g,tlO 1 off vc,none⟩) n (vc-1))).len 3) (((N.dv s).withUp ((N.dv s).ul.eraseIdx i) (.slice (some ⟨g,tlO 1 off vc,none⟩) n (vc-1))).xs 3):=by
   have e:((N.dv s).ul.eraseIdx i).length=n:=by rw [List.length_eraseIdx_of_lt hil];omega
   show QRow 0 wx 9 1 (.slice (some ⟨g,tlO 1 off vc,none⟩) n (vc-1)) ((N.dv s).ul.eraseIdx i).length (((N.dv s).ul.eraseIdx i).map .string);rw [e];exact k4
  obtain ⟨role',r1,r2⟩:=h.setRow (w2:=w1) hB hs (show 3<5 by omega) k2 (fun b e _=>by cases e;exact hgr) (d':=(N.dv s).withUp ((N.dv s).ul.eraseIdx i) (.slice (some ⟨g,tlO 1 off vc,none⟩) n (vc-1))) (fun i _ hi=>DvM.withUp_other hi) hq2 (fun b k _=>by cases k;exact hgr) (fun r hm=>(h.dvs s hs).ru r hm) k3 (fun cu hcu=>by
   rw [k2.block N.db (h.low N.db (by rw [h.dbR];exact fun e=>by cases e)).2 (fun e=>hgb (Option.some.inj e).symm),c1] at hcu;cases hcu;exact k1)
  exact ⟨role',_,r2,((Kp.refl _ w).step k2 (fun b e=>.inl (by cases e;rw [hgr];exact fun e=>by cases e))).step k3 (fun b e=>.inl (by cases e;rw [h.dbR];exact fun e=>by cases e)),r1⟩
 have HNF:Hid (role w0.heap.size=.free):=h0.new (Nat.le_refl _);have HGR:Hid (role g=.row s 3/\role N.db=.dev):=⟨hgr,h.dbR⟩;generalize hdb:N.db=db at *;clear hc h h0 hB hi hil hn hrow hv hv2 hq hcap c1 c2 c3 hgr hgb hP hdb;go_enter Tryz.func168,Tryz.ntmps168;go_wp2_with fail;rw [<-hw];clear hw;refine HT.out.mono ?_;rintro e w1 ⟨rfl,k1,_,wx,k2,k3,k4⟩;obtain ⟨role',u,n1,n2⟩:=FIN.out w1 wx k1 k2 k3 k4;have N1:=hide n1;have N2:=hide n2;have R1:=hide ((R0.out.grown k2 (fun e=>by have h1:=HNF.out;rw [<-Option.some.inj e,HGR.out.1] at h1;cases h1)).grown k3 (fun e=>by have h1:=HNF.out;rw [<-Option.some.inj e,HGR.out.2] at h1;cases h1));clear k1 k2 k3 k4 n1 n2 HT FIN R0;go_wp2_with fail;refine (HD.out _).mono ?_;rintro e w2 ⟨m',v,hsm,hmf,rfl,g2⟩;obtain ⟨av,pv,rfl,p1,p2,p3,p4,p5,p6⟩:=hmf;obtain ⟨aa,ac,rfl⟩:=p1.slice;obtain ⟨pa,pc,rfl⟩:=p2.slice;have HSM:=hide hsm;have R2m:=hide (R1.out.grown g2 (by simp));have hz2:w0.heap.size<w2.heap.size:=(Array.getElem?_eq_some_iff.1 R2m.out).1;have hz1:w0.heap.size<w1.heap.size:=(Array.getElem?_eq_some_iff.1 R1.out).1;have PP:Hid (PkRow w2 (.slice aa m'.na ac) m'.na m'.acts/\PkRow w2 (.slice pa m'.np pc) m'.np m'.pks/\RowIn w2.heap.size (.slice aa m'.na ac)/\RowIn w2.heap.size (.slice pa m'.np pc)/\xah w1.heap.size (.slice aa m'.na ac)/\xah w1.heap.size (.slice pa m'.np pc)):=⟨p1,p2,p3,p4,p5,p6⟩;have G2:=hide g2;obtain ⟨wB,hwB⟩:∃wB,wB=w2.alloc (.cells (mA (mC m' (.slice aa m'.na ac) (.slice pa m'.np pc))) 213):=⟨_,rfl⟩;have gB:w2.grownBy wB none:=by rw [hwB];exact World.grownBy_alloc _ _ _
 have RB:Hid (mBlk wB w2.heap.size (mC m' (.slice aa m'.na ac) (.slice pa m'.np pc))):=by rw [hwB];exact mBlk.alloc _ _
 have RR:=hide (R2m.out.grown gB (by simp));have GB:=hide gB;unfold mA mC at hwB;simp only [if_true,Nat.reduceEqDiff,if_false,Nat.reduceLT,Nat.reduceSub] at hwB;unfold msgV;clear hsm p1 p2 p3 p4 p5 p6 g2 HD R1 gB R2m;go_upto_region 2 with fail
 rw [<-hwB];clear hwB;obtain ⟨d0,d1,d2,d3,d4,d5,d6,d7,d8,d9⟩:=RR.out.tenCells;obtain ⟨c0,c1,c2,c3,c4,c5,c6,c7,c8,c9⟩:=RB.out.tenCells;have f0:=RR.out.frozen;simp only [mz,if_true,Nat.reduceEqDiff,if_false,Nat.reduceLT] at d0 d1 d2 d3 d4 d5 d6 d7 d8 d9;simp only [mC,if_true,Nat.reduceEqDiff,if_false,Nat.reduceLT,Nat.reduceSub] at c0 c1 c2 c3 c4 c5 c6 c7 c8 c9;go_wp2_with fail;change bodyPost _ _ _ _ _ (put10 wB w0.heap.size (mC m' (.slice aa m'.na ac) (.slice pa m'.np pc)));have hp:=xst RR.out (mC m' (.slice aa m'.na ac) (.slice pa m'.np pc));have hgp:=xsu wB w0.heap.size (mC m' (.slice aa m'.na ac) (.slice pa m'.np pc));generalize put10 _ _ _=w3 at hp hgp ⊢;obtain ⟨e0,e1,e2,e3,e4,e5,e6,e7,e8,e9⟩:=hp.tenCells;simp only [mC,if_true,Nat.reduceEqDiff,if_false,Nat.reduceLT,Nat.reduceSub] at e0 e1 e2 e3 e4 e5 e6 e7 e8 e9;refine bodyPost_ret (v:=msgV m' (.slice aa m'.na ac) (.slice pa m'.np pc)) (by unfold msgV;simp [results,Tryz.results168,go_sem,e0,e1,e2,e3,e4,e5,e6,e7,e8,e9]) rfl ?_;rw [HP.out];have hfree:role' w0.heap.size=.free:=by rw [N2.out.same w0.heap.size hzw];exact HNF.out
 have n3:=((N1.out.grown G2.out (fun b e=>by cases e)).grown GB.out (fun b e=>by cases e)).grown hgp (fun b e=>by cases e;exact hfree);have s1:=G2.out.size;have s2:=GB.out.size;have s3:=hgp.size;have st:=(NStep.of (role:=role) G0.out).trans N2.out;refine ⟨m',_,_,HSM.out,rfl,role',u,n3,⟨((st.kp.step G2.out (fun b e=>by cases e)).step GB.out (fun b e=>by cases e)).step hgp (fun b e=>.inr (by cases e;exact Nat.le_refl _)),st.same⟩,(PP.out.1.grown GB.out).row hgp PP.out.2.2.2.2.1 hz1,(PP.out.2.1.grown GB.out).row hgp PP.out.2.2.2.2.2 hz1,fun b hb=>?_,fun b hb=>?_⟩
 ·obtain ⟨off,c,e⟩:=PP.out.1.addr hb;have a1:=PP.out.2.2.1 b off _ c e;have a2:=PP.out.2.2.2.2.1 b off _ c e;exact ⟨N1.out.new a2,by omega,by omega⟩
 ·obtain ⟨off,c,e⟩:=PP.out.2.1.addr hb;have a1:=PP.out.2.2.2.1 b off _ c e;have a2:=PP.out.2.2.2.2.2 b off _ c e;exact ⟨N1.out.new a2,by omega,by omega⟩
theorem NetM.put_put(N:NetM)(s:Nat)(d d':DvM):(N.put s d).put s d'=N.put s d':=by
 unfold NetM.put;congr 1;funext i;unfold updN;by_cases h:i=s
 ·rw [if_pos h,if_pos h]
 ·rw [if_neg h,if_neg h];exact if_neg h
theorem NetM.put_dv(N:NetM)(s:Nat)(d:DvM):(N.put s d).dv s=d:=x0l _ _ _
def DOut(B nb:Nat)(role:Nat->Role)(N:NetM)(s:Nat)(rl:List Rl)(wl:List (Nat->Int))(dl ul:List ByteArray)(nl:List Rl)(w w':World):Prop:=
 ∃role' d',NetAt w' B nb role' (N.put s d')/\NStep w w' role role'/\d'.rl=rl/\d'.wl=wl/\d'.dl=dl/\d'.ul=ul/\d'.nl=nl
theorem xai.d{B nb:Nat}{role:Nat->Role}{N:NetM}{s:Nat}{S:ByteArray}{w w':World}{e:Ending}(h:xai B nb role N s S w e w'):e=.returned (.tuple #[])/\DOut B nb role N s (N.dv s).rl (N.dv s).wl ((N.dv s).dl++[S]) (N.dv s).ul (N.dv s).nl w w':=by
 obtain ⟨h1,role',v,h2,h3⟩:=h;exact ⟨h1,role',_,h2,h3,rfl,rfl,rfl,rfl,rfl⟩
theorem xay.d{B nb:Nat}{role:Nat->Role}{N:NetM}{s:Nat}{S:ByteArray}{w w':World}{e:Ending}(h:xay B nb role N s S w e w'):e=.returned (.tuple #[])/\DOut B nb role N s (N.dv s).rl (N.dv s).wl (N.dv s).dl ((N.dv s).ul++[S]) (N.dv s).nl w w':=by
 obtain ⟨h1,role',v,h2,h3⟩:=h;exact ⟨h1,role',_,h2,h3,rfl,rfl,rfl,rfl,rfl⟩
def rulM(r:Rl):Msg:=⟨1,r.prio,r.mt,r.na,r.acts,0,fun _ _=>0⟩
def kindM(k:Int):Msg:=⟨k,0,fun _=>0,0,fun _ _=>0,0,fun _ _=>0⟩
theorem xks{k:Int}(h:k=2\/k=3\/k=6):canS (kindM k):=by
 refine ⟨.inr (.inr (.inr ⟨h,⟨rfl,fun _ _=>rfl,rfl⟩,rfl⟩)),?_⟩;unfold bodyB kindM;simp only;rw [if_neg (by omega),if_neg (by omega)];simp [pksB]
theorem PkRow.none(w:World)(ps:Nat->Nat->Int):PkRow w (.slice Option.none 0 0) 0 ps:=.inl ⟨rfl,rfl⟩
theorem RowIn.none(b:Nat)(n c:Nat):RowIn b (.slice Option.none n c):=fun g off n' cap e=>by cases e
def enA(r:Rl):ByteArray:=strB (encB (rulM r))
def enK(k:Int):ByteArray:=strB (encB (kindM k))
theorem DvM.withUnsent_other{d:DvM}{L:List Rl}{v:Value}{i:Nat}(h:i≠4)(hi:i<5):(d.withUnsent L v).vs i=d.vs i/\(d.withUnsent L v).len i=d.len i/\(d.withUnsent L v).xs i=d.xs i:=by
 refine ⟨x0k h,?_,?_⟩<;>(match i,h,hi with|0,_,_=>rfl|1,_,_=>rfl|2,_,_=>rfl|3,_,_=>rfl|4,h,_=>exact absurd rfl h)
theorem xvp(w:World){B nb:Nat}{role:Nat->Role}{N:NetM}(h:NetAt w B nb role N){s:Nat}(hs:s<N.D)(hn:(N.dv s).nl=[]):
  Calls Tryz.prog 158 #[.pointer (some ⟨N.db,s*5,none⟩)] w fun e w'=>e=.returned (.tuple #[])/\w.grownBy w' none:=by
 obtain ⟨cur,c1,c2,c3⟩:=h.dev;have d0:=xc7 c1 (s*5+4) _ (c3 s hs 4 (by omega));obtain ⟨va,vc,hv⟩:=((h.dvs s hs).row 4 (by omega)).q.slice;have hl:(N.dv s).len 4=0:=by show (N.dv s).nl.length=0;rw [hn];rfl
 rw [hv,hl] at d0;generalize N.db=db at *;clear h c1 c2 c3 hv hl hn hs;go_enter Tryz.func158,Tryz.ntmps158;go_wp2_with fail;refine bodyPost_end (results_none rfl _ _ _) rfl ?_;exact ⟨rfl,by first|exact xjb _ _|exact xi7 (xjb _ _)|exact xi8 (xjb _ _) _⟩
theorem xvq(w:World){B nb:Nat}{role:Nat->Role}{N:NetM}(h:NetAt w B nb role N)(hB:B<=w.heap.size){s:Nat}(hs:s<N.D){r:Rl}{rest:List Rl}(hn:(N.dv s).nl=r::rest)(hc:canS (rulM r))(hlen:(N.dv s).dl.length<=100000000000):
  Calls Tryz.prog 158 #[.pointer (some ⟨N.db,s*5,none⟩)] w fun e w'=>e=.returned (.tuple #[])/\DOut B nb role N s (N.dv s).rl (N.dv s).wl ((N.dv s).dl++[enA r,enK 2]) (N.dv s).ul rest w w':=by
 obtain ⟨P,hP⟩:∃P:Ending->World->Prop,P=fun e w'=>e=.returned (.tuple #[])/\DOut B nb role N s (N.dv s).rl (N.dv s).wl ((N.dv s).dl++[enA r,enK 2]) (N.dv s).ul rest w w':=⟨_,rfl⟩
 rw [<-hP];have HP:=hide hP;obtain ⟨cur,c1,c2,c3⟩:=h.dev;have d0:=xc7 c1 (s*5+4) _ (c3 s hs 4 (by omega));have hrow:=(h.dvs s hs).row 4 (by omega);obtain ⟨va,vc,hv⟩:=hrow.q.slice;have hl:(N.dv s).len 4=rest.length+1:=by show (N.dv s).nl.length=_;rw [hn];rfl
 rw [hl] at hv;rw [hv] at d0;have hru:=(h.dvs s hs).ru r (.inr (by rw [hn];exact List.mem_cons_self));obtain ⟨xa,xc,hxa⟩:=hru.pk.slice
 have hq:QRow 0 w 68 8 (.slice va (rest.length+1) vc) (rest.length+1) (.int .i64 r.prio :: .int .i64 (r.mt 0) :: .int .i64 (r.mt 1) :: .int .i64 (r.mt 2) :: .int .i64 (r.mt 3) :: .int .i64 (r.mt 4) :: .int .i64 (r.mt 5) :: .slice xa r.na xc::rlsC rest):=by
  have:=hrow.q;rw [hv,hl] at this
  have e:(N.dv s).xs 4=.int .i64 r.prio :: .int .i64 (r.mt 0) :: .int .i64 (r.mt 1) :: .int .i64 (r.mt 2) :: .int .i64 (r.mt 3) :: .int .i64 (r.mt 4) :: .int .i64 (r.mt 5) :: .slice xa r.na xc::rlsC rest:=by
   show rlsC (N.dv s).nl=_;rw [hn,<-hxa];rfl
  rw [e] at this;exact this
 obtain ⟨g,off,rfl,hcap⟩:=hq.some (by omega);have hgr:role g=.row s 4:=hrow.rl g (by rw [hv];rfl)
 have HT:Hid (∀ww,w.grownBy ww none->Calls Tryz.prog 222 #[.pointer (some ⟨N.db,s*5+4,none⟩),.int .i64 0] ww fun e w'=>e=.returned (.agg #[.int .i64 r.prio,.int .i64 (r.mt 0),.int .i64 (r.mt 1),.int .i64 (r.mt 2),.int .i64 (r.mt 3),.int .i64 (r.mt 4),.int .i64 (r.mt 5),.slice xa r.na xc])/\∃role' v,NetAt w' B nb role' (N.put s ((N.dv s).withUnsent rest v))/\NStep w w' role role'/\RuAt w' role' r):=fun ww hg=>by
  have hh:=h.grown hg (fun b e=>by cases e);obtain ⟨cu,k1,k2,k3⟩:=hh.dev;refine (xy6 0 N.db (s*5+4) g off rest.length vc 250 cu r.prio r.mt xa r.na xc (rlsC rest) ww k1 (by rw [k3 s hs 4 (by omega),hv]) (hq.kept hg (fun b e=>by cases e))).mono ?_;rintro e w1 ⟨e1,e2,e3⟩;have hq2:QRow 0 ww (tyJ 4) (szJ 4) (((N.dv s).withUnsent rest (.slice (some ⟨g,tlO 8 off vc,none⟩) rest.length (vc-1))).vs 4) (((N.dv s).withUnsent rest (.slice (some ⟨g,tlO 8 off vc,none⟩) rest.length (vc-1))).len 4) (((N.dv s).withUnsent rest (.slice (some ⟨g,tlO 8 off vc,none⟩) rest.length (vc-1))).xs 4):=(hq.kept hg (fun b e=>by cases e)).tailT
  obtain ⟨role',r1,r2⟩:=hh.setRow (w1:=ww) (w2:=w1) (Nat.le_trans hB hg.size) hs (show 4<5 by omega) (xjb ww none) (fun b e=>by cases e) (d':=(N.dv s).withUnsent rest (.slice (some ⟨g,tlO 8 off vc,none⟩) rest.length (vc-1))) (fun i h5 hi=>DvM.withUnsent_other hi h5) hq2 (fun b k _=>by cases k;exact hgr) (fun r' hm=>(hh.dvs s hs).ru r' (by
   rcases hm with hm|hm
   ·exact .inl hm
   ·exact .inr (by rw [hn];exact List.mem_cons_of_mem _ hm))) e3 (fun cu' hcu=>by
   rw [k1] at hcu;cases hcu;exact e2)
  have hrk:=((hh.dvs s hs).ru r (.inr (by rw [hn];exact List.mem_cons_self))).kept e3 (fun b e _=>by cases e;rw [h.dbR];exact fun e=>by cases e);have hst:NStep ww w1 role role':=NStep.row e3 (fun b e _=>by cases e;rw [h.dbR];exact fun e=>by cases e) r1;exact ⟨e1,role',_,r2,(NStep.of hg).trans hst,⟨hrk.pk,fun b k=>⟨by rw [r1 b (((hh.dvs s hs).ru r (.inr (by rw [hn];exact List.mem_cons_self))).rl b k).2];exact (hrk.rl b k).1,(hrk.rl b k).2⟩⟩⟩
 have HN:=hide hn;have HC:=hide hc;have HX:=hide hxa;generalize hdb:N.db=db at *;have HDB:=hide hdb;clear h c1 c2 c3 hv hl hn hrow hq hgr hcap hru hxa hc hP hdb;go_enter Tryz.func158,Tryz.ntmps158;go_wp2_with fail;refine (HT.out w (xjb _ _)).mono ?_;rintro e w1 ⟨rfl,role1,v1,n1,st1,ru1⟩
 have HS1:Hid (Calls Tryz.prog 178 #[.pointer (some ⟨db,s*5,none⟩),.agg #[.int .i64 1,.int .i64 r.prio,.int .i64 (r.mt 0),.int .i64 (r.mt 1),.int .i64 (r.mt 2),.int .i64 (r.mt 3),.int .i64 (r.mt 4),.int .i64 (r.mt 5),.slice xa r.na xc,.slice none 0 0]] w1 fun e w'=>e=.returned (.tuple #[])/\∃role' d',NetAt w' B nb role' (N.put s d')/\NStep w w' role role'/\d'.rl=(N.dv s).rl/\d'.wl=(N.dv s).wl/\d'.dl=(N.dv s).dl++[enA r]/\d'.ul=(N.dv s).ul/\d'.nl=rest):=by
  have:=xvr (rulM r) xa none xc 0 w1 HC.out (by show PkRow w1 (.slice xa r.na xc) r.na r.acts;rw [<-HX.out];exact ru1.pk) (PkRow.none _ _) (fun g' off' n' cap' e=>by have e':Value.slice xa r.na xc=.slice (some ⟨g',off',none⟩) n' cap':=e;have:=ru1.rl g' (by rw [HX.out,e'];rfl);exact this.2) (RowIn.none _ _ _) n1 (Nat.le_trans hB st1.kp.size) hs (by rw [NetM.put_dv];exact Nat.le_trans hlen (by omega));rw [<-HDB.out];refine this.mono ?_;intro e w' ho;obtain ⟨h1,role',d',h2,h3,h4,h5,h6,h7,h8⟩:=ho.d;rw [NetM.put_put] at h2;rw [NetM.put_dv] at h4 h5 h6 h7 h8;exact ⟨h1,role',d',h2,st1.trans h3,h4,h5,h6,h7,h8⟩
 clear n1 st1 ru1 HT;go_wp2_with fail;refine HS1.out.mono ?_;rintro e w2 ⟨rfl,role2,d2,n2,st2,q1,q2,q3,q4,q5⟩
 have HS2:Hid (Calls Tryz.prog 178 #[.pointer (some ⟨db,s*5,none⟩),.agg #[.int .i64 2,.int .i64 0,.int .i64 0,.int .i64 0,.int .i64 0,.int .i64 0,.int .i64 0,.int .i64 0,.slice none 0 0,.slice none 0 0]] w2 P):=by
  have:=xvr (kindM 2) none none 0 0 w2 (xks (.inl rfl)) (PkRow.none _ _) (PkRow.none _ _) (RowIn.none _ _ _) (RowIn.none _ _ _) n2 (Nat.le_trans hB st2.kp.size) hs (by rw [NetM.put_dv,q3,List.length_append];simp;omega);rw [<-HDB.out,HP.out];refine this.mono ?_;intro e w' ho;obtain ⟨h1,role',d',h2,h3,h4,h5,h6,h7,h8⟩:=ho.d;rw [NetM.put_put] at h2;rw [NetM.put_dv] at h4 h5 h6 h7 h8;refine ⟨h1,role',d',h2,st2.trans h3,h4.trans q1,h5.trans q2,?_,h7.trans q4,h8.trans q5⟩;rw [h6,q3,List.append_assoc];rfl
 clear n2 st2 q1 q2 q3 q4 q5 HS1;go_wp2_with fail;refine HS2.out.mono ?_;intro e w3 hp;obtain rfl:e=.returned (.tuple #[]):=by have:=hp;rw [HP.out] at this;exact this.1
 have HPP:=hide hp;clear hp HS2;go_wp2_with fail;refine bodyPost_end (results_none rfl _ _ _) rfl ?_;exact HPP.out
def waitS(N:NetM):Nat->Nat
 | 0=>0
 | s+1=>waitS N s+(N.dv s).wl.length
def xfm(N:NetM):Prop:=300<=waitS N N.D
instance(N:NetM):Decidable (xfm N):=by unfold xfm;exact inferInstance
theorem xfn(w:World){B nb:Nat}{role:Nat->Role}{N:NetM}(h:NetAt w B nb role N)(hlen:∀s,s<N.D->(N.dv s).wl.length<=1000000):
  Calls Tryz.prog 164 #[.pointer (some ⟨nb,0,none⟩)] w fun e w'=>e=.returned (.bool (decide (xfm N)))/\w.grownBy w' none:=by
 have hds:=h.dsz;have hnb:=xc7 h.net 4 _ rfl;obtain ⟨cur,c1,c2,c3⟩:=h.dev;have hbl:=World.block_lt_of_cell? w _ hnb;simp only at hbl;have hdb:N.db<w.heap.size:=(Array.getElem?_eq_some_iff.1 c1).1;have HS:Hid (∀s j,s<N.D->j<5->w.cell? ⟨N.db,s*5+j,none⟩=some ((N.dv s).vs j)):=fun s j hs hj=>xc7 c1 _ _ (c3 s hs j hj)
 have HV:Hid (∀s,s<N.D->∃a0 c0 a1 c1 a2 c2 a3 c3 a4 c4,(N.dv s).vs 0=.slice a0 (N.dv s).rl.length c0/\(N.dv s).vs 1=.slice a1 (N.dv s).wl.length c1/\(N.dv s).vs 2=.slice a2 (N.dv s).dl.length c2/\(N.dv s).vs 3=.slice a3 (N.dv s).ul.length c3/\(N.dv s).vs 4=.slice a4 (N.dv s).nl.length c4):=fun s hs=>by
  obtain ⟨a0,c0,e0⟩:=((h.dvs s hs).row 0 (by omega)).q.slice;obtain ⟨a1,c1,e1⟩:=((h.dvs s hs).row 1 (by omega)).q.slice;obtain ⟨a2,c2,e2⟩:=((h.dvs s hs).row 2 (by omega)).q.slice;obtain ⟨a3,c3,e3⟩:=((h.dvs s hs).row 3 (by omega)).q.slice;obtain ⟨a4,c4,e4⟩:=((h.dvs s hs).row 4 (by omega)).q.slice;exact ⟨a0,c0,a1,c1,a2,c2,a3,c3,a4,c4,e0,e1,e2,e3,e4⟩
 have HW:Hid (∀s,s<=N.D->waitS N s<=s*1000000):=fun s=>by
  induction s with
  | zero=>intro _;exact Nat.le_refl _
  | succ k ih=>intro hk;have:=ih (by omega);have:=hlen k (by omega);rw [waitS];omega
 obtain ⟨R,hR⟩:∃R,R=decide (xfm N):=⟨_,rfl⟩;rw [<-hR];have HR:=hide hR;have HL:=hide hlen;obtain ⟨D,hD⟩:∃D,D=N.D:=⟨_,rfl⟩;obtain ⟨db,hdbe⟩:∃db,db=N.db:=⟨_,rfl⟩;rw [<-hD] at hds hnb HS HV HW HL;rw [<-hdbe] at hnb HS hdb;have HD:=hide hD;clear h c1 c2 c3 hR hlen hD hdbe;go_enter Tryz.func164,Tryz.ntmps164;go_wp2_with fail;go_loopw [3,11] (fun s3 s11 wq=>∃i:Nat,i<=D/\s3=.int .i64 (waitS N i)/\s11=.int .i64 i/\w.grownBy wq none) (fun _ s11 _=>D-(intOf s11).toNat)
 case atStart=>exact ⟨0,by omega,rfl,rfl,xjb _ _⟩
 case round=>
  obtain ⟨i,hi,rfl,rfl,hg⟩:=hrel;have HG:=hide hg;have hz:=hg.size;clear hg;by_cases hlt:i<D
  ·obtain ⟨a0,c0,a1,c1,a2,c2,a3,c3,a4,c4,e0,e1,e2,e3,e4⟩:=HV.out i hlt;have m0:wr.cell? ⟨db,i*5,none⟩=some ((N.dv i).vs 0):=HG.out.cell (HS.out i 0 hlt (by omega)) (by simp);have m1:=HG.out.cell (HS.out i 1 hlt (by omega)) (by simp);have m2:=HG.out.cell (HS.out i 2 hlt (by omega)) (by simp);have m3:=HG.out.cell (HS.out i 3 hlt (by omega)) (by simp);have m4:=HG.out.cell (HS.out i 4 hlt (by omega)) (by simp);rw [e0] at m0;rw [e1] at m1;rw [e2] at m2;rw [e3] at m3;rw [e4] at m4;have hltI:(i:Int)<D:=by omega
   have hw1:=HW.out i (by omega);have hw2:=HL.out i hlt;obtain ⟨W,hW⟩:∃W,W=waitS N i:=⟨_,rfl⟩;obtain ⟨l,hl⟩:∃l,l=(N.dv i).wl.length:=⟨_,rfl⟩;rw [<-hW] at hw1;rw [<-hl] at hw2 m1;have HWI:Hid (waitS N (i+1)=W+l):=by show _=_;rw [waitS,hW,hl]
   rw [<-hW];clear e0 e1 e2 e3 e4 hW hl;go_wp2_with fail;exact ⟨⟨i+1,by omega,by rw [HWI.out];go_num,by go_num,xje HG.out (World.grownBy_alloc _ _ _)⟩,by simp [intOf];omega⟩
  ·obtain rfl:D=i:=by omega
   have hw1:=HW.out D (Nat.le_refl _);obtain ⟨W,hW⟩:∃W,W=waitS N D:=⟨_,rfl⟩
   have H0:Hid (R=decide ((300:Int)<=W)):=by
    show _=_;rw [HR.out];refine decide_eq_decide.2 ?_;unfold xfm;rw [<-HD.out,<-hW];omega
   rw [<-hW];clear HR hW;go_wp2_with fail;go_ret;exact ⟨by rw [H0.out];rfl,HG.out⟩
def atP(sw pt:Int)(k:Nat->Int):Nat->Int:=fun i=>if i=0 then sw else if i=1 then pt else k i
theorem x0v(w:World){B nb:Nat}{role:Nat->Role}{N:NetM}(h:NetAt w B nb role N)(hB:B<=w.heap.size){s:Nat}(hs:s<N.D)(pt:Int)(k:Nat->Int)(hlen:(N.dv s).wl.length<=1000000):
  Calls Tryz.prog 165 #[.pointer (some ⟨nb,0,none⟩),.int .i64 s,.int .i64 pt,pkV k] w fun e w'=>e=.returned (.tuple #[])/\DOut B nb role N s (N.dv s).rl ((N.dv s).wl++[atP s pt k]) (N.dv s).dl (N.dv s).ul (N.dv s).nl w w':=by
 obtain ⟨P,hP⟩:∃P:Ending->World->Prop,P=fun e w'=>e=.returned (.tuple #[])/\DOut B nb role N s (N.dv s).rl ((N.dv s).wl++[atP s pt k]) (N.dv s).dl (N.dv s).ul (N.dv s).nl w w':=⟨_,rfl⟩
 rw [<-hP];have HP:=hide hP;obtain ⟨va,vc,hv⟩:=((h.dvs s hs).row 1 (by omega)).q.slice;have hds:=h.dsz;obtain ⟨n,hn⟩:∃n,n=(N.dv s).wl.length:=⟨_,rfl⟩;have hv2:(N.dv s).vs 1=.slice va n vc:=by rw [hn];exact hv
 have DC:Hid (∀ww,w.grownBy ww none->ww.cell? ⟨nb,4,none⟩=some (.slice (some ⟨N.db,0,none⟩) N.D N.D)/\ww.cell? ⟨N.db,s*5+1,none⟩=some (.slice va n vc)/\ww.frozen? ⟨N.db,s*5+1,none⟩=false):=fun ww hg=>by
  have hh:=h.grown hg (fun b e=>by cases e);obtain ⟨cur,c1,c2,c3⟩:=hh.dev;refine ⟨xc7 hh.net 4 _ rfl,?_,by simp [World.frozen?,c1]⟩;rw [<-hv2];exact xc7 c1 (s*5+1) _ (c3 s hs 1 (by omega))
 have QR:Hid (∀ww,w.grownBy ww none->QRow 0 ww 46 6 (.slice va n vc) n (pksC (N.dv s).wl)):=fun ww hg=>by
  have:=((h.dvs s hs).row 1 (by omega)).q.kept hg (fun b e=>by cases e);rw [hv2] at this;rw [hn] at this ⊢;exact this
 have hAN:(Value.slice va n vc).ownBlock≠some N.db:=fun k=>by
  rw [<-hv2] at k;have:=((h.dvs s hs).row 1 (by omega)).rl N.db k;rw [h.dbR] at this;cases this
 have AN:=hide hAN
 have AN2:Hid ((Value.slice va n vc).ownBlock≠some nb):=fun k=>by
  rw [<-hv2] at k;have:=((h.dvs s hs).row 1 (by omega)).rl nb k;rw [h.nbR] at this;cases this
 have HN:=hide h;have HV2:=hide hv2;have HNL:=hide hn;have hnbl:=(h.low nb (by rw [h.nbR];exact fun e=>by cases e)).2;have hdbl:=(h.low N.db (by rw [h.dbR];exact fun e=>by cases e)).2;obtain ⟨db,hdb⟩:∃db,db=N.db:=⟨_,rfl⟩;obtain ⟨D,hD⟩:∃D,D=N.D:=⟨_,rfl⟩;rw [<-hdb] at DC AN hdbl;rw [<-hD] at DC hds;have hsD:s<D:=by rw [hD];exact hs
 rw [<-hn] at hlen;have HDB:=hide hdb;obtain ⟨i0,hi0,hz0,hz1,hz2⟩:=info_parts Tryz.infoNPk;have HI:Hid (Tryz.prog.info? 46=some i0/\i0.zero=some (.agg #[.int .i64 0,.int .i64 0,.int .i64 0,.int .i64 0,.int .i64 0,.int .i64 0])/\i0.size=6/\i0.bytes=48):=⟨hi0,hz0,hz1,hz2⟩;obtain ⟨d0,d1,d2⟩:=DC.out w (xjb _ _);have hsI:(s:Int)<D:=by omega
 have FIN:Hid (∀w3 a3 c3,QRow 0 w3 46 6 (.slice a3 (n+1) c3) (n+1) (pksC (N.dv s).wl++[.int .i64 s,.int .i64 pt,.int .i64 (k 2),.int .i64 (k 3),.int .i64 (k 4),.int .i64 (k 5)])->((w.alloc (.cells #[.int .i64 s,.int .i64 pt,.int .i64 (k 2),.int .i64 (k 3),.int .i64 (k 4),.int .i64 (k 5)] 46)).alloc (.cells #[.int .i64 s,.int .i64 pt,.int .i64 (k 2),.int .i64 (k 3),.int .i64 (k 4),.int .i64 (k 5)] 46)).grownBy w3 (Value.slice va n vc).ownBlock->((Value.slice a3 (n+1) c3).ownBlock=(Value.slice va n vc).ownBlock\/∃b,(Value.slice a3 (n+1) c3).ownBlock=some b/\((w.alloc (.cells #[.int .i64 s,.int .i64 pt,.int .i64 (k 2),.int .i64 (k 3),.int .i64 (k 4),.int .i64 (k 5)] 46)).alloc (.cells #[.int .i64 s,.int .i64 pt,.int .i64 (k 2),.int .i64 (k 3),.int .i64 (k 4),.int .i64 (k 5)] 46)).heap.size<=b)->P (.returned (.tuple #[])) (w3.setCell ⟨db,s*5+1,none⟩ (.slice a3 (n+1) c3))):=fun w3 a3 c3 q3 g3 at3=>by
  obtain ⟨W,hW⟩:∃W,W=(w.alloc (.cells #[.int .i64 s,.int .i64 pt,.int .i64 (k 2),.int .i64 (k 3),.int .i64 (k 4),.int .i64 (k 5)] 46)).alloc (.cells #[.int .i64 s,.int .i64 pt,.int .i64 (k 2),.int .i64 (k 3),.int .i64 (k 4),.int .i64 (k 5)] 46):=⟨_,rfl⟩;have gW:w.grownBy W none:=by rw [hW];exact xje (World.grownBy_alloc _ _ _) (World.grownBy_alloc _ _ _)
  rw [<-hW] at g3 at3;have hN2:=h.grown gW (fun b e=>by cases e)
  have hq:QRow 0 w3 (tyJ 1) (szJ 1) (((N.dv s).withWait ((N.dv s).wl++[atP s pt k]) (.slice a3 (n+1) c3)).vs 1) (((N.dv s).withWait ((N.dv s).wl++[atP s pt k]) (.slice a3 (n+1) c3)).len 1) (((N.dv s).withWait ((N.dv s).wl++[atP s pt k]) (.slice a3 (n+1) c3)).xs 1):=by
   show QRow 0 w3 46 6 (.slice a3 (n+1) c3) ((N.dv s).wl++[atP s pt k]).length (pksC ((N.dv s).wl++[atP s pt k]));rw [List.length_append,<-hn,xrv];exact q3
  obtain ⟨role',k1,k2⟩:=hN2.appendRow (Nat.le_trans hB gW.size) hs (show 1<5 by omega) (d':=(N.dv s).withWait ((N.dv s).wl++[atP s pt k]) (.slice a3 (n+1) c3)) (fun i _ hi=>DvM.withWait_other hi) hq (by rw [hv2];exact g3) (by rw [hv2];exact at3) (fun r hm=>(hN2.dvs s hs).ru r hm);rw [hdb,hP];exact ⟨rfl,role',_,k1,(NStep.of gW).trans k2,rfl,rfl,rfl,rfl,rfl⟩
 unfold pkV pkA;clear h hv hv2 hn hAN hdb hD hi0 hz0 hz1 hz2 hP;obtain ⟨q,hq⟩:∃q,q=atP s pt k:=⟨_,rfl⟩;obtain ⟨W1,hW1⟩:∃W1,W1=w.alloc (.cells #[.int .i64 s,.int .i64 pt,.int .i64 (k 2),.int .i64 (k 3),.int .i64 (k 4),.int .i64 (k 5)] 46):=⟨_,rfl⟩;have G1:Hid (w.grownBy W1 none):=by rw [hW1];exact World.grownBy_alloc _ _ _
 have R1:Hid (W1.heap[w.heap.size]?=some (.cells #[.int .i64 s,.int .i64 pt,.int .i64 (k 2),.int .i64 (k 3),.int .i64 (k 4),.int .i64 (k 5)] 46 (0,0))):=by show _=_;rw [hW1];exact heap_alloc_new w _
 go_enter Tryz.func165,Tryz.ntmps165;go_upto_region 2 with fail
 rw [<-hW1] at FIN ⊢;have hqe:Hid ([Value.int .i64 s,.int .i64 pt,.int .i64 (k 2),.int .i64 (k 3),.int .i64 (k 4),.int .i64 (k 5)]=pkC q):=by show _=_;rw [hq];rfl
 have HQ:Hid (q=atP s pt k):=hq;clear hW1 d0 d1 d2 hq;obtain ⟨d0,d1,d2⟩:=DC.out W1 G1.out;have m0:=xc7 R1.out 0 _ rfl;have m1:=xc7 R1.out 1 _ rfl;have m2:=xc7 R1.out 2 _ rfl;have m3:=xc7 R1.out 3 _ rfl;have m4:=xc7 R1.out 4 _ rfl;have m5:=xc7 R1.out 5 _ rfl;obtain ⟨W2,hW2⟩:∃W2,W2=W1.alloc (.cells #[.int .i64 s,.int .i64 pt,.int .i64 (k 2),.int .i64 (k 3),.int .i64 (k 4),.int .i64 (k 5)] 46):=⟨_,rfl⟩;have G2:Hid (w.grownBy W2 none):=by rw [hW2];exact xje G1.out (World.grownBy_alloc _ _ _)
 have hz1:w.heap.size<W1.heap.size:=(Array.getElem?_eq_some_iff.1 R1.out).1;have hdb1:db<W1.heap.size:=by omega
 have hnb1:nb<W1.heap.size:=by omega
 clear G2 hW2
 go_region_law (
    refine xxd rfl (.tmp 24) (.tmp 26) 29 rfl 0 46 i0 _ 6 48 Tryz.underlying29 HI.out.1 HI.out.2.1 HI.out.2.2.1 HI.out.2.2.2 rfl (by decide) (.slice va n vc) n (pksC (N.dv s).wl) (by simp [Act.eval,Act.put]) (QRow.drew (QR.out (W1.alloc (.cells #[.int .i64 s,.int .i64 pt,.int .i64 (k 2),.int .i64 (k 3),.int .i64 (k 4),.int .i64 (k 5)] 46)) (xje G1.out (World.grownBy_alloc _ _ none)))) ⟨W1.heap.size,0,none⟩ 1 1 [.int .i64 s,.int .i64 pt,.int .i64 (k 2),.int .i64 (k 3),.int .i64 (k 4),.int .i64 (k 5)] (by simp [Act.eval,Act.put]) rfl (fun j u hj=>xed W1 [.int .i64 s,.int .i64 pt,.int .i64 (k 2),.int .i64 (k 3),.int .i64 (k 4),.int .i64 (k 5)] 46 j u hj) (by intro u hu;simp at hu;rcases hu with rfl|rfl|rfl|rfl|rfl|rfl<;>rfl) (by omega) (by unfold maxLen;omega) (by omega) (Nat.zero_le _) ?_;intro v' w3 q3 g3 at3;obtain ⟨a3,c3,hv3⟩:=q3.slice;subst hv3;have g3':=xjf g3;have e3:w3.cell? ⟨db,s*5+1,none⟩=some (.slice va n vc):=g3'.cell (DC.out _ (xje G1.out (World.grownBy_alloc _ _ none))).2.1 (AN.out.symm);have e4:w3.cell? ⟨nb,4,none⟩=some (.slice (some ⟨db,0,none⟩) D D):=g3'.cell (DC.out _ (xje G1.out (World.grownBy_alloc _ _ none))).1 (AN2.out.symm);have f3:w3.frozen? ⟨db,s*5+1,none⟩=false:=by rw [World.frozen?_of_block (g3'.block db (by simp;omega) AN.out.symm)];exact (DC.out _ (xje G1.out (World.grownBy_alloc _ _ none))).2.2
    have Q3:=hide q3;have G3:=hide g3';have AT3:=hide at3;clear q3 g3 g3' at3)
 all_goals
  refine bodyPost_end (results_none rfl _ _ _) rfl ?_;exact FIN.out _ _ _ Q3.out G3.out AT3.out
theorem xkj(w:World){B nb:Nat}{role:Nat->Role}{N:NetM}(h:NetAt w B nb role N)(hB:B<=w.heap.size){s:Nat}(hs:s<N.D)(r:Rl)(room:Int)(hf:room<=(N.dv s).rl.length)(hlen:(N.dv s).ul.length<=100000000000):
  Calls Tryz.prog 169 #[.pointer (some ⟨N.db,s*5,none⟩),.agg #[.int .i64 r.prio,.int .i64 (r.mt 0),.int .i64 (r.mt 1),.int .i64 (r.mt 2),.int .i64 (r.mt 3),.int .i64 (r.mt 4),.int .i64 (r.mt 5),r.av],.int .i64 room] w fun e w'=>e=.returned (.tuple #[])/\DOut B nb role N s (N.dv s).rl (N.dv s).wl (N.dv s).dl ((N.dv s).ul++[enK 6]) (N.dv s).nl w w':=by
 obtain ⟨P,hP⟩:∃P:Ending->World->Prop,P=fun e w'=>e=.returned (.tuple #[])/\DOut B nb role N s (N.dv s).rl (N.dv s).wl (N.dv s).dl ((N.dv s).ul++[enK 6]) (N.dv s).nl w w':=⟨_,rfl⟩
 rw [<-hP];have HP:=hide hP;obtain ⟨va,vc,hv⟩:=((h.dvs s hs).row 0 (by omega)).q.slice;obtain ⟨n,hn⟩:∃n,n=(N.dv s).rl.length:=⟨_,rfl⟩;have hv2:(N.dv s).vs 0=.slice va n vc:=by rw [hn];exact hv
 have hfew:n<=maxLen:=by
  have:=((h.dvs s hs).row 0 (by omega)).q.few;rw [hn];exact this
 unfold maxLen at hfew;rw [<-hn] at hf;obtain ⟨cur,c1,c2,c3⟩:=h.dev
 have d0:w.cell? ⟨N.db,s*5,none⟩=some (.slice va n vc):=by
  have:=xc7 c1 (s*5+0) _ (c3 s hs 0 (by omega));rw [hv2] at this;exact this
 have hdbl:=(h.low N.db (by rw [h.dbR];exact fun e=>by cases e)).2
 have HT:Hid (∀ww,w.grownBy ww none->Calls Tryz.prog 170 #[.pointer (some ⟨N.db,s*5,none⟩),.agg #[.int .i64 6,.int .i64 0,.int .i64 0,.int .i64 0,.int .i64 0,.int .i64 0,.int .i64 0,.int .i64 0,.slice none 0 0,.slice none 0 0]] ww P):=fun ww hg=>by
  have:=xzh (kindM 6) none none 0 0 ww (xks (.inr (.inr rfl))) (PkRow.none _ _) (PkRow.none _ _) (RowIn.none _ _ _) (RowIn.none _ _ _) (h.grown hg (fun b e=>by cases e)) (Nat.le_trans hB hg.size) hs (by omega);rw [hP];refine this.mono ?_;intro e w' ho;obtain ⟨h1,role',d',h2,h3,h4⟩:=ho.d;exact ⟨h1,role',d',h2,(NStep.of hg).trans h3,h4⟩
 generalize N.db=db at *;obtain ⟨av,hav⟩:∃av,av=r.av:=⟨_,rfl⟩;rw [<-hav];clear h hv hv2 hn c1 c2 c3 hP hav;go_enter Tryz.func169,Tryz.ntmps169;go_wp2_with fail;refine (HT.out _ (World.grownBy_alloc _ _ _)).mono ?_;intro e w3 hp;obtain rfl:e=.returned (.tuple #[]):=by have:=hp;rw [HP.out] at this;exact this.1
 have HPP:=hide hp;clear hp HT;go_wp2_with fail;refine bodyPost_ret (results_none rfl _ _ _) rfl ?_;exact HPP.out
theorem xkk(w:World){B nb:Nat}{role:Nat->Role}{N:NetM}(h:NetAt w B nb role N)(hB:B<=w.heap.size){s:Nat}(hs:s<N.D)(r:Rl)(hru:RuAt w role r)(room:Int)(hf:(N.dv s).rl.length<room)(hrm:room<=5000):
  Calls Tryz.prog 169 #[.pointer (some ⟨N.db,s*5,none⟩),.agg #[.int .i64 r.prio,.int .i64 (r.mt 0),.int .i64 (r.mt 1),.int .i64 (r.mt 2),.int .i64 (r.mt 3),.int .i64 (r.mt 4),.int .i64 (r.mt 5),r.av],.int .i64 room] w fun e w'=>e=.returned (.tuple #[])/\DOut B nb role N s ((N.dv s).rl++[r]) (N.dv s).wl (N.dv s).dl (N.dv s).ul (N.dv s).nl w w':=by
 obtain ⟨P,hP⟩:∃P:Ending->World->Prop,P=fun e w'=>e=.returned (.tuple #[])/\DOut B nb role N s ((N.dv s).rl++[r]) (N.dv s).wl (N.dv s).dl (N.dv s).ul (N.dv s).nl w w':=⟨_,rfl⟩
 rw [<-hP];have HP:=hide hP;obtain ⟨va,vc,hv⟩:=((h.dvs s hs).row 0 (by omega)).q.slice;obtain ⟨n,hn⟩:∃n,n=(N.dv s).rl.length:=⟨_,rfl⟩;have hv2:(N.dv s).vs 0=.slice va n vc:=by rw [hn];exact hv
 rw [<-hn] at hf
 have DC:Hid (∀ww,w.grownBy ww none->ww.cell? ⟨N.db,s*5,none⟩=some (.slice va n vc)/\ww.frozen? ⟨N.db,s*5,none⟩=false):=fun ww hg=>by
  have hh:=h.grown hg (fun b e=>by cases e);obtain ⟨cur,c1,c2,c3⟩:=hh.dev;refine ⟨?_,by simp [World.frozen?,c1]⟩;rw [<-hv2];exact xc7 c1 (s*5+0) _ (c3 s hs 0 (by omega))
 have QR:Hid (∀ww,w.grownBy ww none->QRow 0 ww 68 8 (.slice va n vc) n (rlsC (N.dv s).rl)):=fun ww hg=>by
  have:=((h.dvs s hs).row 0 (by omega)).q.kept hg (fun b e=>by cases e);rw [hv2] at this;rw [hn] at this ⊢;exact this
 have hAN:(Value.slice va n vc).ownBlock≠some N.db:=fun k=>by
  rw [<-hv2] at k;have:=((h.dvs s hs).row 0 (by omega)).rl N.db k;rw [h.dbR] at this;cases this
 have AN:=hide hAN;have hdbl:=(h.low N.db (by rw [h.dbR];exact fun e=>by cases e)).2;obtain ⟨xa,xc,hxa⟩:=hru.pk.slice;obtain ⟨l,hl⟩:∃l,l=r.na:=⟨_,rfl⟩;rw [<-hl] at hxa;obtain ⟨db,hdb⟩:∃db,db=N.db:=⟨_,rfl⟩;rw [<-hdb] at DC AN hdbl ⊢;obtain ⟨i0,hi0,hz0,hz1,hz2⟩:=info_parts Tryz.infoNRl;have HI:Hid (Tryz.prog.info? 68=some i0/\i0.zero=some (.agg #[.int .i64 0,.int .i64 0,.int .i64 0,.int .i64 0,.int .i64 0,.int .i64 0,.int .i64 0,.slice none 0 0])/\i0.size=8/\i0.bytes=80):=⟨hi0,hz0,hz1,hz2⟩;obtain ⟨C,hC⟩:∃C:List Value,C=[.int .i64 r.prio,.int .i64 (r.mt 0),.int .i64 (r.mt 1),.int .i64 (r.mt 2),.int .i64 (r.mt 3),.int .i64 (r.mt 4),.int .i64 (r.mt 5),.slice xa l xc]:=⟨_,rfl⟩
 have FIN:Hid (∀W w3 a3 c3,w.grownBy W none->QRow 0 w3 68 8 (.slice a3 (n+1) c3) (n+1) (rlsC (N.dv s).rl++C)->W.grownBy w3 (Value.slice va n vc).ownBlock->((Value.slice a3 (n+1) c3).ownBlock=(Value.slice va n vc).ownBlock\/∃b,(Value.slice a3 (n+1) c3).ownBlock=some b/\W.heap.size<=b)->P (.returned (.tuple #[])) (w3.setCell ⟨db,s*5,none⟩ (.slice a3 (n+1) c3))):=fun W w3 a3 c3 gW q3 g3 at3=>by
  have hN2:=h.grown gW (fun b e=>by cases e)
  have hq:QRow 0 w3 (tyJ 0) (szJ 0) (((N.dv s).withRules ((N.dv s).rl++[r]) (.slice a3 (n+1) c3)).vs 0) (((N.dv s).withRules ((N.dv s).rl++[r]) (.slice a3 (n+1) c3)).len 0) (((N.dv s).withRules ((N.dv s).rl++[r]) (.slice a3 (n+1) c3)).xs 0):=by
   show QRow 0 w3 68 8 (.slice a3 (n+1) c3) ((N.dv s).rl++[r]).length (rlsC ((N.dv s).rl++[r]));rw [List.length_append,<-hn,xua,show rlsC [r]=C by rw [hC,<-hxa];rfl];exact q3
  obtain ⟨role',k1,k2⟩:=hN2.appendRow (Nat.le_trans hB gW.size) hs (show 0<5 by omega) (d':=(N.dv s).withRules ((N.dv s).rl++[r]) (.slice a3 (n+1) c3)) (fun i _ hi=>DvM.withRules_other hi) hq (by rw [hv2];exact g3) (by rw [hv2];exact at3) (fun r' hm=>by
   rcases hm with hm|hm
   ·rcases List.mem_append.1 hm with hm|hm
    ·exact (hN2.dvs s hs).ru r' (.inl hm)
    ·obtain rfl:=List.mem_singleton.1 hm;exact hru.kept gW (fun b e=>by cases e)
   ·exact (hN2.dvs s hs).ru r' (.inr hm))
  rw [hdb,hP];exact ⟨rfl,role',_,k1,(NStep.of gW).trans k2,rfl,rfl,rfl,rfl,rfl⟩
 have HC:=hide hC;rw [hxa];obtain ⟨y0,hy0⟩:∃y,y=r.mt 0:=⟨_,rfl⟩;obtain ⟨y1,hy1⟩:∃y,y=r.mt 1:=⟨_,rfl⟩;obtain ⟨y2,hy2⟩:∃y,y=r.mt 2:=⟨_,rfl⟩;obtain ⟨y3,hy3⟩:∃y,y=r.mt 3:=⟨_,rfl⟩;obtain ⟨y4,hy4⟩:∃y,y=r.mt 4:=⟨_,rfl⟩;obtain ⟨y5,hy5⟩:∃y,y=r.mt 5:=⟨_,rfl⟩;obtain ⟨p,hp⟩:∃y,y=r.prio:=⟨_,rfl⟩;rw [<-hy0,<-hy1,<-hy2,<-hy3,<-hy4,<-hy5,<-hp] at HC ⊢;obtain ⟨W1,hW1⟩:∃W1,W1=w.alloc (.cells #[.int .i64 p,.int .i64 y0,.int .i64 y1,.int .i64 y2,.int .i64 y3,.int .i64 y4,.int .i64 y5,.slice xa l xc] 68):=⟨_,rfl⟩;have G1:Hid (w.grownBy W1 none):=by rw [hW1];exact World.grownBy_alloc _ _ _
 have R1:Hid (W1.heap[w.heap.size]?=some (.cells #[.int .i64 p,.int .i64 y0,.int .i64 y1,.int .i64 y2,.int .i64 y3,.int .i64 y4,.int .i64 y5,.slice xa l xc] 68 (0,0))):=by show _=_;rw [hW1];exact heap_alloc_new w _
 obtain ⟨d0,d1⟩:=DC.out w (xjb _ _);clear h hv hv2 hn hAN hdb hi0 hz0 hz1 hz2 hP hy0 hy1 hy2 hy3 hy4 hy5 hp hxa hl hru hC;go_enter Tryz.func169,Tryz.ntmps169;go_upto_region 3 with fail
 rw [<-hW1];clear hW1 d0 d1;obtain ⟨d0,d1⟩:=DC.out W1 G1.out;have m0:=xc7 R1.out 0 _ rfl;have m1:=xc7 R1.out 1 _ rfl;have m2:=xc7 R1.out 2 _ rfl;have m3:=xc7 R1.out 3 _ rfl;have m4:=xc7 R1.out 4 _ rfl;have m5:=xc7 R1.out 5 _ rfl;have m6:=xc7 R1.out 6 _ rfl;have m7:=xc7 R1.out 7 _ rfl;have hz1:w.heap.size<W1.heap.size:=(Array.getElem?_eq_some_iff.1 R1.out).1;have hdb1:db<W1.heap.size:=by omega
 go_region_law (
    refine xxd rfl (.tmp 20) (.tmp 22) 36 rfl 0 68 i0 _ 8 80 Tryz.underlying36 HI.out.1 HI.out.2.1 HI.out.2.2.1 HI.out.2.2.2 rfl (by decide) (.slice va n vc) n (rlsC (N.dv s).rl) (by simp [Act.eval,Act.put]) (QRow.drew (QR.out (W1.alloc (.cells #[.int .i64 p,.int .i64 y0,.int .i64 y1,.int .i64 y2,.int .i64 y3,.int .i64 y4,.int .i64 y5,.slice xa l xc] 68)) (xje G1.out (World.grownBy_alloc _ _ none)))) ⟨W1.heap.size,0,none⟩ 1 1 [.int .i64 p,.int .i64 y0,.int .i64 y1,.int .i64 y2,.int .i64 y3,.int .i64 y4,.int .i64 y5,.slice xa l xc] (by simp [Act.eval,Act.put]) rfl (fun j u hj=>xed W1 [.int .i64 p,.int .i64 y0,.int .i64 y1,.int .i64 y2,.int .i64 y3,.int .i64 y4,.int .i64 y5,.slice xa l xc] 68 j u hj) (by intro u hu;simp at hu;rcases hu with rfl|rfl|rfl|rfl|rfl|rfl|rfl|rfl<;>rfl) (by omega) (by unfold maxLen;omega) (by omega) (Nat.zero_le _) ?_;intro v' w3 q3 g3 at3;obtain ⟨a3,c3,hv3⟩:=q3.slice;subst hv3;have g3':=xjf g3;have e3:w3.cell? ⟨db,s*5,none⟩=some (.slice va n vc):=g3'.cell (DC.out _ (xje G1.out (World.grownBy_alloc _ _ none))).1 (AN.out.symm);have f3:w3.frozen? ⟨db,s*5,none⟩=false:=by rw [World.frozen?_of_block (g3'.block db (by simp;omega) AN.out.symm)];exact (DC.out _ (xje G1.out (World.grownBy_alloc _ _ none))).2
    have Q3:=hide q3;have G3:=hide g3';have AT3:=hide at3;clear q3 g3 g3' at3)
 all_goals
  refine bodyPost_end (results_none rfl _ _ _) rfl ?_;exact FIN.out _ _ _ _ (xje G1.out (World.grownBy_alloc _ _ none)) (by rw [HC.out];exact Q3.out) G3.out AT3.out
structure NtA where
 rl:Nat->List Rl
 wl:Nat->List (Nat->Int)
 dl:Nat->List ByteArray
 ul:Nat->List ByteArray
 nl:Nat->List Rl
 del:List (Nat->Int)
def NetM.a(N:NetM):NtA:=⟨fun s=>(N.dv s).rl,fun s=>(N.dv s).wl,fun s=>(N.dv s).dl,fun s=>(N.dv s).ul,fun s=>(N.dv s).nl,N.del⟩
structure Stat(N' N:NetM):Prop where
 D:N'.D=N.D
 db:N'.db=N.db
 fl:N'.fl=N.fl
 fq:N'.fq=N.fq
 ln:N'.ln=N.ln
 ld:N'.ld=N.ld
 room:N'.room=N.room
 lv:N'.lv=N.lv
theorem Stat.refl(N:NetM):Stat N N:=⟨rfl,rfl,rfl,rfl,rfl,rfl,rfl,rfl⟩
theorem Stat.trans{N N1 N2:NetM}(h:Stat N1 N)(k:Stat N2 N1):Stat N2 N:=⟨k.D.trans h.D,k.db.trans h.db,k.fl.trans h.fl,k.fq.trans h.fq,k.ln.trans h.ln,k.ld.trans h.ld,k.room.trans h.room,k.lv.trans h.lv⟩
def NOut(B nb:Nat)(role:Nat->Role)(N:NetM)(A:NtA)(w w':World):Prop:=
 ∃role' N',NetAt w' B nb role' N'/\NStep w w' role role'/\N'.a=A/\Stat N' N
theorem x0i{α:Type}(f:Nat->α)(s:Nat):updN f s (f s)=f:=by
 funext i;unfold updN;by_cases h:i=s
 ·rw [if_pos h,h]
 ·rw [if_neg h]
theorem x0j{α β:Type}(f:Nat->α)(g:α->β)(s:Nat)(x:α):(fun i=>g (updN f s x i))=updN (fun i=>g (f i)) s (g x):=by
 funext i;unfold updN;by_cases h:i=s
 ·rw [if_pos h,if_pos h]
 ·rw [if_neg h,if_neg h]
theorem NetM.put_a(N:NetM)(s:Nat)(d:DvM):(N.put s d).a=⟨updN N.a.rl s d.rl,updN N.a.wl s d.wl,updN N.a.dl s d.dl,updN N.a.ul s d.ul,updN N.a.nl s d.nl,N.a.del⟩:=by
 unfold NetM.a NetM.put;simp only [NtA.mk.injEq];exact ⟨x0j N.dv DvM.rl s d,x0j N.dv DvM.wl s d,x0j N.dv DvM.dl s d,x0j N.dv DvM.ul s d,x0j N.dv DvM.nl s d,trivial⟩
theorem DOut.n{B nb:Nat}{role:Nat->Role}{N:NetM}{s:Nat}{rl:List Rl}{wl:List (Nat->Int)}{dl ul:List ByteArray}{nl:List Rl}{w w':World}(h:DOut B nb role N s rl wl dl ul nl w w'):NOut B nb role N ⟨updN N.a.rl s rl,updN N.a.wl s wl,updN N.a.dl s dl,updN N.a.ul s ul,updN N.a.nl s nl,N.a.del⟩ w w':=by
 obtain ⟨role',d',h1,h2,rfl,rfl,rfl,rfl,rfl⟩:=h;exact ⟨role',_,h1,h2,NetM.put_a N s d',⟨rfl,rfl,rfl,rfl,rfl,rfl,rfl,rfl⟩⟩
def NtA.setRl(A:NtA)(s:Nat)(l:List Rl):NtA:={ A with rl:=updN A.rl s l }
def NtA.setWl(A:NtA)(s:Nat)(l:List (Nat->Int)):NtA:={ A with wl:=updN A.wl s l }
def NtA.setDl(A:NtA)(s:Nat)(l:List ByteArray):NtA:={ A with dl:=updN A.dl s l }
def NtA.setUl(A:NtA)(s:Nat)(l:List ByteArray):NtA:={ A with ul:=updN A.ul s l }
def NtA.setNl(A:NtA)(s:Nat)(l:List Rl):NtA:={ A with nl:=updN A.nl s l }
theorem DOut.wait{B nb:Nat}{role:Nat->Role}{N:NetM}{s:Nat}{L:List (Nat->Int)}{w w':World}(h:DOut B nb role N s (N.dv s).rl L (N.dv s).dl (N.dv s).ul (N.dv s).nl w w'):NOut B nb role N (N.a.setWl s L) w w':=by
 have:=h.n;rw [show updN N.a.rl s (N.dv s).rl=N.a.rl from x0i _ _,show updN N.a.dl s (N.dv s).dl=N.a.dl from x0i _ _,show updN N.a.ul s (N.dv s).ul=N.a.ul from x0i _ _,show updN N.a.nl s (N.dv s).nl=N.a.nl from x0i _ _] at this;exact this
def NtA.waits(A:NtA):Nat->Nat
 | 0=>0
 | s+1=>NtA.waits A s+(A.wl s).length
theorem x0u(N:NetM):∀s,waitS N s=N.a.waits s
 | 0=>rfl
 | s+1=>by rw [waitS,NtA.waits,x0u N s];rfl
def out1(D:Nat)(ld:Nat->Nat->Int)(ln:Nat)(A:NtA)(k:Nat->Int):NtA:=
 match fromS ld (k 0) (k 1) ln with
 | some j=>if 300<=A.waits D then A else A.setWl (ld j 2).toNat (A.wl (ld j 2).toNat++[atP (ld j 2) (ld j 3) k])
 | none=>if hostS ld ln (k 0) (k 1) then { A with del:=A.del++[k] } else A
def outL(D:Nat)(ld:Nat->Nat->Int)(ln:Nat)(A:NtA)(L:List (Nat->Int)):NtA:=L.foldl (out1 D ld ln) A
theorem x0z(A:NtA):∀(D s:Nat),s<D->(A.wl s).length<=A.waits D
 | 0,s,h=>by omega
 | D+1,s,h=>by
  rw [NtA.waits];by_cases e:s=D
  ·subst e;omega
  ·have:=x0z A D s (by omega);omega
theorem x01(A:NtA)(t:Nat)(L:List (Nat->Int)):∀D,t<D->(A.setWl t L).waits D+(A.wl t).length=A.waits D+L.length
 | 0,h=>by omega
 | D+1,h=>by
  have key:∀D,D<=t->(A.setWl t L).waits D=A.waits D:=by
   intro D;induction D with
   | zero=>intro _;rfl
   | succ k ih=>
    intro hk;rw [NtA.waits,NtA.waits,ih (by omega)];have:(A.setWl t L).wl k=A.wl k:=x0k (by omega);rw [this]
  rw [NtA.waits,NtA.waits];by_cases e:t=D
  ·subst e;have e1:(A.setWl t L).wl t=L:=x0l _ _ _;rw [e1,key t (Nat.le_refl _)];omega
  ·have ih:=x01 A t L D (by omega);have:(A.setWl t L).wl D=A.wl D:=x0k (by omega);rw [this];omega
theorem xpv{D:Nat}{ld:Nat->Nat->Int}{ln:Nat}{A:NtA}(k:Nat->Int)(hc:∀j,j<ln->0<=ld j 2/\ld j 2<D)(h:A.waits D<=300):(out1 D ld ln A k).waits D<=300:=by
 unfold out1;cases hf:fromS ld (k 0) (k 1) ln with
 | none=>
  simp only;split
  ·have:∀s,NtA.waits { A with del:=A.del++[k] } s=A.waits s:=by
    intro s;induction s with
    | zero=>rfl
    | succ j ih=>rw [NtA.waits,NtA.waits,ih]
   rw [this];exact h
  ·exact h
 | some j=>
  simp only;split
  ·exact h
  ·have hj:=(xif hf).1;have:=x01 A (ld j 2).toNat (A.wl (ld j 2).toNat++[atP (ld j 2) (ld j 3) k]) D (by have:=hc j hj;omega);rw [List.length_append] at this;simp at this;omega
theorem xp7{D:Nat}{ld:Nat->Nat->Int}{ln:Nat}(hc:∀j,j<ln->0<=ld j 2/\ld j 2<D):∀(L:List (Nat->Int)) (A:NtA),A.waits D<=300->(outL D ld ln A L).waits D<=300
 | [],A,h=>h
 | k::r,A,h=>xp7 hc r _ (xpv k hc h)
theorem xpu{D:Nat}{ld:Nat->Nat->Int}{ln:Nat}{A:NtA}(k:Nat->Int):(out1 D ld ln A k).del.length<=A.del.length+1:=by
 unfold out1;cases hf:fromS ld (k 0) (k 1) ln with
 | none=>
  simp only;split
  ·simp
  ·omega
 | some j=>
  simp only;split
  ·omega
  ·show A.del.length<=_;omega
theorem xp5{D:Nat}{ld:Nat->Nat->Int}{ln:Nat}:∀(L:List (Nat->Int)) (A:NtA),(outL D ld ln A L).del.length<=A.del.length+L.length
 | [],A=>Nat.le_refl _
 | k::r,A=>by
  have h1:=xp5 (D:=D) (ld:=ld) (ln:=ln) r (out1 D ld ln A k);have h2:=xpu (D:=D) (ld:=ld) (ln:=ln) (A:=A) k;show (outL D ld ln (out1 D ld ln A k) r).del.length<=_;rw [List.length_cons];omega
theorem xp6(D:Nat)(ld:Nat->Nat->Int)(ln:Nat)(A:NtA)(L:List (Nat->Int))(k:Nat->Int):outL D ld ln A (L++[k])=out1 D ld ln (outL D ld ln A L) k:=by
 unfold outL;rw [List.foldl_append];rfl
theorem xro{w:World}{a:Option Addr}{n c:Nat}{ps:Nat->Nat->Int}(h:PkRow w (.slice a n c) n ps)(hn:0<n):∃g off,a=some ⟨g,off,none⟩/\∀j,j<n->∀i,i<6->w.cell? ⟨g,off+j*6+i,none⟩=some (.int .i64 (ps j i)):=by
 rcases h with ⟨_,e⟩|⟨g,off,cap,e,_,h3⟩
 ·omega
 ·cases e;exact ⟨g,off,rfl,h3⟩
theorem xp9(w:World){B nb:Nat}{role:Nat->Role}{N:NetM}(h:NetAt w B nb role N)(hB:B<=w.heap.size)(a:Option Addr)(n c:Nat)(ps:Nat->Nat->Int)(L:List (Nat->Int))(hL:Is L n ps)(hp:PkRow w (.slice a n c) n ps)(hfr:∀b,(Value.slice a n c).ownBlock=some b->role b=.free/\b<w.heap.size)
  (hc:∀j,j<N.ln->0<=N.ld j 2/\N.ld j 2<N.D) (hwt:N.a.waits N.D<=300) (hdl:N.del.length+n<=100000000000):
  Calls Tryz.prog 171 #[.pointer (some ⟨nb,0,none⟩),.slice a n c] w fun e w'=>e=.returned (.tuple #[])/\NOut B nb role N (outL N.D N.ld N.ln N.a L) w w':=by
 obtain ⟨P,hP⟩:∃P:Ending->World->Prop,P=fun e w'=>e=.returned (.tuple #[])/\NOut B nb role N (outL N.D N.ld N.ln N.a L) w w':=⟨_,rfl⟩
 rw [<-hP];have HP:=hide hP;have hfew:=hp.few;have HN:=hide h;have HL:=hide hL;have HPK:=hide hp;have HFR:=hide hfr;have HC:=hide hc;have HWT:=hide hwt;have HDL:=hide hdl;clear h hL hp hfr hc hwt hdl hP;go_enter Tryz.func171,Tryz.ntmps171;go_wp2_with fail;go_loopw [12] (fun s12 wq=>∃i:Nat,i<=n/\s12=.int .i64 i/\∃role' N',NetAt wq B nb role' N'/\NStep w wq role role'/\N'.a=outL N.D N.ld N.ln N.a (L.take i)/\Stat N' N) (fun s12 _=>n-(intOf s12).toNat)
 case atStart=>exact ⟨0,by omega,rfl,role,N,HN.out,NStep.of (xjb _ _),rfl,Stat.refl _⟩
 case round=>
  obtain ⟨i,hi,rfl,role1,N1,n1,st1,ha1,sa1⟩:=hrel;by_cases hlt:i<n
  ·obtain ⟨g,off,rfl,hcl⟩:=xro HPK.out (by omega);have hgf:=HFR.out g rfl;have hsame:wr.heap[g]?=w.heap[g]?:=st1.kp.2.2.2.2 g hgf.2 (fun e=>e hgf.1)
   have cl:∀t,t<6->wr.cell? ⟨g,off+i*6+t,none⟩=some (.int .i64 (ps i t)):=fun t ht=>by
    have:=hcl i hlt t ht;simp only [World.cell?] at this ⊢;rw [hsame];exact this
   obtain ⟨y,hy⟩:∃y,y=ps i:=⟨_,rfl⟩;rw [<-hy] at cl;have m0:wr.cell? ⟨g,off+i*6,none⟩=some (.int .i64 (y 0)):=cl 0 (by omega);have m1:=cl 1 (by omega);have m2:=cl 2 (by omega);have m3:=cl 3 (by omega);have m4:=cl 4 (by omega);have m5:=cl 5 (by omega);have hgr:g<wr.heap.size:=Nat.lt_of_lt_of_le hgf.2 st1.kp.size;have hltI:(i:Int)<n:=by omega
   obtain ⟨la,lc,hlv⟩:=n1.lnk.slice;have nc2:=xc7 n1.net 2 _ rfl;have nc2:wr.cell? ⟨nb,2,none⟩=some (.slice la N1.ln lc):=by rw [nc2];show some N1.lv=_;rw [hlv]
   have hnbl:nb<wr.heap.size:=World.block_lt_of_cell? wr _ nc2
   have HF:Hid (∀ww,wr.grownBy ww none->Calls Tryz.prog 220 #[.slice la N1.ln lc,.int .i64 (y 0),.int .i64 (y 1)] ww fun e w'=>e=.returned (fromA N1.ld (fromS N1.ld (y 0) (y 1) N1.ln))/\ww.grownBy w' none):=fun ww hg=>by
    have:=n1.lnk.grown hg;rw [hlv] at this;exact xlz _ N1.ln N1.ld (y 0) (y 1) ww this
   have N1H:=hide n1;have ST1:=hide st1;have HA1:=hide ha1;have SA1:=hide sa1;have HY:=hide hy;have HLV:=hide hlv
   have FINL:Hid (∀W role2 N2,NetAt W B nb role2 N2->NStep wr W role1 role2->N2.a=out1 N1.D N1.ld N1.ln N1.a y->Stat N2 N1->∃role' N',NetAt W B nb role' N'/\NStep w W role role'/\N'.a=outL N.D N.ld N.ln N.a (L.take (i+1))/\Stat N' N):=fun W role2 N2 k1 k2 k3 k4=>by
    refine ⟨role2,N2,k1,st1.trans k2,?_,sa1.trans k4⟩;rw [k3,List.take_add_one,HL.out.get i hlt,<-hy,Option.toList,xp6,<-ha1,sa1.D,sa1.ld,sa1.ln]
   have hw1:N1.a.waits N1.D<=300:=by rw [ha1,sa1.D];exact xp7 HC.out _ _ HWT.out
   have hd1:N1.del.length<=100000000000:=by
    have e:N1.del=N1.a.del:=rfl;rw [e,ha1];have:=xp5 (D:=N.D) (ld:=N.ld) (ln:=N.ln) (L.take i) N.a;have h2:(L.take i).length<=n:=by rw [List.length_take];omega
    have h3:=HDL.out;have e2:N.a.del.length=N.del.length:=rfl;omega
   have hc1:∀j,j<N1.ln->0<=N1.ld j 2/\N1.ld j 2<N1.D:=by rw [sa1.ln,sa1.ld,sa1.D];exact HC.out
   have HW1:=hide hw1;have HD1:=hide hd1;have HC1:=hide hc1;have hB1:B<=wr.heap.size:=Nat.le_trans hB st1.kp.size;clear n1 st1 ha1 sa1 hy hsame cl hcl hgf hlv hw1 hd1 hc1;obtain ⟨W1,hW1⟩:∃W1,W1=wr.alloc (.cells #[.int .i64 (y 0),.int .i64 (y 1),.int .i64 (y 2),.int .i64 (y 3),.int .i64 (y 4),.int .i64 (y 5)] 46):=⟨_,rfl⟩;have G1:Hid (wr.grownBy W1 none):=by rw [hW1];exact World.grownBy_alloc _ _ _
   have R1:Hid (W1.heap[wr.heap.size]?=some (.cells #[.int .i64 (y 0),.int .i64 (y 1),.int .i64 (y 2),.int .i64 (y 3),.int .i64 (y 4),.int .i64 (y 5)] 46 (0,0))):=by show _=_;rw [hW1];exact heap_alloc_new wr _
   go_upto_region 3 with fail
   rw [<-hW1];clear hW1 m0 m1 m2 m3 m4 m5;have p0:=xc7 R1.out 0 _ rfl;have p1:=xc7 R1.out 1 _ rfl;have nc3:W1.cell? ⟨nb,2,none⟩=some (.slice la N1.ln lc):=G1.out.cell nc2 (by simp);have hz1:wr.heap.size<W1.heap.size:=(Array.getElem?_eq_some_iff.1 R1.out).1;go_quiet (fail)
   go_wp2_with fail;refine (HF.out _ (xi8 G1.out _)).mono ?_;rintro e W2 ⟨rfl,g2⟩;have G2:Hid (wr.grownBy W2 none):=xje (xi8 G1.out _) g2;have R2:=hide (xc9 (row:=none) R1.out (show W1.grownBy W2 none from ⟨g2.os,g2.tape,g2.output,g2.size,g2.block⟩) (by simp));clear g2 G1 R1 p0 p1 nc3 HF;have nc2:W2.cell? ⟨nb,2,none⟩=some (.slice la N1.ln lc):=G2.out.cell nc2 (by simp);have hz2:wr.heap.size<W2.heap.size:=(Array.getElem?_eq_some_iff.1 R2.out).1;have p0:=xc7 R2.out 0 _ rfl;have p1:=xc7 R2.out 1 _ rfl;have p2:=xc7 R2.out 2 _ rfl;have p3:=xc7 R2.out 3 _ rfl;have p4:=xc7 R2.out 4 _ rfl;have p5:=xc7 R2.out 5 _ rfl;have hnb2:nb<W2.heap.size:=Nat.lt_of_lt_of_le hnbl G2.out.size;cases hf:fromS N1.ld (y 0) (y 1) N1.ln with
   | some j=>
    have hj:=(xif hf).1;obtain ⟨t,ht⟩:∃t:Nat,N1.ld j 2=(t:Int):=⟨(N1.ld j 2).toNat,by have:=HC1.out j hj;omega⟩;have htD:t<N1.D:=by have:=HC1.out j hj;omega
    have HO1:Hid (out1 N1.D N1.ld N1.ln N1.a y=if 300<=N1.a.waits N1.D then N1.a else N1.a.setWl t (N1.a.wl t++[atP t (N1.ld j 3) y])):=by
     show _=_;unfold out1;rw [hf];simp only;rw [ht,Int.toNat_natCast]
    have HH:Hid (∀ww,wr.grownBy ww none->Calls Tryz.prog 163 #[.slice la N1.ln lc,.int .i64 (y 0),.int .i64 (y 1)] ww fun e w'=>e=.returned (.bool false)/\ww.grownBy w' none):=fun ww hg=>by
     have:=N1H.out.lnk.grown hg;rw [HLV.out] at this;refine (xl0 _ N1.ln N1.ld (y 0) (y 1) ww this).mono ?_;rintro e w' ⟨rfl,h2⟩;have hno:¬hostS N1.ld N1.ln (y 0) (y 1):=fun hh=>(hh.2 j hj).1 (xif hf).2
     exact ⟨by rw [decide_eq_false hno],h2⟩
    have HCR:Hid (∀ww,wr.grownBy ww none->Calls Tryz.prog 164 #[.pointer (some ⟨nb,0,none⟩)] ww fun e w'=>e=.returned (.bool (decide (300<=N1.a.waits N1.D)))/\ww.grownBy w' none):=fun ww hg=>by
     refine (xfn ww (N1H.out.grown hg (fun b e=>by cases e)) (fun s' hs'=>by have h1:=x0z N1.a N1.D s' hs';have h2:=HW1.out;have h3:(N1.dv s').wl.length=(N1.a.wl s').length:=rfl;omega)).mono ?_;rintro e w' ⟨rfl,h2⟩;refine ⟨?_,h2⟩;congr 2;exact decide_eq_decide.2 (by unfold xfm;rw [x0u])
    have HWA:Hid (∀ww,wr.grownBy ww none->Calls Tryz.prog 165 #[.pointer (some ⟨nb,0,none⟩),.int .i64 (t:Int),.int .i64 (N1.ld j 3),.agg #[.int .i64 (y 0),.int .i64 (y 1),.int .i64 (y 2),.int .i64 (y 3),.int .i64 (y 4),.int .i64 (y 5)]] ww fun e w'=>e=.returned (.tuple #[])/\∃role2 N2,NetAt w' B nb role2 N2/\NStep wr w' role1 role2/\N2.a=N1.a.setWl t (N1.a.wl t++[atP t (N1.ld j 3) y])/\Stat N2 N1):=fun ww hg=>by
     refine (x0v ww (N1H.out.grown hg (fun b e=>by cases e)) (Nat.le_trans hB1 hg.size) htD (N1.ld j 3) y (by have h1:=x0z N1.a N1.D t htD;have h2:=HW1.out;have h3:(N1.dv t).wl.length=(N1.a.wl t).length:=rfl;omega)).mono ?_;rintro e w' ⟨h1,h2⟩;obtain ⟨role2,N2,k1,k2,k3,k4⟩:=h2.wait;exact ⟨h1,role2,N2,k1,(NStep.of hg).trans k2,k3,k4⟩
    obtain ⟨z0,hz0⟩:∃z,z=N1.ld j 0:=⟨_,rfl⟩;obtain ⟨z1,hz1⟩:∃z,z=N1.ld j 1:=⟨_,rfl⟩;obtain ⟨z3,hz3⟩:∃z,z=N1.ld j 3:=⟨_,rfl⟩;unfold fromA;simp only [];rw [ht,<-hz0,<-hz1,<-hz3];rw [<-hz3] at HWA HO1;clear hf ht hz0 hz1 hz3;obtain ⟨W3,hW3⟩:∃W3,W3=W2.alloc (.cells #[.int .i64 z0,.int .i64 z1,.int .i64 (t:Int),.int .i64 z3] 139):=⟨_,rfl⟩;have g23:W2.grownBy W3 none:=by rw [hW3];exact World.grownBy_alloc _ _ _
    have RL3:Hid (W3.heap[W2.heap.size]?=some (.cells #[.int .i64 z0,.int .i64 z1,.int .i64 (t:Int),.int .i64 z3] 139 (0,0))):=by show _=_;rw [hW3];exact heap_alloc_new W2 _
    have G3:=hide (xje G2.out g23);have R3:=hide (xc9 (row:=none) R2.out g23 (by simp));clear g23;go_wp2_with fail;rw [<-hW3];clear hW3;refine (HCR.out _ G3.out).mono ?_;rintro e W4 ⟨rfl,g4⟩;have G4:=hide (xje G3.out g4);have R4:=hide (xc9 (row:=none) R3.out g4 (by simp));have RL4:=hide (xc9 (row:=none) RL3.out g4 (by simp))
    have nc4:W4.cell? ⟨nb,2,none⟩=some (.slice la N1.ln lc):=by
     have hh:=(N1H.out.grown G4.out (fun b e=>by cases e)).net;have:=xc7 hh 2 _ rfl;rw [this];show some N1.lv=_;rw [HLV.out]
    clear g4 HCR RL3 R3 p0 p1 p2 p3 p4 p5 nc2 R2;have p0:=xc7 R4.out 0 _ rfl;have p1:=xc7 R4.out 1 _ rfl;have p2:=xc7 R4.out 2 _ rfl;have p3:=xc7 R4.out 3 _ rfl;have p4:=xc7 R4.out 4 _ rfl;have p5:=xc7 R4.out 5 _ rfl;have l2:=xc7 RL4.out 2 _ rfl;have l3:=xc7 RL4.out 3 _ rfl;by_cases hcr:300<=N1.a.waits N1.D
    ·rw [decide_eq_true hcr];rw [if_pos hcr] at HO1;clear hcr;go_wp2_with fail;refine (HH.out _ G4.out).mono ?_;rintro e W5 ⟨rfl,g5⟩;have G5:=hide (xje G4.out g5);clear g5 HH;go_wp2_with fail;exact ⟨⟨i+1,by omega,by go_num,FINL.out _ role1 N1 (N1H.out.grown G5.out (fun b e=>by cases e)) (NStep.of G5.out) HO1.out.symm (Stat.refl _)⟩,by simp [intOf];omega⟩
    ·rw [decide_eq_false hcr];rw [if_neg hcr] at HO1;clear hcr HH;go_wp2_with fail;refine (HWA.out _ G4.out).mono ?_;rintro e W5 ⟨rfl,role2,N2,k1,k2,k3,k4⟩;have HE:=hide (FINL.out W5 role2 N2 k1 k2 (k3.trans HO1.out.symm) k4);clear k1 k2 k3 k4 HWA;go_wp2_with fail;exact ⟨⟨i+1,by omega,by go_num,HE.out⟩,by simp [intOf];omega⟩
   | none=>
    have HO1:Hid (out1 N1.D N1.ld N1.ln N1.a y=if hostS N1.ld N1.ln (y 0) (y 1) then { N1.a with del:=N1.a.del++[y] } else N1.a):=by show _=_;unfold out1;rw [hf]
    have HH:Hid (∀ww,wr.grownBy ww none->Calls Tryz.prog 163 #[.slice la N1.ln lc,.int .i64 (y 0),.int .i64 (y 1)] ww fun e w'=>e=.returned (.bool (decide (hostS N1.ld N1.ln (y 0) (y 1))))/\ww.grownBy w' none):=fun ww hg=>by
     have:=N1H.out.lnk.grown hg;rw [HLV.out] at this;exact xl0 _ N1.ln N1.ld (y 0) (y 1) ww this
    clear hf;unfold fromA;go_wp2_with fail;refine (HH.out _ (xje G2.out (World.grownBy_alloc _ _ none))).mono ?_;rintro e W3 ⟨rfl,g3⟩;have G3:=hide (xje (xje G2.out (World.grownBy_alloc _ _ none)) g3);have R3:=hide (xc9 (row:=none) (xc9 (row:=none) R2.out (World.grownBy_alloc _ _ none) (by simp)) g3 (by simp));clear g3 HH p0 p1 p2 p3 p4 p5 nc2 R2;by_cases hh:hostS N1.ld N1.ln (y 0) (y 1)
    ·rw [decide_eq_true hh];rw [if_pos hh] at HO1;clear hh;obtain ⟨da,dc,hdv⟩:=N1H.out.dels.q.slice;obtain ⟨m,hm⟩:∃m,m=N1.del.length:=⟨_,rfl⟩;rw [<-hm] at hdv
     have FIND:Hid (∀W W4 a4 c4,wr.grownBy W none->QRow 0 W4 46 6 (.slice a4 (m+1) c4) (m+1) (pksC N1.del++[.int .i64 (y 0),.int .i64 (y 1),.int .i64 (y 2),.int .i64 (y 3),.int .i64 (y 4),.int .i64 (y 5)])->W.grownBy W4 (Value.slice da m dc).ownBlock->((Value.slice a4 (m+1) c4).ownBlock=(Value.slice da m dc).ownBlock\/∃b,(Value.slice a4 (m+1) c4).ownBlock=some b/\W.heap.size<=b)->∃role' N',NetAt (W4.setCell ⟨nb,5,none⟩ (.slice a4 (m+1) c4)) B nb role' N'/\NStep w (W4.setCell ⟨nb,5,none⟩ (.slice a4 (m+1) c4)) role role'/\N'.a=outL N.D N.ld N.ln N.a (L.take (i+1))/\Stat N' N):=fun W W4 a4 c4 gW q4 g4 at4=>by
      have hN2:=N1H.out.grown gW (fun b e=>by cases e);have hrow:∀b,(Value.slice da m dc).ownBlock=some b->role1 b=.del:=fun b k=>N1H.out.dels.rl b (by rw [hdv];exact k)
      obtain ⟨role2,k1,k2⟩:=hN2.setDel (Nat.le_trans hB1 gW.size) g4 (fun b e _=>hrow b e) (v:=.slice a4 (m+1) c4) (L:=N1.del++[y]) (by rw [List.length_append,<-hm,xrv];exact q4) (fun b k hb=>by
       rcases at4 with e|⟨b',e,hb'⟩
       ·rw [e] at k;exact hrow b k
       ·rw [e] at k;cases k;omega)
      refine FINL.out _ role2 _ k2 ?_ (by rw [HO1.out];rfl) ⟨rfl,rfl,rfl,rfl,rfl,rfl,rfl,rfl⟩;exact (NStep.of gW).trans ⟨((Kp.refl _ W).step g4 (fun b e=>.inl (by rw [hrow b e];exact fun e=>by cases e))).step (xjc _ _ _ _) (fun b e=>.inl (by cases e;rw [N1H.out.nbR];exact fun e=>by cases e)),k1⟩
     have DC:Hid (∀ww,wr.grownBy ww none->ww.cell? ⟨nb,5,none⟩=some (.slice da m dc)/\ww.frozen? ⟨nb,5,none⟩=false):=fun ww hg=>by
      have hh:=(N1H.out.grown hg (fun b e=>by cases e)).net;refine ⟨?_,by simp [World.frozen?,hh]⟩;rw [<-hdv];exact xc7 hh 5 _ rfl
     have QR:Hid (∀ww,wr.grownBy ww none->QRow 0 ww 46 6 (.slice da m dc) m (pksC N1.del)):=fun ww hg=>by
      have:=N1H.out.dels.q.kept hg (fun b e=>by cases e);rw [hdv,<-hm] at this;exact this
     have AN:Hid ((Value.slice da m dc).ownBlock≠some nb):=fun k=>by
      have:=N1H.out.dels.rl nb (by rw [hdv];exact k);rw [N1H.out.nbR] at this;cases this
     have hml:m<=100000000000:=by rw [hm];exact HD1.out
     obtain ⟨i0,hi0,hz0,hz1',hz2'⟩:=info_parts Tryz.infoNPk;have HI:Hid (Tryz.prog.info? 46=some i0/\i0.zero=some (.agg #[.int .i64 0,.int .i64 0,.int .i64 0,.int .i64 0,.int .i64 0,.int .i64 0])/\i0.size=6/\i0.bytes=48):=⟨hi0,hz0,hz1',hz2'⟩;obtain ⟨d0,d1⟩:=DC.out W3 G3.out;have p0:=xc7 R3.out 0 _ rfl;have p1:=xc7 R3.out 1 _ rfl;have p2:=xc7 R3.out 2 _ rfl;have p3:=xc7 R3.out 3 _ rfl;have p4:=xc7 R3.out 4 _ rfl;have p5:=xc7 R3.out 5 _ rfl;have hz3:wr.heap.size<W3.heap.size:=(Array.getElem?_eq_some_iff.1 R3.out).1;have hnb3:nb<W3.heap.size:=by omega
     clear hi0 hz0 hz1' hz2' hdv hm;go_wp2_with fail
     go_region_law (
        refine xxd rfl (.tmp 56) (.tmp 58) 29 rfl 0 46 i0 _ 6 48 Tryz.underlying29 HI.out.1 HI.out.2.1 HI.out.2.2.1 HI.out.2.2.2 rfl (by decide) (.slice da m dc) m (pksC N1.del) (by simp [Act.eval,Act.put]) (QRow.drew (QR.out (W3.alloc (.cells #[.int .i64 (y 0),.int .i64 (y 1),.int .i64 (y 2),.int .i64 (y 3),.int .i64 (y 4),.int .i64 (y 5)] 46)) (xje G3.out (World.grownBy_alloc _ _ none)))) ⟨W3.heap.size,0,none⟩ 1 1 [.int .i64 (y 0),.int .i64 (y 1),.int .i64 (y 2),.int .i64 (y 3),.int .i64 (y 4),.int .i64 (y 5)] (by simp [Act.eval,Act.put]) rfl (fun j u hj=>xed W3 [.int .i64 (y 0),.int .i64 (y 1),.int .i64 (y 2),.int .i64 (y 3),.int .i64 (y 4),.int .i64 (y 5)] 46 j u hj) (by intro u hu;simp at hu;rcases hu with rfl|rfl|rfl|rfl|rfl|rfl<;>rfl) (by omega) (by unfold maxLen;omega) (by omega) (Nat.zero_le _) ?_;intro v' w4 q4 g4 at4;obtain ⟨a4,c4,hv4⟩:=q4.slice;subst hv4;have g4':=xjf g4;have e4:w4.cell? ⟨nb,5,none⟩=some (.slice da m dc):=g4'.cell (DC.out _ (xje G3.out (World.grownBy_alloc _ _ none))).1 (AN.out.symm);have f4:w4.frozen? ⟨nb,5,none⟩=false:=by rw [World.frozen?_of_block (g4'.block nb (by simp;omega) AN.out.symm)];exact (DC.out _ (xje G3.out (World.grownBy_alloc _ _ none))).2
        have Q4:=hide q4;have G4:=hide g4';have AT4:=hide at4;clear q4 g4 g4' at4)
     all_goals
      go_wp2_with fail;exact ⟨⟨i+1,by omega,by go_num,FIND.out _ _ _ _ (xje G3.out (World.grownBy_alloc _ _ none)) Q4.out G4.out AT4.out⟩,by simp [intOf];omega⟩
    ·rw [decide_eq_false hh];rw [if_neg hh] at HO1;clear hh;go_wp2_with fail;exact ⟨⟨i+1,by omega,by go_num,FINL.out _ role1 N1 (N1H.out.grown G3.out (fun b e=>by cases e)) (NStep.of G3.out) HO1.out.symm (Stat.refl _)⟩,by simp [intOf];omega⟩
  ·obtain rfl:i=n:=by omega
   have e:L.take i=L:=List.take_of_length_le (by rw [HL.out.len];exact Nat.le_refl _);rw [e] at ha1;have HF:Hid (P (.returned (.tuple #[])) wr):=by show P _ _;rw [HP.out];exact ⟨rfl,role1,N1,n1,st1,ha1,sa1⟩
   clear n1 st1 ha1 sa1;go_wp2_with fail;refine bodyPost_end (results_none rfl _ _ _) rfl ?_;exact HF.out
end Go.Proofs.YtlhkfafdioakeaaGreatDoor
