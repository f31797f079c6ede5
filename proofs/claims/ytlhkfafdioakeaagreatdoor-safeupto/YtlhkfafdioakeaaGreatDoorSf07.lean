/- Parts of the proof. -/
import Derived.Test.YtlhkfafdioakeaaGreatDoorSf06
namespace Go.Proofs.YtlhkfafdioakeaaGreatDoor
set_option maxRecDepth 100000
set_option maxHeartbeats 2000000
open Go.RowKit
set_option linter.unusedVariables false
set_option linter.unusedSimpArgs false
def mayT(L:List ByteArray)(i:Int):Prop:=0<=i/\i<L.length/\(i=0\/enK 2∉L.take (i.toNat+1))
def MayC:Prop:=∀(w:World) (B nb:Nat) (role:Nat->Role) (N:NetM),NetAt w B nb role N->∀s,s<N.D->∀i:Int,(N.dv s).dl.length<=100000000000->Calls Tryz.prog 167 #[.pointer (some ⟨N.db,s*5,none⟩),.int .i64 i] w (Says (mayT (N.dv s).dl i) w)
def NAns(B nb:Nat)(role:Nat->Role)(N:NetM)(en:Int)(A:NtA)(w:World)(e:Ending)(w':World):Prop:=e=.returned (.int .i64 en)/\NOut B nb role N A w w'
theorem NOut.same{B nb:Nat}{role:Nat->Role}{N:NetM}{w w':World}(h:NetAt w B nb role N)(hg:w.grownBy w' none):NOut B nb role N N.a w w':=
 ⟨role,N,h.grown hg (fun b e=>by cases e),NStep.of hg,rfl,Stat.refl _⟩
theorem xzb(hM:MayC)(w:World){B nb:Nat}{role:Nat->Role}{N:NetM}(h:NetAt w B nb role N){s:Nat}(hs:s<N.D)(i:Int)(hl:(N.dv s).dl.length<=100000000000)(hn:¬mayT (N.dv s).dl i):
  Calls Tryz.prog 114 #[.pointer (some ⟨nb,0,none⟩),.int .i64 s,.int .i64 i] w (NAns B nb role N 15 N.a w):=by
 have HM:=hide (fun ww (hg:w.grownBy ww none)=>hM ww B nb role N (h.grown hg (fun b e=>by cases e)) s hs i hl);obtain ⟨P,hP⟩:∃P,P=NAns B nb role N 15 N.a w:=⟨_,rfl⟩;rw [<-hP];have FIN:Hid (∀w',w.grownBy w' none->P (.returned (.int .i64 15)) w'):=fun w' hg=>by rw [hP];exact ⟨rfl,NOut.same h hg⟩
 have hnb:=xc7 h.net 4 _ rfl;have hnb:w.cell? ⟨nb,4,none⟩=some (.slice (some ⟨N.db,0,none⟩) N.D N.D):=hnb;have hds:=h.dsz;have hsI:(s:Int)<N.D:=by omega
 have HNO:=hide hn;have hbl:=World.block_lt_of_cell? w _ hnb;simp only at hbl;clear h hP hl hn;go_enter Tryz.func114,Tryz.ntmps114;go_wp2_with fail;refine (HM.out w (xjb _ _)).mono ?_;rintro e w1 ⟨⟨bq,rfl,hbq⟩,g1⟩;obtain rfl:bq=false:=by cases bq;rfl;exact absurd (hbq.1 rfl) HNO.out
 have G1:=hide g1;clear g1 hbq HM HNO;go_wp2_with fail;exact FIN.out _ G1.out
theorem xs8(N:NetM)(s:Nat)(L:List ByteArray)(u:Value):(N.put s ((N.dv s).withDown L u)).a=N.a.setDl s L:=by
 rw [NetM.put_a];show NtA.mk (updN N.a.rl s (N.dv s).rl) (updN N.a.wl s (N.dv s).wl) (updN N.a.dl s L) (updN N.a.ul s (N.dv s).ul) (updN N.a.nl s (N.dv s).nl) N.a.del=_;rw [show updN N.a.rl s (N.dv s).rl=N.a.rl from x0i _ _,show updN N.a.wl s (N.dv s).wl=N.a.wl from x0i _ _,show updN N.a.ul s (N.dv s).ul=N.a.ul from x0i _ _,show updN N.a.nl s (N.dv s).nl=N.a.nl from x0i _ _];rfl
theorem DOut.up{B nb:Nat}{role:Nat->Role}{N:NetM}{s:Nat}{L:List ByteArray}{w w':World}(h:DOut B nb role N s (N.dv s).rl (N.dv s).wl (N.dv s).dl L (N.dv s).nl w w'):NOut B nb role N (N.a.setUl s L) w w':=by
 have:=h.n;rw [show updN N.a.rl s (N.dv s).rl=N.a.rl from x0i _ _,show updN N.a.dl s (N.dv s).dl=N.a.dl from x0i _ _,show updN N.a.wl s (N.dv s).wl=N.a.wl from x0i _ _,show updN N.a.nl s (N.dv s).nl=N.a.nl from x0i _ _] at this;exact this
def outM(L:List (Nat->Int)):Msg:=⟨5,0,fun _=>0,0,fun _ _=>0,L.length,fun j=>(L[j]?).getD (fun _=>0)⟩
theorem x0y(A:NtA)(s:Nat)(L:List ByteArray):∀D,(A.setDl s L).waits D=A.waits D
 | 0=>rfl
 | D+1=>by rw [NtA.waits,NtA.waits,x0y A s L D];rfl
theorem xy8(hM:MayC)(w:World){B nb:Nat}{role:Nat->Role}{N:NetM}(h:NetAt w B nb role N)(hB:B<=w.heap.size){s:Nat}(hs:s<N.D)(i:Nat)(hl:(N.dv s).dl.length<=100000000000)(hl2:(N.dv s).ul.length<=100000000000)(hy:mayT (N.dv s).dl i)(hi:(N.dv s).dl[i]?=some (enK 2)):
  Calls Tryz.prog 114 #[.pointer (some ⟨nb,0,none⟩),.int .i64 s,.int .i64 i] w (NAns B nb role N 0 ((N.a.setDl s ((N.dv s).dl.eraseIdx i)).setUl s ((N.dv s).ul++[enK 3])) w):=by
 have HM:=hide (fun ww (hg:w.grownBy ww none)=>hM ww B nb role N (h.grown hg (fun b e=>by cases e)) s hs i hl);obtain ⟨P,hP⟩:∃P,P=NAns B nb role N 0 ((N.a.setDl s ((N.dv s).dl.eraseIdx i)).setUl s ((N.dv s).ul++[enK 3])) w:=⟨_,rfl⟩;rw [<-hP];have HP:=hide hP;have HT:=hide (fun ww (hg:w.grownBy ww none)=>xzf ww (h.grown hg (fun b e=>by cases e)) (Nat.le_trans hB hg.size) hs (kindM 2) (xks (.inl rfl)) hi);have hnb:=xc7 h.net 4 _ rfl;have hnb:w.cell? ⟨nb,4,none⟩=some (.slice (some ⟨N.db,0,none⟩) N.D N.D):=hnb;have hds:=h.dsz;have hsI:(s:Int)<N.D:=by omega
 have HYE:=hide hy;have hbl:=World.block_lt_of_cell? w _ hnb;simp only at hbl;clear h hP hl hy hi;go_enter Tryz.func114,Tryz.ntmps114;go_wp2_with fail;refine (HM.out w (xjb _ _)).mono ?_;rintro e w1 ⟨⟨bq,rfl,hbq⟩,g1⟩;obtain rfl:bq=true:=hbq.2 HYE.out;have G1:=hide g1;clear g1 hbq HM HYE;go_wp2_with fail;refine (HT.out w1 G1.out).mono ?_;rintro e w2 ⟨m',av,pv,hsm,rfl,role2,u,n2,st2,pk1,pk2,fr1,fr2⟩;have hk:m'.kind=2:=hsm.kind;obtain ⟨va,vc,rfl⟩:=pk1.slice;obtain ⟨xa,xc,rfl⟩:=pk2.slice
 have HTL:Hid (∀ww,w2.grownBy ww none->Calls Tryz.prog 170 #[.pointer (some ⟨N.db,s*5,none⟩),.agg #[.int .i64 3,.int .i64 0,.int .i64 0,.int .i64 0,.int .i64 0,.int .i64 0,.int .i64 0,.int .i64 0,.slice none 0 0,.slice none 0 0]] ww fun e w'=>e=.returned (.tuple #[])/\P (.returned (.int .i64 0)) w'):=fun ww hg=>by
  have:=xzh (kindM 3) none none 0 0 ww (xks (.inr (.inl rfl))) (PkRow.none _ _) (PkRow.none _ _) (RowIn.none _ _ _) (RowIn.none _ _ _) (n2.grown hg (fun b e=>by cases e)) (Nat.le_trans (Nat.le_trans hB (Nat.le_trans G1.out.size st2.kp.size)) hg.size) hs (by rw [NetM.put_dv];exact Nat.le_trans hl2 (by omega));refine this.mono ?_;intro e w' ho;obtain ⟨h1,h2⟩:=ho.d;refine ⟨h1,?_⟩;rw [HP.out];obtain ⟨role',N',k1,k2,k3,k4⟩:=h2.up;rw [NetM.put_dv,xs8] at k3;exact ⟨rfl,role',N',k1,((NStep.of G1.out).trans st2).trans ((NStep.of hg).trans k2),k3,Stat.trans (N1:=N.put s ((N.dv s).withDown ((N.dv s).dl.eraseIdx i) u)) ⟨rfl,rfl,rfl,rfl,rfl,rfl,rfl,rfl⟩ k4⟩
 unfold msgV;clear hsm n2 st2 pk1 pk2 fr1 fr2 HT;go_wp2_with fail;refine (HTL.out _ (World.grownBy_alloc _ _ _)).mono ?_;rintro e w3 ⟨rfl,hp⟩;have HPP:=hide hp;clear hp HTL;go_wp2_with fail;exact HPP.out
theorem xzd(hM:MayC)(w:World){B nb:Nat}{role:Nat->Role}{N:NetM}(h:NetAt w B nb role N)(hB:B<=w.heap.size){s:Nat}(hs:s<N.D)(i:Nat)(hl:(N.dv s).dl.length<=100000000000)(hy:mayT (N.dv s).dl i)(L:List (Nat->Int))(hL:∀x∈L,Nm x)(hcan:canS (outM L))(hi:(N.dv s).dl[i]?=some (strB (encB (outM L))))(hc:∀j,j<N.ln->0<=N.ld j 2/\N.ld j 2<N.D)(hwt:N.a.waits N.D<=300)(hdl:N.del.length+L.length<=100000000000):
  Calls Tryz.prog 114 #[.pointer (some ⟨nb,0,none⟩),.int .i64 s,.int .i64 i] w (NAns B nb role N 0 (outL N.D N.ld N.ln (N.a.setDl s ((N.dv s).dl.eraseIdx i)) L) w):=by
 have HM:=hide (fun ww (hg:w.grownBy ww none)=>hM ww B nb role N (h.grown hg (fun b e=>by cases e)) s hs i hl);obtain ⟨P,hP⟩:∃P,P=NAns B nb role N 0 (outL N.D N.ld N.ln (N.a.setDl s ((N.dv s).dl.eraseIdx i)) L) w:=⟨_,rfl⟩;rw [<-hP];have HP:=hide hP;have HT:=hide (fun ww (hg:w.grownBy ww none)=>xzf ww (h.grown hg (fun b e=>by cases e)) (Nat.le_trans hB hg.size) hs (outM L) hcan hi);have hnb:=xc7 h.net 4 _ rfl;have hnb:w.cell? ⟨nb,4,none⟩=some (.slice (some ⟨N.db,0,none⟩) N.D N.D):=hnb;have hds:=h.dsz;have hsI:(s:Int)<N.D:=by omega
 have HYE:=hide hy;have HC:=hide hc;have HW:Hid ((N.a.setDl s ((N.dv s).dl.eraseIdx i)).waits N.D<=300):=by show _<=_;rw [x0y];exact hwt
 have HDL:=hide hdl;have HBB:=hide hB;have hbl:=World.block_lt_of_cell? w _ hnb;simp only at hbl;clear h hP hl hy hi hc hwt hdl hB;go_enter Tryz.func114,Tryz.ntmps114;go_wp2_with fail;refine (HM.out w (xjb _ _)).mono ?_;rintro e w1 ⟨⟨bq,rfl,hbq⟩,g1⟩;obtain rfl:bq=true:=hbq.2 HYE.out;have G1:=hide g1;clear g1 hbq HM HYE;go_wp2_with fail;refine (HT.out w1 G1.out).mono ?_;rintro e w2 ⟨m',av,pv,hsm,rfl,role2,u,n2,st2,pk1,pk2,fr1,fr2⟩;have hk:m'.kind=5:=hsm.kind;have hnp:m'.np=L.length:=hsm.np;obtain ⟨va,vc,rfl⟩:=pk1.slice;obtain ⟨xa,xc,rfl⟩:=pk2.slice;rw [hnp] at pk2 fr2;have hIs:Is L L.length (fun j=>(L[j]?).getD (fun _=>0)):=⟨rfl,fun j hj=>by rw [List.getElem?_eq_getElem hj];rfl⟩
 have hpk:PkRow w2 (.slice xa L.length xc) L.length (fun j=>(L[j]?).getD (fun _=>0)):=by
  rcases pk2 with e|⟨g,off,cap,e,e2,e3⟩
  ·exact .inl e
  ·exact .inr ⟨g,off,cap,e,e2,fun j hj t ht=>by rw [e3 j hj t ht,hsm.pks j (by show j<L.length;exact hj) t ht];rfl⟩
 have HTL:Hid (∀ww,w2.grownBy ww none->Calls Tryz.prog 171 #[.pointer (some ⟨nb,0,none⟩),.slice xa L.length xc] ww fun e w'=>e=.returned (.tuple #[])/\P (.returned (.int .i64 0)) w'):=fun ww hg=>by
  have:=xp9 ww (n2.grown hg (fun b e=>by cases e)) (Nat.le_trans (Nat.le_trans HBB.out (Nat.le_trans G1.out.size st2.kp.size)) hg.size) xa L.length xc _ L hIs (hpk.grown hg) (fun b hb=>⟨(fr2 b hb).1,Nat.lt_of_lt_of_le (fr2 b hb).2.2 hg.size⟩) HC.out (by rw [xs8];exact HW.out) HDL.out;refine this.mono ?_;rintro e w' ⟨h1,h2⟩;refine ⟨h1,?_⟩;rw [HP.out];obtain ⟨role',N',k1,k2,k3,k4⟩:=h2;rw [xs8] at k3;exact ⟨rfl,role',N',k1,((NStep.of G1.out).trans st2).trans ((NStep.of hg).trans k2),k3,Stat.trans (N1:=N.put s ((N.dv s).withDown ((N.dv s).dl.eraseIdx i) u)) ⟨rfl,rfl,rfl,rfl,rfl,rfl,rfl,rfl⟩ k4⟩
 rw [hnp];unfold msgV;clear hsm n2 st2 pk1 pk2 fr1 fr2 HT hnp hIs hpk;go_wp2_with fail;refine (HTL.out _ (World.grownBy_alloc _ _ _)).mono ?_;rintro e w3 ⟨rfl,hp⟩;have HPP:=hide hp;clear hp HTL;go_wp2_with fail;exact HPP.out
theorem DOut.rules{B nb:Nat}{role:Nat->Role}{N:NetM}{s:Nat}{L:List Rl}{w w':World}(h:DOut B nb role N s L (N.dv s).wl (N.dv s).dl (N.dv s).ul (N.dv s).nl w w'):NOut B nb role N (N.a.setRl s L) w w':=by
 have:=h.n;rw [show updN N.a.wl s (N.dv s).wl=N.a.wl from x0i _ _,show updN N.a.dl s (N.dv s).dl=N.a.dl from x0i _ _,show updN N.a.ul s (N.dv s).ul=N.a.ul from x0i _ _,show updN N.a.nl s (N.dv s).nl=N.a.nl from x0i _ _] at this;exact this
open Classical in
theorem NetAt.markV{w:World}{B nb:Nat}{role:Nat->Role}{N:NetM}(h:NetAt w B nb role N)(v:Value)(lo:Nat)(hB:B<=lo)(hv:∀b,v.ownBlock=some b->role b=.free/\lo<=b/\b<w.heap.size):∃role',NetAt w B nb role' N/\(∀b,v.ownBlock=some b->role' b=.ro)/\∀b,b<lo->role' b=role b:=
 ⟨_,(h.mark (fun b=>v.ownBlock=some b) (fun b hb=>⟨(hv b hb).1,Nat.le_trans hB (hv b hb).2.1,(hv b hb).2.2⟩)).1,fun b hb=>if_pos hb,fun b hb=>if_neg (fun e=>by have:=(hv b e).2.1;omega)⟩
structure SameR(a b:Rl):Prop where
 prio:a.prio=b.prio
 mt:∀i,i<6->a.mt i=b.mt i
 na:a.na=b.na
 acts:∀j,j<b.na->∀i,i<6->a.acts j i=b.acts j i
def xag(B nb:Nat)(role:Nat->Role)(N:NetM)(s i:Nat)(r:Rl)(w:World)(e:Ending)(w':World):Prop:=
 ∃r',SameR r' r/\e=.returned (.int .i64 0)/\NOut B nb role N ((N.a.setDl s ((N.dv s).dl.eraseIdx i)).setRl s ((N.dv s).rl++[r'])) w w'
theorem xy9(hM:MayC)(w:World){B nb:Nat}{role:Nat->Role}{N:NetM}(h:NetAt w B nb role N)(hB:B<=w.heap.size){s:Nat}(hs:s<N.D)(i:Nat)(hl:(N.dv s).dl.length<=100000000000)(hl2:(N.dv s).ul.length<=100000000000)(hy:mayT (N.dv s).dl i)(r:Rl)(hcan:canS (rulM r))(hi:(N.dv s).dl[i]?=some (enA r))(hf:N.room<=(N.dv s).rl.length):
  Calls Tryz.prog 114 #[.pointer (some ⟨nb,0,none⟩),.int .i64 s,.int .i64 i] w (NAns B nb role N 0 ((N.a.setDl s ((N.dv s).dl.eraseIdx i)).setUl s ((N.dv s).ul++[enK 6])) w):=by
 have HM:=hide (fun ww (hg:w.grownBy ww none)=>hM ww B nb role N (h.grown hg (fun b e=>by cases e)) s hs i hl);obtain ⟨P,hP⟩:∃P,P=NAns B nb role N 0 ((N.a.setDl s ((N.dv s).dl.eraseIdx i)).setUl s ((N.dv s).ul++[enK 6])) w:=⟨_,rfl⟩;rw [<-hP];have HP:=hide hP;have HT:=hide (fun ww (hg:w.grownBy ww none)=>xzf ww (h.grown hg (fun b e=>by cases e)) (Nat.le_trans hB hg.size) hs (rulM r) hcan hi);have hnb:=xc7 h.net 4 _ rfl;have hnb:w.cell? ⟨nb,4,none⟩=some (.slice (some ⟨N.db,0,none⟩) N.D N.D):=hnb;have hds:=h.dsz;have hsI:(s:Int)<N.D:=by omega
 have HYE:=hide hy;have HF:=hide hf;have hbl:=World.block_lt_of_cell? w _ hnb;simp only at hbl;clear h hP hl hy hi hf;go_enter Tryz.func114,Tryz.ntmps114;go_wp2_with fail;refine (HM.out w (xjb _ _)).mono ?_;rintro e w1 ⟨⟨bq,rfl,hbq⟩,g1⟩;obtain rfl:bq=true:=hbq.2 HYE.out;have G1:=hide g1;clear g1 hbq HM HYE;go_wp2_with fail;refine (HT.out w1 G1.out).mono ?_;rintro e w2 ⟨m',av,pv,hsm,rfl,role2,u,n2,st2,pk1,pk2,fr1,fr2⟩;have hk:m'.kind=1:=hsm.kind;obtain ⟨va,vc,rfl⟩:=pk1.slice;obtain ⟨xa,xc,rfl⟩:=pk2.slice;have hrm:∀ww,w2.grownBy ww none->ww.cell? ⟨nb,3,none⟩=some (.int .i64 N.room):=fun ww hg=>xc7 (n2.grown hg (fun b e=>by cases e)).net 3 _ rfl
 have HTL:Hid (∀ww,w2.grownBy ww none->Calls Tryz.prog 169 #[.pointer (some ⟨N.db,s*5,none⟩),.agg #[.int .i64 m'.prio,.int .i64 (m'.mt 0),.int .i64 (m'.mt 1),.int .i64 (m'.mt 2),.int .i64 (m'.mt 3),.int .i64 (m'.mt 4),.int .i64 (m'.mt 5),.slice va m'.na vc],.int .i64 N.room] ww fun e w'=>e=.returned (.tuple #[])/\P (.returned (.int .i64 0)) w'):=fun ww hg=>by
  have:=xkj ww (n2.grown hg (fun b e=>by cases e)) (Nat.le_trans (Nat.le_trans hB (Nat.le_trans G1.out.size st2.kp.size)) hg.size) hs ⟨m'.prio,m'.mt,m'.na,m'.acts,.slice va m'.na vc⟩ N.room (by rw [NetM.put_dv];exact HF.out) (by rw [NetM.put_dv];exact hl2);refine this.mono ?_;rintro e w' ⟨h1,h2⟩;refine ⟨h1,?_⟩;rw [HP.out];obtain ⟨role',N',k1,k2,k3,k4⟩:=h2.up;rw [NetM.put_dv,xs8] at k3;exact ⟨rfl,role',N',k1,((NStep.of G1.out).trans st2).trans ((NStep.of hg).trans k2),k3,Stat.trans (N1:=N.put s ((N.dv s).withDown ((N.dv s).dl.eraseIdx i) u)) ⟨rfl,rfl,rfl,rfl,rfl,rfl,rfl,rfl⟩ k4⟩
 have r2:=hrm w2 (xjb _ _);have hnb2:=World.block_lt_of_cell? w2 _ r2;simp only at hnb2;unfold msgV;obtain ⟨wB,hwB⟩:∃wB,wB=w2.alloc (.cells #[.int .i64 1,.int .i64 m'.prio,.int .i64 (m'.mt 0),.int .i64 (m'.mt 1),.int .i64 (m'.mt 2),.int .i64 (m'.mt 3),.int .i64 (m'.mt 4),.int .i64 (m'.mt 5),.slice va m'.na vc,.slice xa m'.np xc] 213):=⟨_,rfl⟩;have GB:Hid (w2.grownBy wB none):=by rw [hwB];exact World.grownBy_alloc _ _ _
 have RB:Hid (wB.heap[w2.heap.size]?=some (.cells #[.int .i64 1,.int .i64 m'.prio,.int .i64 (m'.mt 0),.int .i64 (m'.mt 1),.int .i64 (m'.mt 2),.int .i64 (m'.mt 3),.int .i64 (m'.mt 4),.int .i64 (m'.mt 5),.slice va m'.na vc,.slice xa m'.np xc] 213 (0,0))):=by show _=_;rw [hwB];exact heap_alloc_new w2 _
 have rB:=hrm wB GB.out;clear hsm n2 st2 pk1 pk2 fr1 fr2 HT hrm;go_wp2_with fail;rw [<-hwB];clear hwB;have q1:=xc7 RB.out 1 _ rfl;have q2:=xc7 RB.out 2 _ rfl;have q3:=xc7 RB.out 3 _ rfl;have q4:=xc7 RB.out 4 _ rfl;have q5:=xc7 RB.out 5 _ rfl;have q6:=xc7 RB.out 6 _ rfl;have q7:=xc7 RB.out 7 _ rfl;have q8:=xc7 RB.out 8 _ rfl
 go_region_with (go_at_call 169;refine (HTL.out _ (by first|exact xi7 GB.out|exact GB.out)).mono ?_;rintro e w3 ⟨rfl,hp⟩;have HPP:=hide hp;clear hp)
 all_goals
  go_wp2_with fail;exact HPP.out
theorem xze(hM:MayC)(w:World){B nb:Nat}{role:Nat->Role}{N:NetM}(h:NetAt w B nb role N)(hB:B<=w.heap.size){s:Nat}(hs:s<N.D)(i:Nat)(hl:(N.dv s).dl.length<=100000000000)(hy:mayT (N.dv s).dl i)(r:Rl)(hcan:canS (rulM r))(hi:(N.dv s).dl[i]?=some (enA r))(hf:(N.dv s).rl.length<N.room)(hr5:N.room<=5000):
  Calls Tryz.prog 114 #[.pointer (some ⟨nb,0,none⟩),.int .i64 s,.int .i64 i] w (xag B nb role N s i r w):=by
 have HM:=hide (fun ww (hg:w.grownBy ww none)=>hM ww B nb role N (h.grown hg (fun b e=>by cases e)) s hs i hl);obtain ⟨P,hP⟩:∃P,P=xag B nb role N s i r w:=⟨_,rfl⟩;rw [<-hP];have HP:=hide hP;have HT:=hide (fun ww (hg:w.grownBy ww none)=>xzf ww (h.grown hg (fun b e=>by cases e)) (Nat.le_trans hB hg.size) hs (rulM r) hcan hi);have hnb:=xc7 h.net 4 _ rfl;have hnb:w.cell? ⟨nb,4,none⟩=some (.slice (some ⟨N.db,0,none⟩) N.D N.D):=hnb;have hds:=h.dsz;have hsI:(s:Int)<N.D:=by omega
 have HYE:=hide hy;have HF:=hide hf;have hbl:=World.block_lt_of_cell? w _ hnb;simp only at hbl;clear h hP hl hy hi hf;go_enter Tryz.func114,Tryz.ntmps114;go_wp2_with fail;refine (HM.out w (xjb _ _)).mono ?_;rintro e w1 ⟨⟨bq,rfl,hbq⟩,g1⟩;obtain rfl:bq=true:=hbq.2 HYE.out;have G1:=hide g1;clear g1 hbq HM HYE;go_wp2_with fail;refine (HT.out w1 G1.out).mono ?_;rintro e w2 ⟨m',av,pv,hsm,rfl,role2,u,n2,st2,pk1,pk2,fr1,fr2⟩;have hk:m'.kind=1:=hsm.kind;obtain ⟨va,vc,rfl⟩:=pk1.slice;obtain ⟨xa,xc,rfl⟩:=pk2.slice;have hrm:∀ww,w2.grownBy ww none->ww.cell? ⟨nb,3,none⟩=some (.int .i64 N.room):=fun ww hg=>xc7 (n2.grown hg (fun b e=>by cases e)).net 3 _ rfl
 have HTL:Hid (∀ww,w2.grownBy ww none->Calls Tryz.prog 169 #[.pointer (some ⟨N.db,s*5,none⟩),.agg #[.int .i64 m'.prio,.int .i64 (m'.mt 0),.int .i64 (m'.mt 1),.int .i64 (m'.mt 2),.int .i64 (m'.mt 3),.int .i64 (m'.mt 4),.int .i64 (m'.mt 5),.slice va m'.na vc],.int .i64 N.room] ww fun e w'=>e=.returned (.tuple #[])/\P (.returned (.int .i64 0)) w'):=fun ww hg=>by
  obtain ⟨role3,n3,hro,hold⟩:=n2.markV (.slice va m'.na vc) w1.heap.size (Nat.le_trans hB G1.out.size) fr1;have hru:RuAt w2 role3 ⟨m'.prio,m'.mt,m'.na,m'.acts,.slice va m'.na vc⟩:=⟨pk1,fun b hb=>⟨hro b hb,(fr1 b hb).2.2⟩⟩;have st3:NStep w1 w2 role role3:=⟨st2.kp,fun b hb=>by rw [hold b hb];exact st2.same b hb⟩;have:=xkk ww (n3.grown hg (fun b e=>by cases e)) (Nat.le_trans (Nat.le_trans hB (Nat.le_trans G1.out.size st2.kp.size)) hg.size) hs ⟨m'.prio,m'.mt,m'.na,m'.acts,.slice va m'.na vc⟩ (hru.kept hg (fun b e=>by cases e)) N.room (by rw [NetM.put_dv];exact HF.out) hr5;refine this.mono ?_;rintro e w' ⟨h1,h2⟩;refine ⟨h1,?_⟩;rw [HP.out];obtain ⟨role',N',k1,k2,k3,k4⟩:=h2.rules;rw [NetM.put_dv,xs8] at k3;exact ⟨⟨m'.prio,m'.mt,m'.na,m'.acts,.slice va m'.na vc⟩,⟨hsm.prio,hsm.mt,hsm.na,hsm.acts⟩,rfl,role',N',k1,((NStep.of G1.out).trans st3).trans ((NStep.of hg).trans k2),k3,Stat.trans (N1:=N.put s ((N.dv s).withDown ((N.dv s).dl.eraseIdx i) u)) ⟨rfl,rfl,rfl,rfl,rfl,rfl,rfl,rfl⟩ k4⟩
 have r2:=hrm w2 (xjb _ _);have hnb2:=World.block_lt_of_cell? w2 _ r2;simp only at hnb2;unfold msgV;obtain ⟨wB,hwB⟩:∃wB,wB=w2.alloc (.cells #[.int .i64 1,.int .i64 m'.prio,.int .i64 (m'.mt 0),.int .i64 (m'.mt 1),.int .i64 (m'.mt 2),.int .i64 (m'.mt 3),.int .i64 (m'.mt 4),.int .i64 (m'.mt 5),.slice va m'.na vc,.slice xa m'.np xc] 213):=⟨_,rfl⟩;have GB:Hid (w2.grownBy wB none):=by rw [hwB];exact World.grownBy_alloc _ _ _
 have RB:Hid (wB.heap[w2.heap.size]?=some (.cells #[.int .i64 1,.int .i64 m'.prio,.int .i64 (m'.mt 0),.int .i64 (m'.mt 1),.int .i64 (m'.mt 2),.int .i64 (m'.mt 3),.int .i64 (m'.mt 4),.int .i64 (m'.mt 5),.slice va m'.na vc,.slice xa m'.np xc] 213 (0,0))):=by show _=_;rw [hwB];exact heap_alloc_new w2 _
 have rB:=hrm wB GB.out;clear hsm n2 st2 pk1 pk2 fr1 fr2 HT hrm;go_wp2_with fail;rw [<-hwB];clear hwB;have q1:=xc7 RB.out 1 _ rfl;have q2:=xc7 RB.out 2 _ rfl;have q3:=xc7 RB.out 3 _ rfl;have q4:=xc7 RB.out 4 _ rfl;have q5:=xc7 RB.out 5 _ rfl;have q6:=xc7 RB.out 6 _ rfl;have q7:=xc7 RB.out 7 _ rfl;have q8:=xc7 RB.out 8 _ rfl
 go_region_with (go_at_call 169;refine (HTL.out _ (by first|exact xi7 GB.out|exact GB.out)).mono ?_;rintro e w3 ⟨rfl,hp⟩;have HPP:=hide hp;clear hp)
 all_goals
  go_wp2_with fail;exact HPP.out
open Classical in
noncomputable def sendS(D:Nat)(ld:Nat->Nat->Int)(ln:Nat)(A:NtA)(s:Nat)(pt:Int)(k:Nat->Int):Int×NtA:=
 if ¬hostS ld ln s pt then (16,A) else if ¬xtx k then (8,A) else if 300<=A.waits D then (7,A) else (0,A.setWl s (A.wl s++[atP s pt k]))
theorem xpb(w:World){B nb:Nat}{role:Nat->Role}{N:NetM}(h:NetAt w B nb role N)(hB:B<=w.heap.size){s:Nat}(hs:s<N.D)(pt:Int)(k:Nat->Int)(hwt:N.a.waits N.D<=300):
  Calls Tryz.prog 111 #[.pointer (some ⟨nb,0,none⟩),.int .i64 s,.int .i64 pt,pkV k] w (NAns B nb role N (sendS N.D N.ld N.ln N.a s pt k).1 (sendS N.D N.ld N.ln N.a s pt k).2 w):=by
 obtain ⟨P,hP⟩:∃P,P=NAns B nb role N (sendS N.D N.ld N.ln N.a s pt k).1 (sendS N.D N.ld N.ln N.a s pt k).2 w:=⟨_,rfl⟩;rw [<-hP]
 have hlw:∀s',s'<N.D->(N.dv s').wl.length<=1000000:=fun s' hs'=>by
  have h1:=x0z N.a N.D s' hs';have h3:(N.dv s').wl.length=(N.a.wl s').length:=rfl;omega
 obtain ⟨la,lc,hlv⟩:=h.lnk.slice
 have nc2:w.cell? ⟨nb,2,none⟩=some (.slice la N.ln lc):=by
  rw [xc7 h.net 2 _ rfl];show some N.lv=_;rw [hlv]
 have hnbl:nb<w.heap.size:=World.block_lt_of_cell? w _ nc2
 have HH:Hid (∀ww,w.grownBy ww none->Calls Tryz.prog 163 #[.slice la N.ln lc,.int .i64 s,.int .i64 pt] ww fun e w'=>e=.returned (.bool (decide (hostS N.ld N.ln s pt)))/\ww.grownBy w' none):=fun ww hg=>by
  have:=h.lnk.grown hg;rw [hlv] at this;exact xl0 _ N.ln N.ld s pt ww this
 have HR:Hid (∀ww,Calls Tryz.prog 55 #[.agg #[.int .i64 (k 0),.int .i64 (k 1),.int .i64 (k 2),.int .i64 (k 3),.int .i64 (k 4),.int .i64 (k 5)]] ww (Says (xtx k) ww)):=fun ww=>xtz k ww
 have HCR:Hid (∀ww,w.grownBy ww none->Calls Tryz.prog 164 #[.pointer (some ⟨nb,0,none⟩)] ww fun e w'=>e=.returned (.bool (decide (300<=N.a.waits N.D)))/\ww.grownBy w' none):=fun ww hg=>by
  refine (xfn ww (h.grown hg (fun b e=>by cases e)) hlw).mono ?_;rintro e w' ⟨rfl,h2⟩;refine ⟨?_,h2⟩;congr 2;exact decide_eq_decide.2 (by unfold xfm;rw [x0u])
 have HWA:Hid (∀ww,w.grownBy ww none->Calls Tryz.prog 165 #[.pointer (some ⟨nb,0,none⟩),.int .i64 s,.int .i64 pt,.agg #[.int .i64 (k 0),.int .i64 (k 1),.int .i64 (k 2),.int .i64 (k 3),.int .i64 (k 4),.int .i64 (k 5)]] ww fun e w'=>e=.returned (.tuple #[])/\NOut B nb role N (N.a.setWl s (N.a.wl s++[atP s pt k])) w w'):=fun ww hg=>by
  refine (x0v ww (h.grown hg (fun b e=>by cases e)) (Nat.le_trans hB hg.size) hs pt k (hlw s hs)).mono ?_;rintro e w' ⟨h1,h2⟩;obtain ⟨role2,N2,k1,k2,k3,k4⟩:=h2.wait;exact ⟨h1,role2,N2,k1,(NStep.of hg).trans k2,k3,k4⟩
 have FIN:Hid (∀w' en,w.grownBy w' none->sendS N.D N.ld N.ln N.a s pt k=(en,N.a)->P (.returned (.int .i64 en)) w'):=fun w' en hg he=>by rw [hP,he];exact ⟨rfl,NOut.same h hg⟩
 have FINW:Hid (∀w',NOut B nb role N (N.a.setWl s (N.a.wl s++[atP s pt k])) w w'->sendS N.D N.ld N.ln N.a s pt k=(0,N.a.setWl s (N.a.wl s++[atP s pt k]))->P (.returned (.int .i64 0)) w'):=fun w' ho he=>by rw [hP,he];exact ⟨rfl,ho⟩
 unfold pkV pkA;clear h hB hP hlw hlv hwt;obtain ⟨W0,hW0⟩:∃W0,W0=w.alloc (.cells #[.int .i64 (k 0),.int .i64 (k 1),.int .i64 (k 2),.int .i64 (k 3),.int .i64 (k 4),.int .i64 (k 5)] 46):=⟨_,rfl⟩;have G0:Hid (w.grownBy W0 none):=by rw [hW0];exact World.grownBy_alloc _ _ _
 have R0:Hid (W0.heap[w.heap.size]?=some (.cells #[.int .i64 (k 0),.int .i64 (k 1),.int .i64 (k 2),.int .i64 (k 3),.int .i64 (k 4),.int .i64 (k 5)] 46 (0,0))):=by show _=_;rw [hW0];exact heap_alloc_new w _
 go_enter Tryz.func111,Tryz.ntmps111;go_wp2_with fail;rw [<-hW0];clear hW0;refine (HH.out _ G0.out).mono ?_;rintro e w1 ⟨rfl,g1⟩;have G1:=hide (xje G0.out g1);have R1:=hide (xc9 (row:=none) R0.out g1 (by simp));clear g1 HH G0 R0;by_cases h1:hostS N.ld N.ln s pt
 ·rw [decide_eq_true h1];have p0:=xc7 R1.out 0 _ rfl;have p1:=xc7 R1.out 1 _ rfl;have p2:=xc7 R1.out 2 _ rfl;have p3:=xc7 R1.out 3 _ rfl;have p4:=xc7 R1.out 4 _ rfl;have p5:=xc7 R1.out 5 _ rfl;have HH1:=hide h1;clear h1;go_wp2_with fail;refine (HR.out _).mono ?_;rintro e w2 ⟨⟨bq,rfl,hbq⟩,g2⟩;have G2:=hide (xje G1.out g2);have R2:=hide (xc9 (row:=none) R1.out g2 (by simp));clear g2 HR G1 R1 p0 p1 p2 p3 p4 p5;have p0:=xc7 R2.out 0 _ rfl;have p1:=xc7 R2.out 1 _ rfl;have p2:=xc7 R2.out 2 _ rfl;have p3:=xc7 R2.out 3 _ rfl;have p4:=xc7 R2.out 4 _ rfl;have p5:=xc7 R2.out 5 _ rfl;have HBQ:=hide hbq;clear hbq;cases bq with
  | false=>
   have hnr:¬xtx k:=fun hr=>by have:=HBQ.out.2 hr;cases this
   have HE:Hid (sendS N.D N.ld N.ln N.a s pt k=(8,N.a)):=by show _=_;unfold sendS;rw [if_neg (fun h=>h HH1.out),if_pos hnr]
   clear hnr HBQ;go_wp2_with fail;exact FIN.out _ _ G2.out HE.out
  | true=>
   have hr:=HBQ.out.1 rfl;have HRR:=hide hr;clear hr HBQ;go_wp2_with fail;refine (HCR.out _ G2.out).mono ?_;rintro e w3 ⟨rfl,g3⟩;have G3:=hide (xje G2.out g3);have R3:=hide (xc9 (row:=none) R2.out g3 (by simp));clear g3 HCR G2 R2 p0 p1 p2 p3 p4 p5;have p0:=xc7 R3.out 0 _ rfl;have p1:=xc7 R3.out 1 _ rfl;have p2:=xc7 R3.out 2 _ rfl;have p3:=xc7 R3.out 3 _ rfl;have p4:=xc7 R3.out 4 _ rfl;have p5:=xc7 R3.out 5 _ rfl;by_cases h3:300<=N.a.waits N.D
   ·have HE:Hid (sendS N.D N.ld N.ln N.a s pt k=(7,N.a)):=by show _=_;unfold sendS;rw [if_neg (fun h=>h HH1.out),if_neg (fun h=>h HRR.out),if_pos h3]
    rw [decide_eq_true h3];clear h3;go_wp2_with fail;exact FIN.out _ _ G3.out HE.out
   ·have HE:Hid (sendS N.D N.ld N.ln N.a s pt k=(0,N.a.setWl s (N.a.wl s++[atP s pt k]))):=by show _=_;unfold sendS;rw [if_neg (fun h=>h HH1.out),if_neg (fun h=>h HRR.out),if_neg h3]
    rw [decide_eq_false h3];clear h3;go_wp2_with fail;refine (HWA.out _ G3.out).mono ?_;rintro e w4 ⟨rfl,ho⟩;have HO:=hide ho;clear ho HWA;go_wp2_with fail;exact FINW.out _ HO.out HE.out
 ·rw [decide_eq_false h1];have HE:Hid (sendS N.D N.ld N.ln N.a s pt k=(16,N.a)):=by show _=_;unfold sendS;rw [if_pos h1]
  clear h1;go_wp2_with fail;exact FIN.out _ _ G1.out HE.out
def rl0:Rl:=⟨0,fun _=>0,0,fun _ _=>0,.slice none 0 0⟩
def rlF(L:List Rl):Nat->Rl:=fun j=>(L[j]?).getD rl0
theorem xub:∀(L:List Rl) (j t:Nat),j<L.length->t<8->(rlsC L)[j*8+t]?=(rlCs (rlF L j))[t]?
 | [],j,t,h,_=>by simp at h
 | r::L,0,t,_,ht=>by
  show (rlCs r++rlsC L)[0*8+t]?=_;rw [Nat.zero_mul,Nat.zero_add,List.getElem?_append_left (by simpa [rlCs] using ht)];rfl
 | r::L,j+1,t,h,ht=>by
  show (rlCs r++rlsC L)[(j+1)*8+t]?=_;have hl:(rlCs r).length=8:=rfl;rw [List.getElem?_append_right (by omega),hl,show (j+1)*8+t-8=j*8+t by omega,xub L j t (by simpa using h) ht];rfl
theorem PkRow.toR{w:World}{v:Value}{n:Nat}{ps:Nat->Nat->Int}(h:PkRow w v n ps):PkR w v n ps:=by
 rcases h with ⟨rfl,rfl⟩|h
 ·exact .inl ⟨_,_,rfl,rfl,fun _=>rfl⟩
 ·exact .inr h
theorem xt7{L:List Rl}{j:Nat}(h:j<L.length):rlF L j∈L:=by
 unfold rlF;rw [List.getElem?_eq_getElem h];exact List.getElem_mem h
theorem NetAt.table{w:World}{B nb:Nat}{role:Nat->Role}{N:NetM}(h:NetAt w B nb role N){s:Nat}(hs:s<N.D)(hl:(N.dv s).rl.length<=100000):RlRow w ((N.dv s).vs 0) (N.dv s).rl.length (rlF (N.dv s).rl):=by
 have hr:=((h.dvs s hs).row 0 (by omega)).q;rcases hr.2 with ⟨e,e2⟩|⟨g,off,cap,cur,e,_⟩
 ·exact .inl ⟨_,_,e,e2⟩
 ·have e':(N.dv s).vs 0=.slice (some ⟨g,off,none⟩) (N.dv s).rl.length cap:=e;have hq:QRow 0 w 68 8 (.slice (some ⟨g,off,none⟩) (N.dv s).rl.length cap) (N.dv s).rl.length (rlsC (N.dv s).rl):=by rw [<-e'];exact hr
  refine .inr ⟨g,off,cap,e',by omega,fun j hj=>?_⟩
  have cell:∀t,t<8->w.cell? ⟨g,off+j*8+t,none⟩=(rlCs (rlF (N.dv s).rl j))[t]?:=fun t ht=>by
   rw [Nat.add_assoc,hq.cell (j*8+t) (by omega),xub _ j t hj ht]
  refine ⟨cell 0 (by omega),fun i hi=>?_,cell 7 (by omega),((h.dvs s hs).ru _ (.inl (xt7 hj))).pk.toR⟩;rw [cell (1+i) (by omega)];rcases (show i=0\/i=1\/i=2\/i=3\/i=4\/i=5 by omega) with rfl|rfl|rfl|rfl|rfl|rfl<;>rfl
def missM(k:Nat->Int):Msg:=⟨4,0,fun _=>0,0,fun _ _=>0,1,fun _=>k⟩
def enM(k:Nat->Int):ByteArray:=strB (encB (missM k))
theorem xnm{k:Nat->Int}(h:xtx k):canS (missM k):=by
 refine ⟨.inr (.inl ⟨rfl,⟨rfl,fun _ _=>rfl,rfl⟩,rfl,fun j _=>h⟩),?_⟩;unfold bodyB missM;simp only;rw [if_neg (by omega),if_neg (by omega)];simp [xrs]
theorem xtd(N:NetM)(s:Nat)(L:List (Nat->Int))(u:Value):(N.put s ((N.dv s).withWait L u)).a=N.a.setWl s L:=by
 rw [NetM.put_a];show NtA.mk (updN N.a.rl s (N.dv s).rl) (updN N.a.wl s L) (updN N.a.dl s (N.dv s).dl) (updN N.a.ul s (N.dv s).ul) (updN N.a.nl s (N.dv s).nl) N.a.del=_;rw [show updN N.a.rl s (N.dv s).rl=N.a.rl from x0i _ _,show updN N.a.dl s (N.dv s).dl=N.a.dl from x0i _ _,show updN N.a.ul s (N.dv s).ul=N.a.ul from x0i _ _,show updN N.a.nl s (N.dv s).nl=N.a.nl from x0i _ _];rfl
theorem xf7(w:World){B nb:Nat}{role:Nat->Role}{N:NetM}(h:NetAt w B nb role N){s:Nat}(hs:s<N.D)(hn:(N.dv s).wl=[]):
  Calls Tryz.prog 119 #[.pointer (some ⟨nb,0,none⟩),.int .i64 s] w (NAns B nb role N 15 N.a w):=by
 obtain ⟨P,hP⟩:∃P,P=NAns B nb role N 15 N.a w:=⟨_,rfl⟩;rw [<-hP];have FIN:Hid (∀w',w.grownBy w' none->P (.returned (.int .i64 15)) w'):=fun w' hg=>by rw [hP];exact ⟨rfl,NOut.same h hg⟩
 have hnb:w.cell? ⟨nb,4,none⟩=some (.slice (some ⟨N.db,0,none⟩) N.D N.D):=xc7 h.net 4 _ rfl;have hds:=h.dsz;have hsI:(s:Int)<N.D:=by omega
 obtain ⟨cur,c1,c2,c3⟩:=h.dev;have d0:=xc7 c1 (s*5+1) _ (c3 s hs 1 (by omega));obtain ⟨va,vc,hv⟩:=((h.dvs s hs).row 1 (by omega)).q.slice;have hl:(N.dv s).len 1=0:=by show (N.dv s).wl.length=0;rw [hn];rfl
 rw [hv,hl] at d0;clear h hP c1 c2 c3 hv hl hn;go_enter Tryz.func119,Tryz.ntmps119;go_wp2_with fail;exact FIN.out _ (by first|exact xjb _ _|exact xi7 (xjb _ _)|exact xi8 (xjb _ _) _)
theorem x02(A:NtA)(s:Nat)(L:List ByteArray):∀D,(A.setUl s L).waits D=A.waits D
 | 0=>rfl
 | D+1=>by rw [NtA.waits,NtA.waits,x02 A s L D];rfl
def DoOut(B nb:Nat)(role:Nat->Role)(N:NetM)(s:Nat)(k:Nat->Int)(rest:List (Nat->Int))(w:World)(e:Ending)(w':World):Prop:=
 ∃L b,LkS (rlF (N.dv s).rl) (N.dv s).rl.length k L b/\NAns B nb role N 0 (if b then outL N.D N.ld N.ln (N.a.setWl s rest) L else (N.a.setWl s rest).setUl s ((N.dv s).ul++[enM k])) w e w'
theorem xf9(w:World){B nb:Nat}{role:Nat->Role}{N:NetM}(h:NetAt w B nb role N)(hB:B<=w.heap.size){s:Nat}(hs:s<N.D){k:Nat->Int}{rest:List (Nat->Int)}(hn:(N.dv s).wl=k::rest)(hk:Nm k)(hkr:xtx k)(hrl:(N.dv s).rl.length<=100000)(hul:(N.dv s).ul.length<=100000000000)
  (hc:∀j,j<N.ln->0<=N.ld j 2/\N.ld j 2<N.D) (hwt:N.a.waits N.D<=300) (hdl:∀L b,LkS (rlF (N.dv s).rl) (N.dv s).rl.length k L b->N.del.length+L.length<=100000000000):
  Calls Tryz.prog 119 #[.pointer (some ⟨nb,0,none⟩),.int .i64 s] w (DoOut B nb role N s k rest w):=by
 obtain ⟨P,hP⟩:∃P,P=DoOut B nb role N s k rest w:=⟨_,rfl⟩;rw [<-hP];have HP:=hide hP;have hnb:w.cell? ⟨nb,4,none⟩=some (.slice (some ⟨N.db,0,none⟩) N.D N.D):=xc7 h.net 4 _ rfl;have hds:=h.dsz;have hsI:(s:Int)<N.D:=by omega
 obtain ⟨cur,c1,c2,c3⟩:=h.dev;have d0:=xc7 c1 (s*5+1) _ (c3 s hs 1 (by omega));have hrow:=(h.dvs s hs).row 1 (by omega);obtain ⟨va,vc,hv⟩:=hrow.q.slice;have hl:(N.dv s).len 1=rest.length+1:=by show (N.dv s).wl.length=_;rw [hn];rfl
 rw [hl] at hv;rw [hv] at d0
 have hq:QRow 0 w 46 6 (.slice va (rest.length+1) vc) (rest.length+1) (.int .i64 (k 0) :: .int .i64 (k 1) :: .int .i64 (k 2) :: .int .i64 (k 3) :: .int .i64 (k 4) :: .int .i64 (k 5)::pksC rest):=by
  have:=hrow.q;rw [hv,hl] at this
  have e:(N.dv s).xs 1=.int .i64 (k 0) :: .int .i64 (k 1) :: .int .i64 (k 2) :: .int .i64 (k 3) :: .int .i64 (k 4) :: .int .i64 (k 5)::pksC rest:=by
   show pksC (N.dv s).wl=_;rw [hn];rfl
  rw [e] at this;exact this
 obtain ⟨g,off,rfl,hcap⟩:=hq.some (by omega);have hgr:role g=.row s 1:=hrow.rl g (by rw [hv];rfl)
 have HT:Hid (Calls Tryz.prog 175 #[.pointer (some ⟨N.db,s*5+1,none⟩),.int .i64 0] w fun e w'=>e=.returned (.agg #[.int .i64 (k 0),.int .i64 (k 1),.int .i64 (k 2),.int .i64 (k 3),.int .i64 (k 4),.int .i64 (k 5)])/\∃role' v,NetAt w' B nb role' (N.put s ((N.dv s).withWait rest v))/\NStep w w' role role'):=by
  refine (xy5 0 N.db (s*5+1) g off rest.length vc 250 cur k (pksC rest) w c1 (by rw [c3 s hs 1 (by omega),hv]) hq).mono ?_;rintro e w1 ⟨e1,e2,e3⟩;have hq2:QRow 0 w (tyJ 1) (szJ 1) (((N.dv s).withWait rest (.slice (some ⟨g,tlO 6 off vc,none⟩) rest.length (vc-1))).vs 1) (((N.dv s).withWait rest (.slice (some ⟨g,tlO 6 off vc,none⟩) rest.length (vc-1))).len 1) (((N.dv s).withWait rest (.slice (some ⟨g,tlO 6 off vc,none⟩) rest.length (vc-1))).xs 1):=hq.tailT
  obtain ⟨role',r1,r2⟩:=h.setRow (w1:=w) (w2:=w1) hB hs (show 1<5 by omega) (xjb w none) (fun b e=>by cases e) (d':=(N.dv s).withWait rest (.slice (some ⟨g,tlO 6 off vc,none⟩) rest.length (vc-1))) (fun i _ hi=>DvM.withWait_other hi) hq2 (fun b k' _=>by cases k';exact hgr) (fun r' hm=>(h.dvs s hs).ru r' hm) e3 (fun cu' hcu=>by
   rw [c1] at hcu;cases hcu;exact e2)
  exact ⟨e1,role',_,r2,NStep.row e3 (fun b e _=>by cases e;rw [h.dbR];exact fun e=>by cases e) r1⟩
 have HN:=hide hn;have HK:=hide hk;have HKR:=hide hkr;have HC:=hide hc;have HDL:=hide hdl
 have HW:Hid ((N.a.setWl s rest).waits N.D<=300):=by
  show _<=_;have h1:=x01 N.a s rest N.D hs;have h2:(N.a.wl s).length=rest.length+1:=by show (N.dv s).wl.length=_;rw [hn];rfl
  omega
 clear h c1 c2 c3 hv hl hn hrow hq hgr hcap hP hk hkr hc hwt hdl;go_enter Tryz.func119,Tryz.ntmps119;go_wp2_with fail;refine HT.out.mono ?_;rintro e w1 ⟨rfl,role1,v1,n1,st1⟩
 have HLK:Hid (∀ww,w1.grownBy ww none->Calls Tryz.prog 65 #[(N.dv s).vs 0,.agg #[.int .i64 (k 0),.int .i64 (k 1),.int .i64 (k 2),.int .i64 (k 3),.int .i64 (k 4),.int .i64 (k 5)]] ww (LkOut (rlF (N.dv s).rl) (N.dv s).rl.length k ww)):=fun ww hg=>by
  have:=(n1.grown hg (fun b e=>by cases e)).table hs (by rw [NetM.put_dv];exact hrl);rw [NetM.put_dv] at this;exact xyy _ _ _ k ww this HK.out
 obtain ⟨cu1,x1,x2,x3⟩:=n1.dev
 have r0:w1.cell? ⟨N.db,s*5,none⟩=some ((N.dv s).vs 0):=by
  have:=xc7 x1 (s*5+0) _ (x3 s hs 0 (by omega));rw [NetM.put_dv] at this;exact this
 obtain ⟨ra,rc,hrv⟩:=((n1.dvs s hs).row 0 (by omega)).q.slice;rw [NetM.put_dv] at hrv;have hrv2:(N.dv s).vs 0=.slice ra (N.dv s).rl.length rc:=hrv;rw [hrv2] at r0 HLK;have hdb1:=World.block_lt_of_cell? w1 _ r0;simp only at hdb1;have N1:=hide n1;have S1:=hide st1;clear n1 st1 HT x1 x2 x3 hrv hrv2;obtain ⟨wK,hwK⟩:∃wK,wK=w1.alloc (.cells #[.int .i64 (k 0),.int .i64 (k 1),.int .i64 (k 2),.int .i64 (k 3),.int .i64 (k 4),.int .i64 (k 5)] 46):=⟨_,rfl⟩;have GK:Hid (w1.grownBy wK none):=by rw [hwK];exact World.grownBy_alloc _ _ _
 have RK:Hid (wK.heap[w1.heap.size]?=some (.cells #[.int .i64 (k 0),.int .i64 (k 1),.int .i64 (k 2),.int .i64 (k 3),.int .i64 (k 4),.int .i64 (k 5)] 46 (0,0))):=by show _=_;rw [hwK];exact heap_alloc_new w1 _
 go_upto_region 5 with fail
 rw [<-hwK];clear hwK;have r0':wK.cell? ⟨N.db,s*5,none⟩=some (.slice ra (N.dv s).rl.length rc):=GK.out.cell r0 (by simp);have p0:=xc7 RK.out 0 _ rfl;have p1:=xc7 RK.out 1 _ rfl;have p2:=xc7 RK.out 2 _ rfl;have p3:=xc7 RK.out 3 _ rfl;have p4:=xc7 RK.out 4 _ rfl;have p5:=xc7 RK.out 5 _ rfl;clear r0
 have OUT:Hid (∀(L:List (Nat->Int)) (m:Nat) (d:Nat->Nat->Int) (ma:Option Addr) (mc:Nat) (w2 ww:World) (role2:Nat->Role) (N2:NetM),Is L m d->OwnV w1.heap.size w2 (.slice ma m mc) m d->w1.grownBy w2 none->NetAt ww B nb role2 N2->NStep w2 ww role1 role2->Stat N2 N->N2.a.waits N.D<=300->N2.del.length+m<=100000000000->Calls Tryz.prog 171 #[.pointer (some ⟨nb,0,none⟩),.slice ma m mc] ww fun e w'=>e=.returned (.tuple #[])/\NOut B nb role2 N2 (outL N.D N.ld N.ln N2.a L) ww w'):=fun L m d ma mc w2 ww role2 N2 h1 h2 h3 h4 h5 h6 h7 h8=>by
  have hpk:PkRow w2 (.slice ma m mc) m d:=by
   rcases h2 with ⟨e1,e2⟩|⟨g',cap,_,e1,e2⟩
   ·exact .inl ⟨e1,e2⟩
   ·rw [e1];exact e2.row
  have hfree:∀b,(Value.slice ma m mc).ownBlock=some b->role2 b=.free/\b<ww.heap.size/\ww.heap[b]?=w2.heap[b]?:=fun b hb=>by
   have hb2:=h2.lt b hb;have h0:role1 b=.free:=N1.out.new hb2.1;exact ⟨by rw [h5.same b hb2.2];exact h0,Nat.lt_of_lt_of_le hb2.2 h5.kp.size,h5.kp.2.2.2.2 b hb2.2 (fun e=>e h0)⟩
  have:=xp9 ww h4 (Nat.le_trans hB (Nat.le_trans S1.out.kp.size (Nat.le_trans h3.size h5.kp.size))) ma m mc d L h1 (hpk.same (fun b hb=>(hfree b hb).2.2)) (fun b hb=>⟨(hfree b hb).1,(hfree b hb).2.1⟩) (by rw [h6.ln,h6.ld,h6.D];exact HC.out) (by rw [h6.D];exact h7) h8;rw [h6.D,h6.ld,h6.ln] at this;exact this
 go_region_with (go_at_call 65;refine (HLK.out _ (by first|exact xi7 GK.out|exact GK.out)).mono ?_;rintro e w2 ⟨L,b,v,m,d,hlk,his,hown,rfl,g2⟩;obtain ⟨ma,mc,hmv⟩:=hown.slice;subst hmv;have GK2:Hid (wK.grownBy w2 none):=(by first|exact xjf g2|exact g2);have G2:=hide (xje GK.out GK2.out);have LKS:=hide hlk;have IS:=hide his;have OW:Hid (OwnV w1.heap.size w2 (.slice ma m mc) m d):=hown.mono GK.out.size;clear hlk his hown g2)
 all_goals
  have RK2:=hide (xc9 (row:=none) RK.out GK2.out (by simp));clear p0 p1 p2 p3 p4 p5 RK r0' HLK;have p0:=xc7 RK2.out 0 _ rfl;have p1:=xc7 RK2.out 1 _ rfl;have p2:=xc7 RK2.out 2 _ rfl;have p3:=xc7 RK2.out 3 _ rfl;have p4:=xc7 RK2.out 4 _ rfl;have p5:=xc7 RK2.out 5 _ rfl;have hz2:w1.heap.size<w2.heap.size:=(Array.getElem?_eq_some_iff.1 RK2.out).1;cases b with
  | true=>
   have FIN:Hid (∀w',NOut B nb role1 (N.put s ((N.dv s).withWait rest v1)) (outL N.D N.ld N.ln (N.put s ((N.dv s).withWait rest v1)).a L) w2 w'->P (.returned (.int .i64 0)) w'):=fun w' ho=>by
    rw [HP.out];refine ⟨L,true,LKS.out,rfl,?_⟩;obtain ⟨role',N',k1,k2,k3,k4⟩:=ho;rw [xtd] at k3;exact ⟨role',N',k1,S1.out.trans ((NStep.of G2.out).trans k2),k3,Stat.trans (N1:=N.put s ((N.dv s).withWait rest v1)) ⟨rfl,rfl,rfl,rfl,rfl,rfl,rfl,rfl⟩ k4⟩
   have HO:=hide (OUT.out L m d ma mc w2 w2 role1 _ IS.out OW.out G2.out (N1.out.grown G2.out (fun b e=>by cases e)) (NStep.of (xjb _ _)) ⟨rfl,rfl,rfl,rfl,rfl,rfl,rfl,rfl⟩ (by rw [xtd];exact HW.out) (by have:=HDL.out L true LKS.out;rw [IS.out.len] at this;exact this));clear OUT;go_wp2_with fail;refine HO.out.mono ?_;rintro e w3 ⟨rfl,ho⟩;have HE:=hide (FIN.out w3 ho);clear ho HO FIN;go_wp2_with fail;exact HE.out
  | false=>
   have hL0:L=[]:=by
    rcases LKS.out with ⟨_,_,_,_,_,e⟩|⟨_,e,_⟩
    ·cases e
    ·exact e
   obtain ⟨wM,hwM⟩:∃wM,wM=w2.alloc (.cells #[.int .i64 (k 0),.int .i64 (k 1),.int .i64 (k 2),.int .i64 (k 3),.int .i64 (k 4),.int .i64 (k 5)] 46):=⟨_,rfl⟩;have GM:Hid (w2.grownBy wM none):=by rw [hwM];exact World.grownBy_alloc _ _ _
   have RM:Hid (wM.heap[w2.heap.size]?=some (.cells #[.int .i64 (k 0),.int .i64 (k 1),.int .i64 (k 2),.int .i64 (k 3),.int .i64 (k 4),.int .i64 (k 5)] 46 (0,0))):=by show _=_;rw [hwM];exact heap_alloc_new w2 _
   have HTL:Hid (Calls Tryz.prog 170 #[.pointer (some ⟨N.db,s*5,none⟩),.agg #[.int .i64 4,.int .i64 0,.int .i64 0,.int .i64 0,.int .i64 0,.int .i64 0,.int .i64 0,.int .i64 0,.slice none 0 0,.slice (some ⟨w2.heap.size,0,none⟩) 1 1]] wM fun e w'=>e=.returned (.tuple #[])/\∃role2 N2,NetAt w' B nb role2 N2/\NStep w2 w' role1 role2/\N2.a=(N.a.setWl s rest).setUl s ((N.dv s).ul++[enM k])/\Stat N2 N):=by
    have:=xzh (missM k) none (some ⟨w2.heap.size,0,none⟩) 0 1 wM (xnm HKR.out) (PkRow.none _ _) (.inr ⟨w2.heap.size,0,1,rfl,by show 1<=_;omega,fun j hj t ht=>by
     have hj0:j=0:=by have:j<1:=hj;omega
     subst hj0;rw [Nat.zero_mul,Nat.add_zero,Nat.zero_add];rcases (show t=0\/t=1\/t=2\/t=3\/t=4\/t=5 by omega) with rfl|rfl|rfl|rfl|rfl|rfl<;>exact xc7 RM.out _ _ rfl⟩) (RowIn.none _ _ _) (fun g' off' n' cap' e=>by cases e;exact (Array.getElem?_eq_some_iff.1 RM.out).1) (N1.out.grown (xje G2.out GM.out) (fun b e=>by cases e)) (Nat.le_trans hB (Nat.le_trans S1.out.kp.size (Nat.le_trans G2.out.size GM.out.size))) hs (by rw [NetM.put_dv];exact Nat.le_trans hul (by omega))
    refine this.mono ?_;intro e w' ho;obtain ⟨h1,h2⟩:=ho.d;refine ⟨h1,?_⟩;obtain ⟨role',N',k1,k2,k3,k4⟩:=h2.up;rw [NetM.put_dv,xtd] at k3;exact ⟨role',N',k1,(NStep.of GM.out).trans k2,k3,Stat.trans (N1:=N.put s ((N.dv s).withWait rest v1)) ⟨rfl,rfl,rfl,rfl,rfl,rfl,rfl,rfl⟩ k4⟩
   go_wp2_with fail;rw [<-hwM];clear hwM;refine HTL.out.mono ?_;rintro e w3 ⟨rfl,role2,N2,k1,k2,k3,k4⟩
   have HO:=hide (OUT.out L m d ma mc w2 w3 role2 N2 IS.out OW.out G2.out k1 k2 k4 (by rw [k3,x02];exact HW.out) (by
    have e1:N2.del=N.del:=by have:=congrArg NtA.del k3;exact this
    have:=HDL.out L false LKS.out;rw [IS.out.len] at this;rw [e1];exact this))
   have FIN:Hid (∀w',NOut B nb role2 N2 (outL N.D N.ld N.ln N2.a L) w3 w'->P (.returned (.int .i64 0)) w'):=fun w' ho=>by
    rw [HP.out];refine ⟨L,false,LKS.out,rfl,?_⟩;obtain ⟨role',N',j1,j2,j3,j4⟩:=ho;rw [hL0] at j3;exact ⟨role',N',j1,(S1.out.trans ((NStep.of G2.out).trans k2)).trans j2,j3.trans k3,k4.trans j4⟩
   clear k1 k2 k3 k4 HTL OUT hL0;go_wp2_with fail;refine HO.out.mono ?_;rintro e w4 ⟨rfl,ho⟩;have HE:=hide (FIN.out w4 ho);clear ho HO FIN;go_wp2_with fail;exact HE.out
theorem xtc(N:NetM)(s:Nat)(L:List ByteArray)(u:Value):(N.put s ((N.dv s).withUp L u)).a=N.a.setUl s L:=by
 rw [NetM.put_a];show NtA.mk (updN N.a.rl s (N.dv s).rl) (updN N.a.wl s (N.dv s).wl) (updN N.a.dl s (N.dv s).dl) (updN N.a.ul s L) (updN N.a.nl s (N.dv s).nl) N.a.del=_;rw [show updN N.a.rl s (N.dv s).rl=N.a.rl from x0i _ _,show updN N.a.wl s (N.dv s).wl=N.a.wl from x0i _ _,show updN N.a.dl s (N.dv s).dl=N.a.dl from x0i _ _,show updN N.a.nl s (N.dv s).nl=N.a.nl from x0i _ _];rfl
theorem xff(w:World){B nb:Nat}{role:Nat->Role}{N:NetM}(h:NetAt w B nb role N){s:Nat}(hs:s<N.D)(hn:(N.dv s).ul=[]):
  Calls Tryz.prog 121 #[.pointer (some ⟨nb,0,none⟩),.int .i64 s] w (NAns B nb role N 15 N.a w):=by
 obtain ⟨P,hP⟩:∃P,P=NAns B nb role N 15 N.a w:=⟨_,rfl⟩;rw [<-hP];have FIN:Hid (∀w',w.grownBy w' none->P (.returned (.int .i64 15)) w'):=fun w' hg=>by rw [hP];exact ⟨rfl,NOut.same h hg⟩
 have hnb:w.cell? ⟨nb,4,none⟩=some (.slice (some ⟨N.db,0,none⟩) N.D N.D):=xc7 h.net 4 _ rfl;have hds:=h.dsz;have hsI:(s:Int)<N.D:=by omega
 obtain ⟨cur,c1,c2,c3⟩:=h.dev;have d0:=xc7 c1 (s*5+3) _ (c3 s hs 3 (by omega));obtain ⟨va,vc,hv⟩:=((h.dvs s hs).row 3 (by omega)).q.slice;have hl:(N.dv s).len 3=0:=by show (N.dv s).ul.length=0;rw [hn];rfl
 rw [hv,hl] at d0;clear h hP c1 c2 c3 hv hl hn;go_enter Tryz.func121,Tryz.ntmps121;go_wp2_with fail;exact FIN.out _ (by first|exact xjb _ _|exact xi7 (xjb _ _)|exact xi8 (xjb _ _) _)
theorem xfc(w:World){B nb:Nat}{role:Nat->Role}{N:NetM}(h:NetAt w B nb role N)(hB:B<=w.heap.size){s:Nat}(hs:s<N.D){rest:List ByteArray}(hn:(N.dv s).ul=enK 3::rest)(hlen:(N.dv s).dl.length<=100000000000)(hcan:∀r∈(N.dv s).nl,canS (rulM r)):
  Calls Tryz.prog 121 #[.pointer (some ⟨nb,0,none⟩),.int .i64 s] w (NAns B nb role N 0 (match (N.dv s).nl with|[]=>N.a.setUl s rest|r::nl=>((N.a.setUl s rest).setDl s ((N.dv s).dl++[enA r,enK 2])).setNl s nl) w):=by
 obtain ⟨A',hA'⟩:∃A',A'=(match (N.dv s).nl with|[]=>N.a.setUl s rest|r::nl=>((N.a.setUl s rest).setDl s ((N.dv s).dl++[enA r,enK 2])).setNl s nl:NtA):=⟨_,rfl⟩;rw [<-hA'];obtain ⟨P,hP⟩:∃P,P=NAns B nb role N 0 A' w:=⟨_,rfl⟩;rw [<-hP];have HP:=hide hP;have hnb:w.cell? ⟨nb,4,none⟩=some (.slice (some ⟨N.db,0,none⟩) N.D N.D):=xc7 h.net 4 _ rfl;have hds:=h.dsz;have hsI:(s:Int)<N.D:=by omega
 obtain ⟨cur,c1,c2,c3⟩:=h.dev;have d0:=xc7 c1 (s*5+3) _ (c3 s hs 3 (by omega));obtain ⟨va,vc,hv⟩:=((h.dvs s hs).row 3 (by omega)).q.slice;have hl:(N.dv s).len 3=rest.length+1:=by show (N.dv s).ul.length=_;rw [hn];rfl
 rw [hv,hl] at d0;have HT:=hide (fun ww (hg:w.grownBy ww none)=>xzg ww (h.grown hg (fun b e=>by cases e)) (Nat.le_trans hB hg.size) hs (i:=0) (kindM 3) (xks (.inr (.inl rfl))) (by rw [hn];rfl));have HER:Hid ((N.dv s).ul.eraseIdx 0=rest):=by show _=_;rw [hn];rfl
 have HA:=hide hA';have HCAN:=hide hcan;clear h hP c1 c2 c3 hv hl hn hA' hcan;go_enter Tryz.func121,Tryz.ntmps121;go_wp2_with fail;refine (HT.out w (xjb _ _)).mono ?_;rintro e w2 ⟨m',av,pv,hsm,rfl,role2,u,n2,st2,pk1,pk2,fr1,fr2⟩;have hk:m'.kind=3:=hsm.kind;obtain ⟨xa,xc,rfl⟩:=pk1.slice;obtain ⟨ya,yc,rfl⟩:=pk2.slice;rw [HER.out] at n2
 have HTL:Hid (∀ww,w2.grownBy ww none->Calls Tryz.prog 158 #[.pointer (some ⟨N.db,s*5,none⟩)] ww fun e w'=>e=.returned (.tuple #[])/\P (.returned (.int .i64 0)) w'):=fun ww hg=>by
  have hN:=n2.grown hg (fun b e=>by cases e);cases hnl:(N.dv s).nl with
  | nil=>
   refine (xvp ww hN hs (by rw [NetM.put_dv];exact hnl)).mono ?_;rintro e w' ⟨h1,h2⟩;refine ⟨h1,?_⟩;rw [HP.out];refine ⟨rfl,role2,_,hN.grown h2 (fun b e=>by cases e),st2.trans ((NStep.of hg).trans (NStep.of h2)),?_,⟨rfl,rfl,rfl,rfl,rfl,rfl,rfl,rfl⟩⟩;rw [xtc,HA.out,hnl]
  | cons r nl=>
   refine (xvq ww hN (Nat.le_trans hB (Nat.le_trans st2.kp.size hg.size)) hs (by rw [NetM.put_dv];exact hnl) (HCAN.out r (by rw [hnl];exact List.mem_cons_self)) (by rw [NetM.put_dv];exact hlen)).mono ?_;rintro e w' ⟨h1,h2⟩;refine ⟨h1,?_⟩;rw [HP.out];obtain ⟨role',N',k1,k2,k3,k4⟩:=h2.n;refine ⟨rfl,role',N',k1,st2.trans ((NStep.of hg).trans k2),?_,Stat.trans (N1:=N.put s ((N.dv s).withUp rest u)) ⟨rfl,rfl,rfl,rfl,rfl,rfl,rfl,rfl⟩ k4⟩;rw [k3,xtc,NetM.put_dv,HA.out,hnl];show NtA.mk (updN N.a.rl s (N.dv s).rl) (updN N.a.wl s (N.dv s).wl) (updN N.a.dl s ((N.dv s).dl++[enA r,enK 2])) (updN (updN N.a.ul s rest) s rest) (updN N.a.nl s nl) N.a.del=NtA.mk N.a.rl N.a.wl (updN N.a.dl s ((N.dv s).dl++[enA r,enK 2])) (updN N.a.ul s rest) (updN N.a.nl s nl) N.a.del;rw [show updN N.a.rl s (N.dv s).rl=N.a.rl from x0i _ _,show updN N.a.wl s (N.dv s).wl=N.a.wl from x0i _ _];congr 1;funext t;unfold updN;by_cases ht:t=s
   ·rw [if_pos ht,if_pos ht]
   ·rw [if_neg ht]
 unfold msgV;clear hsm n2 st2 pk1 pk2 fr1 fr2 HT;go_wp2_with fail;refine (HTL.out _ (World.grownBy_alloc _ _ _)).mono ?_;rintro e w3 ⟨rfl,hp⟩;have HPP:=hide hp;clear hp HTL;go_wp2_with fail;exact HPP.out
theorem xfd(w:World){B nb:Nat}{role:Nat->Role}{N:NetM}(h:NetAt w B nb role N)(hB:B<=w.heap.size){s:Nat}(hs:s<N.D){rest:List ByteArray}(hn:(N.dv s).ul=enK 6::rest):
  Calls Tryz.prog 121 #[.pointer (some ⟨nb,0,none⟩),.int .i64 s] w (NAns B nb role N 0 ((N.a.setUl s rest).setNl s []) w):=by
 obtain ⟨A',hA'⟩:∃A',A'=((N.a.setUl s rest).setNl s []):=⟨_,rfl⟩;rw [<-hA'];obtain ⟨P,hP⟩:∃P,P=NAns B nb role N 0 A' w:=⟨_,rfl⟩;rw [<-hP];have HP:=hide hP;have hnb:w.cell? ⟨nb,4,none⟩=some (.slice (some ⟨N.db,0,none⟩) N.D N.D):=xc7 h.net 4 _ rfl;have hds:=h.dsz;have hsI:(s:Int)<N.D:=by omega
 obtain ⟨cur,c1,c2,c3⟩:=h.dev;have d0:=xc7 c1 (s*5+3) _ (c3 s hs 3 (by omega));obtain ⟨va,vc,hv⟩:=((h.dvs s hs).row 3 (by omega)).q.slice;have hl:(N.dv s).len 3=rest.length+1:=by show (N.dv s).ul.length=_;rw [hn];rfl
 rw [hv,hl] at d0;have HT:=hide (fun ww (hg:w.grownBy ww none)=>xzg ww (h.grown hg (fun b e=>by cases e)) (Nat.le_trans hB hg.size) hs (i:=0) (kindM 6) (xks (.inr (.inr rfl))) (by rw [hn];rfl));have HER:Hid ((N.dv s).ul.eraseIdx 0=rest):=by show _=_;rw [hn];rfl
 have HA:=hide hA';clear h hP c1 c2 c3 hv hl hn hA';go_enter Tryz.func121,Tryz.ntmps121;go_wp2_with fail;refine (HT.out w (xjb _ _)).mono ?_;rintro e w2 ⟨m',av,pv,hsm,rfl,role2,u,n2,st2,pk1,pk2,fr1,fr2⟩;have hk:m'.kind=6:=hsm.kind;obtain ⟨xa,xc,rfl⟩:=pk1.slice;obtain ⟨ya,yc,rfl⟩:=pk2.slice;rw [HER.out] at n2
 have DC:Hid (∀ww,w2.grownBy ww none->(∃v,ww.cell? ⟨N.db,s*5+4,none⟩=some v)/\ww.frozen? ⟨N.db,s*5+4,none⟩=false):=fun ww hg=>by
  have hh:=n2.grown hg (fun b e=>by cases e);obtain ⟨cu,x1,x2,x3⟩:=hh.dev
  exact ⟨⟨_,xc7 x1 (s*5+4) _ (x3 s hs 4 (by omega))⟩,by
   have x1':ww.heap[N.db]?=some (.cells cu 250 (0,0)):=x1;simp [World.frozen?,x1']⟩
 have FIN:Hid (∀w4,(w2.setCell ⟨N.db,s*5+4,none⟩ (.slice none 0 0)).grownBy w4 none->P (.returned (.int .i64 0)) w4):=fun w4 hg4=>by
  obtain ⟨role3,r1,r2⟩:=n2.setRow (w1:=w2) (w2:=w2.setCell ⟨N.db,s*5+4,none⟩ (.slice none 0 0)) (Nat.le_trans hB st2.kp.size) hs (show 4<5 by omega) (xjb w2 none) (fun b e=>by cases e) (d':=((N.put s ((N.dv s).withUp rest u)).dv s).withUnsent [] (.slice none 0 0)) (fun i h5 hi=>DvM.withUnsent_other hi h5) (QRow.nil 0 w2 68 8) (fun b k' _=>by cases k') (fun r' hm=>(n2.dvs s hs).ru r' (by
   rcases hm with hm|hm
   ·exact .inl hm
   ·cases hm)) (xjc _ _ _ _) (fun cu' hcu=>xjh hcu _ _)
  rw [HP.out];refine ⟨rfl,role3,(N.put s ((N.dv s).withUp rest u)).put s (((N.put s ((N.dv s).withUp rest u)).dv s).withUnsent [] (.slice none 0 0)),r2.grown hg4 (fun b e=>by cases e),(st2.trans (NStep.row (xjc _ _ _ _) (fun b e _=>by cases e;have hR:role2 N.db=.dev:=n2.dbR;rw [hR];exact fun e=>by cases e) r1)).trans (NStep.of hg4),?_,⟨rfl,rfl,rfl,rfl,rfl,rfl,rfl,rfl⟩⟩;rw [NetM.put_put,NetM.put_dv,NetM.put_a,HA.out];show NtA.mk (updN N.a.rl s (N.dv s).rl) (updN N.a.wl s (N.dv s).wl) (updN N.a.dl s (N.dv s).dl) (updN N.a.ul s rest) (updN N.a.nl s []) N.a.del=_;rw [show updN N.a.rl s (N.dv s).rl=N.a.rl from x0i _ _,show updN N.a.wl s (N.dv s).wl=N.a.wl from x0i _ _,show updN N.a.dl s (N.dv s).dl=N.a.dl from x0i _ _];rfl
 obtain ⟨⟨v4,e4⟩,f4⟩:=DC.out w2 (xjb _ _);have hdb2:=World.block_lt_of_cell? w2 _ e4;simp only at hdb2;unfold msgV;clear hsm n2 st2 pk1 pk2 fr1 fr2 HT;go_wp2_with fail;exact FIN.out _ (World.grownBy_alloc _ _ _)
def RunH(w0:World)(fl:Value)(fq:Int)(pol:(Nat->Int)->List (Nat->Int)):Prop:=
 ∀ww k,w0.grownBy ww none->Nm k->xtx k->Calls Tryz.prog 56 #[.agg #[fl,.int .i64 fq],pkV k] ww fun x w'=>∃a c d,x=.returned (.slice a (pol k).length c)/\OwnV ww.heap.size w' (.slice a (pol k).length c) (pol k).length d/\Is (pol k) (pol k).length d/\ww.grownBy w' none
theorem NStep.old{w0 w w':World}{B nb:Nat}{role role':Nat->Role}{N:NetM}(h:NetAt w B nb role N)(hs:NStep w w' role role')(h0:w0.heap.size<=B)(hg:w0.grownBy w none):w0.grownBy w' none:=by
 refine ⟨hs.kp.1.trans hg.os,hs.kp.2.1.trans hg.tape,hs.kp.2.2.1.trans hg.output,Nat.le_trans hg.size hs.kp.2.2.2.1,fun b hb hne=>?_⟩;have hf:¬role b ≠ .free:=fun e=>by have:=(h.low b e).1;omega
 exact (hs.kp.2.2.2.2 b (Nat.lt_of_lt_of_le hb hg.size) hf).trans (hg.block b hb hne)
theorem OwnV.pkRow{B:Nat}{w:World}{v:Value}{n:Nat}{d:Nat->Nat->Int}(h:OwnV B w v n d):PkRow w v n d:=by
 rcases h with h|⟨g,cap,_,rfl,h⟩
 ·exact .inl h
 ·exact h.row
theorem xfe(w0 w:World){B nb:Nat}{role:Nat->Role}{N:NetM}(h:NetAt w B nb role N)(hB:B<=w.heap.size)(h0:w0.grownBy w none)(h00:w0.heap.size<=B){pol:(Nat->Int)->List (Nat->Int)}(hR:RunH w0 N.fl N.fq pol)(hfl:∃a n c,N.fl=.slice a n c){s:Nat}(hs:s<N.D){k:Nat->Int}{rest:List ByteArray}(hn:(N.dv s).ul=enM k::rest)(hk:Nm k)(hkr:xtx k)(hlen:(N.dv s).dl.length<=100000000000)(hcan:canS (outM (pol k))):
  Calls Tryz.prog 121 #[.pointer (some ⟨nb,0,none⟩),.int .i64 s] w (NAns B nb role N 0 ((N.a.setUl s rest).setDl s ((N.dv s).dl++[strB (encB (outM (pol k)))])) w):=by
 obtain ⟨A',hA'⟩:∃A',A'=((N.a.setUl s rest).setDl s ((N.dv s).dl++[strB (encB (outM (pol k)))])):=⟨_,rfl⟩;rw [<-hA'];obtain ⟨P,hP⟩:∃P,P=NAns B nb role N 0 A' w:=⟨_,rfl⟩;rw [<-hP];have HP:=hide hP;have hnb:w.cell? ⟨nb,4,none⟩=some (.slice (some ⟨N.db,0,none⟩) N.D N.D):=xc7 h.net 4 _ rfl;have hds:=h.dsz;have hsI:(s:Int)<N.D:=by omega
 obtain ⟨cur,c1,c2,c3⟩:=h.dev;have d0:=xc7 c1 (s*5+3) _ (c3 s hs 3 (by omega));obtain ⟨va,vc,hv⟩:=((h.dvs s hs).row 3 (by omega)).q.slice;have hl:(N.dv s).len 3=rest.length+1:=by show (N.dv s).ul.length=_;rw [hn];rfl
 rw [hv,hl] at d0;have HT:=hide (fun ww (hg:w.grownBy ww none)=>xzg ww (h.grown hg (fun b e=>by cases e)) (Nat.le_trans hB hg.size) hs (i:=0) (missM k) (xnm hkr) (by rw [hn];rfl));have HER:Hid ((N.dv s).ul.eraseIdx 0=rest):=by show _=_;rw [hn];rfl
 have HA:=hide hA';have HH:=hide h;have HG0:=hide h0;have HRUN:=hide hR;have HCAN:=hide hcan;have HKN:=hide hk;have HKR:=hide hkr;obtain ⟨fa,fn,fc,hfl⟩:=hfl;have HFL:=hide hfl;obtain ⟨L,hL⟩:∃L,L=pol k:=⟨_,rfl⟩;have HL:=hide hL;clear h hP c1 c2 c3 hv hl hn hA' hcan hR h0 hk hkr hfl hL;go_enter Tryz.func121,Tryz.ntmps121;go_wp2_with fail;refine (HT.out w (xjb _ _)).mono ?_;rintro e w2 ⟨m',av,pv,hsm,rfl,role2,u,n2,st2,pk1,pk2,fr1,fr2⟩;have hkd:m'.kind=4:=hsm.kind;have hnp:m'.np=1:=hsm.np;obtain ⟨xa,xc,rfl⟩:=pk1.slice;obtain ⟨ya,yc,rfl⟩:=pk2.slice;rw [HER.out] at n2;rw [hnp] at pk2;obtain ⟨g,off,rfl,hq⟩:=xro pk2 (by omega)
 have q:∀i,i<6->w2.cell? ⟨g,off+i,none⟩=some (.int .i64 (k i)):=fun i hi=>by
  have e1:=hq 0 (by omega) i hi;rw [Nat.zero_mul,Nat.add_zero] at e1;rw [e1,hsm.pks 0 (by show 0<1;omega) i hi];rfl
 have q0:w2.cell? ⟨g,off,none⟩=_:=q 0 (by omega);have q1:=q 1 (by omega);have q2:=q 2 (by omega);have q3:=q 3 (by omega);have q4:=q 4 (by omega);have q5:=q 5 (by omega);have hgl:=World.block_lt_of_cell? w2 _ q1;simp only at hgl;have G02:=hide (NStep.old HH.out st2 h00 HG0.out)
 have f0:w2.cell? ⟨nb,0,none⟩=some (.slice fa fn fc):=by
  have:w2.cell? ⟨nb,0,none⟩=some N.fl:=xc7 n2.net 0 _ rfl;rw [this,HFL.out]
 have f1:w2.cell? ⟨nb,1,none⟩=some (.int .i64 N.fq):=xc7 n2.net 1 _ rfl;have hnl:=World.block_lt_of_cell? w2 _ f1;simp only at hnl
 have HRU:Hid (∀ww,w2.grownBy ww none->Calls Tryz.prog 56 #[.agg #[.slice fa fn fc,.int .i64 N.fq],.agg #[.int .i64 (k 0),.int .i64 (k 1),.int .i64 (k 2),.int .i64 (k 3),.int .i64 (k 4),.int .i64 (k 5)]] ww fun x w'=>∃a c d,x=.returned (.slice a L.length c)/\OwnV ww.heap.size w' (.slice a L.length c) L.length d/\Is L L.length d/\ww.grownBy w' none):=fun ww hg=>by
  rw [HL.out];have:=HRUN.out ww k (xje G02.out hg) HKN.out HKR.out;rw [HFL.out] at this;exact this
 have HTL:Hid (∀ww w3 a c d,w2.grownBy ww none->OwnV ww.heap.size w3 (.slice a L.length c) L.length d->Is L L.length d->ww.grownBy w3 none->∀w4,w3.grownBy w4 none->Calls Tryz.prog 178 #[.pointer (some ⟨N.db,s*5,none⟩),.agg #[.int .i64 5,.int .i64 0,.int .i64 0,.int .i64 0,.int .i64 0,.int .i64 0,.int .i64 0,.int .i64 0,.slice none 0 0,.slice a L.length c]] w4 fun e w'=>e=.returned (.tuple #[])/\P (.returned (.int .i64 0)) w'):=fun ww w3 a c d hg ho hi hg2 w4 hg3=>by
  have hgg:=xje (xje hg hg2) hg3;have hN:=n2.grown hgg (fun b e=>by cases e)
  have hpk:PkRow w4 (.slice a L.length c) L.length (outM L).pks:=by
   have h1:=(ho.pkRow).grown hg3;rcases h1 with e|⟨g',off',cap',e,e2,e3⟩
   ·exact .inl e
   ·refine .inr ⟨g',off',cap',e,e2,fun j hj t ht=>?_⟩;rw [e3 j hj t ht];have:=hi.2 j hj;show _=some (Value.int .i64 (((L[j]?).getD (fun _=>0)) t));rw [this];rfl
  have hlt:RowIn w4.heap.size (.slice a L.length c):=fun g' off' n' cap' e=>by
   rcases hpk with ⟨e1,_⟩|⟨g2,o2,c2,e1,e2,e3⟩
   ·rw [e1] at e;cases e
   ·rw [e1] at e;cases e;by_cases hz:L.length=0
    ·rcases ho with ⟨h1,_⟩|⟨g3,c3,h1,h2,h3⟩
     ·rw [h1] at e1;cases e1
     ·rw [h2] at e1;cases e1;exact Nat.lt_of_lt_of_le h3.lt hg3.size
    ·have:=World.block_lt_of_cell? w4 _ (e3 0 (by omega) 0 (by omega));exact this
  have hc2:canS (outM L):=by rw [HL.out];exact HCAN.out
  refine (xvr (outM L) none a 0 c w4 hc2 (PkRow.none _ _) hpk (RowIn.none _ _ _) hlt hN (Nat.le_trans hB (Nat.le_trans st2.kp.size hgg.size)) hs (by rw [NetM.put_dv];exact Nat.le_trans hlen (by omega))).mono ?_;intro e w' hso;obtain ⟨e1,h2⟩:=hso.d;refine ⟨e1,?_⟩;rw [HP.out];obtain ⟨role',N',k1,k2,k3,k4⟩:=h2.n;refine ⟨rfl,role',N',k1,st2.trans ((NStep.of hgg).trans k2),?_,Stat.trans (N1:=N.put s ((N.dv s).withUp rest u)) ⟨rfl,rfl,rfl,rfl,rfl,rfl,rfl,rfl⟩ k4⟩;rw [k3,xtc,NetM.put_dv,HA.out,<-HL.out];show NtA.mk (updN N.a.rl s (N.dv s).rl) (updN N.a.wl s (N.dv s).wl) (updN N.a.dl s ((N.dv s).dl++[strB (encB (outM L))])) (updN (updN N.a.ul s rest) s rest) (updN N.a.nl s (N.dv s).nl) N.a.del=NtA.mk N.a.rl N.a.wl (updN N.a.dl s ((N.dv s).dl++[strB (encB (outM L))])) (updN N.a.ul s rest) N.a.nl N.a.del;rw [show updN N.a.rl s (N.dv s).rl=N.a.rl from x0i _ _,show updN N.a.wl s (N.dv s).wl=N.a.wl from x0i _ _,show updN N.a.nl s (N.dv s).nl=N.a.nl from x0i _ _];congr 1;funext t;unfold updN;by_cases ht:t=s
  ·rw [if_pos ht,if_pos ht]
  ·rw [if_neg ht]
 rw [hnp];unfold msgV;clear hsm n2 st2 pk1 pk2 fr1 fr2 HT hq q hnp;go_wp2_with fail
 go_region_with (first
  | (go_at_call 56;refine (HRU.out _ (by first|exact World.grownBy_alloc _ _ _|exact xi7 (World.grownBy_alloc _ _ _)|exact xi8 (World.grownBy_alloc _ _ _) _)).mono ?_;rintro e w3 ⟨a,c,d,rfl,ho,hi,hg3⟩;have HS:=hide (HTL.out _ w3 a c d (by first|exact World.grownBy_alloc _ _ _|exact xi7 (World.grownBy_alloc _ _ _)|exact xi8 (World.grownBy_alloc _ _ _) _) ho hi hg3);clear ho hi hg3)
  | (go_at_call 178;refine (HS.out _ (by first|exact xjb _ _|exact xi7 (xjb _ _)|exact xi8 (xjb _ _) _)).mono ?_;rintro e w5 ⟨rfl,hp⟩;have HPP:=hide hp;clear hp))
 all_goals
  go_wp2_with fail;exact HPP.out
theorem xw3(L:List ByteArray):∀u∈stC L,u.oneCell'=true:=by
 intro u hu;obtain ⟨k,_,rfl⟩:=List.mem_map.1 hu;rfl
theorem xqj{w:World}{b b':Nat}{T:TypeId}{size:Nat}{v:Value}{n:Nat}{xs:List Value}(h:w.ownsRow b' T size v n xs)(hb:b<=b'):w.ownsRow b T size v n xs:=by
 refine ⟨h.1,h.2.imp id ?_⟩;rintro ⟨g,cap,cur,e1,e2,e3⟩;exact ⟨g,cap,cur,e1,Nat.le_trans hb e2,e3⟩
def Tells(T:TypeId)(size:Nat)(n:Nat)(xs:List Value)(w:World)(e:Ending)(w':World):Prop:=∃v,e=.returned v/\w'.ownsRow w.heap.size T size v n xs/\w.grownBy w' none
theorem xn1(w:World){B nb:Nat}{role:Nat->Role}{N:NetM}(h:NetAt w B nb role N){s:Nat}(hs:s<N.D)(hl:(N.dv s).dl.length<=100000000000):
  Calls Tryz.prog 130 #[.pointer (some ⟨nb,0,none⟩),.int .i64 s] w (Tells 9 1 (N.dv s).dl.length (stC (N.dv s).dl) w):=by
 obtain ⟨P,hP⟩:∃P,P=Tells 9 1 (N.dv s).dl.length (stC (N.dv s).dl) w:=⟨_,rfl⟩;rw [<-hP];have hnb:w.cell? ⟨nb,4,none⟩=some (.slice (some ⟨N.db,0,none⟩) N.D N.D):=xc7 h.net 4 _ rfl;have hds:=h.dsz;have hsI:(s:Int)<N.D:=by omega
 obtain ⟨cur,c1,c2,c3⟩:=h.dev;have d0:=xc7 c1 (s*5+2) _ (c3 s hs 2 (by omega));have hq:=((h.dvs s hs).row 2 (by omega)).q;obtain ⟨va,vc,hv⟩:=hq.slice;have hv:(N.dv s).vs 2=.slice va (N.dv s).dl.length vc:=hv;rw [hv] at d0
 have CL:Hid (Calls Tryz.prog 183 #[.slice va (N.dv s).dl.length vc] w fun e w'=>∃v,e=.returned v/\P (.returned v) w'):=by
  rw [hP];have hq2:QRow 0 w 9 1 ((N.dv s).vs 2) (N.dv s).dl.length (stC (N.dv s).dl):=hq;rw [hv] at hq2;refine (xej _ _ _ w (hq2.src (xw3 _)) (by omega)).mono ?_;rintro e w' ⟨v,rfl,h1,h2⟩;exact ⟨v,rfl,v,rfl,h1,h2⟩
 obtain ⟨m,hm⟩:∃m,m=(N.dv s).dl.length:=⟨_,rfl⟩;rw [<-hm] at d0 CL;clear h hP c1 c2 c3 hv hq hl hm;go_enter Tryz.func130,Tryz.ntmps130;go_wp2_with fail;refine CL.out.mono ?_;rintro e w' ⟨v,rfl,hp⟩;have HPP:=hide hp;clear hp CL;go_wp2_with fail;exact HPP.out
theorem xph(w:World){B nb:Nat}{role:Nat->Role}{N:NetM}(h:NetAt w B nb role N){s:Nat}(hs:s<N.D)(hl:(N.dv s).wl.length<=100000000000):
  Calls Tryz.prog 131 #[.pointer (some ⟨nb,0,none⟩),.int .i64 s] w (Tells 46 6 (N.dv s).wl.length (pksC (N.dv s).wl) w):=by
 obtain ⟨P,hP⟩:∃P,P=Tells 46 6 (N.dv s).wl.length (pksC (N.dv s).wl) w:=⟨_,rfl⟩;rw [<-hP];have hnb:w.cell? ⟨nb,4,none⟩=some (.slice (some ⟨N.db,0,none⟩) N.D N.D):=xc7 h.net 4 _ rfl;have hds:=h.dsz;have hsI:(s:Int)<N.D:=by omega
 obtain ⟨cur,c1,c2,c3⟩:=h.dev;have d0:=xc7 c1 (s*5+1) _ (c3 s hs 1 (by omega));have hq:=((h.dvs s hs).row 1 (by omega)).q;obtain ⟨va,vc,hv⟩:=hq.slice;have hv:(N.dv s).vs 1=.slice va (N.dv s).wl.length vc:=hv;rw [hv] at d0
 have CL:Hid (Calls Tryz.prog 184 #[.slice va (N.dv s).wl.length vc] w fun e w'=>∃v,e=.returned v/\P (.returned v) w'):=by
  rw [hP];have hq2:QRow 0 w 46 6 ((N.dv s).vs 1) (N.dv s).wl.length (pksC (N.dv s).wl):=hq;rw [hv] at hq2;refine (xei _ _ _ w (hq2.src (xry _)) (by omega)).mono ?_;rintro e w' ⟨v,rfl,h1,h2⟩;exact ⟨v,rfl,v,rfl,h1,h2⟩
 obtain ⟨m,hm⟩:∃m,m=(N.dv s).wl.length:=⟨_,rfl⟩;rw [<-hm] at d0 CL;clear h hP c1 c2 c3 hv hq hl hm;go_enter Tryz.func131,Tryz.ntmps131;go_wp2_with fail;refine CL.out.mono ?_;rintro e w' ⟨v,rfl,hp⟩;have HPP:=hide hp;clear hp CL;go_wp2_with fail;exact HPP.out
theorem xn0(w:World){B nb:Nat}{role:Nat->Role}{N:NetM}(h:NetAt w B nb role N)(hl:N.del.length<=100000000000):
  Calls Tryz.prog 132 #[.pointer (some ⟨nb,0,none⟩)] w (Tells 46 6 N.del.length (pksC N.del) w):=by
 obtain ⟨P,hP⟩:∃P,P=Tells 46 6 N.del.length (pksC N.del) w:=⟨_,rfl⟩;rw [<-hP];have hq:=h.dels.q;have hnb:w.cell? ⟨nb,5,none⟩=some N.delv:=xc7 h.net 5 _ rfl;obtain ⟨va,vc,hv⟩:=hq.slice;rw [hv] at hnb
 have CL:Hid (Calls Tryz.prog 184 #[.slice va N.del.length vc] w fun e w'=>∃v,e=.returned v/\P (.returned v) w'):=by
  rw [hP];rw [hv] at hq;refine (xei _ _ _ w (hq.src (xry _)) (by omega)).mono ?_;rintro e w' ⟨v,rfl,h1,h2⟩;exact ⟨v,rfl,v,rfl,h1,h2⟩
 obtain ⟨m,hm⟩:∃m,m=N.del.length:=⟨_,rfl⟩;rw [<-hm] at hnb CL;clear h hP hv hq hl hm;go_enter Tryz.func132,Tryz.ntmps132;go_wp2_with fail;refine CL.out.mono ?_;rintro e w' ⟨v,rfl,hp⟩;have HPP:=hide hp;clear hp CL;go_wp2_with fail;exact HPP.out
theorem xn7(w:World){B nb:Nat}{role:Nat->Role}{N:NetM}(h:NetAt w B nb role N)(sw:Int):
  Calls Tryz.prog 162 #[.pointer (some ⟨nb,0,none⟩),.int .i64 sw] w fun e w'=>e=.returned (.bool (decide (0<=sw/\sw<N.D)))/\w.grownBy w' none:=by
 have hnb:w.cell? ⟨nb,4,none⟩=some (.slice (some ⟨N.db,0,none⟩) N.D N.D):=xc7 h.net 4 _ rfl;have HI:Hid (Calls Tryz.prog 218 #[.int .i64 N.D,.int .i64 sw] w fun e w'=>e=.returned (.bool (decide (0<=sw/\sw<N.D)))/\w'=w):=xj5 _ _ _;obtain ⟨b,hb⟩:∃b,b=decide (0<=sw/\sw<N.D):=⟨_,rfl⟩;rw [<-hb] at HI ⊢;clear h hb;go_enter Tryz.func162,Tryz.ntmps162;go_wp2_with fail;refine HI.out.mono ?_;rintro e w' ⟨rfl,rfl⟩;go_wp2_with fail;go_ret;exact ⟨rfl,xjb _ _⟩
theorem xtp(w:World){B nb:Nat}{role:Nat->Role}{N:NetM}(h:NetAt w B nb role N){s:Nat}(hs:s<N.D):
  Calls Tryz.prog 110 #[.pointer (some ⟨nb,0,none⟩),.int .i64 s] w fun e w'=>e=.returned (.int .i64 0)/\w.grownBy w' none:=by
 have HI:Hid (Calls Tryz.prog 162 #[.pointer (some ⟨nb,0,none⟩),.int .i64 s] w fun e w'=>e=.returned (.bool true)/\w.grownBy w' none):=by
  refine (xn7 w h s).mono ?_;rintro e w' ⟨rfl,hg⟩;exact ⟨by rw [decide_eq_true (by omega)],hg⟩
 clear h;go_enter Tryz.func110,Tryz.ntmps110;go_wp2_with fail;refine HI.out.mono ?_;rintro e w' ⟨rfl,hg⟩;have HG:=hide hg;clear hg;go_wp2_with fail;go_ret;exact ⟨rfl,HG.out⟩
theorem xgb(w:World){B nb:Nat}{role:Nat->Role}{N:NetM}(h:NetAt w B nb role N){s:Nat}(hs:s<N.D)(hl:(N.dv s).dl.length<=100000000000):
  Calls Tryz.prog 77 #[.pointer (some ⟨nb,0,none⟩),.int .i64 s] w fun e w'=>∃v,e=.returned (.tuple #[v,.int .i64 0])/\Tells 9 1 (N.dv s).dl.length (stC (N.dv s).dl) w (.returned v) w':=by
 have HR:=hide (xtp w h hs);obtain ⟨P,hP⟩:∃P,P=Tells 9 1 (N.dv s).dl.length (stC (N.dv s).dl) w:=⟨_,rfl⟩;rw [<-hP]
 have HC:Hid (∀ww,w.grownBy ww none->Calls Tryz.prog 130 #[.pointer (some ⟨nb,0,none⟩),.int .i64 s] ww fun e w'=>∃v,e=.returned v/\P (.returned v) w'):=fun ww hg=>by
  refine (xn1 ww (h.grown hg (fun b e=>by cases e)) hs hl).mono ?_;rintro e w' ⟨v,rfl,h1,h2⟩;rw [hP];exact ⟨v,rfl,v,rfl,xqj h1 hg.size,xje hg h2⟩
 clear h hP;go_enter Tryz.func77,Tryz.ntmps77;go_wp2_with fail;refine HR.out.mono ?_;rintro e w1 ⟨rfl,hg⟩;have HG:=hide hg;clear hg HR;go_wp2_with fail;refine (HC.out w1 HG.out).mono ?_;rintro e w' ⟨v,rfl,hp⟩;have HPP:=hide hp;clear hp HC;go_wp2_with fail;go_ret2;exact ⟨v,rfl,HPP.out⟩
theorem x0w(w:World){B nb:Nat}{role:Nat->Role}{N:NetM}(h:NetAt w B nb role N){s:Nat}(hs:s<N.D)(hl:(N.dv s).wl.length<=100000000000):
  Calls Tryz.prog 78 #[.pointer (some ⟨nb,0,none⟩),.int .i64 s] w fun e w'=>∃v,e=.returned (.tuple #[v,.int .i64 0])/\Tells 46 6 (N.dv s).wl.length (pksC (N.dv s).wl) w (.returned v) w':=by
 have HR:=hide (xtp w h hs);obtain ⟨P,hP⟩:∃P,P=Tells 46 6 (N.dv s).wl.length (pksC (N.dv s).wl) w:=⟨_,rfl⟩;rw [<-hP]
 have HC:Hid (∀ww,w.grownBy ww none->Calls Tryz.prog 131 #[.pointer (some ⟨nb,0,none⟩),.int .i64 s] ww fun e w'=>∃v,e=.returned v/\P (.returned v) w'):=fun ww hg=>by
  refine (xph ww (h.grown hg (fun b e=>by cases e)) hs hl).mono ?_;rintro e w' ⟨v,rfl,h1,h2⟩;rw [hP];exact ⟨v,rfl,v,rfl,xqj h1 hg.size,xje hg h2⟩
 clear h hP;go_enter Tryz.func78,Tryz.ntmps78;go_wp2_with fail;refine HR.out.mono ?_;rintro e w1 ⟨rfl,hg⟩;have HG:=hide hg;clear hg HR;go_wp2_with fail;refine (HC.out w1 HG.out).mono ?_;rintro e w' ⟨v,rfl,hp⟩;have HPP:=hide hp;clear hp HC;go_wp2_with fail;go_ret2;exact ⟨v,rfl,HPP.out⟩
theorem xft(w:World){B nb:Nat}{role:Nat->Role}{N:NetM}(h:NetAt w B nb role N)(hl:N.del.length<=100000000000):
  Calls Tryz.prog 79 #[.pointer (some ⟨nb,0,none⟩)] w fun e w'=>∃v,e=.returned (.tuple #[v,.int .i64 0])/\Tells 46 6 N.del.length (pksC N.del) w (.returned v) w':=by
 obtain ⟨P,hP⟩:∃P,P=Tells 46 6 N.del.length (pksC N.del) w:=⟨_,rfl⟩;rw [<-hP]
 have HC:Hid (Calls Tryz.prog 132 #[.pointer (some ⟨nb,0,none⟩)] w fun e w'=>∃v,e=.returned v/\P (.returned v) w'):=by
  refine (xn0 w h hl).mono ?_;rintro e w' ⟨v,rfl,h1,h2⟩;rw [hP];exact ⟨v,rfl,v,rfl,h1,h2⟩
 clear h hP;go_enter Tryz.func79,Tryz.ntmps79;go_wp2_with fail;refine HC.out.mono ?_;rintro e w' ⟨v,rfl,hp⟩;have HPP:=hide hp;clear hp HC;go_wp2_with fail;go_ret2;exact ⟨v,rfl,HPP.out⟩
theorem x1j(w:World){B nb:Nat}{role:Nat->Role}{N:NetM}(h:NetAt w B nb role N){s:Nat}(hs:s<N.D){P:Ending->World->Prop}(hC:∀ww,w.grownBy ww none->Calls Tryz.prog 119 #[.pointer (some ⟨nb,0,none⟩),.int .i64 s] ww fun e w'=>∃en:Int,e=.returned (.int .i64 en)/\P (.returned (.int .i64 en)) w'):
  Calls Tryz.prog 71 #[.pointer (some ⟨nb,0,none⟩),.int .i64 s] w P:=by
 have HR:Hid (∀ww,w.grownBy ww none->Calls Tryz.prog 110 #[.pointer (some ⟨nb,0,none⟩),.int .i64 s] ww fun e w'=>e=.returned (.int .i64 0)/\ww.grownBy w' none):=fun ww hg=>xtp ww (h.grown hg (fun b e=>by cases e)) hs
 have HC:=hide hC;clear h hC;go_enter Tryz.func71,Tryz.ntmps71;go_wp2_with fail;refine (HR.out _ (by first|exact xjb _ _|exact World.grownBy_alloc _ _ _)).mono ?_;rintro e w1 ⟨rfl,hg⟩;have HG:Hid (w.grownBy w1 none):=by first|exact hg|exact xje (World.grownBy_alloc _ _ _) hg
 clear hg HR;go_wp2_with fail;refine (HC.out w1 HG.out).mono ?_;rintro e w' ⟨en,rfl,hp⟩;have HPP:=hide hp;clear hp HC;go_wp2_with fail;exact HPP.out
theorem x1i(w:World){B nb:Nat}{role:Nat->Role}{N:NetM}(h:NetAt w B nb role N){s:Nat}(hs:s<N.D){P:Ending->World->Prop}(hC:∀ww,w.grownBy ww none->Calls Tryz.prog 121 #[.pointer (some ⟨nb,0,none⟩),.int .i64 s] ww fun e w'=>∃en:Int,e=.returned (.int .i64 en)/\P (.returned (.int .i64 en)) w'):
  Calls Tryz.prog 73 #[.pointer (some ⟨nb,0,none⟩),.int .i64 s] w P:=by
 have HR:Hid (∀ww,w.grownBy ww none->Calls Tryz.prog 110 #[.pointer (some ⟨nb,0,none⟩),.int .i64 s] ww fun e w'=>e=.returned (.int .i64 0)/\ww.grownBy w' none):=fun ww hg=>xtp ww (h.grown hg (fun b e=>by cases e)) hs
 have HC:=hide hC;clear h hC;go_enter Tryz.func73,Tryz.ntmps73;go_wp2_with fail;refine (HR.out _ (by first|exact xjb _ _|exact World.grownBy_alloc _ _ _)).mono ?_;rintro e w1 ⟨rfl,hg⟩;have HG:Hid (w.grownBy w1 none):=by first|exact hg|exact xje (World.grownBy_alloc _ _ _) hg
 clear hg HR;go_wp2_with fail;refine (HC.out w1 HG.out).mono ?_;rintro e w' ⟨en,rfl,hp⟩;have HPP:=hide hp;clear hp HC;go_wp2_with fail;exact HPP.out
theorem x1l(w:World){B nb:Nat}{role:Nat->Role}{N:NetM}(h:NetAt w B nb role N){s:Nat}(hs:s<N.D)(i:Int){P:Ending->World->Prop}(hC:∀ww,w.grownBy ww none->Calls Tryz.prog 114 #[.pointer (some ⟨nb,0,none⟩),.int .i64 s,.int .i64 i] ww fun e w'=>∃en:Int,e=.returned (.int .i64 en)/\P (.returned (.int .i64 en)) w'):
  Calls Tryz.prog 69 #[.pointer (some ⟨nb,0,none⟩),.int .i64 s,.int .i64 i] w P:=by
 have HR:Hid (∀ww,w.grownBy ww none->Calls Tryz.prog 110 #[.pointer (some ⟨nb,0,none⟩),.int .i64 s] ww fun e w'=>e=.returned (.int .i64 0)/\ww.grownBy w' none):=fun ww hg=>xtp ww (h.grown hg (fun b e=>by cases e)) hs
 have HC:=hide hC;clear h hC;go_enter Tryz.func69,Tryz.ntmps69;go_wp2_with fail;refine (HR.out _ (by first|exact xjb _ _|exact World.grownBy_alloc _ _ _)).mono ?_;rintro e w1 ⟨rfl,hg⟩;have HG:Hid (w.grownBy w1 none):=by first|exact hg|exact xje (World.grownBy_alloc _ _ _) hg
 clear hg HR;go_wp2_with fail;refine (HC.out w1 HG.out).mono ?_;rintro e w' ⟨en,rfl,hp⟩;have HPP:=hide hp;clear hp HC;go_wp2_with fail;exact HPP.out
theorem x1k(w:World){B nb:Nat}{role:Nat->Role}{N:NetM}(h:NetAt w B nb role N){s:Nat}(hs:s<N.D)(pt:Int)(k:Nat->Int){P:Ending->World->Prop}(hC:∀ww,w.grownBy ww none->Calls Tryz.prog 111 #[.pointer (some ⟨nb,0,none⟩),.int .i64 s,.int .i64 pt,.agg #[.int .i64 (k 0),.int .i64 (k 1),.int .i64 (k 2),.int .i64 (k 3),.int .i64 (k 4),.int .i64 (k 5)]] ww fun e w'=>∃en:Int,e=.returned (.int .i64 en)/\P (.returned (.int .i64 en)) w'):
  Calls Tryz.prog 67 #[.pointer (some ⟨nb,0,none⟩),.int .i64 s,.int .i64 pt,.agg #[.int .i64 (k 0),.int .i64 (k 1),.int .i64 (k 2),.int .i64 (k 3),.int .i64 (k 4),.int .i64 (k 5)]] w P:=by
 have HR:Hid (∀ww,w.grownBy ww none->Calls Tryz.prog 110 #[.pointer (some ⟨nb,0,none⟩),.int .i64 s] ww fun e w'=>e=.returned (.int .i64 0)/\ww.grownBy w' none):=fun ww hg=>xtp ww (h.grown hg (fun b e=>by cases e)) hs
 have HC:=hide hC;clear h hC;go_enter Tryz.func67,Tryz.ntmps67;go_wp2_with fail;refine (HR.out _ (by first|exact xjb _ _|exact World.grownBy_alloc _ _ _)).mono ?_;rintro e w1 ⟨rfl,hg⟩;have HG:Hid (w.grownBy w1 none):=by first|exact hg|exact xje (World.grownBy_alloc _ _ _) hg
 have hb:=(pkBlk.alloc w k).grown hg (by simp);have p0:=hb.cell 0 (by omega);have p1:=hb.cell 1 (by omega);have p2:=hb.cell 2 (by omega);have p3:=hb.cell 3 (by omega);have p4:=hb.cell 4 (by omega);have p5:=hb.cell 5 (by omega);clear hb;clear hg HR;go_wp2_with fail
 go_region_with (go_at_call 111;refine (HC.out _ (by first|exact HG.out|exact xi7 HG.out|exact xi8 HG.out _)).mono ?_;rintro e w' ⟨en,rfl,hp⟩;have HPP:=hide hp;clear hp)
 all_goals
  go_wp2_with fail;first|exact HPP.out|(go_ret;exact HPP.out)
end Go.Proofs.YtlhkfafdioakeaaGreatDoor
