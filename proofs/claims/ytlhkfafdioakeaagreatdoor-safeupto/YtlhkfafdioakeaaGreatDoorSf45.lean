/- Parts of the proof. -/
import Derived.Test.YtlhkfafdioakeaaGreatDoorSf39
import Derived.Test.YtlhkfafdioakeaaGreatDoorSf41
import Derived.Test.YtlhkfafdioakeaaGreatDoorSf44
import Derived.Test.YtlhkfafdioakeaaGreatDoorSfFrB
namespace Go.Proofs.YtlhkfafdioakeaaGreatDoor
set_option maxRecDepth 100000
set_option maxHeartbeats 4000000
open Go.RowKit Go.Weft
set_option linter.unusedVariables false
set_option linter.unusedSimpArgs false
theorem MvR.grown{w w':World}{v:Value}{n:Nat}{d:Nat->Nat->Int}(h:MvR w v n d)(hg:w.grownBy w' none):MvR w' v n d:=by
 refine ⟨h.1,?_⟩;rcases h.2 with h2|⟨g,off,cap,rfl,h2⟩
 ·exact .inl h2
 ·exact .inr ⟨g,off,cap,rfl,fun j hj i hi=>⟨hg.cell (h2 j hj i hi).1 (by simp),(h2 j hj i hi).2⟩⟩
theorem xvc(s0:ByteArray)(Sw room:Int)(la:Option Addr)(ln lc:Nat)(ld:Nat->Nat->Int)(v:Value)(n:Nat)(d:Nat->Nat->Int)(w:World)(hn:Names w)(he:Evy w)(hs:s0.size<=9223372036854775807)(hl:LnR w (.slice la ln lc) ln ld)(hlc:ln<=lc)(hla:la=none->lc=0)(hln:ln<=1000000)(hm:MvR w v n d):
  Calls Tryz.prog 9 #[.string s0,.agg #[.int .i64 Sw,.slice la ln lc,.int .i64 room],v] w fun e w'=>e=.returned (.bool true)/\w.grownBy w' none:=by
 obtain ⟨P,hP⟩:∃P:Ending->World->Prop,P=fun e w'=>e=.returned (.bool true)/\w.grownBy w' none:=⟨_,rfl⟩
 rw [<-hP];have HP:=hide hP;obtain ⟨va,vc,rfl⟩:=hm.slice;have BEG:Hid (∀ww,w.grownBy ww none->Calls Tryz.prog 41 #[.string s0,.agg #[.int .i64 Sw,.slice la ln lc,.int .i64 room]] ww (BegO s0 la ln lc ld ww)):=fun ww hg=>xcz s0 Sw room la ln lc ld ww (fun k hk=>hg.cell (hn k hk) (by simp)) (he.grown hg) hs (hl.grown hg) hlc hla hln
 have HMV:=hide hm;have hn1:=hm.1;clear hP hn he hs hl hlc hla hln hm;go_enter Tryz.func9,Tryz.ntmps9;go_wp2_with fail;refine (BEG.out _ (World.grownBy_alloc _ _ none)).mono ?_;rintro e w2 hbeg;rcases hbeg with ⟨rfl,g2⟩|⟨K,gb,G,role,N,S,rfl,g0,hK,hW,hA,hld,hGa,hGn,hGc⟩
 ·have F2:Hid (P (.returned (.bool true)) w2):=by
   rw [HP.out];exact ⟨rfl,xje (World.grownBy_alloc _ _ none) g2⟩
  clear g2 BEG;go_wp2_with fail;exact F2.out
 ·have HK:=hide hK;have HW:=hide hW;have HLD:=hide hld;have G0:Hid (w.grownBy K.w0 none):=xje (World.grownBy_alloc _ _ none) g0;have I0:Hid (MvO K gb G (.slice none 0 0) false (3*0) w2):=⟨G,role,N,S,[],hA,rfl,rfl,rfl,rfl⟩;have hGL:=hA.ln;have HGL:=hide hGL;clear g0 hK hW hA hld hGa hGn hGc BEG hGL;go_wp2_with fail;go_loopw [9] (fun s9 wr=>∃i:Nat,i<=n/\s9=.int .i64 i/\MvO K gb G (.slice none 0 0) false (3*i) wr) (fun s9 _=>n-(intOf s9).toNat)
  case atStart=>exact ⟨0,Nat.zero_le _,rfl,I0.out⟩
  case round=>
   obtain ⟨i,hi,rfl,G',role',N',S',sent',hA',q1,q2,q3,q4⟩:=hrel;have HA:=hide hA'
   have HB:Hid (BrW K.w0 G' s0 K.t K.ld):=by
    have:=HW.out;rw [<-HLD.out] at this;exact this.cong q1 q2 (hA'.ln.trans HGL.out.symm) q3
   have HQ:Hid (G'.pb=G.pb/\G'.la=G.la/\G'.lc=G.lc/\G'.room=G.room):=⟨q1,q2,q3,q4⟩;clear q1 q2 q3 q4 hA';by_cases hlt:i<n
   ·have hltI:(i:Int)<n:=by omega
    have hmr:=HMV.out.grown (xje G0.out HA.out.net.old);rcases hmr.2 with ⟨h0,_⟩|⟨g,off,cap,hv,hcc⟩
    ·omega
    cases hv;have m0:wr.cell? ⟨g,off+i*3,none⟩=some (.int .i64 (d i 0)):=(hcc i hlt 0 (by omega)).1;have m1:wr.cell? ⟨g,off+i*3+1,none⟩=some (.int .i64 (d i 1)):=(hcc i hlt 1 (by omega)).1;have m2:wr.cell? ⟨g,off+i*3+2,none⟩=some (.int .i64 (d i 2)):=(hcc i hlt 2 (by omega)).1
    have MOV:Hid (∀ww,wr.grownBy ww none->Calls Tryz.prog 42 #[.pointer (some ⟨gb,0,none⟩),.agg #[.int .i64 (d i 0),.int .i64 (d i 1),.int .i64 (d i 2)]] ww fun e w'=>e=.returned (.tuple #[])/\MvO K gb G (.slice none 0 0) false (3*(i+1)) w'/\w'.cell? ⟨gb,10,none⟩=some (.bool false)):=fun ww hg=>by
     refine (xnt HK.out (HA.out.quiet hg) (by omega) HB.out.lnk (d i 0) (d i 1) (d i 2) (hcc i hlt 0 (by omega)).2 (hcc i hlt 1 (by omega)).2 (hcc i hlt 2 (by omega)).2).mono ?_;rintro e w' ⟨rfl,G2,role2,N2,S2,sent2,h1,r1,r2,r3,r4⟩;obtain ⟨p1,p2,p3,p4⟩:=HQ.out;exact ⟨rfl,⟨G2,role2,N2,S2,sent2,h1.more (by omega),r1.trans p1,r2.trans p2,r3.trans p3,r4.trans p4⟩,xc7 h1.blk 10 _ rfl⟩
    have GWR:Hid (wr.grownBy wr none):=xjb _ _;clear hmr hcc;go_wp2_with fail;refine (MOV.out wr GWR.out).mono ?_;rintro e w3 ⟨rfl,hM3,c10⟩;have M3:=hide hM3;clear hM3 MOV m0 m1 m2;go_wp2_with fail;exact ⟨⟨i+1,by omega,by go_num,M3.out⟩,by simp [intOf];omega⟩
   ·obtain rfl:i=n:=by omega
    have SAF:Hid (Calls Tryz.prog 43 #[.pointer (some ⟨gb,0,none⟩)] wr fun e w'=>e=.returned (.bool true)/\P (.returned (.bool true)) w'):=by
     refine (xjg HK.out HA.out (by omega) HB.out).mono ?_;rintro e w' ⟨rfl,h1,_⟩;refine ⟨rfl,?_⟩;rw [HP.out];exact ⟨rfl,xje G0.out h1⟩
    go_wp2_with fail;refine SAF.out.mono ?_;rintro e w3 ⟨rfl,hp⟩;have HPP:=hide hp;clear hp SAF;go_wp2_with fail;exact HPP.out
end Go.Proofs.YtlhkfafdioakeaaGreatDoor
