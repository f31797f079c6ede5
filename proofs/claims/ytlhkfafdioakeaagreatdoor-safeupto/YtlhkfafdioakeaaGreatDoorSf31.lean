/- Parts of the proof. -/
import Derived.Test.YtlhkfafdioakeaaGreatDoorSf07
import Derived.Test.YtlhkfafdioakeaaGreatDoorSf29
import Derived.Test.YtlhkfafdioakeaaGreatDoorSf30
namespace Go.Proofs.YtlhkfafdioakeaaGreatDoor
open Go.RowKit Go.Weft
set_option linter.unusedVariables false
set_option linter.unusedSimpArgs false
theorem mayC:MayC:=fun w B nb role N h s hs i hl=>xm8 w h hs i hl
section
variable{K:Gk}{n:Nat}{role:Nat->Role}{N:NetM}{S:Gs Rl (Nat->Int)}{sent:List (Nat->Int)}{w:World}
theorem StepO.en{Q:Prop}{e:Ending}{w' ww:World}(hg:w.grownBy ww none)(ho:StepO K n role S sent Q ww e w'):∃en:Int,e=.returned (.int .i64 en)/\StepO K n role S sent Q w (.returned (.int .i64 en)) w':=by
 obtain ⟨role',N',S',h1,h2,h3⟩:=ho;rcases h3 with ⟨rfl,h3⟩|⟨rfl,h3⟩
 ·exact ⟨0,rfl,role',N',S',(NStep.of hg).trans h1,h2,.inl ⟨rfl,h3⟩⟩
 ·exact ⟨15,rfl,role',N',S',(NStep.of hg).trans h1,h2,.inr ⟨rfl,h3⟩⟩
theorem wDo(hK:K.ok)(h:NOK K n role N S sent w)(hn:n<=10000000){s:Nat}(hs:s<K.D):Calls Tryz.prog 71 #[.pointer (some ⟨K.nb,0,none⟩),.int .i64 s] w (StepO K n role S sent (S.wl s=[]) w):=
 x1j w h.at' (by rw [h.D];exact hs) (fun ww hg=>(gDo hK (h.quiet hg) hn hs).mono (fun e w' ho=>StepO.en hg ho))
theorem x0r(hK:K.ok)(h:NOK K n role N S sent w)(hn:n<=10000000){s:Nat}(hs:s<K.D):Calls Tryz.prog 73 #[.pointer (some ⟨K.nb,0,none⟩),.int .i64 s] w (StepO K n role S sent (S.ul s=[]) w):=
 x1i w h.at' (by rw [h.D];exact hs) (fun ww hg=>(xii hK (h.quiet hg) hn hs).mono (fun e w' ho=>StepO.en hg ho))
theorem wTake(hK:K.ok)(h:NOK K n role N S sent w)(hn:n<=10000000){s:Nat}(hs:s<K.D)(i:Nat):Calls Tryz.prog 69 #[.pointer (some ⟨K.nb,0,none⟩),.int .i64 s,.int .i64 i] w (StepO K n role S sent (i=0->S.dl s=[]) w):=
 x1l w h.at' (by rw [h.D];exact hs) i (fun ww hg=>(gTake mayC hK (h.quiet hg) hn hs i).mono (fun e w' ho=>StepO.en hg ho))
def SendO(K:Gk)(n:Nat)(role:Nat->Role)(sent:List (Nat->Int))(s:Nat)(pt:Int)(k:Nat->Int)(w:World)(e:Ending)(w':World):Prop:=∃en role' N' S' sent',e=.returned (.int .i64 en)/\NStep w w' role role'/\NOK K (n+1) role' N' S' sent' w'/\((en=0/\hostS K.ld K.ln s pt/\sent'=sent++[atP s pt k])\/(sent'=sent/\((en=16/\¬hostS K.ld K.ln s pt)\/(en=8/\¬xtx k)\/en=7)))
theorem wSend(hK:K.ok)(h:NOK K n role N S sent w){s:Nat}(hs:s<K.D)(pt:Int)(k:Nat->Int)(hk:Nm k):Calls Tryz.prog 67 #[.pointer (some ⟨K.nb,0,none⟩),.int .i64 s,.int .i64 pt,.agg #[.int .i64 (k 0),.int .i64 (k 1),.int .i64 (k 2),.int .i64 (k 3),.int .i64 (k 4),.int .i64 (k 5)]] w (SendO K n role sent s pt k w):=
 x1k w h.at' (by rw [h.D];exact hs) pt k (fun ww hg=>(gSend hK (h.quiet hg) hs pt k hk).mono (fun e w' ho=>by
  obtain ⟨en,role',N',S',sent',rfl,h1,h2,h3⟩:=ho;exact ⟨en,rfl,en,role',N',S',sent',rfl,(NStep.of hg).trans h1,h2,h3⟩))
theorem wDown(h:NOK K n role N S sent w)(hn:n<=10000000){s:Nat}(hs:s<K.D):Calls Tryz.prog 77 #[.pointer (some ⟨K.nb,0,none⟩),.int .i64 s] w fun e w'=>∃a m c,e=.returned (.tuple #[.slice a m c,.int .i64 0])/\m<=100000000/\w.grownBy w' none:=by
 have hl:(N.dv s).dl.length=(S.dl s).length:=by
  have:=congrArg List.length (h.rep.dl s);rw [List.length_map] at this;exact this
 have hb:=h.dlb s;refine (xgb w h.at' (by rw [h.D];exact hs) (by omega)).mono ?_;rintro e w' ⟨v,rfl,v',e1,h1,h2⟩;cases e1;rcases h1.2 with ⟨rfl,h0⟩|⟨g,cap,cur,rfl,_⟩
 ·exact ⟨none,0,0,rfl,by omega,h2⟩
 ·exact ⟨_,_,_,rfl,by omega,h2⟩
theorem x0t(h:NOK K n role N S sent w){s:Nat}(hs:s<K.D):Calls Tryz.prog 78 #[.pointer (some ⟨K.nb,0,none⟩),.int .i64 s] w fun e w'=>∃a m c,e=.returned (.tuple #[.slice a m c,.int .i64 0])/\m=(S.wl s).length/\m<=300/\w.grownBy w' none:=by
 have hl:(N.dv s).wl=S.wl s:=congrFun h.rep.wl s;have hb:=x0z N.a N.D s (by rw [h.D];exact hs);have hw:=h.waits;have e1:N.a.wl s=(N.dv s).wl:=rfl;rw [e1,hl] at hb;refine (x0w w h.at' (by rw [h.D];exact hs) (by rw [hl];omega)).mono ?_;rintro e w' ⟨v,rfl,v',e1,h1,h2⟩;cases e1;rcases h1.2 with ⟨rfl,h0⟩|⟨g,cap,cur,rfl,_⟩
 ·rw [hl] at h0;exact ⟨none,0,0,rfl,h0.symm,by omega,h2⟩
 ·exact ⟨_,_,_,rfl,by rw [hl],by rw [hl];omega,h2⟩
theorem x0s(h:NOK K n role N S sent w)(hn:n<=10000000):Calls Tryz.prog 79 #[.pointer (some ⟨K.nb,0,none⟩)] w fun e w'=>∃a c,e=.returned (.tuple #[.slice a S.del.length c,.int .i64 0])/\w'.ownsRow w.heap.size 46 6 (.slice a S.del.length c) S.del.length (pksC S.del)/\w.grownBy w' none:=by
 have hl:N.del=S.del:=h.rep.del;have hb:=h.deb;refine (xft w h.at' (by rw [hl];omega)).mono ?_;rintro e w' ⟨v,rfl,v',e1,h1,h2⟩;cases e1;rw [hl] at h1;have h1':=h1;rcases h1.2 with ⟨rfl,h0⟩|⟨g,cap,cur,rfl,_⟩
 ·rw [h0] at h1' ⊢;exact ⟨none,0,rfl,h1',h2⟩
 ·exact ⟨_,_,rfl,h1',h2⟩
end
end Go.Proofs.YtlhkfafdioakeaaGreatDoor
