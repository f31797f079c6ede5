/- Parts of the proof. -/
import Derived.Test.YtlhkfafdioakeaaGreatDoorProg
import Derived.WalkKit
import Derived.WalkSpells
import Derived.WalkLawsBesides
import Derived.Maps.AppendAt
import Derived.Laws.BytesString
import Derived.Deep.QuietTactic
import Derived.BigQuiet
namespace Go.Proofs.YtlhkfafdioakeaaGreatDoor
open Go.RowKit
set_option linter.unusedVariables false
set_option linter.unusedSimpArgs false
def Hid(p:Prop):Prop:=p
theorem Hid.o{p:Prop}(h:Hid p):p:=h
theorem A0{p:Prop}(h:p):Hid p:=h
theorem A1{w1 w2 w3:World}{r:Option Nat}(h:w1.grownBy w2 r)(k:w2.grownBy w3 r):w1.grownBy w3 r:=
 ⟨k.os.trans h.os,k.tape.trans h.tape,k.output.trans h.output,Nat.le_trans h.size k.size,fun j hj hn=>(k.block j (Nat.lt_of_lt_of_le hj h.size) hn).trans (h.block j hj hn)⟩
theorem AA(w:World)(r:Option Nat):w.grownBy w r:=⟨rfl,rfl,rfl,Nat.le_refl _,fun _ _ _=>rfl⟩
theorem AZ{w1 w2:World}{r:Option Nat}(h:w1.grownBy w2 none):w1.grownBy w2 r:=⟨h.os,h.tape,h.output,h.size,fun j hj _=>h.block j hj (by simp)⟩
theorem Ai{w1 w2:World}{r:Option Nat}(h:w1.grownBy w2 r):w1.grownBy w2.drew r:=⟨h.os,h.tape,h.output,h.size,h.block⟩
theorem AT{w1 w2:World}{r:Option Nat}(h:w1.grownBy w2 r)(n:Nat):w1.grownBy (w2.drewN n) r:=⟨h.os,h.tape,h.output,h.size,h.block⟩
theorem B7{w w':World}{row:Option Nat}(h:w.drew.grownBy w' row):w.grownBy w' row:=⟨h.os,h.tape,h.output,h.size,h.block⟩
theorem A7(w:World)(rb j:Nat)(v:Value):w.grownBy (w.setCell ⟨rb,j,none⟩ v) (some rb):=
 ⟨rfl,rfl,rfl,by simp[World.setCell],fun k hk hn=>Below.heap_setCell _ _ _ _ (by simpa using hn)⟩
theorem AI{w:World}{rb:Nat}{cs:Array Value}{T:TypeId}(h:w.heap[rb]?=some (.cells cs T (0,0)))(j:Nat)(v:Value):
  (w.setCell ⟨rb,j,none⟩ v).heap[rb]?=some (.cells (cs.setIfInBounds j v) T (0,0)):=by
 simp[World.setCell,Array.getElem?_modify,h]
theorem E4{w:World}{rb k:Nat}(h:k≠rb)(j:Nat)(v:Value):(w.setCell ⟨rb,j,none⟩ v).heap[k]?=w.heap[k]?:=Below.heap_setCell _ _ _ _ h
theorem Bk{w w1 w2:World}{r row:Option Nat}(h:w.grownBy w1 r)(k:w1.grownBy w2 row)(hr:∀b,row=some b->w.heap.size<=b):w.grownBy w2 r:=
 ⟨k.os.trans h.os,k.tape.trans h.tape,k.output.trans h.output,Nat.le_trans h.size k.size,fun j hj hn=>(k.block j (Nat.lt_of_lt_of_le hj h.size) (fun e=>by have:=hr j e.symm;omega)).trans (h.block j hj hn)⟩
theorem IT{w w':World}(h:Below w.heap.size w w'):w.grownBy w' none:=⟨h.os,h.tape,h.output,h.size,fun k hk _=>h.block k hk⟩
theorem AR{w w1 w2:World}{rb:Nat}(h:w.grownBy w1 none)(k:w1.grownBy w2 (some rb))(hr:w.heap.size<=rb):w.grownBy w2 none:=
 Bk h k (fun b e=>by cases e;exact hr)
theorem Jj(w:World)(o:Obj)(row:Option Nat):w.grownBy (w.alloc o).drew row:=
 ⟨rfl,rfl,rfl,by show w.heap.size<=(w.alloc o).heap.size;simp,fun k hk _=>heap_alloc_old w o hk⟩
theorem En{a b:ByteArray}(h:a.data.toList=b.data.toList):a=b:=by
 cases a;cases b;simp at h;simp[h]
end Go.Proofs.YtlhkfafdioakeaaGreatDoor
