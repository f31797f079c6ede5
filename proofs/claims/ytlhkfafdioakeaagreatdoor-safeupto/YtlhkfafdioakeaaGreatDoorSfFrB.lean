/- Parts of the proof. -/
import Derived.Test.YtlhkfafdioakeaaGreatDoorSf02
import Derived.Test.YtlhkfafdioakeaaGreatDoorSf03
import Derived.Test.YtlhkfafdioakeaaGreatDoorSf09
import Derived.Test.YtlhkfafdioakeaaGreatDoorSf28
import Derived.Test.YtlhkfafdioakeaaGreatDoorRows
import Derived.Test.YtlhkfafdioakeaaGreatDoorCards
import Derived.Test.YtlhkfafdioakeaaGreatDoorTie
import Derived.ProofKit
import Derived.OpenShut
import Derived.JoinedCond
import Derived.Carry
import Derived.Deep.Slices
import Derived.LaidMore
import Derived.ShutString
import Derived.Stop.Joined
import Derived.SevenTiedAt
import Derived.Deep.DeepHandedRow
namespace Go.Proofs.YtlhkfafdioakeaaGreatDoor.Opn
set_option maxRecDepth 100000
open Go.ChangeShapes Go.WideShapes Go.ChangeAt Go.WideMaps Go.WideElems Go.RowKit
set_option linter.unusedVariables false
set_option linter.unusedSimpArgs false
section
variable{H:Type}
theorem xpo(d:DataW H):1<=Rows.uptoBulk d:=by
 cases d with
 | lit l=>cases l<;>simp [Rows.uptoBulk]
 | nil=>simp [Rows.uptoBulk]
 | ptr d=>simp [Rows.uptoBulk]
 | slice elems spare=>simp [Rows.uptoBulk]
 | agg parts=>simp [Rows.uptoBulk]
 | iface t d=>simp [Rows.uptoBulk]
 | map entries=>simp [Rows.uptoBulk]
 | held h=>simp [Rows.uptoBulk]
theorem part_le{d:DataW H}{l:List (DataW H)}(h:d∈l):Rows.uptoBulk d<=Rows.uptoBulkAll l:=by
 induction l with
 | nil=>cases h
 | cons x r ih=>
  simp only [Rows.uptoBulkAll];rcases List.mem_cons.1 h with e|e
  ·subst e;omega
  ·have:=ih e;omega
theorem length_le(l:List (DataW H)):l.length<=Rows.uptoBulkAll l:=by
 induction l with
 | nil=>simp [Rows.uptoBulkAll]
 | cons x r ih=>have:=xpo x;simp only [Rows.uptoBulkAll,List.length_cons];omega
end
theorem x06{n:Int}(h:(Lit.int .i64 n).wf=true):-9223372036854775808<=n/\n<=9223372036854775807:=by
 simp only [Lit.wf,IntKind.min,IntKind.max,IntKind.signed,IntKind.bits,Bool.and_eq_true,decide_eq_true_eq,if_true] at h;omega
section
variable{H:Type}{enc:TypeId×Value->H}{w:World}{base:Nat}{spare:Nat->Bool}{held:Bool}
theorem xzc{l:List Value}{i:Nat}{v:Value}(h:l[i]?=some v):(l.drop i).take 1=[v]:=by
 have hlt:i<l.length:=(List.getElem?_eq_some_iff.1 h).1;rw [List.drop_eq_getElem_cons hlt];simp only [List.take_succ_cons,List.take_zero];rw [(List.getElem?_eq_some_iff.1 h).2]
theorem xll{α:Type}:∀{l:List α},l.length=3->∃a0 a1 a2,l=[a0,a1,a2]
 | [a0,a1,a2],_=>⟨a0,a1,a2,rfl⟩
theorem xbn{b o r:Nat}:(⟨b,o,none⟩:Addr).add r=⟨b,o+r,none⟩:=by unfold Addr.add;split<;>simp_all
theorem xbm{a:Addr}{c:Nat}{v:Value}(h:w.cell? ((a.add (0*c)).add 0)=some v):∃b o,a=⟨b,o,none⟩:=by
 have hsp:=World.cell?_spot h;rw [Nat.zero_mul] at hsp;obtain ⟨b,o,sp⟩:=a;refine ⟨b,o,?_⟩;have:sp=none:=by simpa [Addr.add] using hsp
 rw [this]
end
end Go.Proofs.YtlhkfafdioakeaaGreatDoor.Opn
namespace Go.Proofs.YtlhkfafdioakeaaGreatDoor
set_option maxRecDepth 100000
def MvR(w:World)(v:Value)(n:Nat)(d:Nat->Nat->Int):Prop:=
 n<=1048576/\((n=0/\∃a c,v=.slice a 0 c)\/∃g off cap,v=.slice (some ⟨g,off,none⟩) n cap/\∀j,j<n->∀i,i<3->w.cell? ⟨g,off+j*3+i,none⟩=some (.int .i64 (d j i))/\-9223372036854775808<=d j i/\d j i<=9223372036854775807)
theorem MvR.slice{w:World}{v:Value}{n:Nat}{d:Nat->Nat->Int}(h:MvR w v n d):∃a c,v=.slice a n c:=by
 rcases h.2 with ⟨rfl,a,c,rfl⟩|⟨g,off,cap,rfl,_⟩
 ·exact ⟨_,_,rfl⟩
 ·exact ⟨_,_,rfl⟩
end Go.Proofs.YtlhkfafdioakeaaGreatDoor
namespace Go.Proofs.YtlhkfafdioakeaaGreatDoor.Opn
set_option maxRecDepth 100000
open Go.ChangeShapes Go.WideShapes Go.ChangeAt Go.WideMaps Go.WideElems Go.RowKit
set_option linter.unusedVariables false
set_option linter.unusedSimpArgs false
section
variable{H:Type}{enc:TypeId×Value->H}{w:World}{base:Nat}{spare:Nat->Bool}{held:Bool}
theorem xpr{t:TypeId}{fs:Array Field}(N:Nat)(hN:0<N)(ht:Tryz.prog.underlying t=some (.struct fs))(hs:fs.size=N)(hf:∀i,i<N->∃f,fs[i]?=some f/\f.type=3/\f.offset=i)(hc:Tryz.prog.cellsOf t=N){fuel:Nat}{cs:List Value}{x:DataW H×List MemPlace}(h:DataW.trod enc Tryz.prog w base spare held fuel t cs=some x):
  2<=Rows.uptoBulk x.1/\cs.length=N/\∃k:Nat->Int,∀i,i<N->cs[i]?=some (.int .i64 (k i))/\-9223372036854775808<=k i/\k i<=9223372036854775807:=by
 obtain ⟨xs,m,_,hx,hl,hn,hel⟩:=DataW.trod_struct ht h;have hc3:Tryz.prog.cellsOf 3=1:=by kernel_rfl
 rw [hc] at hl;refine ⟨?_,hl,?_⟩
 ·rw [hx];have:=length_le (xs.map (·.1));simp only [Rows.uptoBulk];rw [List.length_map] at this;omega
 ·refine Deep.choose_lt (p:=fun i n=>cs[i]?=some (.int .i64 n)/\-9223372036854775808<=n/\n<=9223372036854775807) (fun i hi=>?_);obtain ⟨f,f1,f2,f3⟩:=hf i hi;have he:=hel i f f1;obtain ⟨v,hv⟩:∃v,cs[i]?=some v:=⟨_,List.getElem?_eq_getElem (by omega)⟩;obtain ⟨y,hy⟩:∃y,xs[i]?=some y:=⟨_,List.getElem?_eq_getElem (by omega)⟩;rw [f2,f3,hc3,xzc hv,hy] at he;obtain ⟨n,h1,h2,h3⟩:=DataW.trod_int Tryz.underlying3 he;simp only [List.cons.injEq,and_true] at h1;subst h1;exact ⟨n,hv,x06 h3⟩
theorem xz6(l:List (DataW H))(h:∀d∈l,2<=Rows.uptoBulk d):2*l.length<=Rows.uptoBulkAll l:=by
 induction l with
 | nil=>simp [Rows.uptoBulkAll]
 | cons x r ih=>
  have h1:=h x (by simp);have h2:=ih (fun d hd=>h d (by simp [hd]));simp only [Rows.uptoBulkAll,List.length_cons];omega
theorem xps{ts t:TypeId}{fs:Array Field}(N:Nat)(hN:0<N)(hts:Tryz.prog.underlying ts=some (.slice t))(ht:Tryz.prog.underlying t=some (.struct fs))(hs:fs.size=N)(hf:∀i,i<N->∃f,fs[i]?=some f/\f.type=3/\f.offset=i)(hc:Tryz.prog.cellsOf t=N){fuel:Nat}{v:Value}{x:DataW H×List MemPlace}(h:DataW.trod enc Tryz.prog w base (fun _=>true) held fuel ts [v]=some x)(hb:Rows.uptoBulk x.1<=1048576):
  ∃a n c,∃d:Nat->Nat->Int,v=.slice a n c/\n<=1000000/\n<=c/\(a=none->c=0)/\(n=0\/∃g off,a=some ⟨g,off,none⟩/\∀j,j<n->∀i,i<N->w.cell? ⟨g,off+j*N+i,none⟩=some (.int .i64 (d j i))/\-9223372036854775808<=d j i/\d j i<=9223372036854775807):=by
 rcases Deep.open_slice hts h with ⟨h0,_⟩|⟨a,len,cap,m,n,D,Pl,h1,h2,h3,h4,h5,h6,h7⟩
 ·simp only [List.cons.injEq,and_true] at h0;subst h0;exact ⟨none,0,0,fun _ _=>0,rfl,by omega,Nat.le_refl _,fun _=>rfl,.inl rfl⟩
 ·simp only [List.cons.injEq,and_true] at h1;subst h1;simp only [if_true] at h5;subst h5;rw [hc] at h7
  have each:∀i,i<m->2<=Rows.uptoBulk (D i)/\∃k:Nat->Int,∀t,t<N->w.cell? ((a.add (i*N)).add t)=some (.int .i64 (k t))/\-9223372036854775808<=k t/\k t<=9223372036854775807:=by
   intro i hi;obtain ⟨cs',g1,g2⟩:=h7 i hi;obtain ⟨k1,k2,k,k3⟩:=xpr N hN ht hs hf hc g2;obtain ⟨_,_,g3⟩:=World.cells?_some g1;exact ⟨k1,k,fun t ht=>⟨by rw [g3 t ht];exact (k3 t ht).1,(k3 t ht).2⟩⟩
  have hlen:len<=1000000:=by
   rw [h6] at hb
   have h8:=xz6 ((List.range len).map D) (fun d hd=>by
    obtain ⟨i,hi,rfl⟩:=List.mem_map.1 hd;rw [List.mem_range] at hi;exact (each i (by omega)).1)
   simp only [Rows.uptoBulk,List.length_map,List.length_range] at h8 hb;omega
  obtain ⟨ps,hps⟩:=Deep.choose_lt (fun i hi=>(each i hi).2);refine ⟨some a,len,m,ps,rfl,hlen,h3,(fun e=>by cases e),?_⟩;by_cases e0:len=0
  ·exact .inl e0
  ·obtain ⟨b,o,rfl⟩:=xbm (hps 0 (by omega) 0 (by omega)).1;refine .inr ⟨b,o,rfl,fun j hj i hi=>?_⟩;have:=hps j (by omega) i hi;rw [xbn,xbn] at this;exact this
theorem xl2:∃fs,Tryz.prog.underlying 139=some (.struct fs)/\fs.size=4/\∀i,i<4->∃f,fs[i]?=some f/\f.type=3/\f.offset=i:=by
 refine ⟨_,Tryz.underlying139,rfl,fun i hi=>?_⟩;rcases (show i=0\/i=1\/i=2\/i=3 by omega) with rfl|rfl|rfl|rfl<;>exact ⟨_,rfl,rfl,rfl⟩
theorem xnr:∃fs,Tryz.prog.underlying 94=some (.struct fs)/\fs.size=3/\∀i,i<3->∃f,fs[i]?=some f/\f.type=3/\f.offset=i:=by
 refine ⟨_,Tryz.underlying94,rfl,fun i hi=>?_⟩;rcases (show i=0\/i=1\/i=2 by omega) with rfl|rfl|rfl<;>exact ⟨_,rfl,rfl,rfl⟩
theorem open_script{fuel:Nat}{v:Value}{x:DataW H×List MemPlace}(h:DataW.trod enc Tryz.prog w base (fun _=>true) held fuel 88 [v]=some x)(hb:Rows.uptoBulk x.1<=1048576):∃n d,MvR w v n d:=by
 obtain ⟨fs,f1,f2,f3⟩:=xnr;obtain ⟨a,n,c,d,rfl,h1,h2,h3,h4⟩:=xps 3 (by omega) Tryz.underlying88 f1 f2 f3 (by kernel_rfl) h hb;refine ⟨n,d,by omega,?_⟩;rcases h4 with rfl|⟨g,off,rfl,h5⟩
 ·exact .inl ⟨rfl,_,_,rfl⟩
 ·exact .inr ⟨g,off,c,rfl,h5⟩
theorem open_config{fuel:Nat}{v:Value}{x:DataW H×List MemPlace}(h:DataW.trod enc Tryz.prog w base (fun _=>true) held fuel 77 v.cells.toList=some x)(hb:Rows.uptoBulk x.1<=1048576):
  ∃(S room:Int) (la:Option Addr) (ln lc:Nat) (ld:Nat->Nat->Int),v=.agg #[.int .i64 S,.slice la ln lc,.int .i64 room]/\LnR w (.slice la ln lc) ln ld/\ln<=lc/\(la=none->lc=0)/\ln<=1000000:=by
 obtain ⟨xs,m,_,hx,hl,hn,hel⟩:=DataW.trod_struct Tryz.underlying77 h;have hc:Tryz.prog.cellsOf 77=3:=by kernel_rfl
 have hc3:Tryz.prog.cellsOf 3=1:=by kernel_rfl
 have hcs:Tryz.prog.cellsOf 75=1:=by kernel_rfl
 rw [hc] at hl;obtain ⟨c0,c1,c2,e⟩:=xll hl;obtain ⟨x0,x1,x2,rfl⟩:=xll hn;rw [e] at hel;have e0:DataW.trod enc Tryz.prog w base (fun _=>true) held m 3 (([c0,c1,c2].drop 0).take (Tryz.prog.cellsOf 3))=some x0:=hel 0 _ rfl;have e1:DataW.trod enc Tryz.prog w base (fun _=>true) held m 75 (([c0,c1,c2].drop 1).take (Tryz.prog.cellsOf 75))=some x1:=hel 1 _ rfl;have e2:DataW.trod enc Tryz.prog w base (fun _=>true) held m 3 (([c0,c1,c2].drop 2).take (Tryz.prog.cellsOf 3))=some x2:=hel 2 _ rfl;simp only [hc3,hcs,List.drop_zero,List.take_succ_cons,List.take_zero,List.drop_succ_cons] at e0 e1 e2;obtain ⟨S,hS,_,_⟩:=DataW.trod_int Tryz.underlying3 e0;obtain ⟨room,hR,_,_⟩:=DataW.trod_int Tryz.underlying3 e2;simp only [List.cons.injEq,and_true] at hS hR;subst hS hR
 have hb1:Rows.uptoBulk x1.1<=1048576:=by
  rw [hx] at hb;simp only [Rows.uptoBulk,Rows.uptoBulkAll,List.map_cons,List.map_nil] at hb;omega
 obtain ⟨fs,f1,f2,f3⟩:=xl2;obtain ⟨a,n,c,d,rfl,h1,h2,h3,h4⟩:=xps 4 (by omega) Tryz.underlying75 f1 f2 f3 (by kernel_rfl) e1 hb1;refine ⟨S,room,a,n,c,d,?_,?_,h2,h3,h1⟩
 ·cases v with
  | agg cs=>
   have e:cs.toList=[.int .i64 S,.slice a n c,.int .i64 room]:=e;rw [<-Array.toArray_toList (xs:=cs),e]
  | _=>simp [Value.cells] at e
 ·rcases h4 with rfl|⟨g,off,rfl,h5⟩
  ·exact .inl ⟨rfl,_,_,rfl⟩
  ·exact .inr ⟨g,off,c,rfl,by omega,fun j hj i hi=>(h5 j hj i hi).1⟩
end
end Go.Proofs.YtlhkfafdioakeaaGreatDoor.Opn
namespace Go.Proofs.YtlhkfafdioakeaaGreatDoor
set_option maxRecDepth 100000
open Go.ChangeShapes Go.WideShapes Go.ChangeAt Go.WideMaps Go.WideElems Go.RowKit Go.Weft
open Go.ChangeMaps (open_string shut_string)
set_option linter.unusedVariables false
set_option linter.unusedSimpArgs false
theorem xc0{w w':World}(h:w.grownBy w' none):Below w.heap.size w w':=⟨h.os,h.tape,h.output,h.size,fun k hk=>h.block k hk (by simp)⟩
theorem own:ownKnob Tryz.prog.godebug=none:=by kernel_rfl
theorem xnz {W : World} (g0 : Nat) (t0 : TypeId) (cs0 : Array Value) (f0 : Nat) (p0 : List MemPlace) (hg0 : Tryz.prog.globalNamed "weft/tree.names" = some g0) (ht0 : (Tryz.prog.globals[g0]?).map (·.type) = some t0) (hv0 : W.var? Tryz.prog "weft/tree.names" = some cs0) (hd0 : DataW.trod (fun _ => ()) Tryz.prog W 0 (fun _ => true) false f0 t0 cs0.toList = some (Rows.laid_weft_tree_names, p0)) : Names W := by
 obtain rfl:g0=1:=Option.some.inj (hg0.symm.trans (by kernel_rfl));obtain rfl:t0=340:=Option.some.inj (ht0.symm.trans (by kernel_rfl));obtain ⟨xs,m1,rfl,hx1,hlen,hn3,hel⟩:=DataW.trod_array Tryz.underlying340 hd0;have c9:Tryz.prog.cellsOf 9=1:=by kernel_rfl
 have c195:Tryz.prog.cellsOf 340=6:=by kernel_rfl
 rw [c195] at hlen;rw [c9] at hel;obtain ⟨l1⟩:=cs0;simp only [Prod.mk.injEq] at hx1;match l1,hlen,xs,hn3,hx1 with
 | [a0,a1,a2,a3,a4,a5],_,[x0,x1,x2,x3,x4,x5],_,hx1=>
  obtain ⟨hx1,_⟩:=hx1;simp only [Rows.laid_weft_tree_names,DataW.agg.injEq,List.map_cons,List.map_nil,List.cons.injEq,and_true] at hx1
  have look:∀(i:Nat) (hi:i<6) (a:Value) (x:DataW Unit×List MemPlace) (bs:List UInt8),([a0,a1,a2,a3,a4,a5]:List Value)[i]?=some a->([x0,x1,x2,x3,x4,x5])[i]?=some x->DataW.lit (.string bs)=x.1->∃s,a=.string s/\s.data.toList=bs:=by
   intro i hi a x bs ha hx he;have h1:=hel i hi;rw [hx] at h1
   have e2:List.take 1 (List.drop (i*1) [a0,a1,a2,a3,a4,a5])=[a]:=by
    rcases (show i=0\/i=1\/i=2\/i=3\/i=4\/i=5 by omega) with rfl|rfl|rfl|rfl|rfl|rfl<;>(simp at ha;subst ha;rfl)
   rw [e2] at h1;obtain ⟨s,e3,e4,_⟩:=DataW.trod_string Tryz.underlying9 h1;refine ⟨s,by simpa using e3,?_⟩;rw [e4] at he;simpa using he.symm
  have cell:∀j a,([a0,a1,a2,a3,a4,a5]:List Value)[j]?=some a->W.cell? ⟨1,j,none⟩=some a:=by
   intro j a hj;have:=World.var?_cell hg0 hv0 j;simpa using this.trans (by simpa using hj)
  obtain ⟨s0,rfl,e0⟩:=look 0 (by decide) a0 x0 _ rfl rfl hx1.1;obtain ⟨s1,rfl,e1⟩:=look 1 (by decide) a1 x1 _ rfl rfl hx1.2.1;obtain ⟨s2,rfl,e2⟩:=look 2 (by decide) a2 x2 _ rfl rfl hx1.2.2.1;obtain ⟨s3,rfl,e3⟩:=look 3 (by decide) a3 x3 _ rfl rfl hx1.2.2.2.1;obtain ⟨s4,rfl,e4⟩:=look 4 (by decide) a4 x4 _ rfl rfl hx1.2.2.2.2.1;obtain ⟨s5,rfl,e5⟩:=look 5 (by decide) a5 x5 _ rfl rfl hx1.2.2.2.2.2;intro k hk;rcases (show k=0\/k=1\/k=2\/k=3\/k=4\/k=5 by omega) with rfl|rfl|rfl|rfl|rfl|rfl
  ·rw [cell 0 _ rfl];exact congrArg (fun s=>some (Value.string s)) (xd3 e0)
  ·rw [cell 1 _ rfl];exact congrArg (fun s=>some (Value.string s)) (xd3 e1)
  ·rw [cell 2 _ rfl];exact congrArg (fun s=>some (Value.string s)) (xd3 e2)
  ·rw [cell 3 _ rfl];exact congrArg (fun s=>some (Value.string s)) (xd3 e3)
  ·rw [cell 4 _ rfl];exact congrArg (fun s=>some (Value.string s)) (xd3 e4)
  ·rw [cell 5 _ rfl];exact congrArg (fun s=>some (Value.string s)) (xd3 e5)
theorem xg2 {W : World} (g0 : Nat) (t0 : TypeId) (cs0 : Array Value) (f0 : Nat) (p0 : List MemPlace) (hg0 : Tryz.prog.globalNamed "weft/tables.everything" = some g0) (ht0 : (Tryz.prog.globals[g0]?).map (·.type) = some t0) (hv0 : W.var? Tryz.prog "weft/tables.everything" = some cs0) (hd0 : DataW.trod (fun _ => ()) Tryz.prog W 0 (fun _ => true) false f0 t0 cs0.toList = some (Rows.laid_weft_tables_everything, p0)) : Evy W := by
 obtain rfl:g0=0:=Option.some.inj (hg0.symm.trans (by kernel_rfl));obtain rfl:t0=46:=Option.some.inj (ht0.symm.trans (by kernel_rfl));obtain ⟨xs,m1,rfl,hx1,hlen,hn3,hel⟩:=DataW.trod_array Tryz.underlying46 hd0;have c9:Tryz.prog.cellsOf 3=1:=by kernel_rfl
 have c195:Tryz.prog.cellsOf 46=6:=by kernel_rfl
 rw [c195] at hlen;rw [c9] at hel;obtain ⟨l1⟩:=cs0;simp only [Prod.mk.injEq] at hx1;match l1,hlen,xs,hn3,hx1 with
 | [a0,a1,a2,a3,a4,a5],_,[x0,x1,x2,x3,x4,x5],_,hx1=>
  obtain ⟨hx1,_⟩:=hx1;simp only [Rows.laid_weft_tables_everything,DataW.agg.injEq,List.map_cons,List.map_nil,List.cons.injEq,and_true] at hx1
  have look:∀(i:Nat) (hi:i<6) (a:Value) (x:DataW Unit×List MemPlace),([a0,a1,a2,a3,a4,a5]:List Value)[i]?=some a->([x0,x1,x2,x3,x4,x5])[i]?=some x->DataW.lit (.int .i64 (-1))=x.1->a=.int .i64 (-1):=by
   intro i hi a x ha hx he;have h1:=hel i hi;rw [hx] at h1
   have e2:List.take 1 (List.drop (i*1) [a0,a1,a2,a3,a4,a5])=[a]:=by
    rcases (show i=0\/i=1\/i=2\/i=3\/i=4\/i=5 by omega) with rfl|rfl|rfl|rfl|rfl|rfl<;>(simp at ha;subst ha;rfl)
   rw [e2] at h1;obtain ⟨n,e3,e4,_⟩:=DataW.trod_int Tryz.underlying3 h1;rw [e4] at he;have hn:n=-1:=by simpa using he.symm
   have e5:a=.int .i64 n:=by simpa using e3
   rw [e5,hn]
  have cell:∀j a,([a0,a1,a2,a3,a4,a5]:List Value)[j]?=some a->W.cell? ⟨0,j,none⟩=some a:=by
   intro j a hj;have:=World.var?_cell hg0 hv0 j;simpa using this.trans (by simpa using hj)
  intro k hk;rcases (show k=0\/k=1\/k=2\/k=3\/k=4\/k=5 by omega) with rfl|rfl|rfl|rfl|rfl|rfl
  ·rw [cell 0 _ rfl,look 0 (by decide) a0 x0 rfl rfl hx1.1]
  ·rw [cell 1 _ rfl,look 1 (by decide) a1 x1 rfl rfl hx1.2.1]
  ·rw [cell 2 _ rfl,look 2 (by decide) a2 x2 rfl rfl hx1.2.2.1]
  ·rw [cell 3 _ rfl,look 3 (by decide) a3 x3 rfl rfl hx1.2.2.2.1]
  ·rw [cell 4 _ rfl,look 4 (by decide) a4 x4 rfl rfl hx1.2.2.2.2.1]
  ·rw [cell 5 _ rfl,look 5 (by decide) a5 x5 rfl rfl hx1.2.2.2.2.2]
theorem xz8{W:World}(h:laidMetH Tryz.prog Rows.tabledRow.laid W):Names W/\Evy W:=by
 rw [MakeChecks.laidMetH_plain _ _ _ (by kernel_rfl)] at h;obtain ⟨ps,h,_,_⟩:=h;obtain ⟨g0,t0,cs0,f0,p0,q0,hg0,ht0,hv0,hd0,h1,hps⟩:=h;obtain ⟨g1,t1,cs1,f1,p1,q1,hg1,ht1,hv1,hd1,h2,hps1⟩:=h1;refine ⟨xnz g0 t0 cs0 f0 p0 hg0 ht0 hv0 hd0,xg2 g1 t1 cs1 f1 p1 hg1 ht1 hv1 hd1⟩
end Go.Proofs.YtlhkfafdioakeaaGreatDoor
