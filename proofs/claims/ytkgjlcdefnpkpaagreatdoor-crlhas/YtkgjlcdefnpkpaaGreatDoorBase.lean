/- Small facts on worlds: a block that is known whole ('Blk'), behind new blocks, draws, stores and calls; and on numbers by limbs. Six limbs that fit. An array of six limbs written into a block. A modulus written into a block: thirteen cells. What stays through a walk: blocks that are known, blocks that may be written, all below; under one letter S, with its rules. What stays through a walk, for blocks of whatever cells: known ones, and ones that may be written; under one letter S, with its rules. Numbers by digits of 32 bits in slices: what lies where, and plain facts on digits. An array of numbers of 64 bits by value: opened as it is read, and shut again. '==' on arrays of uint64: what it answers. -/
import Derived.WalkKit
import Derived.WalkSpells
import Derived.WalkLawsBesides
import Derived.Deep.MidRow
import Derived.Deep.RegionHeld
import Derived.Laws.CopyOwn
import Derived.Deep.AppendLies
import Derived.ProofKit
import Derived.OpenShut
import Derived.ChangeKeysEq
namespace Go.Proofs.YtkgjlcdefnpkpaaGreatDoor
open Go.RowKit
open Go.ChangeShapes Go.WideShapes Go.ChangeAt Go.RowKit
def Blk (w:World) (b:Nat) (cs:List Value):Prop:=∃ t,w.heap[b]?=some (.cells cs.toArray t)
theorem Blk.lt {w:World} {b:Nat} {cs:List Value} (h:Blk w b cs):b < w.heap.size:=by
 obtain ⟨t,h⟩:=h
 exact (Array.getElem?_eq_some_iff.1 h).1
theorem Blk.cell {w:World} {b:Nat} {cs:List Value} (h:Blk w b cs) (j:Nat) (v:Value) (hv:cs[j]?=some v):w.cell? ⟨b,j,none⟩=some v:=by
 obtain ⟨t,h⟩:=h
 simp [World.cell?,h,hv]
theorem Blk.frozen {w:World} {b:Nat} {cs:List Value} (h:Blk w b cs) (j:Nat):w.frozen? ⟨b,j,none⟩=false:=by
 obtain ⟨t,h⟩:=h
 simp [World.frozen?,h]
theorem Blk.new (w:World) (cs:List Value) (t:TypeId) (b:Nat) (hb:b=w.heap.size):Blk (w.alloc (.cells cs.toArray t)) b cs:=by
 subst hb
 exact ⟨t,by show (w.heap.push _)[w.heap.size]?=_;simp⟩
theorem Blk.alloc {w:World} {b:Nat} {cs:List Value} (h:Blk w b cs) (o:Obj):Blk (w.alloc o) b cs:=by
 have hl:=h.lt
 obtain ⟨t,h⟩:=h
 exact ⟨t,by rw [Below.heap_alloc _ _ _ hl];exact h⟩
theorem Blk.drew {w:World} {b:Nat} {cs:List Value} (h:Blk w b cs):Blk w.drew b cs:=h
theorem Blk.other {w:World} {b:Nat} {cs:List Value} (h:Blk w b cs) (a:Addr) (v:Value) (hne:b≠a.block):Blk (w.setCell a v) b cs:=by
 obtain ⟨t,h⟩:=h
 exact ⟨t,by rw [Below.heap_setCell _ _ _ _ hne];exact h⟩
theorem Blk.set {w:World} {b:Nat} {cs:List Value} (h:Blk w b cs) (k:Nat) (v:Value):Blk (w.setCell ⟨b,k,none⟩ v) b (cs.set k v):=by
 obtain ⟨t,h⟩:=h
 refine ⟨t,?_⟩
 simp [World.setCell,Array.getElem?_modify,h]
theorem Blk.below {B:Nat} {w w':World} {b:Nat} {cs:List Value} (h:Blk w b cs) (hb:Below B w w') (hl:b < B):Blk w' b cs:=by
 obtain ⟨t,h⟩:=h
 exact ⟨t,by rw [hb.block b hl];exact h⟩
theorem Blk.later {w w':World} {b:Nat} {cs:List Value} (h:Blk w b cs) (hb:Below w.heap.size w w'):Blk w' b cs:=h.below hb h.lt
/-- numbers as cells of 64 bits -/
abbrev us (A:List Int):List Value:=A.map (Value.int .u64)
theorem us_get (A:List Int) (j:Nat) (h:j < A.length):(us A)[j]?=some (.int .u64 (A.getD j 0)):=by
 simp [us,h]
theorem us_set (A:List Int) (k:Nat) (x:Int):(us A).set k (.int .u64 x)=us (A.set k x):=by simp [us,List.map_set]
theorem Blk.setu {w:World} {b:Nat} {S:List Int} (h:Blk w b (us S)) (k:Nat) (s:Int):Blk (w.setCell ⟨b,k,none⟩ (.int .u64 s)) b (us (S.set k s)):=by
 rw [← us_set];exact h.set k _
theorem Blk.cells6 {w:World} {b:Nat} {x0 x1 x2 x3 x4 x5:Int} (h:Blk w b (us [x0,x1,x2,x3,x4,x5])):w.cell? ⟨b,0,none⟩=some (.int .u64 x0)∧w.cell? ⟨b,1,none⟩=some (.int .u64 x1)∧w.cell? ⟨b,2,none⟩=some (.int .u64 x2)∧w.cell? ⟨b,3,none⟩=some (.int .u64 x3)∧w.cell? ⟨b,4,none⟩=some (.int .u64 x4)∧w.cell? ⟨b,5,none⟩=some (.int .u64 x5) :=
 ⟨h.cell 0 _ rfl,h.cell 1 _ rfl,h.cell 2 _ rfl,h.cell 3 _ rfl,h.cell 4 _ rfl,h.cell 5 _ rfl⟩
/-- each fits into 64 bits -/
def fits (A:List Int):Prop:=∀ j,0≤A.getD j 0∧A.getD j 0 < 18446744073709551616
/-- the number of digits to a base, the lowest first -/
def pv (b:Int):List Int→Int
 | []=>0
 | d :: ds=>d + b * pv b ds
abbrev v64:List Int→Int:=pv 18446744073709551616
theorem six {A:List Int} (h:A.length=6):∃ x0 x1 x2 x3 x4 x5,A=[x0,x1,x2,x3,x4,x5]:=by
 match A,h with
 | [x0,x1,x2,x3,x4,x5],_=>exact ⟨x0,x1,x2,x3,x4,x5,rfl⟩
theorem fits6 {x0 x1 x2 x3 x4 x5:Int} (h:(0≤x0∧x0 < 18446744073709551616)∧(0≤x1∧x1 < 18446744073709551616)∧(0≤x2∧x2 < 18446744073709551616)∧(0≤x3∧x3 < 18446744073709551616)∧(0≤x4∧x4 < 18446744073709551616)∧(0≤x5∧x5 < 18446744073709551616)):fits [x0,x1,x2,x3,x4,x5]:=by
 obtain ⟨h0,h1,h2,h3,h4,h5⟩:=h
 intro j
 match j with
 | 0=>exact h0
 | 1=>exact h1
 | 2=>exact h2
 | 3=>exact h3
 | 4=>exact h4
 | 5=>exact h5
 | _ + 6=>exact ⟨by simp,by simp⟩
theorem blk_put6 {w:World} {b:Nat} {x0 x1 x2 x3 x4 x5 y0 y1 y2 y3 y4 y5:Int} (h:Blk w b (us [x0,x1,x2,x3,x4,x5])):Blk ((((((w.setCell ⟨b,0,none⟩ (.int .u64 y0)).setCell ⟨b,1,none⟩ (.int .u64 y1)).setCell ⟨b,2,none⟩ (.int .u64 y2)).setCell ⟨b,3,none⟩ (.int .u64 y3)).setCell ⟨b,4,none⟩ (.int .u64 y4)).setCell ⟨b,5,none⟩ (.int .u64 y5)) b (us [y0,y1,y2,y3,y4,y5]) :=
 (((((h.setu 0 y0).setu 1 y1).setu 2 y2).setu 3 y3).setu 4 y4).setu 5 y5
/-- a block of six limbs, whatever they are -/
def Wr6 (w:World) (b:Nat):Prop:=∃ X:List Int,X.length=6∧Blk w b (us X)
theorem Wr6.of {w:World} {b:Nat} {x0 x1 x2 x3 x4 x5:Int} (h:Blk w b (us [x0,x1,x2,x3,x4,x5])):Wr6 w b:=⟨_,rfl,h⟩
theorem Wr6.drew {w:World} {b:Nat} (h:Wr6 w b):Wr6 w.drew b:=h
theorem Wr6.later {w w':World} {b:Nat} (h:Wr6 w b) (hb:Below w.heap.size w w'):Wr6 w' b:=by
 obtain ⟨X,l,h⟩:=h
 exact ⟨X,l,h.later hb⟩
theorem Wr6.lt {w:World} {b:Nat} (h:Wr6 w b):b < w.heap.size:=by
 obtain ⟨X,l,h⟩:=h
 exact h.lt
theorem Wr6.cells {w:World} {b:Nat} (h:Wr6 w b):∃ x0 x1 x2 x3 x4 x5:Int,(w.cell? ⟨b,0,none⟩=some (.int .u64 x0)∧w.cell? ⟨b,1,none⟩=some (.int .u64 x1)∧w.cell? ⟨b,2,none⟩=some (.int .u64 x2)∧w.cell? ⟨b,3,none⟩=some (.int .u64 x3)∧w.cell? ⟨b,4,none⟩=some (.int .u64 x4)∧w.cell? ⟨b,5,none⟩=some (.int .u64 x5))∧(w.frozen? ⟨b,0,none⟩=false∧w.frozen? ⟨b,1,none⟩=false∧w.frozen? ⟨b,2,none⟩=false∧w.frozen? ⟨b,3,none⟩=false∧w.frozen? ⟨b,4,none⟩=false∧w.frozen? ⟨b,5,none⟩=false):=by
 obtain ⟨X,l,h⟩:=h
 obtain ⟨x0,x1,x2,x3,x4,x5,rfl⟩:=six l
 exact ⟨x0,x1,x2,x3,x4,x5,h.cells6,h.frozen 0,h.frozen 1,h.frozen 2,h.frozen 3,h.frozen 4,h.frozen 5⟩
theorem Wr6.put {w:World} {b:Nat} {y0 y1 y2 y3 y4 y5:Int} (h:Wr6 w b):Wr6 ((((((w.setCell ⟨b,0,none⟩ (.int .u64 y0)).setCell ⟨b,1,none⟩ (.int .u64 y1)).setCell ⟨b,2,none⟩ (.int .u64 y2)).setCell ⟨b,3,none⟩ (.int .u64 y3)).setCell ⟨b,4,none⟩ (.int .u64 y4)).setCell ⟨b,5,none⟩ (.int .u64 y5)) b:=by
 obtain ⟨X,l,h⟩:=h
 obtain ⟨x0,x1,x2,x3,x4,x5,rfl⟩:=six l
 exact ⟨_,rfl,blk_put6 h⟩
theorem cell_later {w w':World} {c j:Nat} {v:Value} (h:w.cell? ⟨c,j,none⟩=some v) (hb:Below w.heap.size w w'):w'.cell? ⟨c,j,none⟩=some v:=by
 rw [hb.cell (World.block_lt_of_cell? w _ h)];exact h
theorem below_step {a w w':World} (h:Below a.heap.size a w) (hb:Below w.heap.size w w'):Below a.heap.size a w':=h.trans (hb.mono h.size)
theorem cell_alloc {w:World} {c j:Nat} {v:Value} {o:Obj} (h:w.cell? ⟨c,j,none⟩=some v):(w.alloc o).cell? ⟨c,j,none⟩=some v:=by
 rw [World.cell?_alloc_lt _ _ _ (World.block_lt_of_cell? w _ h)];exact h
theorem Wr6.alloc {w:World} {b:Nat} {o:Obj} (h:Wr6 w b):Wr6 (w.alloc o) b:=by
 obtain ⟨X,l,h⟩:=h
 exact ⟨X,l,h.alloc o⟩
theorem below_alloc {a w:World} {o:Obj} (h:Below a.heap.size a w):Below a.heap.size a (w.alloc o):=h.alloc h.size o
theorem Wr6.swap {w:World} {b:Nat} {o o':Obj} (h:Wr6 (w.alloc o) b) (hc:b < w.heap.size):Wr6 (w.alloc o') b:=by
 obtain ⟨X,l,t,h⟩:=h
 exact ⟨X,l,t,by rw [Below.heap_alloc _ _ _ hc] at h ⊢;exact h⟩
theorem below_swap {B:Nat} {a w:World} {o o':Obj} (h:Below B a (w.alloc o)) (hc:B≤w.heap.size):Below B a (w.alloc o') :=
 ⟨h.os,h.tape,h.output,by have:=h.size;simpa using this,fun b hb=>by
  have:=h.block b hb
  rw [Below.heap_alloc _ _ _ (by omega)] at this ⊢
  exact this⟩
theorem Wr6.new {w:World} {t:TypeId}:Wr6 (w.alloc (Obj.cells #[.int .u64 0,.int .u64 0,.int .u64 0,.int .u64 0,.int .u64 0,.int .u64 0] t)) w.heap.size :=
 Wr6.of (Blk.new w (us [0,0,0,0,0,0]) t w.heap.size rfl)
/-- six cells of a block -/
def At6 (w:World) (b o:Nat) (x0 x1 x2 x3 x4 x5:Int):Prop:=w.cell? ⟨b,o,none⟩=some (.int .u64 x0)∧w.cell? ⟨b,o + 1,none⟩=some (.int .u64 x1)∧w.cell? ⟨b,o + 2,none⟩=some (.int .u64 x2)∧w.cell? ⟨b,o + 3,none⟩=some (.int .u64 x3)∧w.cell? ⟨b,o + 4,none⟩=some (.int .u64 x4)∧w.cell? ⟨b,o + 5,none⟩=some (.int .u64 x5)
theorem At6.later {w w':World} {b o:Nat} {x0 x1 x2 x3 x4 x5:Int} (h:At6 w b o x0 x1 x2 x3 x4 x5) (hb:Below w.heap.size w w'):At6 w' b o x0 x1 x2 x3 x4 x5:=by
 obtain ⟨h0,h1,h2,h3,h4,h5⟩:=h
 exact ⟨cell_later h0 hb,cell_later h1 hb,cell_later h2 hb,cell_later h3 hb,cell_later h4 hb,cell_later h5 hb⟩
theorem thirteen {A:List Int} (h:A.length=13):∃ x0 x1 x2 x3 x4 x5 x6 x7 x8 x9 x10 x11 x12,A=[x0,x1,x2,x3,x4,x5,x6,x7,x8,x9,x10,x11,x12]:=by
 match A,h with
 | [x0,x1,x2,x3,x4,x5,x6,x7,x8,x9,x10,x11,x12],_=>exact ⟨x0,x1,x2,x3,x4,x5,x6,x7,x8,x9,x10,x11,x12,rfl⟩
def Wr13 (w:World) (b:Nat):Prop:=∃ X:List Int,X.length=13∧Blk w b (us X)
theorem Wr13.of {w:World} {b:Nat} {X:List Int} (l:X.length=13) (h:Blk w b (us X)):Wr13 w b:=⟨_,l,h⟩
theorem Wr13.drew {w:World} {b:Nat} (h:Wr13 w b):Wr13 w.drew b:=h
theorem Wr13.later {w w':World} {b:Nat} (h:Wr13 w b) (hb:Below w.heap.size w w'):Wr13 w' b:=by
 obtain ⟨X,l,h⟩:=h
 exact ⟨X,l,h.later hb⟩
theorem Wr13.lt {w:World} {b:Nat} (h:Wr13 w b):b < w.heap.size:=by
 obtain ⟨X,l,h⟩:=h
 exact h.lt
theorem Wr13.cells {w:World} {b:Nat} (h:Wr13 w b):∃ x0 x1 x2 x3 x4 x5 x6 x7 x8 x9 x10 x11 x12:Int,(w.cell? ⟨b,0,none⟩=some (.int .u64 x0)∧w.cell? ⟨b,1,none⟩=some (.int .u64 x1)∧w.cell? ⟨b,2,none⟩=some (.int .u64 x2)∧w.cell? ⟨b,3,none⟩=some (.int .u64 x3)∧w.cell? ⟨b,4,none⟩=some (.int .u64 x4)∧w.cell? ⟨b,5,none⟩=some (.int .u64 x5)∧w.cell? ⟨b,6,none⟩=some (.int .u64 x6)∧w.cell? ⟨b,7,none⟩=some (.int .u64 x7)∧w.cell? ⟨b,8,none⟩=some (.int .u64 x8)∧w.cell? ⟨b,9,none⟩=some (.int .u64 x9)∧w.cell? ⟨b,10,none⟩=some (.int .u64 x10)∧w.cell? ⟨b,11,none⟩=some (.int .u64 x11)∧w.cell? ⟨b,12,none⟩=some (.int .u64 x12))∧(w.frozen? ⟨b,0,none⟩=false∧w.frozen? ⟨b,1,none⟩=false∧w.frozen? ⟨b,2,none⟩=false∧w.frozen? ⟨b,3,none⟩=false∧w.frozen? ⟨b,4,none⟩=false∧w.frozen? ⟨b,5,none⟩=false∧w.frozen? ⟨b,6,none⟩=false∧w.frozen? ⟨b,7,none⟩=false∧w.frozen? ⟨b,8,none⟩=false∧w.frozen? ⟨b,9,none⟩=false∧w.frozen? ⟨b,10,none⟩=false∧w.frozen? ⟨b,11,none⟩=false∧w.frozen? ⟨b,12,none⟩=false):=by
 obtain ⟨X,l,h⟩:=h
 obtain ⟨x0,x1,x2,x3,x4,x5,x6,x7,x8,x9,x10,x11,x12,rfl⟩:=thirteen l
 exact ⟨x0,x1,x2,x3,x4,x5,x6,x7,x8,x9,x10,x11,x12,⟨h.cell 0 _ rfl,h.cell 1 _ rfl,h.cell 2 _ rfl,h.cell 3 _ rfl,h.cell 4 _ rfl,h.cell 5 _ rfl,h.cell 6 _ rfl,h.cell 7 _ rfl,h.cell 8 _ rfl,h.cell 9 _ rfl,h.cell 10 _ rfl,h.cell 11 _ rfl,h.cell 12 _ rfl⟩,⟨h.frozen 0,h.frozen 1,h.frozen 2,h.frozen 3,h.frozen 4,h.frozen 5,h.frozen 6,h.frozen 7,h.frozen 8,h.frozen 9,h.frozen 10,h.frozen 11,h.frozen 12⟩⟩
theorem Wr13.put {w:World} {b:Nat} {y0 y1 y2 y3 y4 y5 y6 y7 y8 y9 y10 y11 y12:Int} (h:Wr13 w b):Wr13 (((((((((((((w.setCell ⟨b,0,none⟩ (.int .u64 y0)).setCell ⟨b,1,none⟩ (.int .u64 y1)).setCell ⟨b,2,none⟩ (.int .u64 y2)).setCell ⟨b,3,none⟩ (.int .u64 y3)).setCell ⟨b,4,none⟩ (.int .u64 y4)).setCell ⟨b,5,none⟩ (.int .u64 y5)).setCell ⟨b,6,none⟩ (.int .u64 y6)).setCell ⟨b,7,none⟩ (.int .u64 y7)).setCell ⟨b,8,none⟩ (.int .u64 y8)).setCell ⟨b,9,none⟩ (.int .u64 y9)).setCell ⟨b,10,none⟩ (.int .u64 y10)).setCell ⟨b,11,none⟩ (.int .u64 y11)).setCell ⟨b,12,none⟩ (.int .u64 y12)) b:=by
 obtain ⟨X,l,h⟩:=h
 obtain ⟨x0,x1,x2,x3,x4,x5,x6,x7,x8,x9,x10,x11,x12,rfl⟩:=thirteen l
 exact ⟨_,rfl,(((((((((((((h.setu 0 y0).setu 1 y1).setu 2 y2).setu 3 y3).setu 4 y4).setu 5 y5).setu 6 y6).setu 7 y7).setu 8 y8).setu 9 y9).setu 10 y10).setu 11 y11).setu 12 y12)⟩
theorem Blk.swap {w:World} {b:Nat} {cs:List Value} {o o':Obj} (h:Blk (w.alloc o) b cs) (hc:b < w.heap.size):Blk (w.alloc o') b cs:=by
 obtain ⟨t,h⟩:=h
 exact ⟨t,by rw [Below.heap_alloc _ _ _ hc] at h ⊢;exact h⟩
/-- S at a world, under a head of its own -/
def Hd (S:World→Prop) (w:World):Prop:=S w
/-- a block of n numbers of 64 bits, whatever they are -/
def Wrn (w:World) (b n:Nat):Prop:=∃ X:List Int,X.length=n∧Blk w b (us X)
theorem Wrn.mk {w:World} {b n:Nat} {X:List Int} (h:Blk w b (us X)) (l:X.length=n):Wrn w b n:=⟨_,l,h⟩
theorem Wrn.later {w w':World} {b n:Nat} (h:Wrn w b n) (hb:Below w.heap.size w w'):Wrn w' b n:=by
 obtain ⟨X,l,h⟩:=h
 exact ⟨X,l,h.later hb⟩
theorem Wrn.lt {w:World} {b n:Nat} (h:Wrn w b n):b < w.heap.size:=by
 obtain ⟨X,l,h⟩:=h
 exact h.lt
theorem Wrn.alloc {w:World} {b n:Nat} (h:Wrn w b n) (o:Obj):Wrn (w.alloc o) b n:=by
 obtain ⟨X,l,h⟩:=h
 exact ⟨X,l,h.alloc o⟩
theorem Wrn.swap {w:World} {b n:Nat} {o o':Obj} (h:Wrn (w.alloc o) b n) (hc:b < w.heap.size):Wrn (w.alloc o') b n:=by
 obtain ⟨X,l,h⟩:=h
 exact ⟨X,l,h.swap hc⟩
theorem Wrn.set {w:World} {b n c j:Nat} {y:Int} (h:Wrn w b n):Wrn (w.setCell ⟨c,j,none⟩ (.int .u64 y)) b n:=by
 obtain ⟨X,l,h⟩:=h
 by_cases e:b=c
 ·subst e;exact ⟨_,by simpa using l,h.setu j y⟩
 ·exact ⟨X,l,h.other _ _ e⟩
theorem Wrn.row {w:World} {b n:Nat} {cs:Array Value} (h:Wrn w b n):Blk (w.setRow b cs) b cs.toList:=by
 obtain ⟨X,l,t,h⟩:=h
 exact ⟨t,by simpa using setRow_heap w b _ cs t _ h⟩
theorem Blk.row {w:World} {b c:Nat} {X:List Value} {cs:Array Value} (h:Blk w b X) (hc:b≠c):Blk (w.setRow c cs) b X:=by
 obtain ⟨t,h⟩:=h
 exact ⟨t,by rw [setRow_other _ _ _ _ hc];exact h⟩
/-- the slice value v, in the world w, holds the numbers D -/
def Sl (w:World) (v:Value) (D:List Int):Prop :=
 (v=.slice none 0 0∧D=[])∨∃ b cap,v=.slice (some ⟨b,0,none⟩) D.length cap∧D.length≤cap∧cap≤maxLen∧b < w.heap.size∧∀ j,j < D.length→w.cell? ⟨b,j,none⟩=some (.int .u64 (D.getD j 0))
theorem Sl.below {B:Nat} {w w':World} {v:Value} {D:List Int} (h:Sl w v D) (hb:Below B w w') (hB:w.heap.size≤B):Sl w' v D:=by
 rcases h with h|⟨b,cap,h1,h2,h3,h4,h5⟩
 ·exact .inl h
 ·exact .inr ⟨b,cap,h1,h2,h3,Nat.lt_of_lt_of_le h4 hb.size,fun j hj=>(hb.cell (show b < B by omega)).trans (h5 j hj)⟩
theorem Sl.later {w w':World} {v:Value} {D:List Int} (h:Sl w v D) (hb:Below w.heap.size w w'):Sl w' v D:=h.below hb (Nat.le_refl _)
theorem Sl.alloc {w:World} {v:Value} {D:List Int} (h:Sl w v D) (o:Obj):Sl (w.alloc o) v D:=h.later ((Below.refl _ _).alloc (Nat.le_refl _) o)
theorem Sl.of_own {w:World} {base:Nat} {e:TypeId} {v:Value} {n:Nat} {D:List Int} (h:w.ownsRow base e 1 v n (us D)):Sl w v D:=by
 obtain ⟨hl,h⟩:=h
 have hn:D.length=n:=by simpa using hl
 rcases h with ⟨h1,h2⟩|⟨g,cap,cur,h1,h2,h3,h4,h5,h6,h7⟩
 ·exact .inl ⟨h1,List.eq_nil_of_length_eq_zero (by omega)⟩
 ·refine .inr ⟨g,cap,by rw [hn];exact h1,by omega,h5,(Array.getElem?_eq_some_iff.1 h3).1,fun j hj=>?_⟩
  have e1:(cur.toList.take (n * 1))[j]?=some (.int .u64 (D.getD j 0)):=by rw [h7];exact us_get D j hj
  rw [List.getElem?_take,if_pos (by omega)] at e1
  simp only [World.cell?,h3,Option.isSome_none,Bool.false_eq_true,if_false]
  simpa using e1
theorem Sl.form {w:World} {v:Value} {D:List Int} (h:Sl w v D):∃ ao cap,v=.slice ao D.length cap∧cap≤maxLen∧D.length≤cap∧(0 < D.length→∃ b,ao=some ⟨b,0,none⟩∧b < w.heap.size∧∀ j,j < D.length→w.cell? ⟨b,j,none⟩=some (.int .u64 (D.getD j 0))):=by
 rcases h with ⟨rfl,rfl⟩|⟨b,cap,h1,h2,h3,h4,h5⟩
 ·exact ⟨none,0,rfl,Nat.zero_le _,Nat.le_refl _,fun h=>absurd h (by simp)⟩
 ·exact ⟨_,cap,h1,h3,h2,fun _=>⟨b,rfl,h4,h5⟩⟩
abbrev v32:List Int→Int:=pv 4294967296
/-- digits of 32 bits -/
def dig (D:List Int):Prop:=∀ j,0≤D.getD j 0∧D.getD j 0 < 4294967296
/-- no nought at the end -/
def trd (D:List Int):Prop:=0 < D.length→D.getD (D.length - 1) 0≠0
theorem dig_cons {a:Int} {A:List Int} (h:dig (a :: A)):(0≤a∧a < 4294967296)∧dig A:=⟨h 0,fun j=>h (j + 1)⟩
theorem dig_take {D:List Int} (h:dig D) (n:Nat):dig (D.take n):=by
 intro j
 by_cases hj:j < n
 ·have:(D.take n).getD j 0=D.getD j 0:=by simp [List.getD_eq_getElem?_getD,hj]
  rw [this];exact h j
 ·have:(D.take n).getD j 0=0:=by simp [List.getD_eq_getElem?_getD,List.getElem?_take,hj]
  rw [this];decide
theorem getD_none (D:List Int) (j:Nat) (h:D.length≤j):D.getD j 0=0:=by simp [List.getD_eq_getElem?_getD,List.getElem?_eq_none h]
/-- v holds the number N, by digits, without noughts at the end -/
def NumIs (w:World) (v:Value) (N:Int):Prop:=∃ D,Sl w v D∧dig D∧trd D∧v32 D=N
theorem NumIs.later {w w':World} {v:Value} {N:Int} (h:NumIs w v N) (hb:Below w.heap.size w w'):NumIs w' v N:=by
 obtain ⟨D,h1,h2⟩:=h
 exact ⟨D,h1.later hb,h2⟩
theorem NumIs.drew {w:World} {v:Value} {N:Int} (h:NumIs w v N):NumIs w.drew v N:=h
theorem NumIs.alloc {w:World} {v:Value} {N:Int} (h:NumIs w v N) (o:Obj):NumIs (w.alloc o) v N:=h.later ((Below.refl _ _).alloc (Nat.le_refl _) o)
theorem v32_bound:∀ (A:List Int),dig A→0≤v32 A∧v32 A < 4294967296 ^ A.length
 | [],_=>by simp [v32,pv]
 | a :: A,h=>by
  obtain ⟨ha,hA⟩:=dig_cons h
  have ih:=v32_bound A hA
  simp only [v32,pv,List.length_cons,Int.pow_succ] at *
  generalize (4294967296:Int) ^ A.length=p at *
  generalize pv 4294967296 A=v at *
  omega
theorem pv_drop (b:Int):∀ (D:List Int) (k:Nat),k < D.length→pv b D=pv b (D.take k) + b ^ k * (D.getD k 0 + b * pv b (D.drop (k + 1)))
 | [],k,h=>absurd h (by simp)
 | d :: D,0,_=>by simp [pv]
 | d :: D,k + 1,h=>by
  have ih:=pv_drop b D k (by simpa using h)
  rw [pv,ih,List.take_succ_cons,pv,List.getD_cons_succ,List.drop_succ_cons,Int.pow_succ]
  grind
theorem pow32_pos (k:Nat):(0:Int) < 4294967296 ^ k:=Int.pow_pos (by decide)
theorem trd_lower (D:List Int) (hD:dig D) (hT:trd D) (h:0 < D.length):(4294967296:Int) ^ (D.length - 1)≤v32 D:=by
 have h1:=hT h
 have h2:=hD (D.length - 1)
 have b:=v32_bound (D.take (D.length - 1)) (dig_take hD _)
 have p:=pow32_pos (D.length - 1)
 simp only [v32] at *
 rw [pv_drop _ D (D.length - 1) (by omega),List.drop_of_length_le (by omega)]
 generalize D.getD (D.length - 1) 0=x at *
 generalize (4294967296:Int) ^ (D.length - 1)=q at *
 have:q * 1≤q * (x + 4294967296 * pv 4294967296 []):=Int.mul_le_mul_of_nonneg_left (by simp only [pv];omega) (by omega)
 omega
variable {H:Type} {enc:TypeId × Value→H} {P:Program} {w:World} {base:Nat} {spare:Nat→Bool} {held:Bool}
theorem wf_u64 {n:Int}:(Lit.int .u64 n).wf=true↔0≤n∧n < 18446744073709551616:=by
 have h1:IntKind.u64.min=0:=rfl
 have h2:IntKind.u64.max=18446744073709551615:=rfl
 simp [Lit.wf,h1,h2]
 omega
theorem fits_of (A:List Int) (h:∀ j,j < A.length→0≤A.getD j 0∧A.getD j 0 < 18446744073709551616):fits A:=by
 intro j
 by_cases hj:j < A.length
 ·exact h j hj
 ·have:A.getD j 0=0:=by simp [List.getD_eq_getElem?_getD,List.getElem?_eq_none (Nat.le_of_not_lt hj)]
  rw [this];decide
theorem open_arr {n:Nat} {t e:TypeId} {cs:Array Value} {d:DataW H} {p:List MemPlace} (hu:P.underlying t=some (.array n e)) (hc:P.cellsOf t=n) (hue:P.underlying e=some (.int .u64)) (hce:P.cellsOf e=1)
  (h:DataW.Trod enc P w base spare held t (.agg cs) d p) :
  ∃ A:List Int,A.length=n∧cs=(us A).toArray∧d=.agg (A.map fun x=>.lit (.int .u64 x))∧p=[]∧fits A:=by
 obtain ⟨fuel,hf⟩:=h
 obtain ⟨xs,m,_,hx,hl,hn,hi⟩:=DataW.trod_array hu hf
 obtain ⟨l⟩:=cs
 simp only [Value.cells] at hl hi
 rw [hc] at hl
 have step:∀ i,i < n→∃ x:Int,l[i]?=some (.int .u64 x)∧xs[i]?=some (.lit (.int .u64 x),[])∧(Lit.int .u64 x).wf=true:=by
  intro i hin
  have h1:=hi i hin
  rw [hce,Nat.mul_one] at h1
  have h2:(l.drop i).take 1=[l[i]'(by omega)]:=by
   rw [List.drop_eq_getElem_cons (by omega)];rfl
  rw [h2] at h1
  rw [List.getElem?_eq_getElem (show i < xs.length by omega)] at h1
  obtain ⟨x,e1,e2,e3⟩:=DataW.trod_int hue h1
  simp only [List.cons.injEq,and_true] at e1
  exact ⟨x,by rw [List.getElem?_eq_getElem (by omega),e1],by rw [List.getElem?_eq_getElem (by omega),e2],e3⟩
 have hlen:l.length=n:=hl
 refine ⟨l.map intOf,by simpa using hlen,?_,?_,?_,?_⟩
 ·congr 1
  apply List.ext_getElem?
  intro i
  by_cases hin:i < n
  ·obtain ⟨x,e1,_,_⟩:=step i hin
   simp [us,e1,intOf]
  ·rw [List.getElem?_eq_none (by omega),List.getElem?_eq_none (by simp;omega)]
 ·simp only [Prod.mk.injEq] at hx
  rw [hx.1]
  congr 1
  apply List.ext_getElem?
  intro i
  by_cases hin:i < n
  ·obtain ⟨x,e1,e2,_⟩:=step i hin
   simp [e1,e2,intOf]
  ·rw [List.getElem?_eq_none (by simp;omega),List.getElem?_eq_none (by simp;omega)]
 ·simp only [Prod.mk.injEq] at hx
  rw [hx.2,List.flatMap_eq_nil_iff]
  intro y hy
  obtain ⟨i,hi1,hi2⟩:=List.getElem_of_mem hy
  obtain ⟨x,_,e2,_⟩:=step i (by omega)
  rw [List.getElem?_eq_getElem hi1,hi2] at e2
  injection e2 with e2
  rw [e2]
 ·apply fits_of
  intro j hj
  simp at hj
  obtain ⟨x,e1,_,e3⟩:=step j (by omega)
  have:(l.map intOf).getD j 0=x:=by simp [List.getD_eq_getElem?_getD,e1,intOf]
  rw [this]
  exact wf_u64.1 e3
end Go.Proofs.YtkgjlcdefnpkpaaGreatDoor
