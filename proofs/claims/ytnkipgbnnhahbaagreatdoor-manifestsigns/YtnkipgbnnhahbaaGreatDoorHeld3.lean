/- An array of six limbs written into a block. A modulus written into a block: thirteen cells. What stays through a walk: blocks that are known, blocks that may be written, all below; under one letter S, with its rules. What stays through a walk, for blocks of whatever cells: known ones, and ones that may be written; under one letter S, with its rules. What stays through a walk: known blocks of whatever cells; any other block may be written. -/
import Derived.Test.YtnkipgbnnhahbaaGreatDoorApBs
import Derived.Test.YtnkipgbnnhahbaaGreatDoorNum
import Derived.Deep.MidRow
import Derived.Deep.RegionHeld
import Derived.Laws.CopyOwn
namespace Go.Proofs.YtnkipgbnnhahbaaGreatDoor
open Go.RowKit
theorem below_put6 {B:Nat} {a w:World} {b:Nat} {v0 v1 v2 v3 v4 v5:Value} (h:Below B a w) (hb:B≤b):Below B a ((((((w.setCell ⟨b,0,none⟩ v0).setCell ⟨b,1,none⟩ v1).setCell ⟨b,2,none⟩ v2).setCell ⟨b,3,none⟩ v3).setCell ⟨b,4,none⟩ v4).setCell ⟨b,5,none⟩ v5) :=
 (((((h.setCell hb _).setCell hb _).setCell hb _).setCell hb _).setCell hb _).setCell hb _
theorem blk_put6 {w:World} {b:Nat} {x0 x1 x2 x3 x4 x5 y0 y1 y2 y3 y4 y5:Int} (h:Blk w b (us [x0,x1,x2,x3,x4,x5])):Blk ((((((w.setCell ⟨b,0,none⟩ (.int .u64 y0)).setCell ⟨b,1,none⟩ (.int .u64 y1)).setCell ⟨b,2,none⟩ (.int .u64 y2)).setCell ⟨b,3,none⟩ (.int .u64 y3)).setCell ⟨b,4,none⟩ (.int .u64 y4)).setCell ⟨b,5,none⟩ (.int .u64 y5)) b (us [y0,y1,y2,y3,y4,y5]) :=
 (((((h.setu 0 y0).setu 1 y1).setu 2 y2).setu 3 y3).setu 4 y4).setu 5 y5
/-- a block of six limbs, whatever they are -/
def Wr6 (w:World) (b:Nat):Prop:=∃ X:List Int,X.length=6∧Blk w b (us X)
theorem Wr6.of {w:World} {b:Nat} {x0 x1 x2 x3 x4 x5:Int} (h:Blk w b (us [x0,x1,x2,x3,x4,x5])):Wr6 w b:=⟨_,rfl,h⟩
theorem Wr6.drew {w:World} {b:Nat} (h:Wr6 w b):Wr6 w.drew b:=h
theorem Wr6.later {w w':World} {b:Nat} (h:Wr6 w b) (hb:Below w.heap.size w w'):Wr6 w' b:=by
 obtain ⟨X,l,h⟩:=h
 exact ⟨X,l,h.later hb⟩
theorem Wr6.lt {w:World} {b:Nat} (h:Wr6 w b):b < w.heap.size:=by
 obtain ⟨X,l,h⟩:=h
 exact h.lt
theorem Wr6.cells {w:World} {b:Nat} (h:Wr6 w b):∃ x0 x1 x2 x3 x4 x5:Int,(w.cell? ⟨b,0,none⟩=some (.int .u64 x0)∧w.cell? ⟨b,1,none⟩=some (.int .u64 x1)∧w.cell? ⟨b,2,none⟩=some (.int .u64 x2)∧w.cell? ⟨b,3,none⟩=some (.int .u64 x3)∧w.cell? ⟨b,4,none⟩=some (.int .u64 x4)∧w.cell? ⟨b,5,none⟩=some (.int .u64 x5))∧(w.frozen? ⟨b,0,none⟩=false∧w.frozen? ⟨b,1,none⟩=false∧w.frozen? ⟨b,2,none⟩=false∧w.frozen? ⟨b,3,none⟩=false∧w.frozen? ⟨b,4,none⟩=false∧w.frozen? ⟨b,5,none⟩=false):=by
 obtain ⟨X,l,h⟩:=h
 obtain ⟨x0,x1,x2,x3,x4,x5,rfl⟩:=six l
 exact ⟨x0,x1,x2,x3,x4,x5,h.cells6,h.frozen 0,h.frozen 1,h.frozen 2,h.frozen 3,h.frozen 4,h.frozen 5⟩
theorem Wr6.put {w:World} {b:Nat} {y0 y1 y2 y3 y4 y5:Int} (h:Wr6 w b):Wr6 ((((((w.setCell ⟨b,0,none⟩ (.int .u64 y0)).setCell ⟨b,1,none⟩ (.int .u64 y1)).setCell ⟨b,2,none⟩ (.int .u64 y2)).setCell ⟨b,3,none⟩ (.int .u64 y3)).setCell ⟨b,4,none⟩ (.int .u64 y4)).setCell ⟨b,5,none⟩ (.int .u64 y5)) b:=by
 obtain ⟨X,l,h⟩:=h
 obtain ⟨x0,x1,x2,x3,x4,x5,rfl⟩:=six l
 exact ⟨_,rfl,blk_put6 h⟩
theorem cell_later {w w':World} {c j:Nat} {v:Value} (h:w.cell? ⟨c,j,none⟩=some v) (hb:Below w.heap.size w w'):w'.cell? ⟨c,j,none⟩=some v:=by
 rw [hb.cell (World.block_lt_of_cell? w _ h)];exact h
theorem below_step {a w w':World} (h:Below a.heap.size a w) (hb:Below w.heap.size w w'):Below a.heap.size a w':=h.trans (hb.mono h.size)
theorem cell_alloc {w:World} {c j:Nat} {v:Value} {o:Obj} (h:w.cell? ⟨c,j,none⟩=some v):(w.alloc o).cell? ⟨c,j,none⟩=some v:=by
 rw [World.cell?_alloc_lt _ _ _ (World.block_lt_of_cell? w _ h)];exact h
theorem Wr6.alloc {w:World} {b:Nat} {o:Obj} (h:Wr6 w b):Wr6 (w.alloc o) b:=by
 obtain ⟨X,l,h⟩:=h
 exact ⟨X,l,h.alloc o⟩
theorem below_alloc {a w:World} {o:Obj} (h:Below a.heap.size a w):Below a.heap.size a (w.alloc o):=h.alloc h.size o
theorem Wr6.swap {w:World} {b:Nat} {o o':Obj} (h:Wr6 (w.alloc o) b) (hc:b < w.heap.size):Wr6 (w.alloc o') b:=by
 obtain ⟨X,l,t,h⟩:=h
 exact ⟨X,l,t,by rw [Below.heap_alloc _ _ _ hc] at h ⊢;exact h⟩
theorem below_swap {B:Nat} {a w:World} {o o':Obj} (h:Below B a (w.alloc o)) (hc:B≤w.heap.size):Below B a (w.alloc o') :=
 ⟨h.os,h.tape,h.output,by have:=h.size;simpa using this,fun b hb=>by
  have:=h.block b hb
  rw [Below.heap_alloc _ _ _ (by omega)] at this ⊢
  exact this⟩
theorem Wr6.new {w:World} {t:TypeId}:Wr6 (w.alloc (Obj.cells #[.int .u64 0,.int .u64 0,.int .u64 0,.int .u64 0,.int .u64 0,.int .u64 0] t)) w.heap.size :=
 Wr6.of (Blk.new w (us [0,0,0,0,0,0]) t w.heap.size rfl)
theorem Wr6.is {w:World} {b:Nat} {y0 y1 y2 y3 y4 y5:Int} (h:Wr6 w b):Blk ((((((w.setCell ⟨b,0,none⟩ (.int .u64 y0)).setCell ⟨b,1,none⟩ (.int .u64 y1)).setCell ⟨b,2,none⟩ (.int .u64 y2)).setCell ⟨b,3,none⟩ (.int .u64 y3)).setCell ⟨b,4,none⟩ (.int .u64 y4)).setCell ⟨b,5,none⟩ (.int .u64 y5)) b (us [y0,y1,y2,y3,y4,y5]):=by
 obtain ⟨X,l,h⟩:=h
 obtain ⟨x0,x1,x2,x3,x4,x5,rfl⟩:=six l
 exact blk_put6 h
/-- six cells of a block -/
def At6 (w:World) (b o:Nat) (x0 x1 x2 x3 x4 x5:Int):Prop:=w.cell? ⟨b,o,none⟩=some (.int .u64 x0)∧w.cell? ⟨b,o + 1,none⟩=some (.int .u64 x1)∧w.cell? ⟨b,o + 2,none⟩=some (.int .u64 x2)∧w.cell? ⟨b,o + 3,none⟩=some (.int .u64 x3)∧w.cell? ⟨b,o + 4,none⟩=some (.int .u64 x4)∧w.cell? ⟨b,o + 5,none⟩=some (.int .u64 x5)
theorem At6.later {w w':World} {b o:Nat} {x0 x1 x2 x3 x4 x5:Int} (h:At6 w b o x0 x1 x2 x3 x4 x5) (hb:Below w.heap.size w w'):At6 w' b o x0 x1 x2 x3 x4 x5:=by
 obtain ⟨h0,h1,h2,h3,h4,h5⟩:=h
 exact ⟨cell_later h0 hb,cell_later h1 hb,cell_later h2 hb,cell_later h3 hb,cell_later h4 hb,cell_later h5 hb⟩
theorem thirteen {A:List Int} (h:A.length=13):∃ x0 x1 x2 x3 x4 x5 x6 x7 x8 x9 x10 x11 x12,A=[x0,x1,x2,x3,x4,x5,x6,x7,x8,x9,x10,x11,x12]:=by
 match A,h with
 | [x0,x1,x2,x3,x4,x5,x6,x7,x8,x9,x10,x11,x12],_=>exact ⟨x0,x1,x2,x3,x4,x5,x6,x7,x8,x9,x10,x11,x12,rfl⟩
def Wr13 (w:World) (b:Nat):Prop:=∃ X:List Int,X.length=13∧Blk w b (us X)
theorem Wr13.of {w:World} {b:Nat} {X:List Int} (l:X.length=13) (h:Blk w b (us X)):Wr13 w b:=⟨_,l,h⟩
theorem Wr13.drew {w:World} {b:Nat} (h:Wr13 w b):Wr13 w.drew b:=h
theorem Wr13.later {w w':World} {b:Nat} (h:Wr13 w b) (hb:Below w.heap.size w w'):Wr13 w' b:=by
 obtain ⟨X,l,h⟩:=h
 exact ⟨X,l,h.later hb⟩
theorem Wr13.lt {w:World} {b:Nat} (h:Wr13 w b):b < w.heap.size:=by
 obtain ⟨X,l,h⟩:=h
 exact h.lt
theorem Wr13.cells {w:World} {b:Nat} (h:Wr13 w b):∃ x0 x1 x2 x3 x4 x5 x6 x7 x8 x9 x10 x11 x12:Int,(w.cell? ⟨b,0,none⟩=some (.int .u64 x0)∧w.cell? ⟨b,1,none⟩=some (.int .u64 x1)∧w.cell? ⟨b,2,none⟩=some (.int .u64 x2)∧w.cell? ⟨b,3,none⟩=some (.int .u64 x3)∧w.cell? ⟨b,4,none⟩=some (.int .u64 x4)∧w.cell? ⟨b,5,none⟩=some (.int .u64 x5)∧w.cell? ⟨b,6,none⟩=some (.int .u64 x6)∧w.cell? ⟨b,7,none⟩=some (.int .u64 x7)∧w.cell? ⟨b,8,none⟩=some (.int .u64 x8)∧w.cell? ⟨b,9,none⟩=some (.int .u64 x9)∧w.cell? ⟨b,10,none⟩=some (.int .u64 x10)∧w.cell? ⟨b,11,none⟩=some (.int .u64 x11)∧w.cell? ⟨b,12,none⟩=some (.int .u64 x12))∧(w.frozen? ⟨b,0,none⟩=false∧w.frozen? ⟨b,1,none⟩=false∧w.frozen? ⟨b,2,none⟩=false∧w.frozen? ⟨b,3,none⟩=false∧w.frozen? ⟨b,4,none⟩=false∧w.frozen? ⟨b,5,none⟩=false∧w.frozen? ⟨b,6,none⟩=false∧w.frozen? ⟨b,7,none⟩=false∧w.frozen? ⟨b,8,none⟩=false∧w.frozen? ⟨b,9,none⟩=false∧w.frozen? ⟨b,10,none⟩=false∧w.frozen? ⟨b,11,none⟩=false∧w.frozen? ⟨b,12,none⟩=false):=by
 obtain ⟨X,l,h⟩:=h
 obtain ⟨x0,x1,x2,x3,x4,x5,x6,x7,x8,x9,x10,x11,x12,rfl⟩:=thirteen l
 exact ⟨x0,x1,x2,x3,x4,x5,x6,x7,x8,x9,x10,x11,x12,⟨h.cell 0 _ rfl,h.cell 1 _ rfl,h.cell 2 _ rfl,h.cell 3 _ rfl,h.cell 4 _ rfl,h.cell 5 _ rfl,h.cell 6 _ rfl,h.cell 7 _ rfl,h.cell 8 _ rfl,h.cell 9 _ rfl,h.cell 10 _ rfl,h.cell 11 _ rfl,h.cell 12 _ rfl⟩,⟨h.frozen 0,h.frozen 1,h.frozen 2,h.frozen 3,h.frozen 4,h.frozen 5,h.frozen 6,h.frozen 7,h.frozen 8,h.frozen 9,h.frozen 10,h.frozen 11,h.frozen 12⟩⟩
theorem Wr13.put {w:World} {b:Nat} {y0 y1 y2 y3 y4 y5 y6 y7 y8 y9 y10 y11 y12:Int} (h:Wr13 w b):Wr13 (((((((((((((w.setCell ⟨b,0,none⟩ (.int .u64 y0)).setCell ⟨b,1,none⟩ (.int .u64 y1)).setCell ⟨b,2,none⟩ (.int .u64 y2)).setCell ⟨b,3,none⟩ (.int .u64 y3)).setCell ⟨b,4,none⟩ (.int .u64 y4)).setCell ⟨b,5,none⟩ (.int .u64 y5)).setCell ⟨b,6,none⟩ (.int .u64 y6)).setCell ⟨b,7,none⟩ (.int .u64 y7)).setCell ⟨b,8,none⟩ (.int .u64 y8)).setCell ⟨b,9,none⟩ (.int .u64 y9)).setCell ⟨b,10,none⟩ (.int .u64 y10)).setCell ⟨b,11,none⟩ (.int .u64 y11)).setCell ⟨b,12,none⟩ (.int .u64 y12)) b:=by
 obtain ⟨X,l,h⟩:=h
 obtain ⟨x0,x1,x2,x3,x4,x5,x6,x7,x8,x9,x10,x11,x12,rfl⟩:=thirteen l
 exact ⟨_,rfl,(((((((((((((h.setu 0 y0).setu 1 y1).setu 2 y2).setu 3 y3).setu 4 y4).setu 5 y5).setu 6 y6).setu 7 y7).setu 8 y8).setu 9 y9).setu 10 y10).setu 11 y11).setu 12 y12)⟩
theorem Blk.swap {w:World} {b:Nat} {cs:List Value} {o o':Obj} (h:Blk (w.alloc o) b cs) (hc:b < w.heap.size):Blk (w.alloc o') b cs:=by
 obtain ⟨t,h⟩:=h
 exact ⟨t,by rw [Below.heap_alloc _ _ _ hc] at h ⊢;exact h⟩
/-- S at a world, under a head of its own -/
def Hd (S:World→Prop) (w:World):Prop:=S w
/-- a block of n numbers of 64 bits, whatever they are -/
def Wrn (w:World) (b n:Nat):Prop:=∃ X:List Int,X.length=n∧Blk w b (us X)
theorem Wrn.mk {w:World} {b n:Nat} {X:List Int} (h:Blk w b (us X)) (l:X.length=n):Wrn w b n:=⟨_,l,h⟩
theorem Wrn.later {w w':World} {b n:Nat} (h:Wrn w b n) (hb:Below w.heap.size w w'):Wrn w' b n:=by
 obtain ⟨X,l,h⟩:=h
 exact ⟨X,l,h.later hb⟩
theorem Wrn.lt {w:World} {b n:Nat} (h:Wrn w b n):b < w.heap.size:=by
 obtain ⟨X,l,h⟩:=h
 exact h.lt
theorem Wrn.alloc {w:World} {b n:Nat} (h:Wrn w b n) (o:Obj):Wrn (w.alloc o) b n:=by
 obtain ⟨X,l,h⟩:=h
 exact ⟨X,l,h.alloc o⟩
theorem Wrn.swap {w:World} {b n:Nat} {o o':Obj} (h:Wrn (w.alloc o) b n) (hc:b < w.heap.size):Wrn (w.alloc o') b n:=by
 obtain ⟨X,l,h⟩:=h
 exact ⟨X,l,h.swap hc⟩
theorem Wrn.set {w:World} {b n c j:Nat} {y:Int} (h:Wrn w b n):Wrn (w.setCell ⟨c,j,none⟩ (.int .u64 y)) b n:=by
 obtain ⟨X,l,h⟩:=h
 by_cases e:b=c
 ·subst e;exact ⟨_,by simpa using l,h.setu j y⟩
 ·exact ⟨X,l,h.other _ _ e⟩
theorem Wrn.row {w:World} {b n:Nat} {cs:Array Value} (h:Wrn w b n):Blk (w.setRow b cs) b cs.toList:=by
 obtain ⟨X,l,t,h⟩:=h
 exact ⟨t,by simpa using setRow_heap w b _ cs t _ h⟩
theorem Blk.row {w:World} {b c:Nat} {X:List Value} {cs:Array Value} (h:Blk w b X) (hc:b≠c):Blk (w.setRow c cs) b X:=by
 obtain ⟨t,h⟩:=h
 exact ⟨t,by rw [setRow_other _ _ _ _ hc];exact h⟩
theorem held3 {w0 W:World} (bs:List (Nat × List Value)) (hB:∀ b X,(b,X)∈bs→Blk W b X) (bel:Below w0.heap.size w0 W) :
  ∃ S:World→Prop,Hd S W∧Hid (∀ w1 w2,Hd S w1→Below w1.heap.size w1 w2→Hd S w2)∧Hid (∀ w1 o,Hd S w1→Hd S (w1.alloc o))∧Hid (∀ w1,Hd S w1→Hd S w1.drew)∧Hid (∀ (w1:World) (o o':Obj),W.heap.size≤w1.heap.size→Hd S (w1.alloc o)→Hd S (w1.alloc o')) ∧
   Hid (∀ w1 b j y,Hd S w1→(W.heap.size≤b∨∀ c X,(c,X)∈bs→c≠b)→w0.heap.size≤b→Hd S (w1.setCell ⟨b,j,none⟩ y)) ∧
   Hid (∀ w1,Hd S w1→W.heap.size≤w1.heap.size)∧Hid (∀ w1,Hd S w1→Below w0.heap.size w0 w1)∧Hid (∀ w1 b X,Hd S w1→(b,X)∈bs→Blk w1 b X) ∧
   Hid (∀ w1 b cs,Hd S w1→(W.heap.size≤b∨∀ c X,(c,X)∈bs→c≠b)→w0.heap.size≤b→Hd S (w1.setRow b cs)):=by
 refine ⟨fun wx=>(∀ b X,(b,X)∈bs→Blk wx b X)∧W.heap.size≤wx.heap.size∧Below w0.heap.size w0 wx,⟨hB,Nat.le_refl _,bel⟩,?_,?_,?_,?_,?_,?_,?_,?_,?_⟩
 ·rintro w1 w2 ⟨h1,h3,h4⟩ hb
  exact ⟨fun b X h=>(h1 b X h).later hb,Nat.le_trans h3 hb.size,below_step h4 hb⟩
 ·rintro w1 o ⟨h1,h3,h4⟩
  exact ⟨fun b X h=>(h1 b X h).alloc o,by simp;omega,below_alloc h4⟩
 ·rintro w1 ⟨h1,h3,h4⟩
  exact ⟨h1,h3,h4.drew⟩
 ·rintro w1 o o' hn ⟨h1,h3,h4⟩
  exact ⟨fun b X h=>(h1 b X h).swap (Nat.lt_of_lt_of_le (hB b X h).lt hn),by simp;omega,below_swap h4 (Nat.le_trans bel.size hn)⟩
 ·rintro w1 b j y ⟨h1,h3,h4⟩ hn hl
  refine ⟨fun c X h=>(h1 c X h).other _ _ ?_,by simpa using h3,h4.setCell hl _⟩
  rcases hn with hn|hn
  ·have:=(hB c X h).lt
   exact Nat.ne_of_lt (Nat.lt_of_lt_of_le this hn)
  ·exact hn c X h
 ·rintro w1 ⟨_,h3,_⟩
  exact h3
 ·rintro w1 ⟨_,_,h4⟩
  exact h4
 ·rintro w1 b X ⟨h1,_,_⟩ h
  exact h1 b X h
 ·rintro w1 b cs ⟨h1,h3,h4⟩ hn hl
  refine ⟨fun c X h=>(h1 c X h).row ?_,by simpa [World.setRow] using h3,below_setRow h4 hl _⟩
  rcases hn with hn|hn
  ·have:=(hB c X h).lt
   exact Nat.ne_of_lt (Nat.lt_of_lt_of_le this hn)
  ·exact hn c X h
end Go.Proofs.YtnkipgbnnhahbaaGreatDoor
