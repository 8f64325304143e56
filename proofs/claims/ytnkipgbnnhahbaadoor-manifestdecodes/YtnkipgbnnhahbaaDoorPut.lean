/- An array of six limbs written into a block. -/
import Derived.Test.YtnkipgbnnhahbaaDoorApBs
import Derived.Test.YtnkipgbnnhahbaaDoorBase
import Derived.Deep.MidRow
import Derived.Deep.RegionHeld
namespace Go.Proofs.YtnkipgbnnhahbaaDoor
open Go.RowKit
theorem blk_put6 {w:World} {b:Nat} {x0 x1 x2 x3 x4 x5 y0 y1 y2 y3 y4 y5:Int} (h:Blk w b (us [x0,x1,x2,x3,x4,x5])):Blk ((((((w.setCell ⟨b,0,none⟩ (.int .u64 y0)).setCell ⟨b,1,none⟩ (.int .u64 y1)).setCell ⟨b,2,none⟩ (.int .u64 y2)).setCell ⟨b,3,none⟩ (.int .u64 y3)).setCell ⟨b,4,none⟩ (.int .u64 y4)).setCell ⟨b,5,none⟩ (.int .u64 y5)) b (us [y0,y1,y2,y3,y4,y5]) :=
 (((((h.setu 0 y0).setu 1 y1).setu 2 y2).setu 3 y3).setu 4 y4).setu 5 y5
/-- a block of six limbs, whatever they are -/
def Wr6 (w:World) (b:Nat):Prop:=∃ X:List Int,X.length=6∧Blk w b (us X)
theorem Wr6.of {w:World} {b:Nat} {x0 x1 x2 x3 x4 x5:Int} (h:Blk w b (us [x0,x1,x2,x3,x4,x5])):Wr6 w b:=⟨_,rfl,h⟩
theorem Wr6.drew {w:World} {b:Nat} (h:Wr6 w b):Wr6 w.drew b:=h
theorem Wr6.later {w w':World} {b:Nat} (h:Wr6 w b) (hb:Below w.heap.size w w'):Wr6 w' b:=by
 obtain ⟨X,l,h⟩:=h
 exact ⟨X,l,h.later hb⟩
theorem Wr6.lt {w:World} {b:Nat} (h:Wr6 w b):b < w.heap.size:=by
 obtain ⟨X,l,h⟩:=h
 exact h.lt
theorem Wr6.cells {w:World} {b:Nat} (h:Wr6 w b):∃ x0 x1 x2 x3 x4 x5:Int,(w.cell? ⟨b,0,none⟩=some (.int .u64 x0)∧w.cell? ⟨b,1,none⟩=some (.int .u64 x1)∧w.cell? ⟨b,2,none⟩=some (.int .u64 x2)∧w.cell? ⟨b,3,none⟩=some (.int .u64 x3)∧w.cell? ⟨b,4,none⟩=some (.int .u64 x4)∧w.cell? ⟨b,5,none⟩=some (.int .u64 x5))∧(w.frozen? ⟨b,0,none⟩=false∧w.frozen? ⟨b,1,none⟩=false∧w.frozen? ⟨b,2,none⟩=false∧w.frozen? ⟨b,3,none⟩=false∧w.frozen? ⟨b,4,none⟩=false∧w.frozen? ⟨b,5,none⟩=false):=by
 obtain ⟨X,l,h⟩:=h
 obtain ⟨x0,x1,x2,x3,x4,x5,rfl⟩:=six l
 exact ⟨x0,x1,x2,x3,x4,x5,h.cells6,h.frozen 0,h.frozen 1,h.frozen 2,h.frozen 3,h.frozen 4,h.frozen 5⟩
theorem Wr6.put {w:World} {b:Nat} {y0 y1 y2 y3 y4 y5:Int} (h:Wr6 w b):Wr6 ((((((w.setCell ⟨b,0,none⟩ (.int .u64 y0)).setCell ⟨b,1,none⟩ (.int .u64 y1)).setCell ⟨b,2,none⟩ (.int .u64 y2)).setCell ⟨b,3,none⟩ (.int .u64 y3)).setCell ⟨b,4,none⟩ (.int .u64 y4)).setCell ⟨b,5,none⟩ (.int .u64 y5)) b:=by
 obtain ⟨X,l,h⟩:=h
 obtain ⟨x0,x1,x2,x3,x4,x5,rfl⟩:=six l
 exact ⟨_,rfl,blk_put6 h⟩
theorem cell_later {w w':World} {c j:Nat} {v:Value} (h:w.cell? ⟨c,j,none⟩=some v) (hb:Below w.heap.size w w'):w'.cell? ⟨c,j,none⟩=some v:=by
 rw [hb.cell (World.block_lt_of_cell? w _ h)];exact h
theorem below_step {a w w':World} (h:Below a.heap.size a w) (hb:Below w.heap.size w w'):Below a.heap.size a w':=h.trans (hb.mono h.size)
theorem cell_alloc {w:World} {c j:Nat} {v:Value} {o:Obj} (h:w.cell? ⟨c,j,none⟩=some v):(w.alloc o).cell? ⟨c,j,none⟩=some v:=by
 rw [World.cell?_alloc_lt _ _ _ (World.block_lt_of_cell? w _ h)];exact h
theorem Wr6.alloc {w:World} {b:Nat} {o:Obj} (h:Wr6 w b):Wr6 (w.alloc o) b:=by
 obtain ⟨X,l,h⟩:=h
 exact ⟨X,l,h.alloc o⟩
theorem below_alloc {a w:World} {o:Obj} (h:Below a.heap.size a w):Below a.heap.size a (w.alloc o):=h.alloc h.size o
theorem Wr6.new {w:World} {t:TypeId}:Wr6 (w.alloc (Obj.cells #[.int .u64 0,.int .u64 0,.int .u64 0,.int .u64 0,.int .u64 0,.int .u64 0] t)) w.heap.size :=
 Wr6.of (Blk.new w (us [0,0,0,0,0,0]) t w.heap.size rfl)
/-- six cells of a block -/
def At6 (w:World) (b o:Nat) (x0 x1 x2 x3 x4 x5:Int):Prop:=w.cell? ⟨b,o,none⟩=some (.int .u64 x0)∧w.cell? ⟨b,o + 1,none⟩=some (.int .u64 x1)∧w.cell? ⟨b,o + 2,none⟩=some (.int .u64 x2)∧w.cell? ⟨b,o + 3,none⟩=some (.int .u64 x3)∧w.cell? ⟨b,o + 4,none⟩=some (.int .u64 x4)∧w.cell? ⟨b,o + 5,none⟩=some (.int .u64 x5)
theorem At6.later {w w':World} {b o:Nat} {x0 x1 x2 x3 x4 x5:Int} (h:At6 w b o x0 x1 x2 x3 x4 x5) (hb:Below w.heap.size w w'):At6 w' b o x0 x1 x2 x3 x4 x5:=by
 obtain ⟨h0,h1,h2,h3,h4,h5⟩:=h
 exact ⟨cell_later h0 hb,cell_later h1 hb,cell_later h2 hb,cell_later h3 hb,cell_later h4 hb,cell_later h5 hb⟩
end Go.Proofs.YtnkipgbnnhahbaaDoor
