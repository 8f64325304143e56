/- A modulus written into a block: thirteen cells. -/
import Derived.Test.YtnkipgbnnhahbaaDoorPut
namespace Go.Proofs.YtnkipgbnnhahbaaDoor
open Go.RowKit
theorem thirteen {A:List Int} (h:A.length=13):∃ x0 x1 x2 x3 x4 x5 x6 x7 x8 x9 x10 x11 x12,A=[x0,x1,x2,x3,x4,x5,x6,x7,x8,x9,x10,x11,x12]:=by
 match A,h with
 | [x0,x1,x2,x3,x4,x5,x6,x7,x8,x9,x10,x11,x12],_=>exact ⟨x0,x1,x2,x3,x4,x5,x6,x7,x8,x9,x10,x11,x12,rfl⟩
def Wr13 (w:World) (b:Nat):Prop:=∃ X:List Int,X.length=13∧Blk w b (us X)
theorem Wr13.of {w:World} {b:Nat} {X:List Int} (l:X.length=13) (h:Blk w b (us X)):Wr13 w b:=⟨_,l,h⟩
theorem Wr13.drew {w:World} {b:Nat} (h:Wr13 w b):Wr13 w.drew b:=h
theorem Wr13.later {w w':World} {b:Nat} (h:Wr13 w b) (hb:Below w.heap.size w w'):Wr13 w' b:=by
 obtain ⟨X,l,h⟩:=h
 exact ⟨X,l,h.later hb⟩
theorem Wr13.lt {w:World} {b:Nat} (h:Wr13 w b):b < w.heap.size:=by
 obtain ⟨X,l,h⟩:=h
 exact h.lt
theorem Wr13.cells {w:World} {b:Nat} (h:Wr13 w b):∃ x0 x1 x2 x3 x4 x5 x6 x7 x8 x9 x10 x11 x12:Int,(w.cell? ⟨b,0,none⟩=some (.int .u64 x0)∧w.cell? ⟨b,1,none⟩=some (.int .u64 x1)∧w.cell? ⟨b,2,none⟩=some (.int .u64 x2)∧w.cell? ⟨b,3,none⟩=some (.int .u64 x3)∧w.cell? ⟨b,4,none⟩=some (.int .u64 x4)∧w.cell? ⟨b,5,none⟩=some (.int .u64 x5)∧w.cell? ⟨b,6,none⟩=some (.int .u64 x6)∧w.cell? ⟨b,7,none⟩=some (.int .u64 x7)∧w.cell? ⟨b,8,none⟩=some (.int .u64 x8)∧w.cell? ⟨b,9,none⟩=some (.int .u64 x9)∧w.cell? ⟨b,10,none⟩=some (.int .u64 x10)∧w.cell? ⟨b,11,none⟩=some (.int .u64 x11)∧w.cell? ⟨b,12,none⟩=some (.int .u64 x12))∧(w.frozen? ⟨b,0,none⟩=false∧w.frozen? ⟨b,1,none⟩=false∧w.frozen? ⟨b,2,none⟩=false∧w.frozen? ⟨b,3,none⟩=false∧w.frozen? ⟨b,4,none⟩=false∧w.frozen? ⟨b,5,none⟩=false∧w.frozen? ⟨b,6,none⟩=false∧w.frozen? ⟨b,7,none⟩=false∧w.frozen? ⟨b,8,none⟩=false∧w.frozen? ⟨b,9,none⟩=false∧w.frozen? ⟨b,10,none⟩=false∧w.frozen? ⟨b,11,none⟩=false∧w.frozen? ⟨b,12,none⟩=false):=by
 obtain ⟨X,l,h⟩:=h
 obtain ⟨x0,x1,x2,x3,x4,x5,x6,x7,x8,x9,x10,x11,x12,rfl⟩:=thirteen l
 exact ⟨x0,x1,x2,x3,x4,x5,x6,x7,x8,x9,x10,x11,x12,⟨h.cell 0 _ rfl,h.cell 1 _ rfl,h.cell 2 _ rfl,h.cell 3 _ rfl,h.cell 4 _ rfl,h.cell 5 _ rfl,h.cell 6 _ rfl,h.cell 7 _ rfl,h.cell 8 _ rfl,h.cell 9 _ rfl,h.cell 10 _ rfl,h.cell 11 _ rfl,h.cell 12 _ rfl⟩,⟨h.frozen 0,h.frozen 1,h.frozen 2,h.frozen 3,h.frozen 4,h.frozen 5,h.frozen 6,h.frozen 7,h.frozen 8,h.frozen 9,h.frozen 10,h.frozen 11,h.frozen 12⟩⟩
theorem Wr13.put {w:World} {b:Nat} {y0 y1 y2 y3 y4 y5 y6 y7 y8 y9 y10 y11 y12:Int} (h:Wr13 w b):Wr13 (((((((((((((w.setCell ⟨b,0,none⟩ (.int .u64 y0)).setCell ⟨b,1,none⟩ (.int .u64 y1)).setCell ⟨b,2,none⟩ (.int .u64 y2)).setCell ⟨b,3,none⟩ (.int .u64 y3)).setCell ⟨b,4,none⟩ (.int .u64 y4)).setCell ⟨b,5,none⟩ (.int .u64 y5)).setCell ⟨b,6,none⟩ (.int .u64 y6)).setCell ⟨b,7,none⟩ (.int .u64 y7)).setCell ⟨b,8,none⟩ (.int .u64 y8)).setCell ⟨b,9,none⟩ (.int .u64 y9)).setCell ⟨b,10,none⟩ (.int .u64 y10)).setCell ⟨b,11,none⟩ (.int .u64 y11)).setCell ⟨b,12,none⟩ (.int .u64 y12)) b:=by
 obtain ⟨X,l,h⟩:=h
 obtain ⟨x0,x1,x2,x3,x4,x5,x6,x7,x8,x9,x10,x11,x12,rfl⟩:=thirteen l
 exact ⟨_,rfl,(((((((((((((h.setu 0 y0).setu 1 y1).setu 2 y2).setu 3 y3).setu 4 y4).setu 5 y5).setu 6 y6).setu 7 y7).setu 8 y8).setu 9 y9).setu 10 y10).setu 11 y11).setu 12 y12)⟩
end Go.Proofs.YtnkipgbnnhahbaaDoor
