/- An array of six limbs written into a block. -/
import Derived.Test.YtnkipgbnnhahbaaPrime
import Derived.Test.YtnkipgbnnhahbaaBase
import Derived.Deep.MidRow
import Derived.Deep.RegionHeld
namespace Go.Proofs.Ytnkipgbnnhahbaa
open Go.RowKit
theorem below_put6 {B : Nat} {a w : World} {b : Nat} {v0 v1 v2 v3 v4 v5 : Value} (h : Below B a w) (hb : B ≤ b) : Below B a ((((((w.setCell ⟨b, 0, none⟩ v0).setCell ⟨b, 1, none⟩ v1).setCell ⟨b, 2, none⟩ v2).setCell ⟨b, 3, none⟩ v3).setCell ⟨b, 4, none⟩ v4).setCell ⟨b, 5, none⟩ v5) :=
  (((((h.setCell hb _).setCell hb _).setCell hb _).setCell hb _).setCell hb _).setCell hb _
theorem blk_put6 {w : World} {b : Nat} {x0 x1 x2 x3 x4 x5 y0 y1 y2 y3 y4 y5 : Int} (h : Blk w b (us [x0, x1, x2, x3, x4, x5])) : Blk ((((((w.setCell ⟨b, 0, none⟩ (.int .u64 y0)).setCell ⟨b, 1, none⟩ (.int .u64 y1)).setCell ⟨b, 2, none⟩ (.int .u64 y2)).setCell ⟨b, 3, none⟩ (.int .u64 y3)).setCell ⟨b, 4, none⟩ (.int .u64 y4)).setCell ⟨b, 5, none⟩ (.int .u64 y5)) b (us [y0, y1, y2, y3, y4, y5]) :=
  (((((h.setu 0 y0).setu 1 y1).setu 2 y2).setu 3 y3).setu 4 y4).setu 5 y5
theorem blk_far6 {w : World} {b c : Nat} {cs : List Value} {v0 v1 v2 v3 v4 v5 : Value} (h : Blk w c cs) (hb : c ≠ b) : Blk ((((((w.setCell ⟨b, 0, none⟩ v0).setCell ⟨b, 1, none⟩ v1).setCell ⟨b, 2, none⟩ v2).setCell ⟨b, 3, none⟩ v3).setCell ⟨b, 4, none⟩ v4).setCell ⟨b, 5, none⟩ v5) c cs :=
  (((((h.other _ _ hb).other _ _ hb).other _ _ hb).other _ _ hb).other _ _ hb).other _ _ hb
/-- a modulus as it lies in memory -/
abbrev mods (M : List Int) (i : Int) (T : List Int) : List Int := M ++ i :: T
theorem Blk.cellsM {w : World} {b : Nat} {m0 m1 m2 m3 m4 m5 i t0 t1 t2 t3 t4 t5 : Int} (h : Blk w b (us [m0, m1, m2, m3, m4, m5, i, t0, t1, t2, t3, t4, t5])) : w.cell? ⟨b, 0, none⟩ = some (.int .u64 m0) ∧ w.cell? ⟨b, 1, none⟩ = some (.int .u64 m1) ∧ w.cell? ⟨b, 2, none⟩ = some (.int .u64 m2) ∧ w.cell? ⟨b, 3, none⟩ = some (.int .u64 m3) ∧ w.cell? ⟨b, 4, none⟩ = some (.int .u64 m4) ∧ w.cell? ⟨b, 5, none⟩ = some (.int .u64 m5) :=
  ⟨h.cell 0 _ rfl, h.cell 1 _ rfl, h.cell 2 _ rfl, h.cell 3 _ rfl, h.cell 4 _ rfl, h.cell 5 _ rfl⟩
theorem Blk.cellsT {w : World} {b : Nat} {m0 m1 m2 m3 m4 m5 i t0 t1 t2 t3 t4 t5 : Int} (h : Blk w b (us [m0, m1, m2, m3, m4, m5, i, t0, t1, t2, t3, t4, t5])) : w.cell? ⟨b, 6, none⟩ = some (.int .u64 i) ∧ w.cell? ⟨b, 7, none⟩ = some (.int .u64 t0) ∧ w.cell? ⟨b, 8, none⟩ = some (.int .u64 t1) ∧ w.cell? ⟨b, 9, none⟩ = some (.int .u64 t2) ∧ w.cell? ⟨b, 10, none⟩ = some (.int .u64 t3) ∧ w.cell? ⟨b, 11, none⟩ = some (.int .u64 t4) ∧ w.cell? ⟨b, 12, none⟩ = some (.int .u64 t5) :=
  ⟨h.cell 6 _ rfl, h.cell 7 _ rfl, h.cell 8 _ rfl, h.cell 9 _ rfl, h.cell 10 _ rfl, h.cell 11 _ rfl, h.cell 12 _ rfl⟩
/-- a block of six limbs, whatever they are -/
def Wr6 (w : World) (b : Nat) : Prop := ∃ X : List Int, X.length = 6 ∧ Blk w b (us X)
theorem Wr6.of {w : World} {b : Nat} {x0 x1 x2 x3 x4 x5 : Int} (h : Blk w b (us [x0, x1, x2, x3, x4, x5])) : Wr6 w b := ⟨_, rfl, h⟩
theorem Wr6.drew {w : World} {b : Nat} (h : Wr6 w b) : Wr6 w.drew b := h
theorem Wr6.later {w w' : World} {b : Nat} (h : Wr6 w b) (hb : Below w.heap.size w w') : Wr6 w' b := by
  obtain ⟨X, l, h⟩ := h
  exact ⟨X, l, h.later hb⟩
theorem Wr6.lt {w : World} {b : Nat} (h : Wr6 w b) : b < w.heap.size := by
  obtain ⟨X, l, h⟩ := h
  exact h.lt
theorem Wr6.cells {w : World} {b : Nat} (h : Wr6 w b) : ∃ x0 x1 x2 x3 x4 x5 : Int, (w.cell? ⟨b, 0, none⟩ = some (.int .u64 x0) ∧ w.cell? ⟨b, 1, none⟩ = some (.int .u64 x1) ∧ w.cell? ⟨b, 2, none⟩ = some (.int .u64 x2) ∧ w.cell? ⟨b, 3, none⟩ = some (.int .u64 x3) ∧ w.cell? ⟨b, 4, none⟩ = some (.int .u64 x4) ∧ w.cell? ⟨b, 5, none⟩ = some (.int .u64 x5)) ∧ (w.frozen? ⟨b, 0, none⟩ = false ∧ w.frozen? ⟨b, 1, none⟩ = false ∧ w.frozen? ⟨b, 2, none⟩ = false ∧ w.frozen? ⟨b, 3, none⟩ = false ∧ w.frozen? ⟨b, 4, none⟩ = false ∧ w.frozen? ⟨b, 5, none⟩ = false) := by
  obtain ⟨X, l, h⟩ := h
  obtain ⟨x0, x1, x2, x3, x4, x5, rfl⟩ := six l
  exact ⟨x0, x1, x2, x3, x4, x5, h.cells6, h.frozen 0, h.frozen 1, h.frozen 2, h.frozen 3, h.frozen 4, h.frozen 5⟩
theorem Wr6.put {w : World} {b : Nat} {y0 y1 y2 y3 y4 y5 : Int} (h : Wr6 w b) : Wr6 ((((((w.setCell ⟨b, 0, none⟩ (.int .u64 y0)).setCell ⟨b, 1, none⟩ (.int .u64 y1)).setCell ⟨b, 2, none⟩ (.int .u64 y2)).setCell ⟨b, 3, none⟩ (.int .u64 y3)).setCell ⟨b, 4, none⟩ (.int .u64 y4)).setCell ⟨b, 5, none⟩ (.int .u64 y5)) b := by
  obtain ⟨X, l, h⟩ := h
  obtain ⟨x0, x1, x2, x3, x4, x5, rfl⟩ := six l
  exact ⟨_, rfl, blk_put6 h⟩
theorem cell_later {w w' : World} {c j : Nat} {v : Value} (h : w.cell? ⟨c, j, none⟩ = some v) (hb : Below w.heap.size w w') : w'.cell? ⟨c, j, none⟩ = some v := by
  rw [hb.cell (World.block_lt_of_cell? w _ h)]; exact h
theorem cell_far6 {w : World} {b c j : Nat} {v : Value} {v0 v1 v2 v3 v4 v5 : Value} (h : w.cell? ⟨c, j, none⟩ = some v) (hb : c ≠ b) : ((((((w.setCell ⟨b, 0, none⟩ v0).setCell ⟨b, 1, none⟩ v1).setCell ⟨b, 2, none⟩ v2).setCell ⟨b, 3, none⟩ v3).setCell ⟨b, 4, none⟩ v4).setCell ⟨b, 5, none⟩ v5).cell? ⟨c, j, none⟩ = some v := by
  rw [World.cell?_setCell_far _ _ _ _ (by simpa using Ne.symm hb), World.cell?_setCell_far _ _ _ _ (by simpa using Ne.symm hb), World.cell?_setCell_far _ _ _ _ (by simpa using Ne.symm hb), World.cell?_setCell_far _ _ _ _ (by simpa using Ne.symm hb), World.cell?_setCell_far _ _ _ _ (by simpa using Ne.symm hb), World.cell?_setCell_far _ _ _ _ (by simpa using Ne.symm hb)]
  exact h
theorem range_blk {w : World} {b : Nat} {cs : List Value} (h : Blk w b cs) : w.rangeAt b 0 cs := fun j v hv => by
  rw [Nat.zero_add]; exact h.cell j v hv
theorem range_later {w w' : World} {b o : Nat} {cs : List Value} (h : w.rangeAt b o cs) (hb : Below w.heap.size w w') : w'.rangeAt b o cs := fun j v hv => cell_later (h j v hv) hb
theorem range_drew {w : World} {b o : Nat} {cs : List Value} (h : w.rangeAt b o cs) : w.drew.rangeAt b o cs := h
theorem range_far6 {w : World} {b c o : Nat} {cs : List Value} {v0 v1 v2 v3 v4 v5 : Value} (h : w.rangeAt c o cs) (hb : c ≠ b) : ((((((w.setCell ⟨b, 0, none⟩ v0).setCell ⟨b, 1, none⟩ v1).setCell ⟨b, 2, none⟩ v2).setCell ⟨b, 3, none⟩ v3).setCell ⟨b, 4, none⟩ v4).setCell ⟨b, 5, none⟩ v5).rangeAt c o cs := fun j v hv => cell_far6 (h j v hv) hb
theorem size_put6 {w : World} {b : Nat} {v0 v1 v2 v3 v4 v5 : Value} : ((((((w.setCell ⟨b, 0, none⟩ v0).setCell ⟨b, 1, none⟩ v1).setCell ⟨b, 2, none⟩ v2).setCell ⟨b, 3, none⟩ v3).setCell ⟨b, 4, none⟩ v4).setCell ⟨b, 5, none⟩ v5).heap.size = w.heap.size := by
  simp
theorem below_step {a w w' : World} (h : Below a.heap.size a w) (hb : Below w.heap.size w w') : Below a.heap.size a w' := h.trans (hb.mono h.size)
theorem cell_alloc {w : World} {c j : Nat} {v : Value} {o : Obj} (h : w.cell? ⟨c, j, none⟩ = some v) : (w.alloc o).cell? ⟨c, j, none⟩ = some v := by
  rw [World.cell?_alloc_lt _ _ _ (World.block_lt_of_cell? w _ h)]; exact h
theorem Wr6.alloc {w : World} {b : Nat} {o : Obj} (h : Wr6 w b) : Wr6 (w.alloc o) b := by
  obtain ⟨X, l, h⟩ := h
  exact ⟨X, l, h.alloc o⟩
theorem below_alloc {a w : World} {o : Obj} (h : Below a.heap.size a w) : Below a.heap.size a (w.alloc o) := h.alloc h.size o
theorem cell_swap {w : World} {c j : Nat} {v : Value} {o o' : Obj} (h : (w.alloc o).cell? ⟨c, j, none⟩ = some v) (hc : c < w.heap.size) : (w.alloc o').cell? ⟨c, j, none⟩ = some v := by
  rw [World.cell?_alloc_lt _ _ _ hc] at h ⊢; exact h
theorem Wr6.swap {w : World} {b : Nat} {o o' : Obj} (h : Wr6 (w.alloc o) b) (hc : b < w.heap.size) : Wr6 (w.alloc o') b := by
  obtain ⟨X, l, t, h⟩ := h
  exact ⟨X, l, t, by rw [Below.heap_alloc _ _ _ hc] at h ⊢; exact h⟩
theorem below_swap {B : Nat} {a w : World} {o o' : Obj} (h : Below B a (w.alloc o)) (hc : B ≤ w.heap.size) : Below B a (w.alloc o') :=
  ⟨h.os, h.tape, h.output, by have := h.size; simpa using this, fun b hb => by
    have := h.block b hb
    rw [Below.heap_alloc _ _ _ (by omega)] at this ⊢
    exact this⟩
theorem Wr6.far6 {w : World} {b c : Nat} {v0 v1 v2 v3 v4 v5 : Value} (h : Wr6 w c) (hb : c ≠ b) : Wr6 ((((((w.setCell ⟨b, 0, none⟩ v0).setCell ⟨b, 1, none⟩ v1).setCell ⟨b, 2, none⟩ v2).setCell ⟨b, 3, none⟩ v3).setCell ⟨b, 4, none⟩ v4).setCell ⟨b, 5, none⟩ v5) c := by
  obtain ⟨X, l, h⟩ := h
  exact ⟨X, l, blk_far6 h hb⟩
theorem Wr6.new {w : World} {t : TypeId} : Wr6 (w.alloc (Obj.cells #[.int .u64 0, .int .u64 0, .int .u64 0, .int .u64 0, .int .u64 0, .int .u64 0] t)) w.heap.size :=
  Wr6.of (Blk.new w (us [0, 0, 0, 0, 0, 0]) t w.heap.size rfl)
theorem Wr6.is {w : World} {b : Nat} {y0 y1 y2 y3 y4 y5 : Int} (h : Wr6 w b) : Blk ((((((w.setCell ⟨b, 0, none⟩ (.int .u64 y0)).setCell ⟨b, 1, none⟩ (.int .u64 y1)).setCell ⟨b, 2, none⟩ (.int .u64 y2)).setCell ⟨b, 3, none⟩ (.int .u64 y3)).setCell ⟨b, 4, none⟩ (.int .u64 y4)).setCell ⟨b, 5, none⟩ (.int .u64 y5)) b (us [y0, y1, y2, y3, y4, y5]) := by
  obtain ⟨X, l, h⟩ := h
  obtain ⟨x0, x1, x2, x3, x4, x5, rfl⟩ := six l
  exact blk_put6 h
/-- six cells of a block -/
def At6 (w : World) (b o : Nat) (x0 x1 x2 x3 x4 x5 : Int) : Prop := w.cell? ⟨b, o, none⟩ = some (.int .u64 x0) ∧ w.cell? ⟨b, o + 1, none⟩ = some (.int .u64 x1) ∧ w.cell? ⟨b, o + 2, none⟩ = some (.int .u64 x2) ∧ w.cell? ⟨b, o + 3, none⟩ = some (.int .u64 x3) ∧ w.cell? ⟨b, o + 4, none⟩ = some (.int .u64 x4) ∧ w.cell? ⟨b, o + 5, none⟩ = some (.int .u64 x5)
theorem At6.later {w w' : World} {b o : Nat} {x0 x1 x2 x3 x4 x5 : Int} (h : At6 w b o x0 x1 x2 x3 x4 x5) (hb : Below w.heap.size w w') : At6 w' b o x0 x1 x2 x3 x4 x5 := by
  obtain ⟨h0, h1, h2, h3, h4, h5⟩ := h
  exact ⟨cell_later h0 hb, cell_later h1 hb, cell_later h2 hb, cell_later h3 hb, cell_later h4 hb, cell_later h5 hb⟩
theorem At6.far6 {w : World} {b c o : Nat} {x0 x1 x2 x3 x4 x5 : Int} {v0 v1 v2 v3 v4 v5 : Value} (h : At6 w c o x0 x1 x2 x3 x4 x5) (hb : c ≠ b) : At6 ((((((w.setCell ⟨b, 0, none⟩ v0).setCell ⟨b, 1, none⟩ v1).setCell ⟨b, 2, none⟩ v2).setCell ⟨b, 3, none⟩ v3).setCell ⟨b, 4, none⟩ v4).setCell ⟨b, 5, none⟩ v5) c o x0 x1 x2 x3 x4 x5 := by
  obtain ⟨h0, h1, h2, h3, h4, h5⟩ := h
  exact ⟨cell_far6 h0 hb, cell_far6 h1 hb, cell_far6 h2 hb, cell_far6 h3 hb, cell_far6 h4 hb, cell_far6 h5 hb⟩
end Go.Proofs.Ytnkipgbnnhahbaa
