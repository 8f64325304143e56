/- What stays through a walk: blocks that are known, blocks that may be written, all below; under one letter S, with its rules. -/
import Derived.Test.YtnkipgbnnhahbaaPut13
namespace Go.Proofs.Ytnkipgbnnhahbaa
open Go.RowKit
theorem Blk.swap {w : World} {b : Nat} {cs : List Value} {o o' : Obj} (h : Blk (w.alloc o) b cs) (hc : b < w.heap.size) : Blk (w.alloc o') b cs := by
  obtain ⟨t, h⟩ := h
  exact ⟨t, by rw [Below.heap_alloc _ _ _ hc] at h ⊢; exact h⟩
/-- S at a world, under a head of its own -/
def Hd (S : World → Prop) (w : World) : Prop := S w
theorem held_mk {w0 W : World} (bs : List (Nat × List Int)) (ws : List Nat) (hB : ∀ b X, (b, X) ∈ bs → Blk W b (us X)) (hW : ∀ b, b ∈ ws → Wr6 W b) (hd : ∀ b X, (b, X) ∈ bs → b ∉ ws) (bel : Below w0.heap.size w0 W) :
    ∃ S : World → Prop, Hd S W ∧ Hid (∀ w1 w2, Hd S w1 → Below w1.heap.size w1 w2 → Hd S w2) ∧ Hid (∀ w1 o, Hd S w1 → Hd S (w1.alloc o)) ∧ Hid (∀ w1, Hd S w1 → Hd S w1.drew) ∧ Hid (∀ (w1 : World) (o o' : Obj), W.heap.size ≤ w1.heap.size → Hd S (w1.alloc o) → Hd S (w1.alloc o')) ∧
      Hid (∀ w1 b (y0 y1 y2 y3 y4 y5 : Int), Hd S w1 → (W.heap.size ≤ b ∨ b ∈ ws) → w0.heap.size ≤ b → Hd S ((((((w1.setCell ⟨b, 0, none⟩ (.int .u64 y0)).setCell ⟨b, 1, none⟩ (.int .u64 y1)).setCell ⟨b, 2, none⟩ (.int .u64 y2)).setCell ⟨b, 3, none⟩ (.int .u64 y3)).setCell ⟨b, 4, none⟩ (.int .u64 y4)).setCell ⟨b, 5, none⟩ (.int .u64 y5))) ∧
      Hid (∀ w1, Hd S w1 → W.heap.size ≤ w1.heap.size) ∧ Hid (∀ w1, Hd S w1 → Below w0.heap.size w0 w1) ∧ Hid (∀ w1 b X, Hd S w1 → (b, X) ∈ bs → Blk w1 b (us X)) ∧ Hid (∀ w1 b, Hd S w1 → b ∈ ws → Wr6 w1 b) := by
  refine ⟨fun wx => (∀ b X, (b, X) ∈ bs → Blk wx b (us X)) ∧ (∀ b, b ∈ ws → Wr6 wx b) ∧ W.heap.size ≤ wx.heap.size ∧ Below w0.heap.size w0 wx, ⟨hB, hW, Nat.le_refl _, bel⟩, ?_, ?_, ?_, ?_, ?_, ?_, ?_, ?_, ?_⟩
  · rintro w1 w2 ⟨h1, h2, h3, h4⟩ hb
    exact ⟨fun b X h => (h1 b X h).later hb, fun b h => (h2 b h).later hb, Nat.le_trans h3 hb.size, below_step h4 hb⟩
  · rintro w1 o ⟨h1, h2, h3, h4⟩
    exact ⟨fun b X h => (h1 b X h).alloc o, fun b h => (h2 b h).alloc, by simp; omega, below_alloc h4⟩
  · rintro w1 ⟨h1, h2, h3, h4⟩
    exact ⟨h1, h2, h3, h4.drew⟩
  · rintro w1 o o' hn ⟨h1, h2, h3, h4⟩
    exact ⟨fun b X h => (h1 b X h).swap (Nat.lt_of_lt_of_le (hB b X h).lt hn), fun b h => (h2 b h).swap (Nat.lt_of_lt_of_le (hW b h).lt hn), by simp; omega, below_swap h4 (Nat.le_trans bel.size hn)⟩
  · rintro w1 b y0 y1 y2 y3 y4 y5 ⟨h1, h2, h3, h4⟩ hn hl
    refine ⟨fun c X h => blk_far6 (h1 c X h) ?_, fun c h => ?_, by rw [size_put6]; exact h3, below_put6 h4 hl⟩
    · rintro rfl
      rcases hn with hn | hn
      · have := (hB _ X h).lt; omega
      · exact hd _ X h hn
    · by_cases e : c = b
      · subst e; exact (h2 _ h).put
      · exact (h2 c h).far6 e
  · rintro w1 ⟨_, _, h3, _⟩
    exact h3
  · rintro w1 ⟨_, _, _, h4⟩
    exact h4
  · rintro w1 b X ⟨h1, _, _, _⟩ h
    exact h1 b X h
  · rintro w1 b ⟨_, h2, _, _⟩ h
    exact h2 b h
/-- what a cell holds, as a number -/
def cval (w : World) (b j : Nat) : Int := intOf ((w.cell? ⟨b, j, none⟩).getD (.int .u64 0))
theorem cval_is {w : World} {b j : Nat} {x : Int} (h : w.cell? ⟨b, j, none⟩ = some (.int .u64 x)) : w.cell? ⟨b, j, none⟩ = some (.int .u64 (cval w b j)) := by
  rw [h]; unfold cval; rw [h]; rfl
theorem rule6 {S : World → Prop} {b : Nat} {x0 x1 x2 x3 x4 x5 : Int} (h : ∀ wx, S wx → Blk wx b (us [x0, x1, x2, x3, x4, x5])) : (∀ wx, S wx → wx.cell? ⟨b, 0, none⟩ = some (.int .u64 x0)) ∧ (∀ wx, S wx → wx.cell? ⟨b, 1, none⟩ = some (.int .u64 x1)) ∧ (∀ wx, S wx → wx.cell? ⟨b, 2, none⟩ = some (.int .u64 x2)) ∧ (∀ wx, S wx → wx.cell? ⟨b, 3, none⟩ = some (.int .u64 x3)) ∧ (∀ wx, S wx → wx.cell? ⟨b, 4, none⟩ = some (.int .u64 x4)) ∧ (∀ wx, S wx → wx.cell? ⟨b, 5, none⟩ = some (.int .u64 x5)) ∧ (∀ wx, S wx → b < wx.heap.size) :=
  ⟨fun w s => (h w s).cell 0 _ rfl, fun w s => (h w s).cell 1 _ rfl, fun w s => (h w s).cell 2 _ rfl, fun w s => (h w s).cell 3 _ rfl, fun w s => (h w s).cell 4 _ rfl, fun w s => (h w s).cell 5 _ rfl, fun w s => (h w s).lt⟩
theorem rule13 {S : World → Prop} {b : Nat} {m0 m1 m2 m3 m4 m5 i t0 t1 t2 t3 t4 t5 : Int} (h : ∀ wx, S wx → Blk wx b (us [m0, m1, m2, m3, m4, m5, i, t0, t1, t2, t3, t4, t5])) : (∀ wx, S wx → wx.cell? ⟨b, 0, none⟩ = some (.int .u64 m0)) ∧ (∀ wx, S wx → wx.cell? ⟨b, 1, none⟩ = some (.int .u64 m1)) ∧ (∀ wx, S wx → wx.cell? ⟨b, 2, none⟩ = some (.int .u64 m2)) ∧ (∀ wx, S wx → wx.cell? ⟨b, 3, none⟩ = some (.int .u64 m3)) ∧ (∀ wx, S wx → wx.cell? ⟨b, 4, none⟩ = some (.int .u64 m4)) ∧ (∀ wx, S wx → wx.cell? ⟨b, 5, none⟩ = some (.int .u64 m5)) ∧ (∀ wx, S wx → wx.cell? ⟨b, 6, none⟩ = some (.int .u64 i)) ∧
    (∀ wx, S wx → wx.cell? ⟨b, 7, none⟩ = some (.int .u64 t0)) ∧ (∀ wx, S wx → wx.cell? ⟨b, 8, none⟩ = some (.int .u64 t1)) ∧ (∀ wx, S wx → wx.cell? ⟨b, 9, none⟩ = some (.int .u64 t2)) ∧ (∀ wx, S wx → wx.cell? ⟨b, 10, none⟩ = some (.int .u64 t3)) ∧ (∀ wx, S wx → wx.cell? ⟨b, 11, none⟩ = some (.int .u64 t4)) ∧ (∀ wx, S wx → wx.cell? ⟨b, 12, none⟩ = some (.int .u64 t5)) ∧ (∀ wx, S wx → b < wx.heap.size) :=
  ⟨fun w s => (h w s).cell 0 _ rfl, fun w s => (h w s).cell 1 _ rfl, fun w s => (h w s).cell 2 _ rfl, fun w s => (h w s).cell 3 _ rfl, fun w s => (h w s).cell 4 _ rfl, fun w s => (h w s).cell 5 _ rfl, fun w s => (h w s).cell 6 _ rfl, fun w s => (h w s).cell 7 _ rfl, fun w s => (h w s).cell 8 _ rfl, fun w s => (h w s).cell 9 _ rfl, fun w s => (h w s).cell 10 _ rfl, fun w s => (h w s).cell 11 _ rfl, fun w s => (h w s).cell 12 _ rfl, fun w s => (h w s).lt⟩
theorem ruleW {S : World → Prop} {b : Nat} (h : ∀ wx, S wx → Wr6 wx b) : ((∀ wx, S wx → wx.cell? ⟨b, 0, none⟩ = some (.int .u64 (cval wx b 0))) ∧ (∀ wx, S wx → wx.cell? ⟨b, 1, none⟩ = some (.int .u64 (cval wx b 1))) ∧ (∀ wx, S wx → wx.cell? ⟨b, 2, none⟩ = some (.int .u64 (cval wx b 2))) ∧ (∀ wx, S wx → wx.cell? ⟨b, 3, none⟩ = some (.int .u64 (cval wx b 3))) ∧ (∀ wx, S wx → wx.cell? ⟨b, 4, none⟩ = some (.int .u64 (cval wx b 4))) ∧ (∀ wx, S wx → wx.cell? ⟨b, 5, none⟩ = some (.int .u64 (cval wx b 5)))) ∧
    ((∀ wx, S wx → wx.frozen? ⟨b, 0, none⟩ = false) ∧ (∀ wx, S wx → wx.frozen? ⟨b, 1, none⟩ = false) ∧ (∀ wx, S wx → wx.frozen? ⟨b, 2, none⟩ = false) ∧ (∀ wx, S wx → wx.frozen? ⟨b, 3, none⟩ = false) ∧ (∀ wx, S wx → wx.frozen? ⟨b, 4, none⟩ = false) ∧ (∀ wx, S wx → wx.frozen? ⟨b, 5, none⟩ = false)) ∧ (∀ wx, S wx → b < wx.heap.size) := by
  have c : ∀ wx, S wx → ∀ j, j < 6 → wx.cell? ⟨b, j, none⟩ = some (.int .u64 (cval wx b j)) := fun wx s j hj => by
    obtain ⟨X, l, hb⟩ := h wx s
    exact cval_is (hb.cell j _ (us_get X j (by omega)))
  have f : ∀ wx, S wx → ∀ j, wx.frozen? ⟨b, j, none⟩ = false := fun wx s j => by
    obtain ⟨X, l, hb⟩ := h wx s
    exact hb.frozen j
  exact ⟨⟨fun w s => c w s 0 (by omega), fun w s => c w s 1 (by omega), fun w s => c w s 2 (by omega), fun w s => c w s 3 (by omega), fun w s => c w s 4 (by omega), fun w s => c w s 5 (by omega)⟩, ⟨fun w s => f w s 0, fun w s => f w s 1, fun w s => f w s 2, fun w s => f w s 3, fun w s => f w s 4, fun w s => f w s 5⟩, fun w s => (h w s).lt⟩
end Go.Proofs.Ytnkipgbnnhahbaa
