/- What stays through a walk, for blocks of whatever cells: known ones, and ones that may be written; under one letter S, with its rules. -/
import Derived.Test.YtnkipgbnnhahbaaHeld
import Derived.Laws.CopyOwn
import Derived.Deep.MidRow
namespace Go.Proofs.Ytnkipgbnnhahbaa
open Go.RowKit
/-- a block of n numbers of 64 bits, whatever they are -/
def Wrn (w : World) (b n : Nat) : Prop := ∃ X : List Int, X.length = n ∧ Blk w b (us X)
theorem Wrn.mk {w : World} {b n : Nat} {X : List Int} (h : Blk w b (us X)) (l : X.length = n) : Wrn w b n := ⟨_, l, h⟩
theorem Wrn.later {w w' : World} {b n : Nat} (h : Wrn w b n) (hb : Below w.heap.size w w') : Wrn w' b n := by
  obtain ⟨X, l, h⟩ := h
  exact ⟨X, l, h.later hb⟩
theorem Wrn.lt {w : World} {b n : Nat} (h : Wrn w b n) : b < w.heap.size := by
  obtain ⟨X, l, h⟩ := h
  exact h.lt
theorem Wrn.alloc {w : World} {b n : Nat} (h : Wrn w b n) (o : Obj) : Wrn (w.alloc o) b n := by
  obtain ⟨X, l, h⟩ := h
  exact ⟨X, l, h.alloc o⟩
theorem Wrn.swap {w : World} {b n : Nat} {o o' : Obj} (h : Wrn (w.alloc o) b n) (hc : b < w.heap.size) : Wrn (w.alloc o') b n := by
  obtain ⟨X, l, h⟩ := h
  exact ⟨X, l, h.swap hc⟩
theorem Wrn.set {w : World} {b n c j : Nat} {y : Int} (h : Wrn w b n) : Wrn (w.setCell ⟨c, j, none⟩ (.int .u64 y)) b n := by
  obtain ⟨X, l, h⟩ := h
  by_cases e : b = c
  · subst e; exact ⟨_, by simpa using l, h.setu j y⟩
  · exact ⟨X, l, h.other _ _ e⟩
theorem Wrn.row {w : World} {b n : Nat} {cs : Array Value} (h : Wrn w b n) : Blk (w.setRow b cs) b cs.toList := by
  obtain ⟨X, l, t, h⟩ := h
  exact ⟨t, by simpa using setRow_heap w b _ cs t _ h⟩
theorem Blk.row {w : World} {b c : Nat} {X : List Value} {cs : Array Value} (h : Blk w b X) (hc : b ≠ c) : Blk (w.setRow c cs) b X := by
  obtain ⟨t, h⟩ := h
  exact ⟨t, by rw [setRow_other _ _ _ _ hc]; exact h⟩
theorem Wrn.rowOf {w : World} {b c n : Nat} {Y : List Int} (h : Wrn w b n) (hc : b ≠ c ∨ Y.length = n) : Wrn (w.setRow c (us Y).toArray) b n := by
  by_cases e : b = c
  · subst e
    exact ⟨Y, by rcases hc with hc | hc; exact absurd rfl hc; exact hc, by simpa using h.row (cs := (us Y).toArray)⟩
  · obtain ⟨X, l, h⟩ := h
    exact ⟨X, l, h.row e⟩
theorem us_one (X : List Int) : (us X).toArray.all (·.oneCell') = true := by
  simp [us, Value.oneCell']
theorem held2 {w0 W : World} (bs : List (Nat × List Value)) (ws : List (Nat × Nat)) (hB : ∀ b X, (b, X) ∈ bs → Blk W b X) (hW : ∀ b n, (b, n) ∈ ws → Wrn W b n) (hd : ∀ b X n, (b, X) ∈ bs → (b, n) ∉ ws) (bel : Below w0.heap.size w0 W) :
    ∃ S : World → Prop, Hd S W ∧ Hid (∀ w1 w2, Hd S w1 → Below w1.heap.size w1 w2 → Hd S w2) ∧ Hid (∀ w1 o, Hd S w1 → Hd S (w1.alloc o)) ∧ Hid (∀ w1, Hd S w1 → Hd S w1.drew) ∧ Hid (∀ (w1 : World) (o o' : Obj), W.heap.size ≤ w1.heap.size → Hd S (w1.alloc o) → Hd S (w1.alloc o')) ∧
      Hid (∀ w1 b j y, Hd S w1 → (W.heap.size ≤ b ∨ ∃ n, (b, n) ∈ ws) → w0.heap.size ≤ b → Hd S (w1.setCell ⟨b, j, none⟩ (.int .u64 y))) ∧
      Hid (∀ w1, Hd S w1 → W.heap.size ≤ w1.heap.size) ∧ Hid (∀ w1, Hd S w1 → Below w0.heap.size w0 w1) ∧ Hid (∀ w1 b X, Hd S w1 → (b, X) ∈ bs → Blk w1 b X) ∧ Hid (∀ w1 b n, Hd S w1 → (b, n) ∈ ws → Wrn w1 b n) ∧
      Hid (∀ w1 b (Y : List Int), Hd S w1 → (b, Y.length) ∈ ws → (∀ n, (b, n) ∈ ws → Y.length = n) → w0.heap.size ≤ b → Hd S (w1.setRow b (us Y).toArray)) := by
  refine ⟨fun wx => (∀ b X, (b, X) ∈ bs → Blk wx b X) ∧ (∀ b n, (b, n) ∈ ws → Wrn wx b n) ∧ W.heap.size ≤ wx.heap.size ∧ Below w0.heap.size w0 wx, ⟨hB, hW, Nat.le_refl _, bel⟩, ?_, ?_, ?_, ?_, ?_, ?_, ?_, ?_, ?_, ?_⟩
  · rintro w1 w2 ⟨h1, h2, h3, h4⟩ hb
    exact ⟨fun b X h => (h1 b X h).later hb, fun b n h => (h2 b n h).later hb, Nat.le_trans h3 hb.size, below_step h4 hb⟩
  · rintro w1 o ⟨h1, h2, h3, h4⟩
    exact ⟨fun b X h => (h1 b X h).alloc o, fun b n h => (h2 b n h).alloc o, by simp; omega, below_alloc h4⟩
  · rintro w1 ⟨h1, h2, h3, h4⟩
    exact ⟨h1, h2, h3, h4.drew⟩
  · rintro w1 o o' hn ⟨h1, h2, h3, h4⟩
    exact ⟨fun b X h => (h1 b X h).swap (Nat.lt_of_lt_of_le (hB b X h).lt hn), fun b n h => (h2 b n h).swap (Nat.lt_of_lt_of_le (hW b n h).lt hn), by simp; omega, below_swap h4 (Nat.le_trans bel.size hn)⟩
  · rintro w1 b j y ⟨h1, h2, h3, h4⟩ hn hl
    refine ⟨fun c X h => (h1 c X h).other _ _ ?_, fun c n h => (h2 c n h).set, by simpa using h3, h4.setCell hl _⟩
    rintro rfl
    rcases hn with hn | ⟨n, hn⟩
    · have := (hB _ X h).lt
      omega
    · exact hd _ X n h hn
  · rintro w1 ⟨_, _, h3, _⟩
    exact h3
  · rintro w1 ⟨_, _, _, h4⟩
    exact h4
  · rintro w1 b X ⟨h1, _, _, _⟩ h
    exact h1 b X h
  · rintro w1 b n ⟨_, h2, _, _⟩ h
    exact h2 b n h
  · rintro w1 b cs ⟨h1, h2, h3, h4⟩ hm hu hl
    refine ⟨fun c X h => (h1 c X h).row ?_, fun c n h => (h2 c n h).rowOf ?_, by simpa [World.setRow] using h3, below_setRow h4 hl _⟩
    · rintro rfl
      exact hd _ X _ h hm
    · by_cases e : c = b
      · subst e; exact .inr (hu n h)
      · exact .inl e
/-- a cell of a known block, as a rule -/
theorem rulec {S : World → Prop} {b : Nat} {cs : List Value} (h : ∀ wx, S wx → Blk wx b cs) (j : Nat) (v : Value) (hv : cs[j]? = some v) : ∀ wx, S wx → wx.cell? ⟨b, j, none⟩ = some v := fun wx s => (h wx s).cell j v hv
theorem ruleb {S : World → Prop} {b : Nat} {cs : List Value} (h : ∀ wx, S wx → Blk wx b cs) : ∀ wx, S wx → b < wx.heap.size := fun wx s => (h wx s).lt
theorem rulew {S : World → Prop} {b n : Nat} (h : ∀ wx, S wx → Wrn wx b n) (j : Nat) (hj : j < n) : ∀ wx, S wx → wx.cell? ⟨b, j, none⟩ = some (.int .u64 (cval wx b j)) := fun wx s => by
  obtain ⟨X, l, hb⟩ := h wx s
  exact cval_is (hb.cell j _ (us_get X j (by omega)))
theorem rulef {S : World → Prop} {b n : Nat} (h : ∀ wx, S wx → Wrn wx b n) (j : Nat) : ∀ wx, S wx → wx.frozen? ⟨b, j, none⟩ = false := fun wx s => by
  obtain ⟨cs, l, hb⟩ := h wx s
  exact hb.frozen j
theorem rulel {S : World → Prop} {b n : Nat} (h : ∀ wx, S wx → Wrn wx b n) : ∀ wx, S wx → b < wx.heap.size := fun wx s => (h wx s).lt
theorem Wrn.parts1 {w : World} {b : Nat} (h : Wrn w b 1) : ∃ v0 : Int, (w.cell? ⟨b, 0, none⟩ = some (.int .u64 v0)) ∧ (w.frozen? ⟨b, 0, none⟩ = false) := by
  obtain ⟨cs, l, hb⟩ := h
  match cs, l, hb with
  | [v0], _, hb => exact ⟨v0, hb.cell 0 _ rfl, hb.frozen 0⟩
theorem Wrn.parts2 {w : World} {b : Nat} (h : Wrn w b 2) : ∃ v0 v1 : Int, (w.cell? ⟨b, 0, none⟩ = some (.int .u64 v0) ∧ w.cell? ⟨b, 1, none⟩ = some (.int .u64 v1)) ∧ (w.frozen? ⟨b, 0, none⟩ = false ∧ w.frozen? ⟨b, 1, none⟩ = false) := by
  obtain ⟨cs, l, hb⟩ := h
  match cs, l, hb with
  | [v0, v1], _, hb => exact ⟨v0, v1, ⟨hb.cell 0 _ rfl, hb.cell 1 _ rfl⟩, ⟨hb.frozen 0, hb.frozen 1⟩⟩
theorem Wrn.parts6 {w : World} {b : Nat} (h : Wrn w b 6) : ∃ v0 v1 v2 v3 v4 v5 : Int, (w.cell? ⟨b, 0, none⟩ = some (.int .u64 v0) ∧ w.cell? ⟨b, 1, none⟩ = some (.int .u64 v1) ∧ w.cell? ⟨b, 2, none⟩ = some (.int .u64 v2) ∧ w.cell? ⟨b, 3, none⟩ = some (.int .u64 v3) ∧ w.cell? ⟨b, 4, none⟩ = some (.int .u64 v4) ∧ w.cell? ⟨b, 5, none⟩ = some (.int .u64 v5)) ∧ (w.frozen? ⟨b, 0, none⟩ = false ∧ w.frozen? ⟨b, 1, none⟩ = false ∧ w.frozen? ⟨b, 2, none⟩ = false ∧ w.frozen? ⟨b, 3, none⟩ = false ∧ w.frozen? ⟨b, 4, none⟩ = false ∧ w.frozen? ⟨b, 5, none⟩ = false) := by
  obtain ⟨cs, l, hb⟩ := h
  match cs, l, hb with
  | [v0, v1, v2, v3, v4, v5], _, hb => exact ⟨v0, v1, v2, v3, v4, v5, ⟨hb.cell 0 _ rfl, hb.cell 1 _ rfl, hb.cell 2 _ rfl, hb.cell 3 _ rfl, hb.cell 4 _ rfl, hb.cell 5 _ rfl⟩, ⟨hb.frozen 0, hb.frozen 1, hb.frozen 2, hb.frozen 3, hb.frozen 4, hb.frozen 5⟩⟩
theorem Wrn.parts7 {w : World} {b : Nat} (h : Wrn w b 7) : ∃ v0 v1 v2 v3 v4 v5 v6 : Int, (w.cell? ⟨b, 0, none⟩ = some (.int .u64 v0) ∧ w.cell? ⟨b, 1, none⟩ = some (.int .u64 v1) ∧ w.cell? ⟨b, 2, none⟩ = some (.int .u64 v2) ∧ w.cell? ⟨b, 3, none⟩ = some (.int .u64 v3) ∧ w.cell? ⟨b, 4, none⟩ = some (.int .u64 v4) ∧ w.cell? ⟨b, 5, none⟩ = some (.int .u64 v5) ∧ w.cell? ⟨b, 6, none⟩ = some (.int .u64 v6)) ∧ (w.frozen? ⟨b, 0, none⟩ = false ∧ w.frozen? ⟨b, 1, none⟩ = false ∧ w.frozen? ⟨b, 2, none⟩ = false ∧ w.frozen? ⟨b, 3, none⟩ = false ∧ w.frozen? ⟨b, 4, none⟩ = false ∧ w.frozen? ⟨b, 5, none⟩ = false ∧ w.frozen? ⟨b, 6, none⟩ = false) := by
  obtain ⟨cs, l, hb⟩ := h
  match cs, l, hb with
  | [v0, v1, v2, v3, v4, v5, v6], _, hb => exact ⟨v0, v1, v2, v3, v4, v5, v6, ⟨hb.cell 0 _ rfl, hb.cell 1 _ rfl, hb.cell 2 _ rfl, hb.cell 3 _ rfl, hb.cell 4 _ rfl, hb.cell 5 _ rfl, hb.cell 6 _ rfl⟩, ⟨hb.frozen 0, hb.frozen 1, hb.frozen 2, hb.frozen 3, hb.frozen 4, hb.frozen 5, hb.frozen 6⟩⟩
theorem Wrn.parts13 {w : World} {b : Nat} (h : Wrn w b 13) : ∃ v0 v1 v2 v3 v4 v5 v6 v7 v8 v9 v10 v11 v12 : Int, (w.cell? ⟨b, 0, none⟩ = some (.int .u64 v0) ∧ w.cell? ⟨b, 1, none⟩ = some (.int .u64 v1) ∧ w.cell? ⟨b, 2, none⟩ = some (.int .u64 v2) ∧ w.cell? ⟨b, 3, none⟩ = some (.int .u64 v3) ∧ w.cell? ⟨b, 4, none⟩ = some (.int .u64 v4) ∧ w.cell? ⟨b, 5, none⟩ = some (.int .u64 v5) ∧ w.cell? ⟨b, 6, none⟩ = some (.int .u64 v6) ∧ w.cell? ⟨b, 7, none⟩ = some (.int .u64 v7) ∧ w.cell? ⟨b, 8, none⟩ = some (.int .u64 v8) ∧ w.cell? ⟨b, 9, none⟩ = some (.int .u64 v9) ∧ w.cell? ⟨b, 10, none⟩ = some (.int .u64 v10) ∧ w.cell? ⟨b, 11, none⟩ = some (.int .u64 v11) ∧ w.cell? ⟨b, 12, none⟩ = some (.int .u64 v12)) ∧ (w.frozen? ⟨b, 0, none⟩ = false ∧ w.frozen? ⟨b, 1, none⟩ = false ∧ w.frozen? ⟨b, 2, none⟩ = false ∧ w.frozen? ⟨b, 3, none⟩ = false ∧ w.frozen? ⟨b, 4, none⟩ = false ∧ w.frozen? ⟨b, 5, none⟩ = false ∧ w.frozen? ⟨b, 6, none⟩ = false ∧ w.frozen? ⟨b, 7, none⟩ = false ∧ w.frozen? ⟨b, 8, none⟩ = false ∧ w.frozen? ⟨b, 9, none⟩ = false ∧ w.frozen? ⟨b, 10, none⟩ = false ∧ w.frozen? ⟨b, 11, none⟩ = false ∧ w.frozen? ⟨b, 12, none⟩ = false) := by
  obtain ⟨cs, l, hb⟩ := h
  match cs, l, hb with
  | [v0, v1, v2, v3, v4, v5, v6, v7, v8, v9, v10, v11, v12], _, hb => exact ⟨v0, v1, v2, v3, v4, v5, v6, v7, v8, v9, v10, v11, v12, ⟨hb.cell 0 _ rfl, hb.cell 1 _ rfl, hb.cell 2 _ rfl, hb.cell 3 _ rfl, hb.cell 4 _ rfl, hb.cell 5 _ rfl, hb.cell 6 _ rfl, hb.cell 7 _ rfl, hb.cell 8 _ rfl, hb.cell 9 _ rfl, hb.cell 10 _ rfl, hb.cell 11 _ rfl, hb.cell 12 _ rfl⟩, ⟨hb.frozen 0, hb.frozen 1, hb.frozen 2, hb.frozen 3, hb.frozen 4, hb.frozen 5, hb.frozen 6, hb.frozen 7, hb.frozen 8, hb.frozen 9, hb.frozen 10, hb.frozen 11, hb.frozen 12⟩⟩
theorem Wrn.parts18 {w : World} {b : Nat} (h : Wrn w b 18) : ∃ v0 v1 v2 v3 v4 v5 v6 v7 v8 v9 v10 v11 v12 v13 v14 v15 v16 v17 : Int, (w.cell? ⟨b, 0, none⟩ = some (.int .u64 v0) ∧ w.cell? ⟨b, 1, none⟩ = some (.int .u64 v1) ∧ w.cell? ⟨b, 2, none⟩ = some (.int .u64 v2) ∧ w.cell? ⟨b, 3, none⟩ = some (.int .u64 v3) ∧ w.cell? ⟨b, 4, none⟩ = some (.int .u64 v4) ∧ w.cell? ⟨b, 5, none⟩ = some (.int .u64 v5) ∧ w.cell? ⟨b, 6, none⟩ = some (.int .u64 v6) ∧ w.cell? ⟨b, 7, none⟩ = some (.int .u64 v7) ∧ w.cell? ⟨b, 8, none⟩ = some (.int .u64 v8) ∧ w.cell? ⟨b, 9, none⟩ = some (.int .u64 v9) ∧ w.cell? ⟨b, 10, none⟩ = some (.int .u64 v10) ∧ w.cell? ⟨b, 11, none⟩ = some (.int .u64 v11) ∧ w.cell? ⟨b, 12, none⟩ = some (.int .u64 v12) ∧ w.cell? ⟨b, 13, none⟩ = some (.int .u64 v13) ∧ w.cell? ⟨b, 14, none⟩ = some (.int .u64 v14) ∧ w.cell? ⟨b, 15, none⟩ = some (.int .u64 v15) ∧ w.cell? ⟨b, 16, none⟩ = some (.int .u64 v16) ∧ w.cell? ⟨b, 17, none⟩ = some (.int .u64 v17)) ∧ (w.frozen? ⟨b, 0, none⟩ = false ∧ w.frozen? ⟨b, 1, none⟩ = false ∧ w.frozen? ⟨b, 2, none⟩ = false ∧ w.frozen? ⟨b, 3, none⟩ = false ∧ w.frozen? ⟨b, 4, none⟩ = false ∧ w.frozen? ⟨b, 5, none⟩ = false ∧ w.frozen? ⟨b, 6, none⟩ = false ∧ w.frozen? ⟨b, 7, none⟩ = false ∧ w.frozen? ⟨b, 8, none⟩ = false ∧ w.frozen? ⟨b, 9, none⟩ = false ∧ w.frozen? ⟨b, 10, none⟩ = false ∧ w.frozen? ⟨b, 11, none⟩ = false ∧ w.frozen? ⟨b, 12, none⟩ = false ∧ w.frozen? ⟨b, 13, none⟩ = false ∧ w.frozen? ⟨b, 14, none⟩ = false ∧ w.frozen? ⟨b, 15, none⟩ = false ∧ w.frozen? ⟨b, 16, none⟩ = false ∧ w.frozen? ⟨b, 17, none⟩ = false) := by
  obtain ⟨cs, l, hb⟩ := h
  match cs, l, hb with
  | [v0, v1, v2, v3, v4, v5, v6, v7, v8, v9, v10, v11, v12, v13, v14, v15, v16, v17], _, hb => exact ⟨v0, v1, v2, v3, v4, v5, v6, v7, v8, v9, v10, v11, v12, v13, v14, v15, v16, v17, ⟨hb.cell 0 _ rfl, hb.cell 1 _ rfl, hb.cell 2 _ rfl, hb.cell 3 _ rfl, hb.cell 4 _ rfl, hb.cell 5 _ rfl, hb.cell 6 _ rfl, hb.cell 7 _ rfl, hb.cell 8 _ rfl, hb.cell 9 _ rfl, hb.cell 10 _ rfl, hb.cell 11 _ rfl, hb.cell 12 _ rfl, hb.cell 13 _ rfl, hb.cell 14 _ rfl, hb.cell 15 _ rfl, hb.cell 16 _ rfl, hb.cell 17 _ rfl⟩, ⟨hb.frozen 0, hb.frozen 1, hb.frozen 2, hb.frozen 3, hb.frozen 4, hb.frozen 5, hb.frozen 6, hb.frozen 7, hb.frozen 8, hb.frozen 9, hb.frozen 10, hb.frozen 11, hb.frozen 12, hb.frozen 13, hb.frozen 14, hb.frozen 15, hb.frozen 16, hb.frozen 17⟩⟩
end Go.Proofs.Ytnkipgbnnhahbaa
