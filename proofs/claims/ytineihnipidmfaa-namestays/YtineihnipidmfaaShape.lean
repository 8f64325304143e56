/- The reference's numbers as slices: their lengths; stores beside them. What stays through a walk: known blocks of whatever cells; any other block may be written. -/
import Derived.Test.YtineihnipidmfaaBase
namespace Go.Proofs.Ytineihnipidmfaa
open Go.RowKit

theorem num_len {w : World} {v : Value} {N : Int} (h : NumIs w v N) : ∃ (ao : Option Addr) (n cap : Nat), v = .slice ao n cap ∧ n ≤ cap ∧ cap ≤ maxLen ∧ ((n : Int) = 0 ↔ N = 0) := by
  obtain ⟨D, sD, dD, tD, rfl⟩ := h
  obtain ⟨ao, cap, rfl, m, k, -⟩ := sD.form
  refine ⟨ao, D.length, cap, rfl, k, m, fun h => ?_, fun h => ?_⟩
  · match D, h with
    | [], _ => rfl
  · apply Classical.byContradiction
    intro hn
    have l := trd_lower D dD tD (by omega)
    have p : (0 : Int) < 4294967296 ^ (D.length - 1) := Int.pow_pos (by decide)
    omega

theorem NumIs.form {w : World} {v : Value} {N : Int} (h : NumIs w v N) : ∃ (ao : Option Addr) (n cap : Nat), v = .slice ao n cap := by
  obtain ⟨ao, n, cap, e, -⟩ := num_len h
  exact ⟨ao, n, cap, e⟩

/-- a store into a block that begins with a bool leaves numbers as they are -/
theorem NumIs.set {w : World} {v : Value} {N : Int} {b j : Nat} {c : Bool} {X : List Value} {y : Value} (h : NumIs w v N) (B : Blk w b (.bool c :: X)) : NumIs (w.setCell ⟨b, j, none⟩ y) v N := by
  obtain ⟨D, sD, h2⟩ := h
  refine ⟨D, ?_, h2⟩
  rcases sD with ⟨h1, h3⟩ | ⟨b', cap, h1, h3, h4, h5, h6⟩
  · exact .inl ⟨h1, h3⟩
  · refine .inr ⟨b', cap, h1, h3, h4, by simpa using h5, fun k hk => ?_⟩
    have h0 := h6 0 (by omega)
    have hb := B.cell 0 _ rfl
    have hne : b' ≠ b := by
      rintro rfl
      rw [hb] at h0
      simp at h0
    rw [World.cell?_setCell_other _ _ _ _ (by simp)]
    exact h6 k hk

theorem NumIs.put3 {w : World} {v : Value} {N : Int} {b : Nat} {c u0 : Bool} {v1 v2 u1 u2 : Value} (h : NumIs w v N) (B : Blk w b [.bool c, v1, v2]) : NumIs (((w.setCell ⟨b, 0, none⟩ (.bool u0)).setCell ⟨b, 1, none⟩ u1).setCell ⟨b, 2, none⟩ u2) v N :=
  ((h.set B).set (B.set 0 (.bool u0))).set ((B.set 0 (.bool u0)).set 1 u1)
end Go.Proofs.Ytineihnipidmfaa

namespace Go.Proofs.Ytineihnipidmfaa
open Go.RowKit

theorem held3 {w0 W : World} (bs : List (Nat × List Value)) (hB : ∀ b X, (b, X) ∈ bs → Blk W b X) (bel : Below w0.heap.size w0 W) :
    ∃ S : World → Prop, Hd S W ∧ Hid (∀ w1 w2, Hd S w1 → Below w1.heap.size w1 w2 → Hd S w2) ∧ Hid (∀ w1 o, Hd S w1 → Hd S (w1.alloc o)) ∧ Hid (∀ w1, Hd S w1 → Hd S w1.drew) ∧ Hid (∀ (w1 : World) (o o' : Obj), W.heap.size ≤ w1.heap.size → Hd S (w1.alloc o) → Hd S (w1.alloc o')) ∧
      Hid (∀ w1 b j y, Hd S w1 → (W.heap.size ≤ b ∨ ∀ c X, (c, X) ∈ bs → c ≠ b) → w0.heap.size ≤ b → Hd S (w1.setCell ⟨b, j, none⟩ y)) ∧
      Hid (∀ w1, Hd S w1 → W.heap.size ≤ w1.heap.size) ∧ Hid (∀ w1, Hd S w1 → Below w0.heap.size w0 w1) ∧ Hid (∀ w1 b X, Hd S w1 → (b, X) ∈ bs → Blk w1 b X) ∧
      Hid (∀ w1 b cs, Hd S w1 → (W.heap.size ≤ b ∨ ∀ c X, (c, X) ∈ bs → c ≠ b) → w0.heap.size ≤ b → Hd S (w1.setRow b cs)) := by
  refine ⟨fun wx => (∀ b X, (b, X) ∈ bs → Blk wx b X) ∧ W.heap.size ≤ wx.heap.size ∧ Below w0.heap.size w0 wx, ⟨hB, Nat.le_refl _, bel⟩, ?_, ?_, ?_, ?_, ?_, ?_, ?_, ?_, ?_⟩
  · rintro w1 w2 ⟨h1, h3, h4⟩ hb
    exact ⟨fun b X h => (h1 b X h).later hb, Nat.le_trans h3 hb.size, below_step h4 hb⟩
  · rintro w1 o ⟨h1, h3, h4⟩
    exact ⟨fun b X h => (h1 b X h).alloc o, by simp; omega, below_alloc h4⟩
  · rintro w1 ⟨h1, h3, h4⟩
    exact ⟨h1, h3, h4.drew⟩
  · rintro w1 o o' hn ⟨h1, h3, h4⟩
    exact ⟨fun b X h => (h1 b X h).swap (Nat.lt_of_lt_of_le (hB b X h).lt hn), by simp; omega, below_swap h4 (Nat.le_trans bel.size hn)⟩
  · rintro w1 b j y ⟨h1, h3, h4⟩ hn hl
    refine ⟨fun c X h => (h1 c X h).other _ _ ?_, by simpa using h3, h4.setCell hl _⟩
    rcases hn with hn | hn
    · have := (hB c X h).lt
      exact Nat.ne_of_lt (Nat.lt_of_lt_of_le this hn)
    · exact hn c X h
  · rintro w1 ⟨_, h3, _⟩
    exact h3
  · rintro w1 ⟨_, _, h4⟩
    exact h4
  · rintro w1 b X ⟨h1, _, _⟩ h
    exact h1 b X h
  · rintro w1 b cs ⟨h1, h3, h4⟩ hn hl
    refine ⟨fun c X h => (h1 c X h).row ?_, by simpa [World.setRow] using h3, below_setRow h4 hl _⟩
    rcases hn with hn | hn
    · have := (hB c X h).lt
      exact Nat.ne_of_lt (Nat.lt_of_lt_of_le this hn)
    · exact hn c X h
end Go.Proofs.Ytineihnipidmfaa
