/- What stays through a walk: known blocks of whatever cells; any other block may be written. -/
import Derived.Test.YtpgidlnpcjbfhabDoorBase
namespace Go.Proofs.YtpgidlnpcjbfhabDoor
open Go.RowKit

theorem held3 {w0 W : World} (bs : List (Nat × List Value)) (hB : ∀ b X, (b, X) ∈ bs → Blk W b X) (bel : Below w0.heap.size w0 W) :
    ∃ S : World → Prop, Hd S W ∧ Hid (∀ w1 w2, Hd S w1 → Below w1.heap.size w1 w2 → Hd S w2) ∧ Hid (∀ w1 o, Hd S w1 → Hd S (w1.alloc o)) ∧ Hid (∀ w1, Hd S w1 → Hd S w1.drew) ∧ Hid (∀ (w1 : World) (o o' : Obj), W.heap.size ≤ w1.heap.size → Hd S (w1.alloc o) → Hd S (w1.alloc o')) ∧
      Hid (∀ w1 b j y, Hd S w1 → (W.heap.size ≤ b ∨ ∀ c X, (c, X) ∈ bs → c ≠ b) → w0.heap.size ≤ b → Hd S (w1.setCell ⟨b, j, none⟩ y)) ∧
      Hid (∀ w1, Hd S w1 → W.heap.size ≤ w1.heap.size) ∧ Hid (∀ w1, Hd S w1 → Below w0.heap.size w0 w1) ∧ Hid (∀ w1 b X, Hd S w1 → (b, X) ∈ bs → Blk w1 b X) ∧
      Hid (∀ w1 b cs, Hd S w1 → (W.heap.size ≤ b ∨ ∀ c X, (c, X) ∈ bs → c ≠ b) → w0.heap.size ≤ b → Hd S (w1.setRow b cs)) := by
  refine ⟨fun wx => (∀ b X, (b, X) ∈ bs → Blk wx b X) ∧ W.heap.size ≤ wx.heap.size ∧ Below w0.heap.size w0 wx, ⟨hB, Nat.le_refl _, bel⟩, ?_, ?_, ?_, ?_, ?_, ?_, ?_, ?_, ?_⟩
  · rintro w1 w2 ⟨h1, h3, h4⟩ hb
    exact ⟨fun b X h => (h1 b X h).later hb, Nat.le_trans h3 hb.size, below_step h4 hb⟩
  · rintro w1 o ⟨h1, h3, h4⟩
    exact ⟨fun b X h => (h1 b X h).alloc o, by simp; omega, below_alloc h4⟩
  · rintro w1 ⟨h1, h3, h4⟩
    exact ⟨h1, h3, h4.drew⟩
  · rintro w1 o o' hn ⟨h1, h3, h4⟩
    exact ⟨fun b X h => (h1 b X h).swap (Nat.lt_of_lt_of_le (hB b X h).lt hn), by simp; omega, below_swap h4 (Nat.le_trans bel.size hn)⟩
  · rintro w1 b j y ⟨h1, h3, h4⟩ hn hl
    refine ⟨fun c X h => (h1 c X h).other _ _ ?_, by simpa using h3, h4.setCell hl _⟩
    rcases hn with hn | hn
    · have := (hB c X h).lt
      exact Nat.ne_of_lt (Nat.lt_of_lt_of_le this hn)
    · exact hn c X h
  · rintro w1 ⟨_, h3, _⟩
    exact h3
  · rintro w1 ⟨_, _, h4⟩
    exact h4
  · rintro w1 b X ⟨h1, _, _⟩ h
    exact h1 b X h
  · rintro w1 b cs ⟨h1, h3, h4⟩ hn hl
    refine ⟨fun c X h => (h1 c X h).row ?_, by simpa [World.setRow] using h3, below_setRow h4 hl _⟩
    rcases hn with hn | hn
    · have := (hB c X h).lt
      exact Nat.ne_of_lt (Nat.lt_of_lt_of_le this hn)
    · exact hn c X h
end Go.Proofs.YtpgidlnpcjbfhabDoor
