/- The laws on digests: bytes as strings, and cut. -/
import Derived.Test.YtbglkbfnhnmodaaDoorRows
import Derived.Test.YtbglkbfnhnmodaaDoorSLaw0
import Derived.Deep.WholeRow
import Derived.Deep.RegionHeld3
import Derived.Deep.DeepCutAuto
import Derived.Deep.DeepFit
namespace Go.Proofs.YtbglkbfnhnmodaaDoor
open Go.RowKit

theorem bs_take {w : World} {b o n cap : Nat} {B : List Int} (h : Bs w (.slice (some ⟨b, o, none⟩) n cap) B) (hn : 20000 < n) : Bs w (.slice (some ⟨b, o, none⟩) 20000 cap) (B.take 20000) := by
  obtain ⟨ao, c, e, h1, h2, h3⟩ := h
  simp only [Value.slice.injEq] at e
  obtain ⟨rfl, rfl, rfl⟩ := e
  have l : (B.take 20000).length = 20000 := by rw [List.length_take]; omega
  obtain ⟨b', o', e', h5, h6⟩ := h3 (by omega)
  simp only [Option.some.injEq, Addr.mk.injEq] at e'
  obtain ⟨rfl, rfl, -⟩ := e'
  refine ⟨_, cap, by rw [l], h1, by omega, fun _ => ⟨b, o, rfl, h5, fun j hj => ?_⟩⟩
  rw [l] at hj
  rw [h6 j (by omega), List.getD_eq_getElem?_getD, List.getD_eq_getElem?_getD, List.getElem?_take, if_pos hj]
theorem byt_take {B : List Int} (h : byt B) (n : Nat) : byt (B.take n) := by
  intro j
  rw [List.getD_eq_getElem?_getD, List.getElem?_take]
  split
  · rw [← List.getD_eq_getElem?_getD]; exact h j
  · exact ⟨by simp, by simp⟩

theorem bs_cells {w : World} {b o n cap : Nat} {D : List Int} (h : Bs w (.slice (some ⟨b, o, none⟩) n cap) D) (h0 : 0 < n) : b < w.heap.size ∧ ∀ j, j < D.length → w.cell? ⟨b, o + j, none⟩ = some (.int .u8 (D.getD j 0)) := by
  obtain ⟨ao, c, e, h1, h2, h3⟩ := h
  simp only [Value.slice.injEq] at e
  obtain ⟨rfl, rfl, rfl⟩ := e
  obtain ⟨b', o', e', h5, h6⟩ := h3 h0
  simp only [Option.some.injEq, Addr.mk.injEq] at e'
  obtain ⟨rfl, rfl, -⟩ := e'
  exact ⟨h5, h6⟩
theorem SumIs.len {K H B O : List Int} (h : SumIs K H B O) : O.length = 48 := by
  obtain ⟨P, _, h⟩ := h
  exact h.len

end Go.Proofs.YtbglkbfnhnmodaaDoor
