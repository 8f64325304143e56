/- The reference's numbers as slices: their lengths; stores beside them. -/
import Derived.Test.YtnkipgbnnhahbaaNum
namespace Go.Proofs.Ytnkipgbnnhahbaa
open Go.RowKit
theorem num_len {w : World} {v : Value} {N : Int} (h : NumIs w v N) : ∃ (ao : Option Addr) (n cap : Nat), v = .slice ao n cap ∧ n ≤ cap ∧ cap ≤ maxLen ∧ ((n : Int) = 0 ↔ N = 0) := by
  obtain ⟨D, sD, dD, tD, rfl⟩ := h
  obtain ⟨ao, cap, rfl, m, k, -⟩ := sD.form
  refine ⟨ao, D.length, cap, rfl, k, m, fun h => ?_, fun h => ?_⟩
  · match D, h with
    | [], _ => rfl
  · apply Classical.byContradiction
    intro hn
    have l := trd_lower D dD tD (by omega)
    have p : (0 : Int) < 4294967296 ^ (D.length - 1) := Int.pow_pos (by decide)
    omega
theorem NumIs.form {w : World} {v : Value} {N : Int} (h : NumIs w v N) : ∃ (ao : Option Addr) (n cap : Nat), v = .slice ao n cap := by
  obtain ⟨ao, n, cap, e, -⟩ := num_len h
  exact ⟨ao, n, cap, e⟩
/-- a store into a block that begins with a bool leaves numbers as they are -/
theorem NumIs.set {w : World} {v : Value} {N : Int} {b j : Nat} {c : Bool} {X : List Value} {y : Value} (h : NumIs w v N) (B : Blk w b (.bool c :: X)) : NumIs (w.setCell ⟨b, j, none⟩ y) v N := by
  obtain ⟨D, sD, h2⟩ := h
  refine ⟨D, ?_, h2⟩
  rcases sD with ⟨h1, h3⟩ | ⟨b', cap, h1, h3, h4, h5, h6⟩
  · exact .inl ⟨h1, h3⟩
  · refine .inr ⟨b', cap, h1, h3, h4, by simpa using h5, fun k hk => ?_⟩
    have h0 := h6 0 (by omega)
    have hb := B.cell 0 _ rfl
    have hne : b' ≠ b := by
      rintro rfl
      rw [hb] at h0
      simp at h0
    rw [World.cell?_setCell_other _ _ _ _ (by simp)]
    exact h6 k hk
theorem NumIs.put3 {w : World} {v : Value} {N : Int} {b : Nat} {c u0 : Bool} {v1 v2 u1 u2 : Value} (h : NumIs w v N) (B : Blk w b [.bool c, v1, v2]) : NumIs (((w.setCell ⟨b, 0, none⟩ (.bool u0)).setCell ⟨b, 1, none⟩ u1).setCell ⟨b, 2, none⟩ u2) v N :=
  ((h.set B).set (B.set 0 (.bool u0))).set ((B.set 0 (.bool u0)).set 1 u1)
end Go.Proofs.Ytnkipgbnnhahbaa
