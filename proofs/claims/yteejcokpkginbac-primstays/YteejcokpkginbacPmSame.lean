/- The law's same: two identifiers alike. -/
import Derived.Test.YteejcokpkginbacRows
import Derived.Test.YteejcokpkginbacApUs
import Derived.Deep.WholeRow
import Derived.Deep.RegionHeld3
import Derived.Deep.DeepCutAuto
import Derived.Deep.DeepFit
namespace Go.Proofs.Yteejcokpkginbac
open Go.RowKit

/-- the slice value v holds the words L, wherever it ends -/
def Us0 (w : World) (v : Value) (L : List Int) : Prop := ∃ ao cap, v = .slice ao L.length cap ∧ (0 < L.length → ∃ b o, ao = some ⟨b, o, none⟩ ∧ b < w.heap.size ∧ ∀ j, j < L.length → w.cell? ⟨b, o + j, none⟩ = some (.int .u64 (L.getD j 0)))
theorem Us.weak {w : World} {v : Value} {L : List Int} (h : Us w v L) : Us0 w v L := by
  obtain ⟨ao, cap, h1, _, _, h4⟩ := h
  exact ⟨ao, cap, h1, h4⟩
theorem us0_zero (w : World) (ao : Option Addr) (cap : Nat) : Us0 w (.slice ao 0 cap) [] := ⟨ao, cap, rfl, fun h => absurd h (by decide)⟩
set_option linter.unusedSimpArgs false in
set_option maxRecDepth 100000 in
set_option maxHeartbeats 1000000 in
theorem con_sameE {va vb : Value} {L : List Int} {w : World} (ha : Us0 w va L) (hb : Us0 w vb L) (hl : L.length ≤ 140737488351232) :
    Calls Try.prog 9 #[va, vb] w fun e w' => e = .returned (.bool true) ∧ Below w.heap.size w w' := by
  obtain ⟨ao, ca, rfl, a3⟩ := ha
  obtain ⟨bo, cb, rfl, b3⟩ := hb
  obtain ⟨N, hN⟩ : ∃ N, L.length = N := ⟨_, rfl⟩
  rw [hN] at a3 b3 hl ⊢
  have HA : Hid (∀ j, j < N → ∃ g o, ao = some ⟨g, o, none⟩ ∧ w.cell? ⟨g, o + j, none⟩ = some (.int .u64 (L.getD j 0)) ∧ g < w.heap.size) := fun j hj => by
    obtain ⟨g, o, e1, e2, e3⟩ := a3 (by omega)
    exact ⟨g, o, e1, e3 j hj, e2⟩
  have HB : Hid (∀ j, j < N → ∃ g o, bo = some ⟨g, o, none⟩ ∧ w.cell? ⟨g, o + j, none⟩ = some (.int .u64 (L.getD j 0)) ∧ g < w.heap.size) := fun j hj => by
    obtain ⟨g, o, e1, e2, e3⟩ := b3 (by omega)
    exact ⟨g, o, e1, e3 j hj, e2⟩
  clear a3 b3 hN
  go_enter Try.func9, Try.ntmps9
  go_wp2_with fail
  go_loopw [5] (fun iv wx => ∃ i : Nat, i ≤ N ∧ iv = .int .i64 (i : Int) ∧ Below w.heap.size w wx) (fun iv _ => N - (intOf iv).toNat)
  case atStart => exact ⟨0, by omega, rfl, Below.refl _ _⟩
  case round =>
    obtain ⟨i, hi, rfl, bel⟩ := hrel
    by_cases hil : i < N
    · have g1 : (i : Int) < (N : Int) := by omega
      have g2 : (0 : Int) ≤ (i : Int) := by omega
      have gi : IntKind.i64.wrap ((i : Int) + 1) = (i : Int) + 1 := by rw [IntKind.wrap_i64]; omega
      obtain ⟨g, o, rfl, cx, lg⟩ := HA.out i hil
      obtain ⟨h, q, rfl, cy, lh⟩ := HB.out i hil
      replace cx := (bel.cell (p := ⟨g, o + i, none⟩) lg).trans cx
      replace cy := (bel.cell (p := ⟨h, q + i, none⟩) lh).trans cy
      replace lg := Nat.lt_of_lt_of_le lg bel.size
      replace lh := Nat.lt_of_lt_of_le lh bel.size
      generalize L.getD i 0 = x at *
      go_upto_region 6 with fail
      go_region
      all_goals go_wp2_with fail
      all_goals go_roundw
      all_goals first
        | exact ⟨i + 1, by omega, by go_num, bel.drew⟩
        | (simp [intOf]; omega)
    · have g1 : ¬ (i : Int) < (N : Int) := by omega
      go_wp2_with fail
      go_ret
      exact ⟨rfl, bel⟩
end Go.Proofs.Yteejcokpkginbac
