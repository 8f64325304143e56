/- The field's prime, and the two tables as they lie in memory. -/
import Derived.Test.YtflnfjekapngkaaDoorRows
import Derived.Test.YtflnfjekapngkaaDoorHeld
import Derived.Test.YtflnfjekapngkaaDoorMMath
namespace Go.Proofs.YtflnfjekapngkaaDoor
open Go.RowKit

/-- the prime -/
def PP : Int := 39402006196394479212279040100143613805079739270465446667948293404245721771496870329047266088258938001861606973112319

theorem PP_v : v64 [4294967295, 18446744069414584320, 18446744073709551614, 18446744073709551615, 18446744073709551615, 18446744073709551615] = PP := by decide

theorem PP_pos : 0 < PP := by decide

theorem PP_odd : PP % 2 = 1 := by decide

theorem PP_lt : PP < 18446744073709551616 ^ 6 := by decide

theorem PP_big : 18446744073709551616 ^ 6 ≤ 2 * PP := by decide

theorem fits6 {x0 x1 x2 x3 x4 x5 : Int} (h : (0 ≤ x0 ∧ x0 < 18446744073709551616) ∧ (0 ≤ x1 ∧ x1 < 18446744073709551616) ∧ (0 ≤ x2 ∧ x2 < 18446744073709551616) ∧ (0 ≤ x3 ∧ x3 < 18446744073709551616) ∧ (0 ≤ x4 ∧ x4 < 18446744073709551616) ∧ (0 ≤ x5 ∧ x5 < 18446744073709551616)) : fits [x0, x1, x2, x3, x4, x5] := by
  obtain ⟨h0, h1, h2, h3, h4, h5⟩ := h
  intro j
  match j with
  | 0 => exact h0
  | 1 => exact h1
  | 2 => exact h2
  | 3 => exact h3
  | 4 => exact h4
  | 5 => exact h5
  | _ + 6 => exact ⟨by simp, by simp⟩

theorem fP : fits [4294967295, 18446744069414584320, 18446744073709551614, 18446744073709551615, 18446744073709551615, 18446744073709551615] := fits6 (by decide)

theorem fRR : fits [18446744065119617025, 8589934592, 18446744065119617024, 8589934592, 1, 0] := fits6 (by decide)

theorem isP : IsMod [4294967295, 18446744069414584320, 18446744073709551614, 18446744073709551615, 18446744073709551615, 18446744073709551615] 4294967297 [18446744065119617025, 8589934592, 18446744065119617024, 8589934592, 1, 0] :=
  ⟨rfl, fP, rfl, fRR, by decide, by decide, by decide, by rw [PP_v]; exact PP_big, by rw [PP_v]; exact PP_odd, by decide⟩

/-- the two tables lie where they lay -/
def Gls (w : World) : Prop := (w.cell? ⟨0, 0, none⟩ = some (.int .u64 4294967295) ∧ w.cell? ⟨0, 1, none⟩ = some (.int .u64 18446744069414584320) ∧ w.cell? ⟨0, 2, none⟩ = some (.int .u64 18446744073709551614) ∧ w.cell? ⟨0, 3, none⟩ = some (.int .u64 18446744073709551615) ∧ w.cell? ⟨0, 4, none⟩ = some (.int .u64 18446744073709551615) ∧ w.cell? ⟨0, 5, none⟩ = some (.int .u64 18446744073709551615)) ∧ (w.cell? ⟨1, 0, none⟩ = some (.int .u64 18446744065119617025) ∧ w.cell? ⟨1, 1, none⟩ = some (.int .u64 8589934592) ∧ w.cell? ⟨1, 2, none⟩ = some (.int .u64 18446744065119617024) ∧ w.cell? ⟨1, 3, none⟩ = some (.int .u64 8589934592) ∧ w.cell? ⟨1, 4, none⟩ = some (.int .u64 1) ∧ w.cell? ⟨1, 5, none⟩ = some (.int .u64 0))

theorem Gls.below {w w' : World} (G : Gls w) (hb : Below w.heap.size w w') : Gls w' := by
  obtain ⟨⟨a0, a1, a2, a3, a4, a5⟩, ⟨b0, b1, b2, b3, b4, b5⟩⟩ := G
  exact ⟨⟨cell_later a0 hb, cell_later a1 hb, cell_later a2 hb, cell_later a3 hb, cell_later a4 hb, cell_later a5 hb⟩, ⟨cell_later b0 hb, cell_later b1 hb, cell_later b2 hb, cell_later b3 hb, cell_later b4 hb, cell_later b5 hb⟩⟩

theorem Gls.lts {w : World} (G : Gls w) : 0 < w.heap.size ∧ 1 < w.heap.size :=
  ⟨World.block_lt_of_cell? w _ G.1.1, World.block_lt_of_cell? w _ G.2.1⟩
end Go.Proofs.YtflnfjekapngkaaDoor
