/- Numbers of six limbs as rows of cells. -/
import Derived.Test.YtnkipgbnnhahbaaMMath
import Derived.Test.YtnkipgbnnhahbaaBase
import Derived.Test.YtnkipgbnnhahbaaSixK
import Derived.Test.YtnkipgbnnhahbaaRows
import Derived.ChangeKeysEq
namespace Go.Proofs.Ytnkipgbnnhahbaa
open Go.RowKit
/-- each of them is one cell -/
def OneR (cs : List Value) : Prop := cs.toArray.all (·.oneCell') = true
/-- a number of six limbs, as a row of cells -/
def U6 (cs : List Value) (x : Int) : Prop := ∃ z0 z1 z2 z3 z4 z5 : Int, cs = [.int .u64 z0, .int .u64 z1, .int .u64 z2, .int .u64 z3, .int .u64 z4, .int .u64 z5] ∧ fits [z0, z1, z2, z3, z4, z5] ∧ v64 [z0, z1, z2, z3, z4, z5] = x
theorem U6.mk {z0 z1 z2 z3 z4 z5 : Int} (h : fits [z0, z1, z2, z3, z4, z5]) : U6 [.int .u64 z0, .int .u64 z1, .int .u64 z2, .int .u64 z3, .int .u64 z4, .int .u64 z5] (v64 [z0, z1, z2, z3, z4, z5]) := ⟨z0, z1, z2, z3, z4, z5, rfl, h, rfl⟩
theorem U6.len {cs : List Value} {x : Int} (h : U6 cs x) : cs.length = 6 := by
  obtain ⟨z0, z1, z2, z3, z4, z5, rfl, _⟩ := h
  rfl
theorem U6.ones {cs : List Value} {x : Int} (h : U6 cs x) : OneR cs := by
  obtain ⟨z0, z1, z2, z3, z4, z5, rfl, _⟩ := h
  simp [OneR, Value.oneCell']
theorem U6.bd {cs : List Value} {x : Int} (h : U6 cs x) : 0 ≤ x ∧ x < 18446744073709551616 ^ 6 := by
  obtain ⟨z0, z1, z2, z3, z4, z5, rfl, hf, rfl⟩ := h
  exact v6_bound _ rfl hf
theorem U6.same {cs ds : List Value} {x y : Int} (h : U6 cs x) (k : U6 ds y) : cs = ds ↔ x = y := by
  obtain ⟨z0, z1, z2, z3, z4, z5, rfl, hf, rfl⟩ := h
  obtain ⟨y0, y1, y2, y3, y4, y5, rfl, kf, rfl⟩ := k
  constructor
  · intro e
    simp only [List.cons.injEq, Value.int.injEq, true_and, and_true] at e
    obtain ⟨rfl, rfl, rfl, rfl, rfl, rfl⟩ := e
    rfl
  · intro e
    have e2 := v64_inj [z0, z1, z2, z3, z4, z5] [y0, y1, y2, y3, y4, y5] rfl hf kf e
    simp only [List.cons.injEq, and_true] at e2
    obtain ⟨rfl, rfl, rfl, rfl, rfl, rfl⟩ := e2
    rfl
theorem U6.zero : U6 [.int .u64 0, .int .u64 0, .int .u64 0, .int .u64 0, .int .u64 0, .int .u64 0] 0 := ⟨0, 0, 0, 0, 0, 0, rfl, fits6 (by decide), by decide⟩
theorem U6.one : U6 [.int .u64 1, .int .u64 0, .int .u64 0, .int .u64 0, .int .u64 0, .int .u64 0] 1 := ⟨1, 0, 0, 0, 0, 0, rfl, fits6 (by decide), by decide⟩
end Go.Proofs.Ytnkipgbnnhahbaa
