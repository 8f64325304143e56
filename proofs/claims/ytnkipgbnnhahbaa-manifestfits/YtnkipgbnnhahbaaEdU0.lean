/- Numbers of six limbs and points as rows of cells. -/
import Derived.Test.YtnkipgbnnhahbaaBase
import Derived.Test.YtnkipgbnnhahbaaU6Pl
import Derived.Test.YtnkipgbnnhahbaaOInvN
import Derived.Test.YtnkipgbnnhahbaaCPt
import Derived.Test.YtnkipgbnnhahbaaCOrder
import Derived.Test.YtnkipgbnnhahbaaRows
import Derived.ChangeKeysEq
import Derived.Deep.WholeRow
import Derived.Deep.RegionHeld3
import Derived.Deep.DeepCutAuto
import Derived.Deep.DeepFit
namespace Go.Proofs.Ytnkipgbnnhahbaa
open Go.RowKit
/-- from 1 to N - 1 -/
def isSc (x : Int) : Prop := 1 ≤ x ∧ x < QQ
instance (x : Int) : Decidable (isSc x) := by unfold isSc; exact inferInstance
/-- 1 over it (0 of 0) -/
def InvO (x z : Int) : Prop := OutO x 39402006196394479212279040100143613805079739270465446667946905279627659399113263569398956308152294913554433653942641 z
theorem InvO.one {x y z : Int} (h : InvO x y) (k : InvO x z) : y = z := h.trans k.symm
/-- a point as a row of cells -/
def P13 (cs : List Value) (P : Pt) : Prop := ∃ (s0 s1 s2 s3 s4 s5 t0 t1 t2 t3 t4 t5 : Int) (k : Bool), cs = [.int .u64 s0, .int .u64 s1, .int .u64 s2, .int .u64 s3, .int .u64 s4, .int .u64 s5, .int .u64 t0, .int .u64 t1, .int .u64 t2, .int .u64 t3, .int .u64 t4, .int .u64 t5, .bool k] ∧ Told P [s0, s1, s2, s3, s4, s5] [t0, t1, t2, t3, t4, t5] k
/-- thirteen cells that may be a point -/
def P13R (cs : List Value) (X Y : Int) (n : Bool) : Prop := ∃ xs ys, cs = xs ++ ys ++ [.bool n] ∧ U6 xs X ∧ U6 ys Y
/-- a point's X; 0, where it has none -/
def xOf : Pt → Int
  | none => 0
  | some (X, _) => X
theorem P13.raw {cs : List Value} {P : Pt} (h : P13 cs P) : ∃ X Y, P13R cs X Y (decide (P = none)) ∧ X = xOf P := by
  obtain ⟨s0, s1, s2, s3, s4, s5, t0, t1, t2, t3, t4, t5, k, rfl, f1, f2, h⟩ := h
  rcases h with ⟨rfl, rfl, h1, h2⟩ | ⟨rfl, rfl⟩
  · refine ⟨_, _, ⟨[.int .u64 s0, .int .u64 s1, .int .u64 s2, .int .u64 s3, .int .u64 s4, .int .u64 s5], [.int .u64 t0, .int .u64 t1, .int .u64 t2, .int .u64 t3, .int .u64 t4, .int .u64 t5], rfl, .mk f1, .mk f2⟩, ?_⟩
    rw [h1]
    decide
  · exact ⟨_, _, ⟨[.int .u64 s0, .int .u64 s1, .int .u64 s2, .int .u64 s3, .int .u64 s4, .int .u64 s5], [.int .u64 t0, .int .u64 t1, .int .u64 t2, .int .u64 t3, .int .u64 t4, .int .u64 t5], rfl, .mk f1, .mk f2⟩, rfl⟩
theorem P13.len {cs : List Value} {P : Pt} (h : P13 cs P) : cs.length = 13 := by
  obtain ⟨s0, s1, s2, s3, s4, s5, t0, t1, t2, t3, t4, t5, k, rfl, _⟩ := h
  rfl
theorem P13R.len {cs : List Value} {X Y : Int} {n : Bool} (h : P13R cs X Y n) : cs.length = 13 := by
  obtain ⟨xs, ys, rfl, h1, h2⟩ := h
  simp [h1.len, h2.len]
theorem P13R.ones {cs : List Value} {X Y : Int} {n : Bool} (h : P13R cs X Y n) : OneR cs := by
  obtain ⟨xs, ys, rfl, ⟨z0, z1, z2, z3, z4, z5, rfl, _⟩, ⟨y0, y1, y2, y3, y4, y5, rfl, _⟩⟩ := h
  simp [OneR, Value.oneCell']
theorem P13R.told {cs : List Value} {X Y : Int} (h : P13R cs X Y false) : P13 cs (some (X, Y)) := by
  obtain ⟨xs, ys, rfl, ⟨s0, s1, s2, s3, s4, s5, rfl, hf, rfl⟩, ⟨t0, t1, t2, t3, t4, t5, rfl, kf, rfl⟩⟩ := h
  exact ⟨s0, s1, s2, s3, s4, s5, t0, t1, t2, t3, t4, t5, false, rfl, hf, kf, .inr ⟨rfl, rfl⟩⟩
theorem P13.rawS {cs : List Value} {X Y : Int} (h : P13 cs (some (X, Y))) : P13R cs X Y false := by
  obtain ⟨s0, s1, s2, s3, s4, s5, t0, t1, t2, t3, t4, t5, k, rfl, f1, f2, h⟩ := h
  rcases h with ⟨h, _⟩ | ⟨h, rfl⟩
  · cases h
  · simp only [Option.some.injEq, Prod.mk.injEq] at h
    obtain ⟨rfl, rfl⟩ := h
    exact ⟨[.int .u64 s0, .int .u64 s1, .int .u64 s2, .int .u64 s3, .int .u64 s4, .int .u64 s5], [.int .u64 t0, .int .u64 t1, .int .u64 t2, .int .u64 t3, .int .u64 t4, .int .u64 t5], rfl, .mk f1, .mk f2⟩
end Go.Proofs.Ytnkipgbnnhahbaa
