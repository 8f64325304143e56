/- What the lower layers answer of rows of cells. -/
import Derived.Test.YtjpnbbhpgchbpaaDoorRows
import Derived.Test.YtjpnbbhpgchbpaaDoorEdG
import Derived.Test.YtjpnbbhpgchbpaaDoorOAdd
import Derived.Test.YtjpnbbhpgchbpaaDoorOInv
import Derived.Test.YtjpnbbhpgchbpaaDoorLBG
import Derived.Deep.WholeRow
import Derived.Deep.RegionHeld3
import Derived.Deep.DeepCutAuto
import Derived.Deep.DeepFit
namespace Go.Proofs.YtjpnbbhpgchbpaaDoor
open Go.RowKit
theorem uRest {cs : List Value} {x : Int} {w : World} (G : GlsO w) (h : U6 cs x) : Calls Tryd.prog 14 #[.agg cs.toArray] w fun e w' => ∃ es, e = .returned (.agg es.toArray) ∧ U6 es (x % QQ) ∧ Below w.heap.size w w' := by
  obtain ⟨z0, z1, z2, z3, z4, z5, rfl, hf, rfl⟩ := h
  refine (orest6 G hf).mono ?_
  rintro e w' ⟨y0, y1, y2, y3, y4, y5, rfl, fy, hy, hb⟩
  exact ⟨_, rfl, ⟨y0, y1, y2, y3, y4, y5, rfl, fy, hy⟩, hb⟩
theorem uMul {cs ds : List Value} {x y : Int} {w : World} (G : GlsO w) (h : U6 cs x) (k : U6 ds y) : Calls Tryd.prog 17 #[.agg cs.toArray, .agg ds.toArray] w fun e w' => ∃ es, e = .returned (.agg es.toArray) ∧ U6 es (x * y % QQ) ∧ Below w.heap.size w w' := by
  obtain ⟨z0, z1, z2, z3, z4, z5, rfl, hf, rfl⟩ := h
  obtain ⟨y0, y1, y2, y3, y4, y5, rfl, kf, rfl⟩ := k
  refine (omul6 G hf kf).mono ?_
  rintro e w' ⟨t0, t1, t2, t3, t4, t5, rfl, fy, hy, hb⟩
  exact ⟨_, rfl, ⟨t0, t1, t2, t3, t4, t5, rfl, fy, hy⟩, hb⟩
theorem uAdd {cs ds : List Value} {x y : Int} {w : World} (G : GlsO w) (h : U6 cs x) (k : U6 ds y) : Calls Tryd.prog 18 #[.agg cs.toArray, .agg ds.toArray] w fun e w' => ∃ es, e = .returned (.agg es.toArray) ∧ U6 es ((x + y) % QQ) ∧ Below w.heap.size w w' := by
  obtain ⟨z0, z1, z2, z3, z4, z5, rfl, hf, rfl⟩ := h
  obtain ⟨y0, y1, y2, y3, y4, y5, rfl, kf, rfl⟩ := k
  refine (oadd6 G hf kf).mono ?_
  rintro e w' ⟨t0, t1, t2, t3, t4, t5, rfl, fy, hy, hb⟩
  exact ⟨_, rfl, ⟨t0, t1, t2, t3, t4, t5, rfl, fy, hy⟩, hb⟩
theorem uInv {cs : List Value} {x : Int} {w : World} (G : GlsO w) (h : U6 cs x) : Calls Tryd.prog 19 #[.agg cs.toArray] w fun e w' => ∃ es z, e = .returned (.agg es.toArray) ∧ U6 es z ∧ InvO x z ∧ Below w.heap.size w w' := by
  obtain ⟨z0, z1, z2, z3, z4, z5, rfl, hf, rfl⟩ := h
  refine (oinv6 G hf).mono ?_
  rintro e w' ⟨y0, y1, y2, y3, y4, y5, rfl, fy, hy, hb⟩
  exact ⟨_, _, rfl, ⟨y0, y1, y2, y3, y4, y5, rfl, fy, rfl⟩, hy, hb⟩
theorem uBase {cs : List Value} {x : Int} {w : World} (G : GlsC w) (h : U6 cs x) : Calls Tryd.prog 7 #[.agg cs.toArray] w fun e w' => ∃ es, e = .returned (.agg es.toArray) ∧ P13 es (cmul x.toNat GG) ∧ Below w.heap.size w w' := by
  obtain ⟨z0, z1, z2, z3, z4, z5, rfl, hf, rfl⟩ := h
  refine (con_Base G hf).mono ?_
  rintro e w' ⟨s0, s1, s2, s3, s4, s5, t0, t1, t2, t3, t4, t5, k, rfl, T, hb⟩
  exact ⟨_, rfl, ⟨s0, s1, s2, s3, s4, s5, t0, t1, t2, t3, t4, t5, k, rfl, T⟩, hb⟩
end Go.Proofs.YtjpnbbhpgchbpaaDoor
