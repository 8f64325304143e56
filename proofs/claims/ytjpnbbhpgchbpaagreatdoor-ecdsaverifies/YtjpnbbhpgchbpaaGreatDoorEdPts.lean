/- What ladder.Mul and curve.Add answer of points as rows of cells. -/
import Derived.Test.YtjpnbbhpgchbpaaGreatDoorRows
import Derived.Test.YtjpnbbhpgchbpaaGreatDoorEdG
import Derived.Test.YtjpnbbhpgchbpaaGreatDoorLMG
import Derived.Test.YtjpnbbhpgchbpaaGreatDoorCAddC
import Derived.Deep.WholeRow
import Derived.Deep.RegionHeld3
namespace Go.Proofs.YtjpnbbhpgchbpaaGreatDoor
open Go.RowKit

theorem uMulP {cs ps : List Value} {x : Int} {P : Pt} {w : World} (G : GlsC w) (h : U6 cs x) (k : P13 ps P) (hP : OnC P) : Calls Tryz.prog 19 #[.agg cs.toArray, .agg ps.toArray] w fun e w' => ∃ es, e = .returned (.tuple #[.agg es.toArray, .nilIface]) ∧ P13 es (cmul x.toNat P) ∧ Below w.heap.size w w' := by
  obtain ⟨z0, z1, z2, z3, z4, z5, rfl, hf, rfl⟩ := h
  obtain ⟨s0, s1, s2, s3, s4, s5, t0, t1, t2, t3, t4, t5, n, rfl, T⟩ := k
  refine (con_Mul G hf T hP).mono ?_
  rintro e w' ⟨p0, p1, p2, p3, p4, p5, q0, q1, q2, q3, q4, q5, m, rfl, U, hb⟩
  exact ⟨_, rfl, ⟨p0, p1, p2, p3, p4, p5, q0, q1, q2, q3, q4, q5, m, rfl, U⟩, hb⟩
theorem uAddP {ps qs : List Value} {P Q : Pt} {w : World} (G : GlsC w) (h : P13 ps P) (k : P13 qs Q) (hP : OnC P) (hQ : OnC Q) : Calls Tryz.prog 20 #[.agg ps.toArray, .agg qs.toArray] w fun e w' => ∃ es, e = .returned (.tuple #[.agg es.toArray, .nilIface]) ∧ P13 es (cadd P Q) ∧ Below w.heap.size w w' := by
  obtain ⟨x0, x1, x2, x3, x4, x5, y0, y1, y2, y3, y4, y5, n, rfl, T⟩ := h
  obtain ⟨p0, p1, p2, p3, p4, p5, q0, q1, q2, q3, q4, q5, m, rfl, U⟩ := k
  refine (con_Add G T U hP hQ).mono ?_
  rintro e w' ⟨s0, s1, s2, s3, s4, s5, t0, t1, t2, t3, t4, t5, k, rfl, V, hb⟩
  exact ⟨_, rfl, ⟨s0, s1, s2, s3, s4, s5, t0, t1, t2, t3, t4, t5, k, rfl, V⟩, hb⟩
end Go.Proofs.YtjpnbbhpgchbpaaGreatDoor
