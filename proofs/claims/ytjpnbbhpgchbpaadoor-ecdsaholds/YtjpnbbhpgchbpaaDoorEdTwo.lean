/- What ladder.Two answers of rows of cells. -/
import Derived.Test.YtjpnbbhpgchbpaaDoorRows
import Derived.Test.YtjpnbbhpgchbpaaDoorEdG
import Derived.Test.YtjpnbbhpgchbpaaDoorLTwo6
import Derived.Deep.WholeRow
import Derived.Deep.RegionHeld3
namespace Go.Proofs.YtjpnbbhpgchbpaaDoor
open Go.RowKit

theorem uTwoP {cs ds ps : List Value} {x y : Int} {P : Pt} {w : World} (G : GlsC w) (h : U6 cs x) (k : U6 ds y) (hp : P13 ps P) (hP : OnC P) : Calls Tryd.prog 24 #[.agg cs.toArray, .agg ds.toArray, .agg ps.toArray] w fun e w' => ∃ es, e = .returned (.tuple #[.agg es.toArray, .nilIface]) ∧ P13 es (cadd (cmul x.toNat GG) (cmul y.toNat P)) ∧ Below w.heap.size w w' := by
  obtain ⟨z0, z1, z2, z3, z4, z5, rfl, hf, rfl⟩ := h
  obtain ⟨y0, y1, y2, y3, y4, y5, rfl, kf, rfl⟩ := k
  obtain ⟨s0, s1, s2, s3, s4, s5, t0, t1, t2, t3, t4, t5, n, rfl, T⟩ := hp
  refine (con_Two G hf kf T hP).mono ?_
  rintro e w' ⟨p0, p1, p2, p3, p4, p5, q0, q1, q2, q3, q4, q5, m, rfl, U, hb⟩
  exact ⟨_, rfl, ⟨p0, p1, p2, p3, p4, p5, q0, q1, q2, q3, q4, q5, m, rfl, U⟩, hb⟩
end Go.Proofs.YtjpnbbhpgchbpaaDoor
