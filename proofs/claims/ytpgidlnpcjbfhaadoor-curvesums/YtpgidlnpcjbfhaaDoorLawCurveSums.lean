/- The law CurveSums answers true: the sum of two points of whatever x: each with itself, with its opposite, with the other one. -/
import Derived.Test.YtpgidlnpcjbfhaaDoorRows
import Derived.Test.YtpgidlnpcjbfhaaDoorCUp
import Derived.Test.YtpgidlnpcjbfhaaDoorCSome
import Derived.Test.YtpgidlnpcjbfhaaDoorCOf
import Derived.Test.YtpgidlnpcjbfhaaDoorCRefC
import Derived.Deep.WholeRow
import Derived.Deep.RegionHeld3
import Derived.Deep.DeepCutAuto
import Derived.Deep.DeepFit
namespace Go.Proofs.YtpgidlnpcjbfhaaDoor
open Go.RowKit

set_option maxRecDepth 100000 in
set_option maxHeartbeats 8000000 in
theorem law_curveSums (x0 x1 x2 x3 x4 x5 y0 y1 y2 y3 y4 y5 : Int) (odd : Bool) (w : World) (G : GlsC w) (fX : fits [x0, x1, x2, x3, x4, x5]) (fY : fits [y0, y1, y2, y3, y4, y5]) :
    Calls Tryd.prog 5 #[.agg #[.int .u64 x0, .int .u64 x1, .int .u64 x2, .int .u64 x3, .int .u64 x4, .int .u64 x5], .agg #[.int .u64 y0, .int .u64 y1, .int .u64 y2, .int .u64 y3, .int .u64 y4, .int .u64 y5], .bool odd] w fun e w' => e = .returned (.bool true) ∧ Below w.heap.size w w' := by
  have B0 := (Blk.new w [.int .u64 x0, .int .u64 x1, .int .u64 x2, .int .u64 x3, .int .u64 x4, .int .u64 x5] 24 (w.heap.size) rfl).alloc (.cells [.int .u64 y0, .int .u64 y1, .int .u64 y2, .int .u64 y3, .int .u64 y4, .int .u64 y5].toArray 24)
  have B1 := Blk.new (w.alloc (.cells [.int .u64 x0, .int .u64 x1, .int .u64 x2, .int .u64 x3, .int .u64 x4, .int .u64 x5].toArray 24)) [.int .u64 y0, .int .u64 y1, .int .u64 y2, .int .u64 y3, .int .u64 y4, .int .u64 y5] 24 (w.heap.size + 1) (by simp)
  have bel : Below w.heap.size w ((w.alloc (.cells [.int .u64 x0, .int .u64 x1, .int .u64 x2, .int .u64 x3, .int .u64 x4, .int .u64 x5].toArray 24)).alloc (.cells [.int .u64 y0, .int .u64 y1, .int .u64 y2, .int .u64 y3, .int .u64 y4, .int .u64 y5].toArray 24)) := (((Below.refl _ _).alloc (Nat.le_refl _) _).alloc (by simp) _)
  go_enter Tryd.func5, Tryd.ntmps5
  go_upto_region 1 with fail
  try simp only [us, List.map_cons, List.map_nil] at bel
  generalize ((w.alloc (Obj.cells #[.int .u64 x0, .int .u64 x1, .int .u64 x2, .int .u64 x3, .int .u64 x4, .int .u64 x5] 24)).alloc (Obj.cells #[.int .u64 y0, .int .u64 y1, .int .u64 y2, .int .u64 y3, .int .u64 y4, .int .u64 y5] 24)) = W at *
  have Bx := B0
  have By := B1
  clear B0 B1
  go_wp2_with fail
  refine (up_any (G.below bel)).mono ?_
  rintro e w1 ⟨rfl, hb⟩
  replace Bx := Bx.later hb
  replace By := By.later hb
  replace bel := below_step bel hb
  clear hb
  have ltx := Bx.lt
  have cx0 := Bx.cell 0 _ rfl
  have cx1 := Bx.cell 1 _ rfl
  have cx2 := Bx.cell 2 _ rfl
  have cx3 := Bx.cell 3 _ rfl
  have cx4 := Bx.cell 4 _ rfl
  have cx5 := Bx.cell 5 _ rfl
  go_wp2_with fail
  refine (some_any (G.below bel).fld fX).mono ?_
  rintro e w2 ⟨a0, a1, a2, a3, a4, a5, b0, b1, b2, b3, b4, b5, kp, Pp, rfl, Tp, Op, hb⟩
  clear ltx cx0 cx1 cx2 cx3 cx4 cx5
  replace Bx := Bx.later hb
  replace By := By.later hb
  replace bel := below_step bel hb
  clear hb
  replace Bx := Bx.alloc (.cells [.int .u64 a0, .int .u64 a1, .int .u64 a2, .int .u64 a3, .int .u64 a4, .int .u64 a5, .int .u64 b0, .int .u64 b1, .int .u64 b2, .int .u64 b3, .int .u64 b4, .int .u64 b5, .bool kp].toArray 26)
  replace By := By.alloc (.cells [.int .u64 a0, .int .u64 a1, .int .u64 a2, .int .u64 a3, .int .u64 a4, .int .u64 a5, .int .u64 b0, .int .u64 b1, .int .u64 b2, .int .u64 b3, .int .u64 b4, .int .u64 b5, .bool kp].toArray 26)
  have Bp := Blk.new w2 [.int .u64 a0, .int .u64 a1, .int .u64 a2, .int .u64 a3, .int .u64 a4, .int .u64 a5, .int .u64 b0, .int .u64 b1, .int .u64 b2, .int .u64 b3, .int .u64 b4, .int .u64 b5, .bool kp] 26 w2.heap.size rfl
  replace bel := below_alloc (o := .cells [.int .u64 a0, .int .u64 a1, .int .u64 a2, .int .u64 a3, .int .u64 a4, .int .u64 a5, .int .u64 b0, .int .u64 b1, .int .u64 b2, .int .u64 b3, .int .u64 b4, .int .u64 b5, .bool kp].toArray 26) bel
  have lwp : ∀ z, z < w2.heap.size → z ≠ w2.heap.size := fun z h => Nat.ne_of_lt h
  have lty := By.lt
  have cy0 := By.cell 0 _ rfl
  have cy1 := By.cell 1 _ rfl
  have cy2 := By.cell 2 _ rfl
  have cy3 := By.cell 3 _ rfl
  have cy4 := By.cell 4 _ rfl
  have cy5 := By.cell 5 _ rfl
  go_wp2_with fail
  obtain ⟨bp, hbp⟩ : ∃ b, b = w2.heap.size := ⟨_, rfl⟩
  clear lwp
  generalize w2.alloc (Obj.cells #[.int .u64 a0, .int .u64 a1, .int .u64 a2, .int .u64 a3, .int .u64 a4, .int .u64 a5, .int .u64 b0, .int .u64 b1, .int .u64 b2, .int .u64 b3, .int .u64 b4, .int .u64 b5, .bool kp] 26) = Wp at *
  rw [← hbp] at Bp ⊢
  clear hbp
  refine (some_any (G.below bel).fld fY).mono ?_
  rintro e w3 ⟨c0, c1, c2, c3, c4, c5, d0, d1, d2, d3, d4, d5, kq, Pq, rfl, Tq, Oq, hb⟩
  clear lty cy0 cy1 cy2 cy3 cy4 cy5
  replace Bx := Bx.later hb
  replace By := By.later hb
  replace Bp := Bp.later hb
  replace bel := below_step bel hb
  clear hb
  replace Bx := Bx.alloc (.cells [.int .u64 c0, .int .u64 c1, .int .u64 c2, .int .u64 c3, .int .u64 c4, .int .u64 c5, .int .u64 d0, .int .u64 d1, .int .u64 d2, .int .u64 d3, .int .u64 d4, .int .u64 d5, .bool kq].toArray 26)
  replace By := By.alloc (.cells [.int .u64 c0, .int .u64 c1, .int .u64 c2, .int .u64 c3, .int .u64 c4, .int .u64 c5, .int .u64 d0, .int .u64 d1, .int .u64 d2, .int .u64 d3, .int .u64 d4, .int .u64 d5, .bool kq].toArray 26)
  replace Bp := Bp.alloc (.cells [.int .u64 c0, .int .u64 c1, .int .u64 c2, .int .u64 c3, .int .u64 c4, .int .u64 c5, .int .u64 d0, .int .u64 d1, .int .u64 d2, .int .u64 d3, .int .u64 d4, .int .u64 d5, .bool kq].toArray 26)
  have Bq := Blk.new w3 [.int .u64 c0, .int .u64 c1, .int .u64 c2, .int .u64 c3, .int .u64 c4, .int .u64 c5, .int .u64 d0, .int .u64 d1, .int .u64 d2, .int .u64 d3, .int .u64 d4, .int .u64 d5, .bool kq] 26 w3.heap.size rfl
  replace bel := below_alloc (o := .cells [.int .u64 c0, .int .u64 c1, .int .u64 c2, .int .u64 c3, .int .u64 c4, .int .u64 c5, .int .u64 d0, .int .u64 d1, .int .u64 d2, .int .u64 d3, .int .u64 d4, .int .u64 d5, .bool kq].toArray 26) bel
  have lwq : ∀ z, z < w3.heap.size → z ≠ w3.heap.size := fun z h => Nat.ne_of_lt h
  have ltp := Bp.lt
  have cp0 := Bp.cell 0 _ rfl
  have cp1 := Bp.cell 1 _ rfl
  have cp2 := Bp.cell 2 _ rfl
  have cp3 := Bp.cell 3 _ rfl
  have cp4 := Bp.cell 4 _ rfl
  have cp5 := Bp.cell 5 _ rfl
  have cp6 := Bp.cell 6 _ rfl
  have cp7 := Bp.cell 7 _ rfl
  have cp8 := Bp.cell 8 _ rfl
  have cp9 := Bp.cell 9 _ rfl
  have cp10 := Bp.cell 10 _ rfl
  have cp11 := Bp.cell 11 _ rfl
  have cp12 := Bp.cell 12 _ rfl
  go_wp2_with fail
  obtain ⟨bq, hbq⟩ : ∃ b, b = w3.heap.size := ⟨_, rfl⟩
  clear lwq
  generalize w3.alloc (Obj.cells #[.int .u64 c0, .int .u64 c1, .int .u64 c2, .int .u64 c3, .int .u64 c4, .int .u64 c5, .int .u64 d0, .int .u64 d1, .int .u64 d2, .int .u64 d3, .int .u64 d4, .int .u64 d5, .bool kq] 26) = Wq at *
  rw [← hbq] at Bq ⊢
  clear hbq
  refine (con_Neg (G.below bel) Tp Op).mono ?_
  rintro e w4 ⟨e0, e1, e2, e3, e4, e5, f0, f1, f2, f3, f4, f5, kn, rfl, Tn, hb⟩
  clear ltp cp0 cp1 cp2 cp3 cp4 cp5 cp6 cp7 cp8 cp9 cp10 cp11 cp12
  replace Bx := Bx.later hb
  replace By := By.later hb
  replace Bp := Bp.later hb
  replace Bq := Bq.later hb
  replace bel := below_step bel hb
  clear hb
  replace Bx := Bx.alloc (.cells [.int .u64 e0, .int .u64 e1, .int .u64 e2, .int .u64 e3, .int .u64 e4, .int .u64 e5, .int .u64 f0, .int .u64 f1, .int .u64 f2, .int .u64 f3, .int .u64 f4, .int .u64 f5, .bool kn].toArray 26)
  replace By := By.alloc (.cells [.int .u64 e0, .int .u64 e1, .int .u64 e2, .int .u64 e3, .int .u64 e4, .int .u64 e5, .int .u64 f0, .int .u64 f1, .int .u64 f2, .int .u64 f3, .int .u64 f4, .int .u64 f5, .bool kn].toArray 26)
  replace Bp := Bp.alloc (.cells [.int .u64 e0, .int .u64 e1, .int .u64 e2, .int .u64 e3, .int .u64 e4, .int .u64 e5, .int .u64 f0, .int .u64 f1, .int .u64 f2, .int .u64 f3, .int .u64 f4, .int .u64 f5, .bool kn].toArray 26)
  replace Bq := Bq.alloc (.cells [.int .u64 e0, .int .u64 e1, .int .u64 e2, .int .u64 e3, .int .u64 e4, .int .u64 e5, .int .u64 f0, .int .u64 f1, .int .u64 f2, .int .u64 f3, .int .u64 f4, .int .u64 f5, .bool kn].toArray 26)
  have Bn := Blk.new w4 [.int .u64 e0, .int .u64 e1, .int .u64 e2, .int .u64 e3, .int .u64 e4, .int .u64 e5, .int .u64 f0, .int .u64 f1, .int .u64 f2, .int .u64 f3, .int .u64 f4, .int .u64 f5, .bool kn] 26 w4.heap.size rfl
  replace bel := below_alloc (o := .cells [.int .u64 e0, .int .u64 e1, .int .u64 e2, .int .u64 e3, .int .u64 e4, .int .u64 e5, .int .u64 f0, .int .u64 f1, .int .u64 f2, .int .u64 f3, .int .u64 f4, .int .u64 f5, .bool kn].toArray 26) bel
  have lwn : ∀ z, z < w4.heap.size → z ≠ w4.heap.size := fun z h => Nat.ne_of_lt h
  have ltp := Bp.lt
  have cp0 := Bp.cell 0 _ rfl
  have cp1 := Bp.cell 1 _ rfl
  have cp2 := Bp.cell 2 _ rfl
  have cp3 := Bp.cell 3 _ rfl
  have cp4 := Bp.cell 4 _ rfl
  have cp5 := Bp.cell 5 _ rfl
  have cp6 := Bp.cell 6 _ rfl
  have cp7 := Bp.cell 7 _ rfl
  have cp8 := Bp.cell 8 _ rfl
  have cp9 := Bp.cell 9 _ rfl
  have cp10 := Bp.cell 10 _ rfl
  have cp11 := Bp.cell 11 _ rfl
  have cp12 := Bp.cell 12 _ rfl
  have ltq := Bq.lt
  have cq0 := Bq.cell 0 _ rfl
  have cq1 := Bq.cell 1 _ rfl
  have cq2 := Bq.cell 2 _ rfl
  have cq3 := Bq.cell 3 _ rfl
  have cq4 := Bq.cell 4 _ rfl
  have cq5 := Bq.cell 5 _ rfl
  have cq6 := Bq.cell 6 _ rfl
  have cq7 := Bq.cell 7 _ rfl
  have cq8 := Bq.cell 8 _ rfl
  have cq9 := Bq.cell 9 _ rfl
  have cq10 := Bq.cell 10 _ rfl
  have cq11 := Bq.cell 11 _ rfl
  have cq12 := Bq.cell 12 _ rfl
  go_wp2_with fail
  obtain ⟨bn, hbn⟩ : ∃ b, b = w4.heap.size := ⟨_, rfl⟩
  clear lwn
  generalize w4.alloc (Obj.cells #[.int .u64 e0, .int .u64 e1, .int .u64 e2, .int .u64 e3, .int .u64 e4, .int .u64 e5, .int .u64 f0, .int .u64 f1, .int .u64 f2, .int .u64 f3, .int .u64 f4, .int .u64 f5, .bool kn] 26) = Wn at *
  rw [← hbn] at Bn ⊢
  clear hbn
  refine (con_Add (G.below bel) Tp Tq Op Oq).mono ?_
  rintro e w5 ⟨g0, g1, g2, g3, g4, g5, h0, h1, h2, h3, h4, h5, ks, rfl, Ts, hb⟩
  clear ltp cp0 cp1 cp2 cp3 cp4 cp5 cp6 cp7 cp8 cp9 cp10 cp11 cp12 ltq cq0 cq1 cq2 cq3 cq4 cq5 cq6 cq7 cq8 cq9 cq10 cq11 cq12
  replace Bx := Bx.later hb
  replace By := By.later hb
  replace Bp := Bp.later hb
  replace Bq := Bq.later hb
  replace Bn := Bn.later hb
  replace bel := below_step bel hb
  clear hb
  replace Bx := Bx.alloc (.cells [.int .u64 g0, .int .u64 g1, .int .u64 g2, .int .u64 g3, .int .u64 g4, .int .u64 g5, .int .u64 h0, .int .u64 h1, .int .u64 h2, .int .u64 h3, .int .u64 h4, .int .u64 h5, .bool ks].toArray 26)
  replace By := By.alloc (.cells [.int .u64 g0, .int .u64 g1, .int .u64 g2, .int .u64 g3, .int .u64 g4, .int .u64 g5, .int .u64 h0, .int .u64 h1, .int .u64 h2, .int .u64 h3, .int .u64 h4, .int .u64 h5, .bool ks].toArray 26)
  replace Bp := Bp.alloc (.cells [.int .u64 g0, .int .u64 g1, .int .u64 g2, .int .u64 g3, .int .u64 g4, .int .u64 g5, .int .u64 h0, .int .u64 h1, .int .u64 h2, .int .u64 h3, .int .u64 h4, .int .u64 h5, .bool ks].toArray 26)
  replace Bq := Bq.alloc (.cells [.int .u64 g0, .int .u64 g1, .int .u64 g2, .int .u64 g3, .int .u64 g4, .int .u64 g5, .int .u64 h0, .int .u64 h1, .int .u64 h2, .int .u64 h3, .int .u64 h4, .int .u64 h5, .bool ks].toArray 26)
  replace Bn := Bn.alloc (.cells [.int .u64 g0, .int .u64 g1, .int .u64 g2, .int .u64 g3, .int .u64 g4, .int .u64 g5, .int .u64 h0, .int .u64 h1, .int .u64 h2, .int .u64 h3, .int .u64 h4, .int .u64 h5, .bool ks].toArray 26)
  have Bs := Blk.new w5 [.int .u64 g0, .int .u64 g1, .int .u64 g2, .int .u64 g3, .int .u64 g4, .int .u64 g5, .int .u64 h0, .int .u64 h1, .int .u64 h2, .int .u64 h3, .int .u64 h4, .int .u64 h5, .bool ks] 26 w5.heap.size rfl
  replace bel := below_alloc (o := .cells [.int .u64 g0, .int .u64 g1, .int .u64 g2, .int .u64 g3, .int .u64 g4, .int .u64 g5, .int .u64 h0, .int .u64 h1, .int .u64 h2, .int .u64 h3, .int .u64 h4, .int .u64 h5, .bool ks].toArray 26) bel
  have lws : ∀ z, z < w5.heap.size → z ≠ w5.heap.size := fun z h => Nat.ne_of_lt h
  have ltp := Bp.lt
  have cp0 := Bp.cell 0 _ rfl
  have cp1 := Bp.cell 1 _ rfl
  have cp2 := Bp.cell 2 _ rfl
  have cp3 := Bp.cell 3 _ rfl
  have cp4 := Bp.cell 4 _ rfl
  have cp5 := Bp.cell 5 _ rfl
  have cp6 := Bp.cell 6 _ rfl
  have cp7 := Bp.cell 7 _ rfl
  have cp8 := Bp.cell 8 _ rfl
  have cp9 := Bp.cell 9 _ rfl
  have cp10 := Bp.cell 10 _ rfl
  have cp11 := Bp.cell 11 _ rfl
  have cp12 := Bp.cell 12 _ rfl
  go_wp2_with fail
  obtain ⟨bs, hbs⟩ : ∃ b, b = w5.heap.size := ⟨_, rfl⟩
  clear lws
  generalize w5.alloc (Obj.cells #[.int .u64 g0, .int .u64 g1, .int .u64 g2, .int .u64 g3, .int .u64 g4, .int .u64 g5, .int .u64 h0, .int .u64 h1, .int .u64 h2, .int .u64 h3, .int .u64 h4, .int .u64 h5, .bool ks] 26) = Ws at *
  rw [← hbs] at Bs ⊢
  clear hbs
  refine (con_Add (G.below bel) Tp Tp Op Op).mono ?_
  rintro e w6 ⟨i0, i1, i2, i3, i4, i5, j0, j1, j2, j3, j4, j5, kd, rfl, Td, hb⟩
  clear ltp cp0 cp1 cp2 cp3 cp4 cp5 cp6 cp7 cp8 cp9 cp10 cp11 cp12
  replace Bx := Bx.later hb
  replace By := By.later hb
  replace Bp := Bp.later hb
  replace Bq := Bq.later hb
  replace Bn := Bn.later hb
  replace Bs := Bs.later hb
  replace bel := below_step bel hb
  clear hb
  replace Bx := Bx.alloc (.cells [.int .u64 i0, .int .u64 i1, .int .u64 i2, .int .u64 i3, .int .u64 i4, .int .u64 i5, .int .u64 j0, .int .u64 j1, .int .u64 j2, .int .u64 j3, .int .u64 j4, .int .u64 j5, .bool kd].toArray 26)
  replace By := By.alloc (.cells [.int .u64 i0, .int .u64 i1, .int .u64 i2, .int .u64 i3, .int .u64 i4, .int .u64 i5, .int .u64 j0, .int .u64 j1, .int .u64 j2, .int .u64 j3, .int .u64 j4, .int .u64 j5, .bool kd].toArray 26)
  replace Bp := Bp.alloc (.cells [.int .u64 i0, .int .u64 i1, .int .u64 i2, .int .u64 i3, .int .u64 i4, .int .u64 i5, .int .u64 j0, .int .u64 j1, .int .u64 j2, .int .u64 j3, .int .u64 j4, .int .u64 j5, .bool kd].toArray 26)
  replace Bq := Bq.alloc (.cells [.int .u64 i0, .int .u64 i1, .int .u64 i2, .int .u64 i3, .int .u64 i4, .int .u64 i5, .int .u64 j0, .int .u64 j1, .int .u64 j2, .int .u64 j3, .int .u64 j4, .int .u64 j5, .bool kd].toArray 26)
  replace Bn := Bn.alloc (.cells [.int .u64 i0, .int .u64 i1, .int .u64 i2, .int .u64 i3, .int .u64 i4, .int .u64 i5, .int .u64 j0, .int .u64 j1, .int .u64 j2, .int .u64 j3, .int .u64 j4, .int .u64 j5, .bool kd].toArray 26)
  replace Bs := Bs.alloc (.cells [.int .u64 i0, .int .u64 i1, .int .u64 i2, .int .u64 i3, .int .u64 i4, .int .u64 i5, .int .u64 j0, .int .u64 j1, .int .u64 j2, .int .u64 j3, .int .u64 j4, .int .u64 j5, .bool kd].toArray 26)
  have Bd := Blk.new w6 [.int .u64 i0, .int .u64 i1, .int .u64 i2, .int .u64 i3, .int .u64 i4, .int .u64 i5, .int .u64 j0, .int .u64 j1, .int .u64 j2, .int .u64 j3, .int .u64 j4, .int .u64 j5, .bool kd] 26 w6.heap.size rfl
  replace bel := below_alloc (o := .cells [.int .u64 i0, .int .u64 i1, .int .u64 i2, .int .u64 i3, .int .u64 i4, .int .u64 i5, .int .u64 j0, .int .u64 j1, .int .u64 j2, .int .u64 j3, .int .u64 j4, .int .u64 j5, .bool kd].toArray 26) bel
  have lwd : ∀ z, z < w6.heap.size → z ≠ w6.heap.size := fun z h => Nat.ne_of_lt h
  have ltp := Bp.lt
  have cp0 := Bp.cell 0 _ rfl
  have cp1 := Bp.cell 1 _ rfl
  have cp2 := Bp.cell 2 _ rfl
  have cp3 := Bp.cell 3 _ rfl
  have cp4 := Bp.cell 4 _ rfl
  have cp5 := Bp.cell 5 _ rfl
  have cp6 := Bp.cell 6 _ rfl
  have cp7 := Bp.cell 7 _ rfl
  have cp8 := Bp.cell 8 _ rfl
  have cp9 := Bp.cell 9 _ rfl
  have cp10 := Bp.cell 10 _ rfl
  have cp11 := Bp.cell 11 _ rfl
  have cp12 := Bp.cell 12 _ rfl
  have ltn := Bn.lt
  have cn0 := Bn.cell 0 _ rfl
  have cn1 := Bn.cell 1 _ rfl
  have cn2 := Bn.cell 2 _ rfl
  have cn3 := Bn.cell 3 _ rfl
  have cn4 := Bn.cell 4 _ rfl
  have cn5 := Bn.cell 5 _ rfl
  have cn6 := Bn.cell 6 _ rfl
  have cn7 := Bn.cell 7 _ rfl
  have cn8 := Bn.cell 8 _ rfl
  have cn9 := Bn.cell 9 _ rfl
  have cn10 := Bn.cell 10 _ rfl
  have cn11 := Bn.cell 11 _ rfl
  have cn12 := Bn.cell 12 _ rfl
  go_wp2_with fail
  obtain ⟨bd, hbd⟩ : ∃ b, b = w6.heap.size := ⟨_, rfl⟩
  clear lwd
  generalize w6.alloc (Obj.cells #[.int .u64 i0, .int .u64 i1, .int .u64 i2, .int .u64 i3, .int .u64 i4, .int .u64 i5, .int .u64 j0, .int .u64 j1, .int .u64 j2, .int .u64 j3, .int .u64 j4, .int .u64 j5, .bool kd] 26) = Wd at *
  rw [← hbd] at Bd ⊢
  clear hbd
  refine (con_Add (G.below bel) Tp Tn Op (on_neg Op)).mono ?_
  rintro e w7 ⟨l0, l1, l2, l3, l4, l5, m0, m1, m2, m3, m4, m5, kz, rfl, Tz, hb⟩
  clear ltp cp0 cp1 cp2 cp3 cp4 cp5 cp6 cp7 cp8 cp9 cp10 cp11 cp12 ltn cn0 cn1 cn2 cn3 cn4 cn5 cn6 cn7 cn8 cn9 cn10 cn11 cn12
  replace Bx := Bx.later hb
  replace By := By.later hb
  replace Bp := Bp.later hb
  replace Bq := Bq.later hb
  replace Bn := Bn.later hb
  replace Bs := Bs.later hb
  replace Bd := Bd.later hb
  replace bel := below_step bel hb
  clear hb
  rw [add_neg] at Tz
  obtain ⟨e1, e2, rfl⟩ := told_one told_zero Tz rfl rfl rfl rfl; simp only [List.cons.injEq, and_true] at e1 e2; obtain ⟨rfl, rfl, rfl, rfl, rfl, rfl⟩ := e1; obtain ⟨rfl, rfl, rfl, rfl, rfl, rfl⟩ := e2
  clear Tz
  replace Bx := Bx.alloc (.cells [.int .u64 0, .int .u64 0, .int .u64 0, .int .u64 0, .int .u64 0, .int .u64 0, .int .u64 0, .int .u64 0, .int .u64 0, .int .u64 0, .int .u64 0, .int .u64 0, .bool true].toArray 26)
  replace By := By.alloc (.cells [.int .u64 0, .int .u64 0, .int .u64 0, .int .u64 0, .int .u64 0, .int .u64 0, .int .u64 0, .int .u64 0, .int .u64 0, .int .u64 0, .int .u64 0, .int .u64 0, .bool true].toArray 26)
  replace Bp := Bp.alloc (.cells [.int .u64 0, .int .u64 0, .int .u64 0, .int .u64 0, .int .u64 0, .int .u64 0, .int .u64 0, .int .u64 0, .int .u64 0, .int .u64 0, .int .u64 0, .int .u64 0, .bool true].toArray 26)
  replace Bq := Bq.alloc (.cells [.int .u64 0, .int .u64 0, .int .u64 0, .int .u64 0, .int .u64 0, .int .u64 0, .int .u64 0, .int .u64 0, .int .u64 0, .int .u64 0, .int .u64 0, .int .u64 0, .bool true].toArray 26)
  replace Bn := Bn.alloc (.cells [.int .u64 0, .int .u64 0, .int .u64 0, .int .u64 0, .int .u64 0, .int .u64 0, .int .u64 0, .int .u64 0, .int .u64 0, .int .u64 0, .int .u64 0, .int .u64 0, .bool true].toArray 26)
  replace Bs := Bs.alloc (.cells [.int .u64 0, .int .u64 0, .int .u64 0, .int .u64 0, .int .u64 0, .int .u64 0, .int .u64 0, .int .u64 0, .int .u64 0, .int .u64 0, .int .u64 0, .int .u64 0, .bool true].toArray 26)
  replace Bd := Bd.alloc (.cells [.int .u64 0, .int .u64 0, .int .u64 0, .int .u64 0, .int .u64 0, .int .u64 0, .int .u64 0, .int .u64 0, .int .u64 0, .int .u64 0, .int .u64 0, .int .u64 0, .bool true].toArray 26)
  have Bz := Blk.new w7 [.int .u64 0, .int .u64 0, .int .u64 0, .int .u64 0, .int .u64 0, .int .u64 0, .int .u64 0, .int .u64 0, .int .u64 0, .int .u64 0, .int .u64 0, .int .u64 0, .bool true] 26 w7.heap.size rfl
  replace bel := below_alloc (o := .cells [.int .u64 0, .int .u64 0, .int .u64 0, .int .u64 0, .int .u64 0, .int .u64 0, .int .u64 0, .int .u64 0, .int .u64 0, .int .u64 0, .int .u64 0, .int .u64 0, .bool true].toArray 26) bel
  have lwz : ∀ z, z < w7.heap.size → z ≠ w7.heap.size := fun z h => Nat.ne_of_lt h
  have ltp := Bp.lt
  have cp0 := Bp.cell 0 _ rfl
  have cp1 := Bp.cell 1 _ rfl
  have cp2 := Bp.cell 2 _ rfl
  have cp3 := Bp.cell 3 _ rfl
  have cp4 := Bp.cell 4 _ rfl
  have cp5 := Bp.cell 5 _ rfl
  have cp6 := Bp.cell 6 _ rfl
  have cp7 := Bp.cell 7 _ rfl
  have cp8 := Bp.cell 8 _ rfl
  have cp9 := Bp.cell 9 _ rfl
  have cp10 := Bp.cell 10 _ rfl
  have cp11 := Bp.cell 11 _ rfl
  have cp12 := Bp.cell 12 _ rfl
  go_wp2_with fail
  obtain ⟨bz, hbz⟩ : ∃ b, b = w7.heap.size := ⟨_, rfl⟩
  clear lwz
  generalize w7.alloc (Obj.cells #[.int .u64 0, .int .u64 0, .int .u64 0, .int .u64 0, .int .u64 0, .int .u64 0, .int .u64 0, .int .u64 0, .int .u64 0, .int .u64 0, .int .u64 0, .int .u64 0, .bool true] 26) = Wz at *
  rw [← hbz] at Bz ⊢
  clear hbz
  refine (r5_Of Tp).mono ?_
  rintro e w8 ⟨va, rfl, PA, hb⟩
  clear ltp cp0 cp1 cp2 cp3 cp4 cp5 cp6 cp7 cp8 cp9 cp10 cp11 cp12
  replace Bx := Bx.later hb
  replace By := By.later hb
  replace Bp := Bp.later hb
  replace Bq := Bq.later hb
  replace Bn := Bn.later hb
  replace Bs := Bs.later hb
  replace Bd := Bd.later hb
  replace Bz := Bz.later hb
  replace bel := below_step bel hb
  clear hb
  obtain ⟨na, a1, n1, k1, b1, m1, l1, rfl⟩ := PA.form
  replace Bx := Bx.alloc (.cells [.bool na, .slice a1 n1 k1, .slice b1 m1 l1].toArray 41)
  replace By := By.alloc (.cells [.bool na, .slice a1 n1 k1, .slice b1 m1 l1].toArray 41)
  replace Bp := Bp.alloc (.cells [.bool na, .slice a1 n1 k1, .slice b1 m1 l1].toArray 41)
  replace Bq := Bq.alloc (.cells [.bool na, .slice a1 n1 k1, .slice b1 m1 l1].toArray 41)
  replace Bn := Bn.alloc (.cells [.bool na, .slice a1 n1 k1, .slice b1 m1 l1].toArray 41)
  replace Bs := Bs.alloc (.cells [.bool na, .slice a1 n1 k1, .slice b1 m1 l1].toArray 41)
  replace Bd := Bd.alloc (.cells [.bool na, .slice a1 n1 k1, .slice b1 m1 l1].toArray 41)
  replace Bz := Bz.alloc (.cells [.bool na, .slice a1 n1 k1, .slice b1 m1 l1].toArray 41)
  replace PA := PA.alloc (.cells [.bool na, .slice a1 n1 k1, .slice b1 m1 l1].toArray 41)
  have Ba := Blk.new w8 [.bool na, .slice a1 n1 k1, .slice b1 m1 l1] 41 w8.heap.size rfl
  replace bel := below_alloc (o := .cells [.bool na, .slice a1 n1 k1, .slice b1 m1 l1].toArray 41) bel
  have lwa : ∀ z, z < w8.heap.size → z ≠ w8.heap.size := fun z h => Nat.ne_of_lt h
  go_upto_region 9 with fail
  obtain ⟨ba, hba⟩ : ∃ b, b = w8.heap.size := ⟨_, rfl⟩
  clear lwa
  generalize w8.alloc (Obj.cells #[.bool na, .slice a1 n1 k1, .slice b1 m1 l1] 41) = Wa at *
  rw [← hba] at Ba ⊢
  clear hba
  have q1 := iface_nilC
  have q2 := eql_pt_same g0 g1 g2 g3 g4 g5 h0 h1 h2 h3 h4 h5 ks
  have q3 := eql_pt_same i0 i1 i2 i3 i4 i5 j0 j1 j2 j3 j4 j5 kd
  have q4 := eql_pt_same 0 0 0 0 0 0 0 0 0 0 0 0 true
  obtain ⟨S1, hS1, KL1, KA1, KD1, KS1, KQ1, KN1, KB1, KM1, KR1⟩ := held3 (w0 := w) (W := _) [(bs, [.int .u64 g0, .int .u64 g1, .int .u64 g2, .int .u64 g3, .int .u64 g4, .int .u64 g5, .int .u64 h0, .int .u64 h1, .int .u64 h2, .int .u64 h3, .int .u64 h4, .int .u64 h5, .bool ks]), (ba, [.bool na, .slice a1 n1 k1, .slice b1 m1 l1]), (bq, [.int .u64 c0, .int .u64 c1, .int .u64 c2, .int .u64 c3, .int .u64 c4, .int .u64 c5, .int .u64 d0, .int .u64 d1, .int .u64 d2, .int .u64 d3, .int .u64 d4, .int .u64 d5, .bool kq]), (bd, [.int .u64 i0, .int .u64 i1, .int .u64 i2, .int .u64 i3, .int .u64 i4, .int .u64 i5, .int .u64 j0, .int .u64 j1, .int .u64 j2, .int .u64 j3, .int .u64 j4, .int .u64 j5, .bool kd]), (bz, [.int .u64 0, .int .u64 0, .int .u64 0, .int .u64 0, .int .u64 0, .int .u64 0, .int .u64 0, .int .u64 0, .int .u64 0, .int .u64 0, .int .u64 0, .int .u64 0, .bool true])] (by
    intro b X h
    simp only [List.mem_cons, List.not_mem_nil, or_false, Prod.mk.injEq] at h
    rcases h with ⟨rfl, rfl⟩ | ⟨rfl, rfl⟩ | ⟨rfl, rfl⟩ | ⟨rfl, rfl⟩ | ⟨rfl, rfl⟩
    · exact Bs
    · exact Ba
    · exact Bq
    · exact Bd
    · exact Bz) bel
  have kb1a : ∀ wx, Hd S1 wx → Blk wx (bs) [.int .u64 g0, .int .u64 g1, .int .u64 g2, .int .u64 g3, .int .u64 g4, .int .u64 g5, .int .u64 h0, .int .u64 h1, .int .u64 h2, .int .u64 h3, .int .u64 h4, .int .u64 h5, .bool ks] := fun wx h => KM1.out wx _ _ h (by simp)
  have c1a0 := rulec kb1a 0 _ rfl
  have c1a1 := rulec kb1a 1 _ rfl
  have c1a2 := rulec kb1a 2 _ rfl
  have c1a3 := rulec kb1a 3 _ rfl
  have c1a4 := rulec kb1a 4 _ rfl
  have c1a5 := rulec kb1a 5 _ rfl
  have c1a6 := rulec kb1a 6 _ rfl
  have c1a7 := rulec kb1a 7 _ rfl
  have c1a8 := rulec kb1a 8 _ rfl
  have c1a9 := rulec kb1a 9 _ rfl
  have c1a10 := rulec kb1a 10 _ rfl
  have c1a11 := rulec kb1a 11 _ rfl
  have c1a12 := rulec kb1a 12 _ rfl
  have c1al := ruleb kb1a
  clear kb1a
  have kb1b : ∀ wx, Hd S1 wx → Blk wx (ba) [.bool na, .slice a1 n1 k1, .slice b1 m1 l1] := fun wx h => KM1.out wx _ _ h (by simp)
  have c1b0 := rulec kb1b 0 _ rfl
  have c1b1 := rulec kb1b 1 _ rfl
  have c1b2 := rulec kb1b 2 _ rfl
  have c1bl := ruleb kb1b
  clear kb1b
  have kb1c : ∀ wx, Hd S1 wx → Blk wx (bq) [.int .u64 c0, .int .u64 c1, .int .u64 c2, .int .u64 c3, .int .u64 c4, .int .u64 c5, .int .u64 d0, .int .u64 d1, .int .u64 d2, .int .u64 d3, .int .u64 d4, .int .u64 d5, .bool kq] := fun wx h => KM1.out wx _ _ h (by simp)
  have c1c0 := rulec kb1c 0 _ rfl
  have c1c1 := rulec kb1c 1 _ rfl
  have c1c2 := rulec kb1c 2 _ rfl
  have c1c3 := rulec kb1c 3 _ rfl
  have c1c4 := rulec kb1c 4 _ rfl
  have c1c5 := rulec kb1c 5 _ rfl
  have c1c6 := rulec kb1c 6 _ rfl
  have c1c7 := rulec kb1c 7 _ rfl
  have c1c8 := rulec kb1c 8 _ rfl
  have c1c9 := rulec kb1c 9 _ rfl
  have c1c10 := rulec kb1c 10 _ rfl
  have c1c11 := rulec kb1c 11 _ rfl
  have c1c12 := rulec kb1c 12 _ rfl
  have c1cl := ruleb kb1c
  clear kb1c
  have kb1d : ∀ wx, Hd S1 wx → Blk wx (bd) [.int .u64 i0, .int .u64 i1, .int .u64 i2, .int .u64 i3, .int .u64 i4, .int .u64 i5, .int .u64 j0, .int .u64 j1, .int .u64 j2, .int .u64 j3, .int .u64 j4, .int .u64 j5, .bool kd] := fun wx h => KM1.out wx _ _ h (by simp)
  have c1d0 := rulec kb1d 0 _ rfl
  have c1d1 := rulec kb1d 1 _ rfl
  have c1d2 := rulec kb1d 2 _ rfl
  have c1d3 := rulec kb1d 3 _ rfl
  have c1d4 := rulec kb1d 4 _ rfl
  have c1d5 := rulec kb1d 5 _ rfl
  have c1d6 := rulec kb1d 6 _ rfl
  have c1d7 := rulec kb1d 7 _ rfl
  have c1d8 := rulec kb1d 8 _ rfl
  have c1d9 := rulec kb1d 9 _ rfl
  have c1d10 := rulec kb1d 10 _ rfl
  have c1d11 := rulec kb1d 11 _ rfl
  have c1d12 := rulec kb1d 12 _ rfl
  have c1dl := ruleb kb1d
  clear kb1d
  have kb1e : ∀ wx, Hd S1 wx → Blk wx (bz) [.int .u64 0, .int .u64 0, .int .u64 0, .int .u64 0, .int .u64 0, .int .u64 0, .int .u64 0, .int .u64 0, .int .u64 0, .int .u64 0, .int .u64 0, .int .u64 0, .bool true] := fun wx h => KM1.out wx _ _ h (by simp)
  have c1e0 := rulec kb1e 0 _ rfl
  have c1e1 := rulec kb1e 1 _ rfl
  have c1e2 := rulec kb1e 2 _ rfl
  have c1e3 := rulec kb1e 3 _ rfl
  have c1e4 := rulec kb1e 4 _ rfl
  have c1e5 := rulec kb1e 5 _ rfl
  have c1e6 := rulec kb1e 6 _ rfl
  have c1e7 := rulec kb1e 7 _ rfl
  have c1e8 := rulec kb1e 8 _ rfl
  have c1e9 := rulec kb1e 9 _ rfl
  have c1e10 := rulec kb1e 10 _ rfl
  have c1e11 := rulec kb1e 11 _ rfl
  have c1e12 := rulec kb1e 12 _ rfl
  have c1el := ruleb kb1e
  clear kb1e
  have hN1 := bel.size
  clear bel Bx By Bp Bq Bn Bs Bd Bz Ba
  go_cut [19] (fun p wx => p = .bool true ∧ Hd S1 wx ∧ PtIs wx (.agg #[.bool na, .slice a1 n1 k1, .slice b1 m1 l1]) Pp)
  case first =>
    go_region_held3 (Hd S1)
      (first
        | with_reducible exact KL1.out _ _ (by assumption) hb
        | with_reducible exact KA1.out _ _ (by assumption)
        | with_reducible exact KS1.out _ _ _ (by omega) (by assumption)
        | with_reducible exact KD1.out _ hS1
        | with_reducible exact KD1.out _ (KA1.out _ _ hS1)
        | with_reducible assumption)
      (first
        | (go_at_call 17; go_fit (r5_Of Tq); rintro e w' ⟨v2, rfl, P2, hb⟩; (first | replace PA := PA.later hb | replace PA := PA.drew.later hb | skip))
        | (go_at_call 16; go_fit (r5_Add (by first | exact PA | exact PA.drew) P2 Op Oq); rintro e w' ⟨v3, rfl, P3, hb⟩; (first | replace PA := PA.later hb | replace PA := PA.drew.later hb | skip))
        | (go_at_call 15; go_fit (r5_To P3 Ts); rintro e w' ⟨rfl, hb⟩; (first | replace PA := PA.later hb | replace PA := PA.drew.later hb | skip)))
    all_goals
      go_wp2_with fail
      go_meet
      exact ⟨rfl, by with_reducible assumption, PA⟩
  case rest =>
    clear hS1 PA
    obtain ⟨rfl, hS1, PA⟩ := hcut
    go_upto_region 10 with fail
    go_cut [20] (fun p wx => p = .bool true ∧ Hd S1 wx)
    case first =>
      go_region_held3 (Hd S1)
        (first
          | with_reducible exact KL1.out _ _ (by assumption) hb
          | with_reducible exact KA1.out _ _ (by assumption)
          | with_reducible exact KS1.out _ _ _ (by omega) (by assumption)
          | with_reducible exact KD1.out _ hS1
          | with_reducible exact KD1.out _ (KA1.out _ _ hS1)
          | with_reducible assumption)
        (first
          | (go_at_call 16; go_fit (r5_Add (by first | exact PA | exact PA.drew) (by first | exact PA | exact PA.drew) Op Op); rintro e w' ⟨v3, rfl, P3, hb⟩)
          | (go_at_call 15; go_fit (r5_To P3 Td); rintro e w' ⟨rfl, hb⟩))
      all_goals
        go_wp2_with fail
        go_meet
        exact ⟨rfl, by with_reducible assumption⟩
    case rest =>
      clear hS1 PA
      obtain ⟨rfl, hS1⟩ := hcut
      go_wp2_with fail
      go_ret
      exact ⟨rfl, KB1.out _ hS1⟩

end Go.Proofs.YtpgidlnpcjbfhaaDoor
