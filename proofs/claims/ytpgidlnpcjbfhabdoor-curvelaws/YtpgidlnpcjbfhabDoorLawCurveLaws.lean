/- The law CurveLaws answers true: sums go either way round, and in any order; the opposite of a sum is the sum of the opposites. -/
import Derived.Test.YtpgidlnpcjbfhabDoorRows
import Derived.Test.YtpgidlnpcjbfhabDoorCUp
import Derived.Test.YtpgidlnpcjbfhabDoorCSome
import Derived.Deep.WholeRow
import Derived.Deep.RegionHeld3
import Derived.Deep.DeepCutAuto
import Derived.Deep.DeepFit
namespace Go.Proofs.YtpgidlnpcjbfhabDoor
open Go.RowKit

set_option maxRecDepth 100000 in
set_option maxHeartbeats 16000000 in
theorem law_curveLaws (x0 x1 x2 x3 x4 x5 y0 y1 y2 y3 y4 y5 z0 z1 z2 z3 z4 z5 : Int) (odd : Bool) (w : World) (G : GlsC w) (fX : fits [x0, x1, x2, x3, x4, x5]) (fY : fits [y0, y1, y2, y3, y4, y5]) (fZ : fits [z0, z1, z2, z3, z4, z5]) :
    Calls Tryd.prog 4 #[.agg #[.int .u64 x0, .int .u64 x1, .int .u64 x2, .int .u64 x3, .int .u64 x4, .int .u64 x5], .agg #[.int .u64 y0, .int .u64 y1, .int .u64 y2, .int .u64 y3, .int .u64 y4, .int .u64 y5], .agg #[.int .u64 z0, .int .u64 z1, .int .u64 z2, .int .u64 z3, .int .u64 z4, .int .u64 z5], .bool odd] w fun e w' => e = .returned (.bool true) ∧ Below w.heap.size w w' := by
  have B0 := ((Blk.new w [.int .u64 x0, .int .u64 x1, .int .u64 x2, .int .u64 x3, .int .u64 x4, .int .u64 x5] 24 (w.heap.size) rfl).alloc (.cells [.int .u64 y0, .int .u64 y1, .int .u64 y2, .int .u64 y3, .int .u64 y4, .int .u64 y5].toArray 24)).alloc (.cells [.int .u64 z0, .int .u64 z1, .int .u64 z2, .int .u64 z3, .int .u64 z4, .int .u64 z5].toArray 24)
  have B1 := (Blk.new (w.alloc (.cells [.int .u64 x0, .int .u64 x1, .int .u64 x2, .int .u64 x3, .int .u64 x4, .int .u64 x5].toArray 24)) [.int .u64 y0, .int .u64 y1, .int .u64 y2, .int .u64 y3, .int .u64 y4, .int .u64 y5] 24 (w.heap.size + 1) (by simp)).alloc (.cells [.int .u64 z0, .int .u64 z1, .int .u64 z2, .int .u64 z3, .int .u64 z4, .int .u64 z5].toArray 24)
  have B2 := Blk.new ((w.alloc (.cells [.int .u64 x0, .int .u64 x1, .int .u64 x2, .int .u64 x3, .int .u64 x4, .int .u64 x5].toArray 24)).alloc (.cells [.int .u64 y0, .int .u64 y1, .int .u64 y2, .int .u64 y3, .int .u64 y4, .int .u64 y5].toArray 24)) [.int .u64 z0, .int .u64 z1, .int .u64 z2, .int .u64 z3, .int .u64 z4, .int .u64 z5] 24 (w.heap.size + 1 + 1) (by simp)
  have bel : Below w.heap.size w (((w.alloc (.cells [.int .u64 x0, .int .u64 x1, .int .u64 x2, .int .u64 x3, .int .u64 x4, .int .u64 x5].toArray 24)).alloc (.cells [.int .u64 y0, .int .u64 y1, .int .u64 y2, .int .u64 y3, .int .u64 y4, .int .u64 y5].toArray 24)).alloc (.cells [.int .u64 z0, .int .u64 z1, .int .u64 z2, .int .u64 z3, .int .u64 z4, .int .u64 z5].toArray 24)) := ((((Below.refl _ _).alloc (Nat.le_refl _) _).alloc (by simp) _).alloc (by simp; omega) _)
  go_enter Tryd.func4, Tryd.ntmps4
  go_upto_region 1 with fail
  try simp only [us, List.map_cons, List.map_nil] at bel
  generalize (((w.alloc (Obj.cells #[.int .u64 x0, .int .u64 x1, .int .u64 x2, .int .u64 x3, .int .u64 x4, .int .u64 x5] 24)).alloc (Obj.cells #[.int .u64 y0, .int .u64 y1, .int .u64 y2, .int .u64 y3, .int .u64 y4, .int .u64 y5] 24)).alloc (Obj.cells #[.int .u64 z0, .int .u64 z1, .int .u64 z2, .int .u64 z3, .int .u64 z4, .int .u64 z5] 24)) = W at *
  have Bx := B0
  have By := B1
  have Bz := B2
  clear B0 B1 B2
  go_wp2_with fail
  refine (up_any (G.below bel)).mono ?_
  rintro e w1 ⟨rfl, hb⟩
  replace Bx := Bx.later hb
  replace By := By.later hb
  replace Bz := Bz.later hb
  replace bel := below_step bel hb
  clear hb
  have ltx := Bx.lt
  have cx0 := Bx.cell 0 _ rfl
  have cx1 := Bx.cell 1 _ rfl
  have cx2 := Bx.cell 2 _ rfl
  have cx3 := Bx.cell 3 _ rfl
  have cx4 := Bx.cell 4 _ rfl
  have cx5 := Bx.cell 5 _ rfl
  go_wp2_with fail
  refine (some_any (G.below bel).fld fX).mono ?_
  rintro e w2 ⟨a0, a1, a2, a3, a4, a5, b0, b1, b2, b3, b4, b5, kp, P, rfl, Tp, Op, hb⟩
  clear ltx cx0 cx1 cx2 cx3 cx4 cx5
  replace Bx := Bx.later hb
  replace By := By.later hb
  replace Bz := Bz.later hb
  replace bel := below_step bel hb
  clear hb
  clear Bx
  replace By := By.alloc (.cells [.int .u64 a0, .int .u64 a1, .int .u64 a2, .int .u64 a3, .int .u64 a4, .int .u64 a5, .int .u64 b0, .int .u64 b1, .int .u64 b2, .int .u64 b3, .int .u64 b4, .int .u64 b5, .bool kp].toArray 27)
  replace Bz := Bz.alloc (.cells [.int .u64 a0, .int .u64 a1, .int .u64 a2, .int .u64 a3, .int .u64 a4, .int .u64 a5, .int .u64 b0, .int .u64 b1, .int .u64 b2, .int .u64 b3, .int .u64 b4, .int .u64 b5, .bool kp].toArray 27)
  have Bp := Blk.new w2 [.int .u64 a0, .int .u64 a1, .int .u64 a2, .int .u64 a3, .int .u64 a4, .int .u64 a5, .int .u64 b0, .int .u64 b1, .int .u64 b2, .int .u64 b3, .int .u64 b4, .int .u64 b5, .bool kp] 27 w2.heap.size rfl
  replace bel := below_alloc (o := .cells [.int .u64 a0, .int .u64 a1, .int .u64 a2, .int .u64 a3, .int .u64 a4, .int .u64 a5, .int .u64 b0, .int .u64 b1, .int .u64 b2, .int .u64 b3, .int .u64 b4, .int .u64 b5, .bool kp].toArray 27) bel
  have lwp : ∀ z, z < w2.heap.size → z ≠ w2.heap.size := fun z h => Nat.ne_of_lt h
  have lty := By.lt
  have cy0 := By.cell 0 _ rfl
  have cy1 := By.cell 1 _ rfl
  have cy2 := By.cell 2 _ rfl
  have cy3 := By.cell 3 _ rfl
  have cy4 := By.cell 4 _ rfl
  have cy5 := By.cell 5 _ rfl
  go_wp2_with fail
  obtain ⟨bp, hbp⟩ : ∃ b, b = w2.heap.size := ⟨_, rfl⟩
  clear lwp
  generalize w2.alloc (Obj.cells #[.int .u64 a0, .int .u64 a1, .int .u64 a2, .int .u64 a3, .int .u64 a4, .int .u64 a5, .int .u64 b0, .int .u64 b1, .int .u64 b2, .int .u64 b3, .int .u64 b4, .int .u64 b5, .bool kp] 27) = Wp at *
  rw [← hbp] at Bp ⊢
  clear hbp
  refine (some_any (G.below bel).fld fY).mono ?_
  rintro e w3 ⟨c0, c1, c2, c3, c4, c5, d0, d1, d2, d3, d4, d5, kq, Q, rfl, Tq, Oq, hb⟩
  clear lty cy0 cy1 cy2 cy3 cy4 cy5
  replace By := By.later hb
  replace Bz := Bz.later hb
  replace Bp := Bp.later hb
  replace bel := below_step bel hb
  clear hb
  clear By
  replace Bz := Bz.alloc (.cells [.int .u64 c0, .int .u64 c1, .int .u64 c2, .int .u64 c3, .int .u64 c4, .int .u64 c5, .int .u64 d0, .int .u64 d1, .int .u64 d2, .int .u64 d3, .int .u64 d4, .int .u64 d5, .bool kq].toArray 27)
  replace Bp := Bp.alloc (.cells [.int .u64 c0, .int .u64 c1, .int .u64 c2, .int .u64 c3, .int .u64 c4, .int .u64 c5, .int .u64 d0, .int .u64 d1, .int .u64 d2, .int .u64 d3, .int .u64 d4, .int .u64 d5, .bool kq].toArray 27)
  have Bq := Blk.new w3 [.int .u64 c0, .int .u64 c1, .int .u64 c2, .int .u64 c3, .int .u64 c4, .int .u64 c5, .int .u64 d0, .int .u64 d1, .int .u64 d2, .int .u64 d3, .int .u64 d4, .int .u64 d5, .bool kq] 27 w3.heap.size rfl
  replace bel := below_alloc (o := .cells [.int .u64 c0, .int .u64 c1, .int .u64 c2, .int .u64 c3, .int .u64 c4, .int .u64 c5, .int .u64 d0, .int .u64 d1, .int .u64 d2, .int .u64 d3, .int .u64 d4, .int .u64 d5, .bool kq].toArray 27) bel
  have lwq : ∀ z, z < w3.heap.size → z ≠ w3.heap.size := fun z h => Nat.ne_of_lt h
  have ltz := Bz.lt
  have cz0 := Bz.cell 0 _ rfl
  have cz1 := Bz.cell 1 _ rfl
  have cz2 := Bz.cell 2 _ rfl
  have cz3 := Bz.cell 3 _ rfl
  have cz4 := Bz.cell 4 _ rfl
  have cz5 := Bz.cell 5 _ rfl
  go_wp2_with fail
  obtain ⟨bq, hbq⟩ : ∃ b, b = w3.heap.size := ⟨_, rfl⟩
  clear lwq
  generalize w3.alloc (Obj.cells #[.int .u64 c0, .int .u64 c1, .int .u64 c2, .int .u64 c3, .int .u64 c4, .int .u64 c5, .int .u64 d0, .int .u64 d1, .int .u64 d2, .int .u64 d3, .int .u64 d4, .int .u64 d5, .bool kq] 27) = Wq at *
  rw [← hbq] at Bq ⊢
  clear hbq
  as_aux_lemma =>
    refine (some_any (G.below bel).fld fZ).mono ?_
    rintro e w4 ⟨e0, e1, e2, e3, e4, e5, f0, f1, f2, f3, f4, f5, kr, R, rfl, Tr, Or, hb⟩
    clear ltz cz0 cz1 cz2 cz3 cz4 cz5
    replace Bz := Bz.later hb
    replace Bp := Bp.later hb
    replace Bq := Bq.later hb
    replace bel := below_step bel hb
    clear hb
    clear Bz
    replace Bp := Bp.alloc (.cells [.int .u64 e0, .int .u64 e1, .int .u64 e2, .int .u64 e3, .int .u64 e4, .int .u64 e5, .int .u64 f0, .int .u64 f1, .int .u64 f2, .int .u64 f3, .int .u64 f4, .int .u64 f5, .bool kr].toArray 27)
    replace Bq := Bq.alloc (.cells [.int .u64 e0, .int .u64 e1, .int .u64 e2, .int .u64 e3, .int .u64 e4, .int .u64 e5, .int .u64 f0, .int .u64 f1, .int .u64 f2, .int .u64 f3, .int .u64 f4, .int .u64 f5, .bool kr].toArray 27)
    have Br := Blk.new w4 [.int .u64 e0, .int .u64 e1, .int .u64 e2, .int .u64 e3, .int .u64 e4, .int .u64 e5, .int .u64 f0, .int .u64 f1, .int .u64 f2, .int .u64 f3, .int .u64 f4, .int .u64 f5, .bool kr] 27 w4.heap.size rfl
    replace bel := below_alloc (o := .cells [.int .u64 e0, .int .u64 e1, .int .u64 e2, .int .u64 e3, .int .u64 e4, .int .u64 e5, .int .u64 f0, .int .u64 f1, .int .u64 f2, .int .u64 f3, .int .u64 f4, .int .u64 f5, .bool kr].toArray 27) bel
    have lwr : ∀ z, z < w4.heap.size → z ≠ w4.heap.size := fun z h => Nat.ne_of_lt h
    have ltp := Bp.lt
    have cp0 := Bp.cell 0 _ rfl
    have cp1 := Bp.cell 1 _ rfl
    have cp2 := Bp.cell 2 _ rfl
    have cp3 := Bp.cell 3 _ rfl
    have cp4 := Bp.cell 4 _ rfl
    have cp5 := Bp.cell 5 _ rfl
    have cp6 := Bp.cell 6 _ rfl
    have cp7 := Bp.cell 7 _ rfl
    have cp8 := Bp.cell 8 _ rfl
    have cp9 := Bp.cell 9 _ rfl
    have cp10 := Bp.cell 10 _ rfl
    have cp11 := Bp.cell 11 _ rfl
    have cp12 := Bp.cell 12 _ rfl
    have ltq := Bq.lt
    have cq0 := Bq.cell 0 _ rfl
    have cq1 := Bq.cell 1 _ rfl
    have cq2 := Bq.cell 2 _ rfl
    have cq3 := Bq.cell 3 _ rfl
    have cq4 := Bq.cell 4 _ rfl
    have cq5 := Bq.cell 5 _ rfl
    have cq6 := Bq.cell 6 _ rfl
    have cq7 := Bq.cell 7 _ rfl
    have cq8 := Bq.cell 8 _ rfl
    have cq9 := Bq.cell 9 _ rfl
    have cq10 := Bq.cell 10 _ rfl
    have cq11 := Bq.cell 11 _ rfl
    have cq12 := Bq.cell 12 _ rfl
    go_wp2_with fail
    obtain ⟨br, hbr⟩ : ∃ b, b = w4.heap.size := ⟨_, rfl⟩
    clear lwr
    generalize w4.alloc (Obj.cells #[.int .u64 e0, .int .u64 e1, .int .u64 e2, .int .u64 e3, .int .u64 e4, .int .u64 e5, .int .u64 f0, .int .u64 f1, .int .u64 f2, .int .u64 f3, .int .u64 f4, .int .u64 f5, .bool kr] 27) = Wr at *
    rw [← hbr] at Br ⊢
    clear hbr
    refine (con_Add (G.below bel) Tp Tq Op Oq).mono ?_
    rintro e w5 ⟨g0, g1, g2, g3, g4, g5, h0, h1, h2, h3, h4, h5, ku, rfl, Tu, hb⟩
    clear ltp cp0 cp1 cp2 cp3 cp4 cp5 cp6 cp7 cp8 cp9 cp10 cp11 cp12 ltq cq0 cq1 cq2 cq3 cq4 cq5 cq6 cq7 cq8 cq9 cq10 cq11 cq12
    replace Bp := Bp.later hb
    replace Bq := Bq.later hb
    replace Br := Br.later hb
    replace bel := below_step bel hb
    clear hb
    replace Bp := Bp.alloc (.cells [.int .u64 g0, .int .u64 g1, .int .u64 g2, .int .u64 g3, .int .u64 g4, .int .u64 g5, .int .u64 h0, .int .u64 h1, .int .u64 h2, .int .u64 h3, .int .u64 h4, .int .u64 h5, .bool ku].toArray 27)
    replace Bq := Bq.alloc (.cells [.int .u64 g0, .int .u64 g1, .int .u64 g2, .int .u64 g3, .int .u64 g4, .int .u64 g5, .int .u64 h0, .int .u64 h1, .int .u64 h2, .int .u64 h3, .int .u64 h4, .int .u64 h5, .bool ku].toArray 27)
    replace Br := Br.alloc (.cells [.int .u64 g0, .int .u64 g1, .int .u64 g2, .int .u64 g3, .int .u64 g4, .int .u64 g5, .int .u64 h0, .int .u64 h1, .int .u64 h2, .int .u64 h3, .int .u64 h4, .int .u64 h5, .bool ku].toArray 27)
    have Bu := Blk.new w5 [.int .u64 g0, .int .u64 g1, .int .u64 g2, .int .u64 g3, .int .u64 g4, .int .u64 g5, .int .u64 h0, .int .u64 h1, .int .u64 h2, .int .u64 h3, .int .u64 h4, .int .u64 h5, .bool ku] 27 w5.heap.size rfl
    replace bel := below_alloc (o := .cells [.int .u64 g0, .int .u64 g1, .int .u64 g2, .int .u64 g3, .int .u64 g4, .int .u64 g5, .int .u64 h0, .int .u64 h1, .int .u64 h2, .int .u64 h3, .int .u64 h4, .int .u64 h5, .bool ku].toArray 27) bel
    have lwu : ∀ z, z < w5.heap.size → z ≠ w5.heap.size := fun z h => Nat.ne_of_lt h
    have ltp := Bp.lt
    have cp0 := Bp.cell 0 _ rfl
    have cp1 := Bp.cell 1 _ rfl
    have cp2 := Bp.cell 2 _ rfl
    have cp3 := Bp.cell 3 _ rfl
    have cp4 := Bp.cell 4 _ rfl
    have cp5 := Bp.cell 5 _ rfl
    have cp6 := Bp.cell 6 _ rfl
    have cp7 := Bp.cell 7 _ rfl
    have cp8 := Bp.cell 8 _ rfl
    have cp9 := Bp.cell 9 _ rfl
    have cp10 := Bp.cell 10 _ rfl
    have cp11 := Bp.cell 11 _ rfl
    have cp12 := Bp.cell 12 _ rfl
    have ltq := Bq.lt
    have cq0 := Bq.cell 0 _ rfl
    have cq1 := Bq.cell 1 _ rfl
    have cq2 := Bq.cell 2 _ rfl
    have cq3 := Bq.cell 3 _ rfl
    have cq4 := Bq.cell 4 _ rfl
    have cq5 := Bq.cell 5 _ rfl
    have cq6 := Bq.cell 6 _ rfl
    have cq7 := Bq.cell 7 _ rfl
    have cq8 := Bq.cell 8 _ rfl
    have cq9 := Bq.cell 9 _ rfl
    have cq10 := Bq.cell 10 _ rfl
    have cq11 := Bq.cell 11 _ rfl
    have cq12 := Bq.cell 12 _ rfl
    go_wp2_with fail
    obtain ⟨bu, hbu⟩ : ∃ b, b = w5.heap.size := ⟨_, rfl⟩
    clear lwu
    generalize w5.alloc (Obj.cells #[.int .u64 g0, .int .u64 g1, .int .u64 g2, .int .u64 g3, .int .u64 g4, .int .u64 g5, .int .u64 h0, .int .u64 h1, .int .u64 h2, .int .u64 h3, .int .u64 h4, .int .u64 h5, .bool ku] 27) = Wu at *
    rw [← hbu] at Bu ⊢
    clear hbu
    as_aux_lemma =>
      refine (con_Add (G.below bel) Tq Tp Oq Op).mono ?_
      rintro e w6 ⟨i0, i1, i2, i3, i4, i5, j0, j1, j2, j3, j4, j5, kv, rfl, Tv, hb⟩
      clear ltp cp0 cp1 cp2 cp3 cp4 cp5 cp6 cp7 cp8 cp9 cp10 cp11 cp12 ltq cq0 cq1 cq2 cq3 cq4 cq5 cq6 cq7 cq8 cq9 cq10 cq11 cq12
      replace Bp := Bp.later hb
      replace Bq := Bq.later hb
      replace Br := Br.later hb
      replace Bu := Bu.later hb
      replace bel := below_step bel hb
      clear hb
      rw [add_comm' Oq Op] at Tv
      obtain ⟨e1, e2, rfl⟩ := told_one Tu Tv rfl rfl rfl rfl; simp only [List.cons.injEq, and_true] at e1 e2; obtain ⟨rfl, rfl, rfl, rfl, rfl, rfl⟩ := e1; obtain ⟨rfl, rfl, rfl, rfl, rfl, rfl⟩ := e2
      clear Tv
      replace Bp := Bp.alloc (.cells [.int .u64 g0, .int .u64 g1, .int .u64 g2, .int .u64 g3, .int .u64 g4, .int .u64 g5, .int .u64 h0, .int .u64 h1, .int .u64 h2, .int .u64 h3, .int .u64 h4, .int .u64 h5, .bool ku].toArray 27)
      replace Bq := Bq.alloc (.cells [.int .u64 g0, .int .u64 g1, .int .u64 g2, .int .u64 g3, .int .u64 g4, .int .u64 g5, .int .u64 h0, .int .u64 h1, .int .u64 h2, .int .u64 h3, .int .u64 h4, .int .u64 h5, .bool ku].toArray 27)
      replace Br := Br.alloc (.cells [.int .u64 g0, .int .u64 g1, .int .u64 g2, .int .u64 g3, .int .u64 g4, .int .u64 g5, .int .u64 h0, .int .u64 h1, .int .u64 h2, .int .u64 h3, .int .u64 h4, .int .u64 h5, .bool ku].toArray 27)
      replace Bu := Bu.alloc (.cells [.int .u64 g0, .int .u64 g1, .int .u64 g2, .int .u64 g3, .int .u64 g4, .int .u64 g5, .int .u64 h0, .int .u64 h1, .int .u64 h2, .int .u64 h3, .int .u64 h4, .int .u64 h5, .bool ku].toArray 27)
      have Bv := Blk.new w6 [.int .u64 g0, .int .u64 g1, .int .u64 g2, .int .u64 g3, .int .u64 g4, .int .u64 g5, .int .u64 h0, .int .u64 h1, .int .u64 h2, .int .u64 h3, .int .u64 h4, .int .u64 h5, .bool ku] 27 w6.heap.size rfl
      replace bel := below_alloc (o := .cells [.int .u64 g0, .int .u64 g1, .int .u64 g2, .int .u64 g3, .int .u64 g4, .int .u64 g5, .int .u64 h0, .int .u64 h1, .int .u64 h2, .int .u64 h3, .int .u64 h4, .int .u64 h5, .bool ku].toArray 27) bel
      have lwv : ∀ z, z < w6.heap.size → z ≠ w6.heap.size := fun z h => Nat.ne_of_lt h
      have ltu := Bu.lt
      have cu0 := Bu.cell 0 _ rfl
      have cu1 := Bu.cell 1 _ rfl
      have cu2 := Bu.cell 2 _ rfl
      have cu3 := Bu.cell 3 _ rfl
      have cu4 := Bu.cell 4 _ rfl
      have cu5 := Bu.cell 5 _ rfl
      have cu6 := Bu.cell 6 _ rfl
      have cu7 := Bu.cell 7 _ rfl
      have cu8 := Bu.cell 8 _ rfl
      have cu9 := Bu.cell 9 _ rfl
      have cu10 := Bu.cell 10 _ rfl
      have cu11 := Bu.cell 11 _ rfl
      have cu12 := Bu.cell 12 _ rfl
      have ltr := Br.lt
      have cr0 := Br.cell 0 _ rfl
      have cr1 := Br.cell 1 _ rfl
      have cr2 := Br.cell 2 _ rfl
      have cr3 := Br.cell 3 _ rfl
      have cr4 := Br.cell 4 _ rfl
      have cr5 := Br.cell 5 _ rfl
      have cr6 := Br.cell 6 _ rfl
      have cr7 := Br.cell 7 _ rfl
      have cr8 := Br.cell 8 _ rfl
      have cr9 := Br.cell 9 _ rfl
      have cr10 := Br.cell 10 _ rfl
      have cr11 := Br.cell 11 _ rfl
      have cr12 := Br.cell 12 _ rfl
      go_wp2_with fail
      obtain ⟨bv, hbv⟩ : ∃ b, b = w6.heap.size := ⟨_, rfl⟩
      clear lwv
      generalize w6.alloc (Obj.cells #[.int .u64 g0, .int .u64 g1, .int .u64 g2, .int .u64 g3, .int .u64 g4, .int .u64 g5, .int .u64 h0, .int .u64 h1, .int .u64 h2, .int .u64 h3, .int .u64 h4, .int .u64 h5, .bool ku] 27) = Wv at *
      rw [← hbv] at Bv ⊢
      clear hbv
      refine (con_Add (G.below bel) Tu Tr (on_add Op Oq) Or).mono ?_
      rintro e w7 ⟨i0, i1, i2, i3, i4, i5, j0, j1, j2, j3, j4, j5, ks, rfl, Ts, hb⟩
      clear ltu cu0 cu1 cu2 cu3 cu4 cu5 cu6 cu7 cu8 cu9 cu10 cu11 cu12 ltr cr0 cr1 cr2 cr3 cr4 cr5 cr6 cr7 cr8 cr9 cr10 cr11 cr12
      replace Bp := Bp.later hb
      replace Bq := Bq.later hb
      replace Br := Br.later hb
      replace Bu := Bu.later hb
      replace Bv := Bv.later hb
      replace bel := below_step bel hb
      clear hb
      replace Bp := Bp.alloc (.cells [.int .u64 i0, .int .u64 i1, .int .u64 i2, .int .u64 i3, .int .u64 i4, .int .u64 i5, .int .u64 j0, .int .u64 j1, .int .u64 j2, .int .u64 j3, .int .u64 j4, .int .u64 j5, .bool ks].toArray 27)
      replace Bq := Bq.alloc (.cells [.int .u64 i0, .int .u64 i1, .int .u64 i2, .int .u64 i3, .int .u64 i4, .int .u64 i5, .int .u64 j0, .int .u64 j1, .int .u64 j2, .int .u64 j3, .int .u64 j4, .int .u64 j5, .bool ks].toArray 27)
      replace Br := Br.alloc (.cells [.int .u64 i0, .int .u64 i1, .int .u64 i2, .int .u64 i3, .int .u64 i4, .int .u64 i5, .int .u64 j0, .int .u64 j1, .int .u64 j2, .int .u64 j3, .int .u64 j4, .int .u64 j5, .bool ks].toArray 27)
      replace Bu := Bu.alloc (.cells [.int .u64 i0, .int .u64 i1, .int .u64 i2, .int .u64 i3, .int .u64 i4, .int .u64 i5, .int .u64 j0, .int .u64 j1, .int .u64 j2, .int .u64 j3, .int .u64 j4, .int .u64 j5, .bool ks].toArray 27)
      replace Bv := Bv.alloc (.cells [.int .u64 i0, .int .u64 i1, .int .u64 i2, .int .u64 i3, .int .u64 i4, .int .u64 i5, .int .u64 j0, .int .u64 j1, .int .u64 j2, .int .u64 j3, .int .u64 j4, .int .u64 j5, .bool ks].toArray 27)
      have Bs := Blk.new w7 [.int .u64 i0, .int .u64 i1, .int .u64 i2, .int .u64 i3, .int .u64 i4, .int .u64 i5, .int .u64 j0, .int .u64 j1, .int .u64 j2, .int .u64 j3, .int .u64 j4, .int .u64 j5, .bool ks] 27 w7.heap.size rfl
      replace bel := below_alloc (o := .cells [.int .u64 i0, .int .u64 i1, .int .u64 i2, .int .u64 i3, .int .u64 i4, .int .u64 i5, .int .u64 j0, .int .u64 j1, .int .u64 j2, .int .u64 j3, .int .u64 j4, .int .u64 j5, .bool ks].toArray 27) bel
      have lws : ∀ z, z < w7.heap.size → z ≠ w7.heap.size := fun z h => Nat.ne_of_lt h
      have ltq := Bq.lt
      have cq0 := Bq.cell 0 _ rfl
      have cq1 := Bq.cell 1 _ rfl
      have cq2 := Bq.cell 2 _ rfl
      have cq3 := Bq.cell 3 _ rfl
      have cq4 := Bq.cell 4 _ rfl
      have cq5 := Bq.cell 5 _ rfl
      have cq6 := Bq.cell 6 _ rfl
      have cq7 := Bq.cell 7 _ rfl
      have cq8 := Bq.cell 8 _ rfl
      have cq9 := Bq.cell 9 _ rfl
      have cq10 := Bq.cell 10 _ rfl
      have cq11 := Bq.cell 11 _ rfl
      have cq12 := Bq.cell 12 _ rfl
      have ltr := Br.lt
      have cr0 := Br.cell 0 _ rfl
      have cr1 := Br.cell 1 _ rfl
      have cr2 := Br.cell 2 _ rfl
      have cr3 := Br.cell 3 _ rfl
      have cr4 := Br.cell 4 _ rfl
      have cr5 := Br.cell 5 _ rfl
      have cr6 := Br.cell 6 _ rfl
      have cr7 := Br.cell 7 _ rfl
      have cr8 := Br.cell 8 _ rfl
      have cr9 := Br.cell 9 _ rfl
      have cr10 := Br.cell 10 _ rfl
      have cr11 := Br.cell 11 _ rfl
      have cr12 := Br.cell 12 _ rfl
      go_wp2_with fail
      obtain ⟨bs, hbs⟩ : ∃ b, b = w7.heap.size := ⟨_, rfl⟩
      clear lws
      generalize w7.alloc (Obj.cells #[.int .u64 i0, .int .u64 i1, .int .u64 i2, .int .u64 i3, .int .u64 i4, .int .u64 i5, .int .u64 j0, .int .u64 j1, .int .u64 j2, .int .u64 j3, .int .u64 j4, .int .u64 j5, .bool ks] 27) = Ws at *
      rw [← hbs] at Bs ⊢
      clear hbs
      as_aux_lemma =>
        refine (con_Add (G.below bel) Tq Tr Oq Or).mono ?_
        rintro e w8 ⟨l0, l1, l2, l3, l4, l5, m0, m1, m2, m3, m4, m5, kt, rfl, Tt, hb⟩
        clear ltq cq0 cq1 cq2 cq3 cq4 cq5 cq6 cq7 cq8 cq9 cq10 cq11 cq12 ltr cr0 cr1 cr2 cr3 cr4 cr5 cr6 cr7 cr8 cr9 cr10 cr11 cr12
        replace Bp := Bp.later hb
        replace Bq := Bq.later hb
        replace Br := Br.later hb
        replace Bu := Bu.later hb
        replace Bv := Bv.later hb
        replace Bs := Bs.later hb
        replace bel := below_step bel hb
        clear hb
        clear Br
        replace Bp := Bp.alloc (.cells [.int .u64 l0, .int .u64 l1, .int .u64 l2, .int .u64 l3, .int .u64 l4, .int .u64 l5, .int .u64 m0, .int .u64 m1, .int .u64 m2, .int .u64 m3, .int .u64 m4, .int .u64 m5, .bool kt].toArray 27)
        replace Bq := Bq.alloc (.cells [.int .u64 l0, .int .u64 l1, .int .u64 l2, .int .u64 l3, .int .u64 l4, .int .u64 l5, .int .u64 m0, .int .u64 m1, .int .u64 m2, .int .u64 m3, .int .u64 m4, .int .u64 m5, .bool kt].toArray 27)
        replace Bu := Bu.alloc (.cells [.int .u64 l0, .int .u64 l1, .int .u64 l2, .int .u64 l3, .int .u64 l4, .int .u64 l5, .int .u64 m0, .int .u64 m1, .int .u64 m2, .int .u64 m3, .int .u64 m4, .int .u64 m5, .bool kt].toArray 27)
        replace Bv := Bv.alloc (.cells [.int .u64 l0, .int .u64 l1, .int .u64 l2, .int .u64 l3, .int .u64 l4, .int .u64 l5, .int .u64 m0, .int .u64 m1, .int .u64 m2, .int .u64 m3, .int .u64 m4, .int .u64 m5, .bool kt].toArray 27)
        replace Bs := Bs.alloc (.cells [.int .u64 l0, .int .u64 l1, .int .u64 l2, .int .u64 l3, .int .u64 l4, .int .u64 l5, .int .u64 m0, .int .u64 m1, .int .u64 m2, .int .u64 m3, .int .u64 m4, .int .u64 m5, .bool kt].toArray 27)
        have Bt := Blk.new w8 [.int .u64 l0, .int .u64 l1, .int .u64 l2, .int .u64 l3, .int .u64 l4, .int .u64 l5, .int .u64 m0, .int .u64 m1, .int .u64 m2, .int .u64 m3, .int .u64 m4, .int .u64 m5, .bool kt] 27 w8.heap.size rfl
        replace bel := below_alloc (o := .cells [.int .u64 l0, .int .u64 l1, .int .u64 l2, .int .u64 l3, .int .u64 l4, .int .u64 l5, .int .u64 m0, .int .u64 m1, .int .u64 m2, .int .u64 m3, .int .u64 m4, .int .u64 m5, .bool kt].toArray 27) bel
        have lwt : ∀ z, z < w8.heap.size → z ≠ w8.heap.size := fun z h => Nat.ne_of_lt h
        have ltp := Bp.lt
        have cp0 := Bp.cell 0 _ rfl
        have cp1 := Bp.cell 1 _ rfl
        have cp2 := Bp.cell 2 _ rfl
        have cp3 := Bp.cell 3 _ rfl
        have cp4 := Bp.cell 4 _ rfl
        have cp5 := Bp.cell 5 _ rfl
        have cp6 := Bp.cell 6 _ rfl
        have cp7 := Bp.cell 7 _ rfl
        have cp8 := Bp.cell 8 _ rfl
        have cp9 := Bp.cell 9 _ rfl
        have cp10 := Bp.cell 10 _ rfl
        have cp11 := Bp.cell 11 _ rfl
        have cp12 := Bp.cell 12 _ rfl
        have ltt := Bt.lt
        have ct0 := Bt.cell 0 _ rfl
        have ct1 := Bt.cell 1 _ rfl
        have ct2 := Bt.cell 2 _ rfl
        have ct3 := Bt.cell 3 _ rfl
        have ct4 := Bt.cell 4 _ rfl
        have ct5 := Bt.cell 5 _ rfl
        have ct6 := Bt.cell 6 _ rfl
        have ct7 := Bt.cell 7 _ rfl
        have ct8 := Bt.cell 8 _ rfl
        have ct9 := Bt.cell 9 _ rfl
        have ct10 := Bt.cell 10 _ rfl
        have ct11 := Bt.cell 11 _ rfl
        have ct12 := Bt.cell 12 _ rfl
        go_wp2_with fail
        obtain ⟨bt, hbt⟩ : ∃ b, b = w8.heap.size := ⟨_, rfl⟩
        clear lwt
        generalize w8.alloc (Obj.cells #[.int .u64 l0, .int .u64 l1, .int .u64 l2, .int .u64 l3, .int .u64 l4, .int .u64 l5, .int .u64 m0, .int .u64 m1, .int .u64 m2, .int .u64 m3, .int .u64 m4, .int .u64 m5, .bool kt] 27) = Wt at *
        rw [← hbt] at Bt ⊢
        clear hbt
        refine (con_Add (G.below bel) Tp Tt Op (on_add Oq Or)).mono ?_
        rintro e w9 ⟨n0, n1, n2, n3, n4, n5, o0, o1, o2, o3, o4, o5, k2, rfl, T2, hb⟩
        clear ltp cp0 cp1 cp2 cp3 cp4 cp5 cp6 cp7 cp8 cp9 cp10 cp11 cp12 ltt ct0 ct1 ct2 ct3 ct4 ct5 ct6 ct7 ct8 ct9 ct10 ct11 ct12
        replace Bp := Bp.later hb
        replace Bq := Bq.later hb
        replace Bu := Bu.later hb
        replace Bv := Bv.later hb
        replace Bs := Bs.later hb
        replace Bt := Bt.later hb
        replace bel := below_step bel hb
        clear hb
        rw [← assoc Op Oq Or] at T2
        obtain ⟨e1, e2, rfl⟩ := told_one Ts T2 rfl rfl rfl rfl; simp only [List.cons.injEq, and_true] at e1 e2; obtain ⟨rfl, rfl, rfl, rfl, rfl, rfl⟩ := e1; obtain ⟨rfl, rfl, rfl, rfl, rfl, rfl⟩ := e2
        clear T2
        clear Bt
        replace Bp := Bp.alloc (.cells [.int .u64 i0, .int .u64 i1, .int .u64 i2, .int .u64 i3, .int .u64 i4, .int .u64 i5, .int .u64 j0, .int .u64 j1, .int .u64 j2, .int .u64 j3, .int .u64 j4, .int .u64 j5, .bool ks].toArray 27)
        replace Bq := Bq.alloc (.cells [.int .u64 i0, .int .u64 i1, .int .u64 i2, .int .u64 i3, .int .u64 i4, .int .u64 i5, .int .u64 j0, .int .u64 j1, .int .u64 j2, .int .u64 j3, .int .u64 j4, .int .u64 j5, .bool ks].toArray 27)
        replace Bu := Bu.alloc (.cells [.int .u64 i0, .int .u64 i1, .int .u64 i2, .int .u64 i3, .int .u64 i4, .int .u64 i5, .int .u64 j0, .int .u64 j1, .int .u64 j2, .int .u64 j3, .int .u64 j4, .int .u64 j5, .bool ks].toArray 27)
        replace Bv := Bv.alloc (.cells [.int .u64 i0, .int .u64 i1, .int .u64 i2, .int .u64 i3, .int .u64 i4, .int .u64 i5, .int .u64 j0, .int .u64 j1, .int .u64 j2, .int .u64 j3, .int .u64 j4, .int .u64 j5, .bool ks].toArray 27)
        replace Bs := Bs.alloc (.cells [.int .u64 i0, .int .u64 i1, .int .u64 i2, .int .u64 i3, .int .u64 i4, .int .u64 i5, .int .u64 j0, .int .u64 j1, .int .u64 j2, .int .u64 j3, .int .u64 j4, .int .u64 j5, .bool ks].toArray 27)
        have Bw := Blk.new w9 [.int .u64 i0, .int .u64 i1, .int .u64 i2, .int .u64 i3, .int .u64 i4, .int .u64 i5, .int .u64 j0, .int .u64 j1, .int .u64 j2, .int .u64 j3, .int .u64 j4, .int .u64 j5, .bool ks] 27 w9.heap.size rfl
        replace bel := below_alloc (o := .cells [.int .u64 i0, .int .u64 i1, .int .u64 i2, .int .u64 i3, .int .u64 i4, .int .u64 i5, .int .u64 j0, .int .u64 j1, .int .u64 j2, .int .u64 j3, .int .u64 j4, .int .u64 j5, .bool ks].toArray 27) bel
        have lww : ∀ z, z < w9.heap.size → z ≠ w9.heap.size := fun z h => Nat.ne_of_lt h
        have ltp := Bp.lt
        have cp0 := Bp.cell 0 _ rfl
        have cp1 := Bp.cell 1 _ rfl
        have cp2 := Bp.cell 2 _ rfl
        have cp3 := Bp.cell 3 _ rfl
        have cp4 := Bp.cell 4 _ rfl
        have cp5 := Bp.cell 5 _ rfl
        have cp6 := Bp.cell 6 _ rfl
        have cp7 := Bp.cell 7 _ rfl
        have cp8 := Bp.cell 8 _ rfl
        have cp9 := Bp.cell 9 _ rfl
        have cp10 := Bp.cell 10 _ rfl
        have cp11 := Bp.cell 11 _ rfl
        have cp12 := Bp.cell 12 _ rfl
        go_wp2_with fail
        obtain ⟨bw, hbw⟩ : ∃ b, b = w9.heap.size := ⟨_, rfl⟩
        clear lww
        generalize w9.alloc (Obj.cells #[.int .u64 i0, .int .u64 i1, .int .u64 i2, .int .u64 i3, .int .u64 i4, .int .u64 i5, .int .u64 j0, .int .u64 j1, .int .u64 j2, .int .u64 j3, .int .u64 j4, .int .u64 j5, .bool ks] 27) = Ww at *
        rw [← hbw] at Bw ⊢
        clear hbw
        as_aux_lemma =>
          refine (con_Neg (G.below bel) Tp Op).mono ?_
          rintro e w10 ⟨n0, n1, n2, n3, n4, n5, o0, o1, o2, o3, o4, o5, ka, rfl, Ta, hb⟩
          clear ltp cp0 cp1 cp2 cp3 cp4 cp5 cp6 cp7 cp8 cp9 cp10 cp11 cp12
          replace Bp := Bp.later hb
          replace Bq := Bq.later hb
          replace Bu := Bu.later hb
          replace Bv := Bv.later hb
          replace Bs := Bs.later hb
          replace Bw := Bw.later hb
          replace bel := below_step bel hb
          clear hb
          replace Bp := Bp.alloc (.cells [.int .u64 n0, .int .u64 n1, .int .u64 n2, .int .u64 n3, .int .u64 n4, .int .u64 n5, .int .u64 o0, .int .u64 o1, .int .u64 o2, .int .u64 o3, .int .u64 o4, .int .u64 o5, .bool ka].toArray 27)
          replace Bq := Bq.alloc (.cells [.int .u64 n0, .int .u64 n1, .int .u64 n2, .int .u64 n3, .int .u64 n4, .int .u64 n5, .int .u64 o0, .int .u64 o1, .int .u64 o2, .int .u64 o3, .int .u64 o4, .int .u64 o5, .bool ka].toArray 27)
          replace Bu := Bu.alloc (.cells [.int .u64 n0, .int .u64 n1, .int .u64 n2, .int .u64 n3, .int .u64 n4, .int .u64 n5, .int .u64 o0, .int .u64 o1, .int .u64 o2, .int .u64 o3, .int .u64 o4, .int .u64 o5, .bool ka].toArray 27)
          replace Bv := Bv.alloc (.cells [.int .u64 n0, .int .u64 n1, .int .u64 n2, .int .u64 n3, .int .u64 n4, .int .u64 n5, .int .u64 o0, .int .u64 o1, .int .u64 o2, .int .u64 o3, .int .u64 o4, .int .u64 o5, .bool ka].toArray 27)
          replace Bs := Bs.alloc (.cells [.int .u64 n0, .int .u64 n1, .int .u64 n2, .int .u64 n3, .int .u64 n4, .int .u64 n5, .int .u64 o0, .int .u64 o1, .int .u64 o2, .int .u64 o3, .int .u64 o4, .int .u64 o5, .bool ka].toArray 27)
          replace Bw := Bw.alloc (.cells [.int .u64 n0, .int .u64 n1, .int .u64 n2, .int .u64 n3, .int .u64 n4, .int .u64 n5, .int .u64 o0, .int .u64 o1, .int .u64 o2, .int .u64 o3, .int .u64 o4, .int .u64 o5, .bool ka].toArray 27)
          have Ba := Blk.new w10 [.int .u64 n0, .int .u64 n1, .int .u64 n2, .int .u64 n3, .int .u64 n4, .int .u64 n5, .int .u64 o0, .int .u64 o1, .int .u64 o2, .int .u64 o3, .int .u64 o4, .int .u64 o5, .bool ka] 27 w10.heap.size rfl
          replace bel := below_alloc (o := .cells [.int .u64 n0, .int .u64 n1, .int .u64 n2, .int .u64 n3, .int .u64 n4, .int .u64 n5, .int .u64 o0, .int .u64 o1, .int .u64 o2, .int .u64 o3, .int .u64 o4, .int .u64 o5, .bool ka].toArray 27) bel
          have lwa : ∀ z, z < w10.heap.size → z ≠ w10.heap.size := fun z h => Nat.ne_of_lt h
          have ltq := Bq.lt
          have cq0 := Bq.cell 0 _ rfl
          have cq1 := Bq.cell 1 _ rfl
          have cq2 := Bq.cell 2 _ rfl
          have cq3 := Bq.cell 3 _ rfl
          have cq4 := Bq.cell 4 _ rfl
          have cq5 := Bq.cell 5 _ rfl
          have cq6 := Bq.cell 6 _ rfl
          have cq7 := Bq.cell 7 _ rfl
          have cq8 := Bq.cell 8 _ rfl
          have cq9 := Bq.cell 9 _ rfl
          have cq10 := Bq.cell 10 _ rfl
          have cq11 := Bq.cell 11 _ rfl
          have cq12 := Bq.cell 12 _ rfl
          go_wp2_with fail
          obtain ⟨ba, hba⟩ : ∃ b, b = w10.heap.size := ⟨_, rfl⟩
          clear lwa
          generalize w10.alloc (Obj.cells #[.int .u64 n0, .int .u64 n1, .int .u64 n2, .int .u64 n3, .int .u64 n4, .int .u64 n5, .int .u64 o0, .int .u64 o1, .int .u64 o2, .int .u64 o3, .int .u64 o4, .int .u64 o5, .bool ka] 27) = Wa at *
          rw [← hba] at Ba ⊢
          clear hba
          refine (con_Neg (G.below bel) Tq Oq).mono ?_
          rintro e w11 ⟨q0, q1, q2, q3, q4, q5, r0, r1, r2, r3, r4, r5, kb, rfl, Tb, hb⟩
          clear ltq cq0 cq1 cq2 cq3 cq4 cq5 cq6 cq7 cq8 cq9 cq10 cq11 cq12
          replace Bp := Bp.later hb
          replace Bq := Bq.later hb
          replace Bu := Bu.later hb
          replace Bv := Bv.later hb
          replace Bs := Bs.later hb
          replace Bw := Bw.later hb
          replace Ba := Ba.later hb
          replace bel := below_step bel hb
          clear hb
          replace Bp := Bp.alloc (.cells [.int .u64 q0, .int .u64 q1, .int .u64 q2, .int .u64 q3, .int .u64 q4, .int .u64 q5, .int .u64 r0, .int .u64 r1, .int .u64 r2, .int .u64 r3, .int .u64 r4, .int .u64 r5, .bool kb].toArray 27)
          replace Bq := Bq.alloc (.cells [.int .u64 q0, .int .u64 q1, .int .u64 q2, .int .u64 q3, .int .u64 q4, .int .u64 q5, .int .u64 r0, .int .u64 r1, .int .u64 r2, .int .u64 r3, .int .u64 r4, .int .u64 r5, .bool kb].toArray 27)
          replace Bu := Bu.alloc (.cells [.int .u64 q0, .int .u64 q1, .int .u64 q2, .int .u64 q3, .int .u64 q4, .int .u64 q5, .int .u64 r0, .int .u64 r1, .int .u64 r2, .int .u64 r3, .int .u64 r4, .int .u64 r5, .bool kb].toArray 27)
          replace Bv := Bv.alloc (.cells [.int .u64 q0, .int .u64 q1, .int .u64 q2, .int .u64 q3, .int .u64 q4, .int .u64 q5, .int .u64 r0, .int .u64 r1, .int .u64 r2, .int .u64 r3, .int .u64 r4, .int .u64 r5, .bool kb].toArray 27)
          replace Bs := Bs.alloc (.cells [.int .u64 q0, .int .u64 q1, .int .u64 q2, .int .u64 q3, .int .u64 q4, .int .u64 q5, .int .u64 r0, .int .u64 r1, .int .u64 r2, .int .u64 r3, .int .u64 r4, .int .u64 r5, .bool kb].toArray 27)
          replace Bw := Bw.alloc (.cells [.int .u64 q0, .int .u64 q1, .int .u64 q2, .int .u64 q3, .int .u64 q4, .int .u64 q5, .int .u64 r0, .int .u64 r1, .int .u64 r2, .int .u64 r3, .int .u64 r4, .int .u64 r5, .bool kb].toArray 27)
          replace Ba := Ba.alloc (.cells [.int .u64 q0, .int .u64 q1, .int .u64 q2, .int .u64 q3, .int .u64 q4, .int .u64 q5, .int .u64 r0, .int .u64 r1, .int .u64 r2, .int .u64 r3, .int .u64 r4, .int .u64 r5, .bool kb].toArray 27)
          have Bb := Blk.new w11 [.int .u64 q0, .int .u64 q1, .int .u64 q2, .int .u64 q3, .int .u64 q4, .int .u64 q5, .int .u64 r0, .int .u64 r1, .int .u64 r2, .int .u64 r3, .int .u64 r4, .int .u64 r5, .bool kb] 27 w11.heap.size rfl
          replace bel := below_alloc (o := .cells [.int .u64 q0, .int .u64 q1, .int .u64 q2, .int .u64 q3, .int .u64 q4, .int .u64 q5, .int .u64 r0, .int .u64 r1, .int .u64 r2, .int .u64 r3, .int .u64 r4, .int .u64 r5, .bool kb].toArray 27) bel
          have lwb : ∀ z, z < w11.heap.size → z ≠ w11.heap.size := fun z h => Nat.ne_of_lt h
          have ltu := Bu.lt
          have cu0 := Bu.cell 0 _ rfl
          have cu1 := Bu.cell 1 _ rfl
          have cu2 := Bu.cell 2 _ rfl
          have cu3 := Bu.cell 3 _ rfl
          have cu4 := Bu.cell 4 _ rfl
          have cu5 := Bu.cell 5 _ rfl
          have cu6 := Bu.cell 6 _ rfl
          have cu7 := Bu.cell 7 _ rfl
          have cu8 := Bu.cell 8 _ rfl
          have cu9 := Bu.cell 9 _ rfl
          have cu10 := Bu.cell 10 _ rfl
          have cu11 := Bu.cell 11 _ rfl
          have cu12 := Bu.cell 12 _ rfl
          go_wp2_with fail
          obtain ⟨bb, hbb⟩ : ∃ b, b = w11.heap.size := ⟨_, rfl⟩
          clear lwb
          generalize w11.alloc (Obj.cells #[.int .u64 q0, .int .u64 q1, .int .u64 q2, .int .u64 q3, .int .u64 q4, .int .u64 q5, .int .u64 r0, .int .u64 r1, .int .u64 r2, .int .u64 r3, .int .u64 r4, .int .u64 r5, .bool kb] 27) = Wb at *
          rw [← hbb] at Bb ⊢
          clear hbb
          as_aux_lemma =>
            refine (con_Neg (G.below bel) Tu (on_add Op Oq)).mono ?_
            rintro e w12 ⟨s0, s1, s2, s3, s4, s5, t0, t1, t2, t3, t4, t5, kc, rfl, Tc, hb⟩
            clear ltu cu0 cu1 cu2 cu3 cu4 cu5 cu6 cu7 cu8 cu9 cu10 cu11 cu12
            replace Bp := Bp.later hb
            replace Bq := Bq.later hb
            replace Bu := Bu.later hb
            replace Bv := Bv.later hb
            replace Bs := Bs.later hb
            replace Bw := Bw.later hb
            replace Ba := Ba.later hb
            replace Bb := Bb.later hb
            replace bel := below_step bel hb
            clear hb
            replace Bp := Bp.alloc (.cells [.int .u64 s0, .int .u64 s1, .int .u64 s2, .int .u64 s3, .int .u64 s4, .int .u64 s5, .int .u64 t0, .int .u64 t1, .int .u64 t2, .int .u64 t3, .int .u64 t4, .int .u64 t5, .bool kc].toArray 27)
            replace Bq := Bq.alloc (.cells [.int .u64 s0, .int .u64 s1, .int .u64 s2, .int .u64 s3, .int .u64 s4, .int .u64 s5, .int .u64 t0, .int .u64 t1, .int .u64 t2, .int .u64 t3, .int .u64 t4, .int .u64 t5, .bool kc].toArray 27)
            replace Bu := Bu.alloc (.cells [.int .u64 s0, .int .u64 s1, .int .u64 s2, .int .u64 s3, .int .u64 s4, .int .u64 s5, .int .u64 t0, .int .u64 t1, .int .u64 t2, .int .u64 t3, .int .u64 t4, .int .u64 t5, .bool kc].toArray 27)
            replace Bv := Bv.alloc (.cells [.int .u64 s0, .int .u64 s1, .int .u64 s2, .int .u64 s3, .int .u64 s4, .int .u64 s5, .int .u64 t0, .int .u64 t1, .int .u64 t2, .int .u64 t3, .int .u64 t4, .int .u64 t5, .bool kc].toArray 27)
            replace Bs := Bs.alloc (.cells [.int .u64 s0, .int .u64 s1, .int .u64 s2, .int .u64 s3, .int .u64 s4, .int .u64 s5, .int .u64 t0, .int .u64 t1, .int .u64 t2, .int .u64 t3, .int .u64 t4, .int .u64 t5, .bool kc].toArray 27)
            replace Bw := Bw.alloc (.cells [.int .u64 s0, .int .u64 s1, .int .u64 s2, .int .u64 s3, .int .u64 s4, .int .u64 s5, .int .u64 t0, .int .u64 t1, .int .u64 t2, .int .u64 t3, .int .u64 t4, .int .u64 t5, .bool kc].toArray 27)
            replace Ba := Ba.alloc (.cells [.int .u64 s0, .int .u64 s1, .int .u64 s2, .int .u64 s3, .int .u64 s4, .int .u64 s5, .int .u64 t0, .int .u64 t1, .int .u64 t2, .int .u64 t3, .int .u64 t4, .int .u64 t5, .bool kc].toArray 27)
            replace Bb := Bb.alloc (.cells [.int .u64 s0, .int .u64 s1, .int .u64 s2, .int .u64 s3, .int .u64 s4, .int .u64 s5, .int .u64 t0, .int .u64 t1, .int .u64 t2, .int .u64 t3, .int .u64 t4, .int .u64 t5, .bool kc].toArray 27)
            have Bc := Blk.new w12 [.int .u64 s0, .int .u64 s1, .int .u64 s2, .int .u64 s3, .int .u64 s4, .int .u64 s5, .int .u64 t0, .int .u64 t1, .int .u64 t2, .int .u64 t3, .int .u64 t4, .int .u64 t5, .bool kc] 27 w12.heap.size rfl
            replace bel := below_alloc (o := .cells [.int .u64 s0, .int .u64 s1, .int .u64 s2, .int .u64 s3, .int .u64 s4, .int .u64 s5, .int .u64 t0, .int .u64 t1, .int .u64 t2, .int .u64 t3, .int .u64 t4, .int .u64 t5, .bool kc].toArray 27) bel
            have lwc : ∀ z, z < w12.heap.size → z ≠ w12.heap.size := fun z h => Nat.ne_of_lt h
            have lta := Ba.lt
            have ca0 := Ba.cell 0 _ rfl
            have ca1 := Ba.cell 1 _ rfl
            have ca2 := Ba.cell 2 _ rfl
            have ca3 := Ba.cell 3 _ rfl
            have ca4 := Ba.cell 4 _ rfl
            have ca5 := Ba.cell 5 _ rfl
            have ca6 := Ba.cell 6 _ rfl
            have ca7 := Ba.cell 7 _ rfl
            have ca8 := Ba.cell 8 _ rfl
            have ca9 := Ba.cell 9 _ rfl
            have ca10 := Ba.cell 10 _ rfl
            have ca11 := Ba.cell 11 _ rfl
            have ca12 := Ba.cell 12 _ rfl
            have ltb := Bb.lt
            have cb0 := Bb.cell 0 _ rfl
            have cb1 := Bb.cell 1 _ rfl
            have cb2 := Bb.cell 2 _ rfl
            have cb3 := Bb.cell 3 _ rfl
            have cb4 := Bb.cell 4 _ rfl
            have cb5 := Bb.cell 5 _ rfl
            have cb6 := Bb.cell 6 _ rfl
            have cb7 := Bb.cell 7 _ rfl
            have cb8 := Bb.cell 8 _ rfl
            have cb9 := Bb.cell 9 _ rfl
            have cb10 := Bb.cell 10 _ rfl
            have cb11 := Bb.cell 11 _ rfl
            have cb12 := Bb.cell 12 _ rfl
            go_wp2_with fail
            obtain ⟨bc, hbc⟩ : ∃ b, b = w12.heap.size := ⟨_, rfl⟩
            clear lwc
            generalize w12.alloc (Obj.cells #[.int .u64 s0, .int .u64 s1, .int .u64 s2, .int .u64 s3, .int .u64 s4, .int .u64 s5, .int .u64 t0, .int .u64 t1, .int .u64 t2, .int .u64 t3, .int .u64 t4, .int .u64 t5, .bool kc] 27) = Wc at *
            rw [← hbc] at Bc ⊢
            clear hbc
            refine (con_Add (G.below bel) Ta Tb (on_neg Op) (on_neg Oq)).mono ?_
            rintro e w13 ⟨p0, p1, p2, p3, p4, p5, v0, v1, v2, v3, v4, v5, kd, rfl, Td, hb⟩
            clear lta ca0 ca1 ca2 ca3 ca4 ca5 ca6 ca7 ca8 ca9 ca10 ca11 ca12 ltb cb0 cb1 cb2 cb3 cb4 cb5 cb6 cb7 cb8 cb9 cb10 cb11 cb12
            replace Bp := Bp.later hb
            replace Bq := Bq.later hb
            replace Bu := Bu.later hb
            replace Bv := Bv.later hb
            replace Bs := Bs.later hb
            replace Bw := Bw.later hb
            replace Ba := Ba.later hb
            replace Bb := Bb.later hb
            replace Bc := Bc.later hb
            replace bel := below_step bel hb
            clear hb
            rw [← neg_add Op Oq] at Td
            obtain ⟨e1, e2, rfl⟩ := told_one Tc Td rfl rfl rfl rfl; simp only [List.cons.injEq, and_true] at e1 e2; obtain ⟨rfl, rfl, rfl, rfl, rfl, rfl⟩ := e1; obtain ⟨rfl, rfl, rfl, rfl, rfl, rfl⟩ := e2
            clear Td
            clear Bq Ba
            replace Bp := Bp.alloc (.cells [.int .u64 s0, .int .u64 s1, .int .u64 s2, .int .u64 s3, .int .u64 s4, .int .u64 s5, .int .u64 t0, .int .u64 t1, .int .u64 t2, .int .u64 t3, .int .u64 t4, .int .u64 t5, .bool kc].toArray 27)
            replace Bu := Bu.alloc (.cells [.int .u64 s0, .int .u64 s1, .int .u64 s2, .int .u64 s3, .int .u64 s4, .int .u64 s5, .int .u64 t0, .int .u64 t1, .int .u64 t2, .int .u64 t3, .int .u64 t4, .int .u64 t5, .bool kc].toArray 27)
            replace Bv := Bv.alloc (.cells [.int .u64 s0, .int .u64 s1, .int .u64 s2, .int .u64 s3, .int .u64 s4, .int .u64 s5, .int .u64 t0, .int .u64 t1, .int .u64 t2, .int .u64 t3, .int .u64 t4, .int .u64 t5, .bool kc].toArray 27)
            replace Bs := Bs.alloc (.cells [.int .u64 s0, .int .u64 s1, .int .u64 s2, .int .u64 s3, .int .u64 s4, .int .u64 s5, .int .u64 t0, .int .u64 t1, .int .u64 t2, .int .u64 t3, .int .u64 t4, .int .u64 t5, .bool kc].toArray 27)
            replace Bw := Bw.alloc (.cells [.int .u64 s0, .int .u64 s1, .int .u64 s2, .int .u64 s3, .int .u64 s4, .int .u64 s5, .int .u64 t0, .int .u64 t1, .int .u64 t2, .int .u64 t3, .int .u64 t4, .int .u64 t5, .bool kc].toArray 27)
            replace Bb := Bb.alloc (.cells [.int .u64 s0, .int .u64 s1, .int .u64 s2, .int .u64 s3, .int .u64 s4, .int .u64 s5, .int .u64 t0, .int .u64 t1, .int .u64 t2, .int .u64 t3, .int .u64 t4, .int .u64 t5, .bool kc].toArray 27)
            replace Bc := Bc.alloc (.cells [.int .u64 s0, .int .u64 s1, .int .u64 s2, .int .u64 s3, .int .u64 s4, .int .u64 s5, .int .u64 t0, .int .u64 t1, .int .u64 t2, .int .u64 t3, .int .u64 t4, .int .u64 t5, .bool kc].toArray 27)
            have Bd := Blk.new w13 [.int .u64 s0, .int .u64 s1, .int .u64 s2, .int .u64 s3, .int .u64 s4, .int .u64 s5, .int .u64 t0, .int .u64 t1, .int .u64 t2, .int .u64 t3, .int .u64 t4, .int .u64 t5, .bool kc] 27 w13.heap.size rfl
            replace bel := below_alloc (o := .cells [.int .u64 s0, .int .u64 s1, .int .u64 s2, .int .u64 s3, .int .u64 s4, .int .u64 s5, .int .u64 t0, .int .u64 t1, .int .u64 t2, .int .u64 t3, .int .u64 t4, .int .u64 t5, .bool kc].toArray 27) bel
            have lwd : ∀ z, z < w13.heap.size → z ≠ w13.heap.size := fun z h => Nat.ne_of_lt h
            have ltu := Bu.lt
            have cu0 := Bu.cell 0 _ rfl
            have cu1 := Bu.cell 1 _ rfl
            have cu2 := Bu.cell 2 _ rfl
            have cu3 := Bu.cell 3 _ rfl
            have cu4 := Bu.cell 4 _ rfl
            have cu5 := Bu.cell 5 _ rfl
            have cu6 := Bu.cell 6 _ rfl
            have cu7 := Bu.cell 7 _ rfl
            have cu8 := Bu.cell 8 _ rfl
            have cu9 := Bu.cell 9 _ rfl
            have cu10 := Bu.cell 10 _ rfl
            have cu11 := Bu.cell 11 _ rfl
            have cu12 := Bu.cell 12 _ rfl
            have ltb := Bb.lt
            have cb0 := Bb.cell 0 _ rfl
            have cb1 := Bb.cell 1 _ rfl
            have cb2 := Bb.cell 2 _ rfl
            have cb3 := Bb.cell 3 _ rfl
            have cb4 := Bb.cell 4 _ rfl
            have cb5 := Bb.cell 5 _ rfl
            have cb6 := Bb.cell 6 _ rfl
            have cb7 := Bb.cell 7 _ rfl
            have cb8 := Bb.cell 8 _ rfl
            have cb9 := Bb.cell 9 _ rfl
            have cb10 := Bb.cell 10 _ rfl
            have cb11 := Bb.cell 11 _ rfl
            have cb12 := Bb.cell 12 _ rfl
            go_wp2_with fail
            obtain ⟨bd, hbd⟩ : ∃ b, b = w13.heap.size := ⟨_, rfl⟩
            clear lwd
            generalize w13.alloc (Obj.cells #[.int .u64 s0, .int .u64 s1, .int .u64 s2, .int .u64 s3, .int .u64 s4, .int .u64 s5, .int .u64 t0, .int .u64 t1, .int .u64 t2, .int .u64 t3, .int .u64 t4, .int .u64 t5, .bool kc] 27) = Wd at *
            rw [← hbd] at Bd ⊢
            clear hbd
            as_aux_lemma =>
              refine (con_Add (G.below bel) Tu Tb (on_add Op Oq) (on_neg Oq)).mono ?_
              rintro e w14 ⟨p0, p1, p2, p3, p4, p5, v0, v1, v2, v3, v4, v5, ke, rfl, Te, hb⟩
              clear ltu cu0 cu1 cu2 cu3 cu4 cu5 cu6 cu7 cu8 cu9 cu10 cu11 cu12 ltb cb0 cb1 cb2 cb3 cb4 cb5 cb6 cb7 cb8 cb9 cb10 cb11 cb12
              replace Bp := Bp.later hb
              replace Bu := Bu.later hb
              replace Bv := Bv.later hb
              replace Bs := Bs.later hb
              replace Bw := Bw.later hb
              replace Bb := Bb.later hb
              replace Bc := Bc.later hb
              replace Bd := Bd.later hb
              replace bel := below_step bel hb
              clear hb
              rw [cancel Op Oq] at Te
              obtain ⟨e1, e2, rfl⟩ := told_one Tp Te rfl rfl rfl rfl; simp only [List.cons.injEq, and_true] at e1 e2; obtain ⟨rfl, rfl, rfl, rfl, rfl, rfl⟩ := e1; obtain ⟨rfl, rfl, rfl, rfl, rfl, rfl⟩ := e2
              clear Te
              clear Bb
              have q1 := iface_nilC
              have q2 := eql_pt_same g0 g1 g2 g3 g4 g5 h0 h1 h2 h3 h4 h5 ku
              have q3 := eql_pt_same i0 i1 i2 i3 i4 i5 j0 j1 j2 j3 j4 j5 ks
              have q4 := eql_pt_same s0 s1 s2 s3 s4 s5 t0 t1 t2 t3 t4 t5 kc
              have q5 := eql_pt_same a0 a1 a2 a3 a4 a5 b0 b1 b2 b3 b4 b5 kp
              have HO : Hid _ := on_told Ts (on_add (on_add Op Oq) Or)
              replace Bp := Bp.alloc (.cells [.int .u64 a0, .int .u64 a1, .int .u64 a2, .int .u64 a3, .int .u64 a4, .int .u64 a5, .int .u64 b0, .int .u64 b1, .int .u64 b2, .int .u64 b3, .int .u64 b4, .int .u64 b5, .bool kp].toArray 27)
              replace Bu := Bu.alloc (.cells [.int .u64 a0, .int .u64 a1, .int .u64 a2, .int .u64 a3, .int .u64 a4, .int .u64 a5, .int .u64 b0, .int .u64 b1, .int .u64 b2, .int .u64 b3, .int .u64 b4, .int .u64 b5, .bool kp].toArray 27)
              replace Bv := Bv.alloc (.cells [.int .u64 a0, .int .u64 a1, .int .u64 a2, .int .u64 a3, .int .u64 a4, .int .u64 a5, .int .u64 b0, .int .u64 b1, .int .u64 b2, .int .u64 b3, .int .u64 b4, .int .u64 b5, .bool kp].toArray 27)
              replace Bs := Bs.alloc (.cells [.int .u64 a0, .int .u64 a1, .int .u64 a2, .int .u64 a3, .int .u64 a4, .int .u64 a5, .int .u64 b0, .int .u64 b1, .int .u64 b2, .int .u64 b3, .int .u64 b4, .int .u64 b5, .bool kp].toArray 27)
              replace Bw := Bw.alloc (.cells [.int .u64 a0, .int .u64 a1, .int .u64 a2, .int .u64 a3, .int .u64 a4, .int .u64 a5, .int .u64 b0, .int .u64 b1, .int .u64 b2, .int .u64 b3, .int .u64 b4, .int .u64 b5, .bool kp].toArray 27)
              replace Bc := Bc.alloc (.cells [.int .u64 a0, .int .u64 a1, .int .u64 a2, .int .u64 a3, .int .u64 a4, .int .u64 a5, .int .u64 b0, .int .u64 b1, .int .u64 b2, .int .u64 b3, .int .u64 b4, .int .u64 b5, .bool kp].toArray 27)
              replace Bd := Bd.alloc (.cells [.int .u64 a0, .int .u64 a1, .int .u64 a2, .int .u64 a3, .int .u64 a4, .int .u64 a5, .int .u64 b0, .int .u64 b1, .int .u64 b2, .int .u64 b3, .int .u64 b4, .int .u64 b5, .bool kp].toArray 27)
              have Be := Blk.new w14 [.int .u64 a0, .int .u64 a1, .int .u64 a2, .int .u64 a3, .int .u64 a4, .int .u64 a5, .int .u64 b0, .int .u64 b1, .int .u64 b2, .int .u64 b3, .int .u64 b4, .int .u64 b5, .bool kp] 27 w14.heap.size rfl
              replace bel := below_alloc (o := .cells [.int .u64 a0, .int .u64 a1, .int .u64 a2, .int .u64 a3, .int .u64 a4, .int .u64 a5, .int .u64 b0, .int .u64 b1, .int .u64 b2, .int .u64 b3, .int .u64 b4, .int .u64 b5, .bool kp].toArray 27) bel
              have lwe : ∀ z, z < w14.heap.size → z ≠ w14.heap.size := fun z h => Nat.ne_of_lt h
              go_upto_region 16 with fail
              obtain ⟨be, hbe⟩ : ∃ b, b = w14.heap.size := ⟨_, rfl⟩
              clear lwe
              generalize w14.alloc (Obj.cells #[.int .u64 a0, .int .u64 a1, .int .u64 a2, .int .u64 a3, .int .u64 a4, .int .u64 a5, .int .u64 b0, .int .u64 b1, .int .u64 b2, .int .u64 b3, .int .u64 b4, .int .u64 b5, .bool kp] 27) = We at *
              rw [← hbe] at Be ⊢
              clear hbe
              have ltp := Bp.lt
              have cp0 := Bp.cell 0 _ rfl
              have cp1 := Bp.cell 1 _ rfl
              have cp2 := Bp.cell 2 _ rfl
              have cp3 := Bp.cell 3 _ rfl
              have cp4 := Bp.cell 4 _ rfl
              have cp5 := Bp.cell 5 _ rfl
              have cp6 := Bp.cell 6 _ rfl
              have cp7 := Bp.cell 7 _ rfl
              have cp8 := Bp.cell 8 _ rfl
              have cp9 := Bp.cell 9 _ rfl
              have cp10 := Bp.cell 10 _ rfl
              have cp11 := Bp.cell 11 _ rfl
              have cp12 := Bp.cell 12 _ rfl
              have ltu := Bu.lt
              have cu0 := Bu.cell 0 _ rfl
              have cu1 := Bu.cell 1 _ rfl
              have cu2 := Bu.cell 2 _ rfl
              have cu3 := Bu.cell 3 _ rfl
              have cu4 := Bu.cell 4 _ rfl
              have cu5 := Bu.cell 5 _ rfl
              have cu6 := Bu.cell 6 _ rfl
              have cu7 := Bu.cell 7 _ rfl
              have cu8 := Bu.cell 8 _ rfl
              have cu9 := Bu.cell 9 _ rfl
              have cu10 := Bu.cell 10 _ rfl
              have cu11 := Bu.cell 11 _ rfl
              have cu12 := Bu.cell 12 _ rfl
              have ltv := Bv.lt
              have cv0 := Bv.cell 0 _ rfl
              have cv1 := Bv.cell 1 _ rfl
              have cv2 := Bv.cell 2 _ rfl
              have cv3 := Bv.cell 3 _ rfl
              have cv4 := Bv.cell 4 _ rfl
              have cv5 := Bv.cell 5 _ rfl
              have cv6 := Bv.cell 6 _ rfl
              have cv7 := Bv.cell 7 _ rfl
              have cv8 := Bv.cell 8 _ rfl
              have cv9 := Bv.cell 9 _ rfl
              have cv10 := Bv.cell 10 _ rfl
              have cv11 := Bv.cell 11 _ rfl
              have cv12 := Bv.cell 12 _ rfl
              have lts := Bs.lt
              have cs0 := Bs.cell 0 _ rfl
              have cs1 := Bs.cell 1 _ rfl
              have cs2 := Bs.cell 2 _ rfl
              have cs3 := Bs.cell 3 _ rfl
              have cs4 := Bs.cell 4 _ rfl
              have cs5 := Bs.cell 5 _ rfl
              have cs6 := Bs.cell 6 _ rfl
              have cs7 := Bs.cell 7 _ rfl
              have cs8 := Bs.cell 8 _ rfl
              have cs9 := Bs.cell 9 _ rfl
              have cs10 := Bs.cell 10 _ rfl
              have cs11 := Bs.cell 11 _ rfl
              have cs12 := Bs.cell 12 _ rfl
              have ltw := Bw.lt
              have cw0 := Bw.cell 0 _ rfl
              have cw1 := Bw.cell 1 _ rfl
              have cw2 := Bw.cell 2 _ rfl
              have cw3 := Bw.cell 3 _ rfl
              have cw4 := Bw.cell 4 _ rfl
              have cw5 := Bw.cell 5 _ rfl
              have cw6 := Bw.cell 6 _ rfl
              have cw7 := Bw.cell 7 _ rfl
              have cw8 := Bw.cell 8 _ rfl
              have cw9 := Bw.cell 9 _ rfl
              have cw10 := Bw.cell 10 _ rfl
              have cw11 := Bw.cell 11 _ rfl
              have cw12 := Bw.cell 12 _ rfl
              have ltc := Bc.lt
              have cc0 := Bc.cell 0 _ rfl
              have cc1 := Bc.cell 1 _ rfl
              have cc2 := Bc.cell 2 _ rfl
              have cc3 := Bc.cell 3 _ rfl
              have cc4 := Bc.cell 4 _ rfl
              have cc5 := Bc.cell 5 _ rfl
              have cc6 := Bc.cell 6 _ rfl
              have cc7 := Bc.cell 7 _ rfl
              have cc8 := Bc.cell 8 _ rfl
              have cc9 := Bc.cell 9 _ rfl
              have cc10 := Bc.cell 10 _ rfl
              have cc11 := Bc.cell 11 _ rfl
              have cc12 := Bc.cell 12 _ rfl
              have ltd := Bd.lt
              have cd0 := Bd.cell 0 _ rfl
              have cd1 := Bd.cell 1 _ rfl
              have cd2 := Bd.cell 2 _ rfl
              have cd3 := Bd.cell 3 _ rfl
              have cd4 := Bd.cell 4 _ rfl
              have cd5 := Bd.cell 5 _ rfl
              have cd6 := Bd.cell 6 _ rfl
              have cd7 := Bd.cell 7 _ rfl
              have cd8 := Bd.cell 8 _ rfl
              have cd9 := Bd.cell 9 _ rfl
              have cd10 := Bd.cell 10 _ rfl
              have cd11 := Bd.cell 11 _ rfl
              have cd12 := Bd.cell 12 _ rfl
              have lte := Be.lt
              have ce0 := Be.cell 0 _ rfl
              have ce1 := Be.cell 1 _ rfl
              have ce2 := Be.cell 2 _ rfl
              have ce3 := Be.cell 3 _ rfl
              have ce4 := Be.cell 4 _ rfl
              have ce5 := Be.cell 5 _ rfl
              have ce6 := Be.cell 6 _ rfl
              have ce7 := Be.cell 7 _ rfl
              have ce8 := Be.cell 8 _ rfl
              have ce9 := Be.cell 9 _ rfl
              have ce10 := Be.cell 10 _ rfl
              have ce11 := Be.cell 11 _ rfl
              have ce12 := Be.cell 12 _ rfl
              go_wp2_with fail
              refine (con_On (b := true) (G.below bel) Ts.fA Ts.fB ⟨fun _ => HO.out, fun _ => rfl⟩).mono ?_
              rintro e w15 ⟨rfl, hb⟩
              clear ltp cp0 cp1 cp2 cp3 cp4 cp5 cp6 cp7 cp8 cp9 cp10 cp11 cp12 ltu cu0 cu1 cu2 cu3 cu4 cu5 cu6 cu7 cu8 cu9 cu10 cu11 cu12 ltv cv0 cv1 cv2 cv3 cv4 cv5 cv6 cv7 cv8 cv9 cv10 cv11 cv12 lts cs0 cs1 cs2 cs3 cs4 cs5 cs6 cs7 cs8 cs9 cs10 cs11 cs12 ltw cw0 cw1 cw2 cw3 cw4 cw5 cw6 cw7 cw8 cw9 cw10 cw11 cw12 ltc cc0 cc1 cc2 cc3 cc4 cc5 cc6 cc7 cc8 cc9 cc10 cc11 cc12 ltd cd0 cd1 cd2 cd3 cd4 cd5 cd6 cd7 cd8 cd9 cd10 cd11 cd12 lte ce0 ce1 ce2 ce3 ce4 ce5 ce6 ce7 ce8 ce9 ce10 ce11 ce12
              replace Bp := Bp.later hb
              replace Bu := Bu.later hb
              replace Bv := Bv.later hb
              replace Bs := Bs.later hb
              replace Bw := Bw.later hb
              replace Bc := Bc.later hb
              replace Bd := Bd.later hb
              replace Be := Be.later hb
              replace bel := below_step bel hb
              clear hb
              go_wp2_with fail
              go_ret
              exact ⟨rfl, bel⟩

end Go.Proofs.YtpgidlnpcjbfhabDoor
