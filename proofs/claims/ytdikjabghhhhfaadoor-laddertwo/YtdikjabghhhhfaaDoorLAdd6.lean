/- ladder.infinity and ladder.add. -/
import Derived.Test.YtdikjabghhhhfaaDoorRows
import Derived.Test.YtdikjabghhhhfaaDoorLPk
import Derived.Deep.WholeRow
import Derived.Deep.RegionHeld3
import Derived.Deep.DeepCutAuto
import Derived.Deep.DeepFit
namespace Go.Proofs.YtdikjabghhhhfaaDoor
open Go.RowKit

set_option maxRecDepth 100000 in
theorem con_inf {w : World} :
    Calls Tryd.prog 42 #[] w fun e w' => e = .returned (.agg #[.int .u64 0, .int .u64 0, .int .u64 0, .int .u64 0, .int .u64 0, .int .u64 0, .int .u64 0, .int .u64 0, .int .u64 0, .int .u64 0, .int .u64 0, .int .u64 0, .bool true]) ∧ Below w.heap.size w w' := by
  go_enter Tryd.func42, Tryd.ntmps42
  go_wp2
  exact bodyPost_ret (v := .agg #[.int .u64 0, .int .u64 0, .int .u64 0, .int .u64 0, .int .u64 0, .int .u64 0, .int .u64 0, .int .u64 0, .int .u64 0, .int .u64 0, .int .u64 0, .int .u64 0, .bool true]) (by simp [results, Tryd.results42, go_sem]) rfl ⟨rfl, (Below.refl _ _).alloc (Nat.le_refl _) _⟩

set_option maxRecDepth 100000 in
set_option maxHeartbeats 4000000 in
theorem con_add6 {x0 x1 x2 x3 x4 x5 y0 y1 y2 y3 y4 y5 p0 p1 p2 p3 p4 p5 q0 q1 q2 q3 q4 q5 : Int} {n m : Bool} {P Q : Pt} {w : World} (G : GlsC w) (t : Told P [x0, x1, x2, x3, x4, x5] [y0, y1, y2, y3, y4, y5] n) (u : Told Q [p0, p1, p2, p3, p4, p5] [q0, q1, q2, q3, q4, q5] m) (hP : OnC P) (hQ : OnC Q) :
    Calls Tryd.prog 41 #[.agg #[.int .u64 x0, .int .u64 x1, .int .u64 x2, .int .u64 x3, .int .u64 x4, .int .u64 x5, .int .u64 y0, .int .u64 y1, .int .u64 y2, .int .u64 y3, .int .u64 y4, .int .u64 y5, .bool n], .agg #[.int .u64 p0, .int .u64 p1, .int .u64 p2, .int .u64 p3, .int .u64 p4, .int .u64 p5, .int .u64 q0, .int .u64 q1, .int .u64 q2, .int .u64 q3, .int .u64 q4, .int .u64 q5, .bool m]] w fun e w' => ∃ (s0 s1 s2 s3 s4 s5 t0 t1 t2 t3 t4 t5 : Int) (k : Bool), e = .returned (.agg #[.int .u64 s0, .int .u64 s1, .int .u64 s2, .int .u64 s3, .int .u64 s4, .int .u64 s5, .int .u64 t0, .int .u64 t1, .int .u64 t2, .int .u64 t3, .int .u64 t4, .int .u64 t5, .bool k]) ∧ Told (cadd P Q) [s0, s1, s2, s3, s4, s5] [t0, t1, t2, t3, t4, t5] k ∧ Below w.heap.size w w' := by
  have B0 := ((Blk.new w [.int .u64 x0, .int .u64 x1, .int .u64 x2, .int .u64 x3, .int .u64 x4, .int .u64 x5, .int .u64 y0, .int .u64 y1, .int .u64 y2, .int .u64 y3, .int .u64 y4, .int .u64 y5, .bool n] 26 (w.heap.size) rfl).alloc (.cells [.int .u64 p0, .int .u64 p1, .int .u64 p2, .int .u64 p3, .int .u64 p4, .int .u64 p5, .int .u64 q0, .int .u64 q1, .int .u64 q2, .int .u64 q3, .int .u64 q4, .int .u64 q5, .bool m].toArray 26)).alloc (.cells [.int .u64 0, .int .u64 0, .int .u64 0, .int .u64 0, .int .u64 0, .int .u64 0, .int .u64 0, .int .u64 0, .int .u64 0, .int .u64 0, .int .u64 0, .int .u64 0, .bool false].toArray 26)
  have B1 := (Blk.new (w.alloc (.cells [.int .u64 x0, .int .u64 x1, .int .u64 x2, .int .u64 x3, .int .u64 x4, .int .u64 x5, .int .u64 y0, .int .u64 y1, .int .u64 y2, .int .u64 y3, .int .u64 y4, .int .u64 y5, .bool n].toArray 26)) [.int .u64 p0, .int .u64 p1, .int .u64 p2, .int .u64 p3, .int .u64 p4, .int .u64 p5, .int .u64 q0, .int .u64 q1, .int .u64 q2, .int .u64 q3, .int .u64 q4, .int .u64 q5, .bool m] 26 (w.heap.size + 1) (by simp)).alloc (.cells [.int .u64 0, .int .u64 0, .int .u64 0, .int .u64 0, .int .u64 0, .int .u64 0, .int .u64 0, .int .u64 0, .int .u64 0, .int .u64 0, .int .u64 0, .int .u64 0, .bool false].toArray 26)
  have B2 := Blk.new ((w.alloc (.cells [.int .u64 x0, .int .u64 x1, .int .u64 x2, .int .u64 x3, .int .u64 x4, .int .u64 x5, .int .u64 y0, .int .u64 y1, .int .u64 y2, .int .u64 y3, .int .u64 y4, .int .u64 y5, .bool n].toArray 26)).alloc (.cells [.int .u64 p0, .int .u64 p1, .int .u64 p2, .int .u64 p3, .int .u64 p4, .int .u64 p5, .int .u64 q0, .int .u64 q1, .int .u64 q2, .int .u64 q3, .int .u64 q4, .int .u64 q5, .bool m].toArray 26)) [.int .u64 0, .int .u64 0, .int .u64 0, .int .u64 0, .int .u64 0, .int .u64 0, .int .u64 0, .int .u64 0, .int .u64 0, .int .u64 0, .int .u64 0, .int .u64 0, .bool false] 26 (w.heap.size + 1 + 1) (by simp)
  have bel : Below w.heap.size w (((w.alloc (.cells [.int .u64 x0, .int .u64 x1, .int .u64 x2, .int .u64 x3, .int .u64 x4, .int .u64 x5, .int .u64 y0, .int .u64 y1, .int .u64 y2, .int .u64 y3, .int .u64 y4, .int .u64 y5, .bool n].toArray 26)).alloc (.cells [.int .u64 p0, .int .u64 p1, .int .u64 p2, .int .u64 p3, .int .u64 p4, .int .u64 p5, .int .u64 q0, .int .u64 q1, .int .u64 q2, .int .u64 q3, .int .u64 q4, .int .u64 q5, .bool m].toArray 26)).alloc (.cells [.int .u64 0, .int .u64 0, .int .u64 0, .int .u64 0, .int .u64 0, .int .u64 0, .int .u64 0, .int .u64 0, .int .u64 0, .int .u64 0, .int .u64 0, .int .u64 0, .bool false].toArray 26)) := ((((Below.refl _ _).alloc (Nat.le_refl _) _).alloc (by simp) _).alloc (by simp; omega) _)
  go_enter Tryd.func41, Tryd.ntmps41
  go_upto_region 1 with fail
  try simp only [us, List.map_cons, List.map_nil] at bel
  generalize (((w.alloc (Obj.cells #[.int .u64 x0, .int .u64 x1, .int .u64 x2, .int .u64 x3, .int .u64 x4, .int .u64 x5, .int .u64 y0, .int .u64 y1, .int .u64 y2, .int .u64 y3, .int .u64 y4, .int .u64 y5, .bool n] 26)).alloc (Obj.cells #[.int .u64 p0, .int .u64 p1, .int .u64 p2, .int .u64 p3, .int .u64 p4, .int .u64 p5, .int .u64 q0, .int .u64 q1, .int .u64 q2, .int .u64 q3, .int .u64 q4, .int .u64 q5, .bool m] 26)).alloc (Obj.cells #[.int .u64 0, .int .u64 0, .int .u64 0, .int .u64 0, .int .u64 0, .int .u64 0, .int .u64 0, .int .u64 0, .int .u64 0, .int .u64 0, .int .u64 0, .int .u64 0, .bool false] 26)) = W at *
  have Bp := B0
  have Bq := B1
  have Br := B2
  clear B0 B1 B2
  have ltp := Bp.lt
  have cp0 := Bp.cell 0 _ rfl
  have cp1 := Bp.cell 1 _ rfl
  have cp2 := Bp.cell 2 _ rfl
  have cp3 := Bp.cell 3 _ rfl
  have cp4 := Bp.cell 4 _ rfl
  have cp5 := Bp.cell 5 _ rfl
  have cp6 := Bp.cell 6 _ rfl
  have cp7 := Bp.cell 7 _ rfl
  have cp8 := Bp.cell 8 _ rfl
  have cp9 := Bp.cell 9 _ rfl
  have cp10 := Bp.cell 10 _ rfl
  have cp11 := Bp.cell 11 _ rfl
  have cp12 := Bp.cell 12 _ rfl
  have ltq := Bq.lt
  have cq0 := Bq.cell 0 _ rfl
  have cq1 := Bq.cell 1 _ rfl
  have cq2 := Bq.cell 2 _ rfl
  have cq3 := Bq.cell 3 _ rfl
  have cq4 := Bq.cell 4 _ rfl
  have cq5 := Bq.cell 5 _ rfl
  have cq6 := Bq.cell 6 _ rfl
  have cq7 := Bq.cell 7 _ rfl
  have cq8 := Bq.cell 8 _ rfl
  have cq9 := Bq.cell 9 _ rfl
  have cq10 := Bq.cell 10 _ rfl
  have cq11 := Bq.cell 11 _ rfl
  have cq12 := Bq.cell 12 _ rfl
  go_wp2_with fail
  refine (con_Add (G.below bel) t u hP hQ).mono ?_
  rintro e w1 ⟨s0, s1, s2, s3, s4, s5, t0, t1, t2, t3, t4, t5, kk, rfl, TS, hb⟩
  clear ltp cp0 cp1 cp2 cp3 cp4 cp5 cp6 cp7 cp8 cp9 cp10 cp11 cp12 ltq cq0 cq1 cq2 cq3 cq4 cq5 cq6 cq7 cq8 cq9 cq10 cq11 cq12
  replace Bp := Bp.later hb
  replace Bq := Bq.later hb
  replace Br := Br.later hb
  replace bel := below_step bel hb
  clear hb
  have ltr0 := Br.lt
  replace Bp := Bp.alloc (.cells [.int .u64 s0, .int .u64 s1, .int .u64 s2, .int .u64 s3, .int .u64 s4, .int .u64 s5, .int .u64 t0, .int .u64 t1, .int .u64 t2, .int .u64 t3, .int .u64 t4, .int .u64 t5, .bool kk].toArray 26)
  replace Bq := Bq.alloc (.cells [.int .u64 s0, .int .u64 s1, .int .u64 s2, .int .u64 s3, .int .u64 s4, .int .u64 s5, .int .u64 t0, .int .u64 t1, .int .u64 t2, .int .u64 t3, .int .u64 t4, .int .u64 t5, .bool kk].toArray 26)
  replace Br := Br.alloc (.cells [.int .u64 s0, .int .u64 s1, .int .u64 s2, .int .u64 s3, .int .u64 s4, .int .u64 s5, .int .u64 t0, .int .u64 t1, .int .u64 t2, .int .u64 t3, .int .u64 t4, .int .u64 t5, .bool kk].toArray 26)
  have Bs := Blk.new w1 [.int .u64 s0, .int .u64 s1, .int .u64 s2, .int .u64 s3, .int .u64 s4, .int .u64 s5, .int .u64 t0, .int .u64 t1, .int .u64 t2, .int .u64 t3, .int .u64 t4, .int .u64 t5, .bool kk] 26 w1.heap.size rfl
  replace bel := below_alloc (o := .cells [.int .u64 s0, .int .u64 s1, .int .u64 s2, .int .u64 s3, .int .u64 s4, .int .u64 s5, .int .u64 t0, .int .u64 t1, .int .u64 t2, .int .u64 t3, .int .u64 t4, .int .u64 t5, .bool kk].toArray 26) bel
  have lws : ∀ z, z < w1.heap.size → z ≠ w1.heap.size := fun z h => Nat.ne_of_lt h
  go_upto_region 2 with fail
  obtain ⟨bs, hbs⟩ : ∃ b, b = w1.heap.size := ⟨_, rfl⟩
  clear lws
  generalize w1.alloc (Obj.cells #[.int .u64 s0, .int .u64 s1, .int .u64 s2, .int .u64 s3, .int .u64 s4, .int .u64 s5, .int .u64 t0, .int .u64 t1, .int .u64 t2, .int .u64 t3, .int .u64 t4, .int .u64 t5, .bool kk] 26) = Ws at *
  rw [← hbs] at Bs ltr0 ⊢
  clear hbs
  have lts := Bs.lt
  have cs0 := Bs.cell 0 _ rfl
  have cs1 := Bs.cell 1 _ rfl
  have cs2 := Bs.cell 2 _ rfl
  have cs3 := Bs.cell 3 _ rfl
  have cs4 := Bs.cell 4 _ rfl
  have cs5 := Bs.cell 5 _ rfl
  have cs6 := Bs.cell 6 _ rfl
  have cs7 := Bs.cell 7 _ rfl
  have cs8 := Bs.cell 8 _ rfl
  have cs9 := Bs.cell 9 _ rfl
  have cs10 := Bs.cell 10 _ rfl
  have cs11 := Bs.cell 11 _ rfl
  have cs12 := Bs.cell 12 _ rfl
  have ltr := Br.lt
  have d0 := Br.cell 0 _ rfl; have g0 := Br.frozen 0; have d1 := Br.cell 1 _ rfl; have g1 := Br.frozen 1; have d2 := Br.cell 2 _ rfl; have g2 := Br.frozen 2; have d3 := Br.cell 3 _ rfl; have g3 := Br.frozen 3; have d4 := Br.cell 4 _ rfl; have g4 := Br.frozen 4; have d5 := Br.cell 5 _ rfl; have g5 := Br.frozen 5; have d6 := Br.cell 6 _ rfl; have g6 := Br.frozen 6; have d7 := Br.cell 7 _ rfl; have g7 := Br.frozen 7; have d8 := Br.cell 8 _ rfl; have g8 := Br.frozen 8; have d9 := Br.cell 9 _ rfl; have g9 := Br.frozen 9; have d10 := Br.cell 10 _ rfl; have g10 := Br.frozen 10; have d11 := Br.cell 11 _ rfl; have g11 := Br.frozen 11; have d12 := Br.cell 12 _ rfl; have g12 := Br.frozen 12
  go_wp2_with fail
  exact bodyPost_ret (v := .agg #[.int .u64 s0, .int .u64 s1, .int .u64 s2, .int .u64 s3, .int .u64 s4, .int .u64 s5, .int .u64 t0, .int .u64 t1, .int .u64 t2, .int .u64 t3, .int .u64 t4, .int .u64 t5, .bool kk]) (by simp [results, Tryd.results41, go_sem, d0, d1, d2, d3, d4, d5, d6, d7, d8, d9, d10, d11, d12]) rfl ⟨s0, s1, s2, s3, s4, s5, t0, t1, t2, t3, t4, t5, kk, rfl, TS, below_put13 bel (by omega)⟩

end Go.Proofs.YtdikjabghhhhfaaDoor
