/- curve.pick: one of two points. -/
import Derived.Test.YtpgidlnpcjbfhabDoorRows
import Derived.Test.YtpgidlnpcjbfhabDoorCHeld
import Derived.Deep.WholeRow
import Derived.Deep.RegionHeld3
import Derived.Deep.DeepCutAuto
import Derived.Deep.DeepFit
namespace Go.Proofs.YtpgidlnpcjbfhabDoor
open Go.RowKit

/-- the first, or the second where c is 1 -/
def pkN (c : Int) (A B : List Int) : List Int := if c = 1 then B else A

/-- limb.Pick, as letters -/
theorem pick_let {x0 x1 x2 x3 x4 x5 y0 y1 y2 y3 y4 y5 n : Int} {w : World} (h01 : n = 0 ∨ n = 1) (fX : fits [x0, x1, x2, x3, x4, x5]) (fY : fits [y0, y1, y2, y3, y4, y5]) :
    Calls Tryd.prog 39 #[.int .u64 n, .agg #[.int .u64 x0, .int .u64 x1, .int .u64 x2, .int .u64 x3, .int .u64 x4, .int .u64 x5], .agg #[.int .u64 y0, .int .u64 y1, .int .u64 y2, .int .u64 y3, .int .u64 y4, .int .u64 y5]] w fun e w' => ∃ z0 z1 z2 z3 z4 z5 : Int, e = .returned (.agg #[.int .u64 z0, .int .u64 z1, .int .u64 z2, .int .u64 z3, .int .u64 z4, .int .u64 z5]) ∧ fits [z0, z1, z2, z3, z4, z5] ∧ [z0, z1, z2, z3, z4, z5] = pkN n [x0, x1, x2, x3, x4, x5] [y0, y1, y2, y3, y4, y5] ∧ Below w.heap.size w w' := by
  rcases h01 with rfl | rfl
  · refine (pick_num0 fX fY).mono ?_
    rintro e w' ⟨rfl, hb⟩
    exact ⟨x0, x1, x2, x3, x4, x5, rfl, fX, rfl, hb⟩
  · refine (pick_num1 fX fY).mono ?_
    rintro e w' ⟨rfl, hb⟩
    exact ⟨y0, y1, y2, y3, y4, y5, rfl, fY, rfl, hb⟩

/-- the bool tells whether both are 0 -/
def Noo (A B : List Int) : Bool := decide (A = [0, 0, 0, 0, 0, 0] ∧ B = [0, 0, 0, 0, 0, 0])
theorem noo_iff (A B : List Int) : Noo A B = true ↔ A = [0, 0, 0, 0, 0, 0] ∧ B = [0, 0, 0, 0, 0, 0] := by unfold Noo; exact decide_eq_true_iff

/-- an answer: limbs that tell a point's coordinates, with its bool -/
def Pts (e : Ending) (R : List Int → List Int → Prop) : Prop := ∃ s0 s1 s2 s3 s4 s5 t0 t1 t2 t3 t4 t5 : Int, e = .returned (.agg #[.int .u64 s0, .int .u64 s1, .int .u64 s2, .int .u64 s3, .int .u64 s4, .int .u64 s5, .int .u64 t0, .int .u64 t1, .int .u64 t2, .int .u64 t3, .int .u64 t4, .int .u64 t5, .bool (Noo [s0, s1, s2, s3, s4, s5] [t0, t1, t2, t3, t4, t5])]) ∧ fits [s0, s1, s2, s3, s4, s5] ∧ fits [t0, t1, t2, t3, t4, t5] ∧ R [s0, s1, s2, s3, s4, s5] [t0, t1, t2, t3, t4, t5]

set_option maxRecDepth 100000 in
set_option maxHeartbeats 4000000 in
theorem con_pick {x0 x1 x2 x3 x4 x5 y0 y1 y2 y3 y4 y5 p0 p1 p2 p3 p4 p5 q0 q1 q2 q3 q4 q5 c : Int} {n m : Bool} {w : World} (h01 : c = 0 ∨ c = 1) (fX : fits [x0, x1, x2, x3, x4, x5]) (fY : fits [y0, y1, y2, y3, y4, y5]) (fP : fits [p0, p1, p2, p3, p4, p5]) (fQ : fits [q0, q1, q2, q3, q4, q5]) :
    Calls Tryd.prog 25 #[.int .u64 c, .agg #[.int .u64 x0, .int .u64 x1, .int .u64 x2, .int .u64 x3, .int .u64 x4, .int .u64 x5, .int .u64 y0, .int .u64 y1, .int .u64 y2, .int .u64 y3, .int .u64 y4, .int .u64 y5, .bool n], .agg #[.int .u64 p0, .int .u64 p1, .int .u64 p2, .int .u64 p3, .int .u64 p4, .int .u64 p5, .int .u64 q0, .int .u64 q1, .int .u64 q2, .int .u64 q3, .int .u64 q4, .int .u64 q5, .bool m]] w fun e w' => Pts e (fun A B => A = pkN c [x0, x1, x2, x3, x4, x5] [p0, p1, p2, p3, p4, p5] ∧ B = pkN c [y0, y1, y2, y3, y4, y5] [q0, q1, q2, q3, q4, q5]) ∧ Below w.heap.size w w' := by
  have H01 : Hid _ := h01
  clear h01
  have B0 := ((Blk.new w [.int .u64 x0, .int .u64 x1, .int .u64 x2, .int .u64 x3, .int .u64 x4, .int .u64 x5, .int .u64 y0, .int .u64 y1, .int .u64 y2, .int .u64 y3, .int .u64 y4, .int .u64 y5, .bool n] 27 (w.heap.size) rfl).alloc (.cells [.int .u64 p0, .int .u64 p1, .int .u64 p2, .int .u64 p3, .int .u64 p4, .int .u64 p5, .int .u64 q0, .int .u64 q1, .int .u64 q2, .int .u64 q3, .int .u64 q4, .int .u64 q5, .bool m].toArray 27)).alloc (.cells [.int .u64 0, .int .u64 0, .int .u64 0, .int .u64 0, .int .u64 0, .int .u64 0, .int .u64 0, .int .u64 0, .int .u64 0, .int .u64 0, .int .u64 0, .int .u64 0, .bool false].toArray 27)
  have B1 := (Blk.new (w.alloc (.cells [.int .u64 x0, .int .u64 x1, .int .u64 x2, .int .u64 x3, .int .u64 x4, .int .u64 x5, .int .u64 y0, .int .u64 y1, .int .u64 y2, .int .u64 y3, .int .u64 y4, .int .u64 y5, .bool n].toArray 27)) [.int .u64 p0, .int .u64 p1, .int .u64 p2, .int .u64 p3, .int .u64 p4, .int .u64 p5, .int .u64 q0, .int .u64 q1, .int .u64 q2, .int .u64 q3, .int .u64 q4, .int .u64 q5, .bool m] 27 (w.heap.size + 1) (by simp)).alloc (.cells [.int .u64 0, .int .u64 0, .int .u64 0, .int .u64 0, .int .u64 0, .int .u64 0, .int .u64 0, .int .u64 0, .int .u64 0, .int .u64 0, .int .u64 0, .int .u64 0, .bool false].toArray 27)
  have B2 := Blk.new ((w.alloc (.cells [.int .u64 x0, .int .u64 x1, .int .u64 x2, .int .u64 x3, .int .u64 x4, .int .u64 x5, .int .u64 y0, .int .u64 y1, .int .u64 y2, .int .u64 y3, .int .u64 y4, .int .u64 y5, .bool n].toArray 27)).alloc (.cells [.int .u64 p0, .int .u64 p1, .int .u64 p2, .int .u64 p3, .int .u64 p4, .int .u64 p5, .int .u64 q0, .int .u64 q1, .int .u64 q2, .int .u64 q3, .int .u64 q4, .int .u64 q5, .bool m].toArray 27)) [.int .u64 0, .int .u64 0, .int .u64 0, .int .u64 0, .int .u64 0, .int .u64 0, .int .u64 0, .int .u64 0, .int .u64 0, .int .u64 0, .int .u64 0, .int .u64 0, .bool false] 27 (w.heap.size + 1 + 1) (by simp)
  have bel : Below w.heap.size w (((w.alloc (.cells [.int .u64 x0, .int .u64 x1, .int .u64 x2, .int .u64 x3, .int .u64 x4, .int .u64 x5, .int .u64 y0, .int .u64 y1, .int .u64 y2, .int .u64 y3, .int .u64 y4, .int .u64 y5, .bool n].toArray 27)).alloc (.cells [.int .u64 p0, .int .u64 p1, .int .u64 p2, .int .u64 p3, .int .u64 p4, .int .u64 p5, .int .u64 q0, .int .u64 q1, .int .u64 q2, .int .u64 q3, .int .u64 q4, .int .u64 q5, .bool m].toArray 27)).alloc (.cells [.int .u64 0, .int .u64 0, .int .u64 0, .int .u64 0, .int .u64 0, .int .u64 0, .int .u64 0, .int .u64 0, .int .u64 0, .int .u64 0, .int .u64 0, .int .u64 0, .bool false].toArray 27)) := ((((Below.refl _ _).alloc (Nat.le_refl _) _).alloc (by simp) _).alloc (by simp; omega) _)
  go_enter Tryd.func25, Tryd.ntmps25
  go_upto_region 1 with fail
  try simp only [us, List.map_cons, List.map_nil] at bel
  generalize (((w.alloc (Obj.cells #[.int .u64 x0, .int .u64 x1, .int .u64 x2, .int .u64 x3, .int .u64 x4, .int .u64 x5, .int .u64 y0, .int .u64 y1, .int .u64 y2, .int .u64 y3, .int .u64 y4, .int .u64 y5, .bool n] 27)).alloc (Obj.cells #[.int .u64 p0, .int .u64 p1, .int .u64 p2, .int .u64 p3, .int .u64 p4, .int .u64 p5, .int .u64 q0, .int .u64 q1, .int .u64 q2, .int .u64 q3, .int .u64 q4, .int .u64 q5, .bool m] 27)).alloc (Obj.cells #[.int .u64 0, .int .u64 0, .int .u64 0, .int .u64 0, .int .u64 0, .int .u64 0, .int .u64 0, .int .u64 0, .int .u64 0, .int .u64 0, .int .u64 0, .int .u64 0, .bool false] 27)) = W at *
  obtain ⟨S1, hS1, KL1, KA1, KD1, KS1, KQ1, KN1, KB1, KM1, KR1⟩ := held3 (w0 := w) (W := W) [(w.heap.size, [.int .u64 x0, .int .u64 x1, .int .u64 x2, .int .u64 x3, .int .u64 x4, .int .u64 x5, .int .u64 y0, .int .u64 y1, .int .u64 y2, .int .u64 y3, .int .u64 y4, .int .u64 y5, .bool n]), (w.heap.size + 1, [.int .u64 p0, .int .u64 p1, .int .u64 p2, .int .u64 p3, .int .u64 p4, .int .u64 p5, .int .u64 q0, .int .u64 q1, .int .u64 q2, .int .u64 q3, .int .u64 q4, .int .u64 q5, .bool m])] (by
    intro b X h
    simp only [List.mem_cons, List.not_mem_nil, or_false, Prod.mk.injEq] at h
    rcases h with ⟨rfl, rfl⟩ | ⟨rfl, rfl⟩
    · exact B0
    · exact B1) bel
  have kb1a : ∀ wx, Hd S1 wx → Blk wx (w.heap.size) [.int .u64 x0, .int .u64 x1, .int .u64 x2, .int .u64 x3, .int .u64 x4, .int .u64 x5, .int .u64 y0, .int .u64 y1, .int .u64 y2, .int .u64 y3, .int .u64 y4, .int .u64 y5, .bool n] := fun wx h => KM1.out wx _ _ h (by simp)
  have c1a0 := rulec kb1a 0 _ rfl
  have c1a1 := rulec kb1a 1 _ rfl
  have c1a2 := rulec kb1a 2 _ rfl
  have c1a3 := rulec kb1a 3 _ rfl
  have c1a4 := rulec kb1a 4 _ rfl
  have c1a5 := rulec kb1a 5 _ rfl
  have c1a6 := rulec kb1a 6 _ rfl
  have c1a7 := rulec kb1a 7 _ rfl
  have c1a8 := rulec kb1a 8 _ rfl
  have c1a9 := rulec kb1a 9 _ rfl
  have c1a10 := rulec kb1a 10 _ rfl
  have c1a11 := rulec kb1a 11 _ rfl
  have c1a12 := rulec kb1a 12 _ rfl
  have c1al := ruleb kb1a
  clear kb1a
  have kb1b : ∀ wx, Hd S1 wx → Blk wx (w.heap.size + 1) [.int .u64 p0, .int .u64 p1, .int .u64 p2, .int .u64 p3, .int .u64 p4, .int .u64 p5, .int .u64 q0, .int .u64 q1, .int .u64 q2, .int .u64 q3, .int .u64 q4, .int .u64 q5, .bool m] := fun wx h => KM1.out wx _ _ h (by simp)
  have c1b0 := rulec kb1b 0 _ rfl
  have c1b1 := rulec kb1b 1 _ rfl
  have c1b2 := rulec kb1b 2 _ rfl
  have c1b3 := rulec kb1b 3 _ rfl
  have c1b4 := rulec kb1b 4 _ rfl
  have c1b5 := rulec kb1b 5 _ rfl
  have c1b6 := rulec kb1b 6 _ rfl
  have c1b7 := rulec kb1b 7 _ rfl
  have c1b8 := rulec kb1b 8 _ rfl
  have c1b9 := rulec kb1b 9 _ rfl
  have c1b10 := rulec kb1b 10 _ rfl
  have c1b11 := rulec kb1b 11 _ rfl
  have c1b12 := rulec kb1b 12 _ rfl
  have c1bl := ruleb kb1b
  clear kb1b
  have mq1a : ∀ c X, (c, X) ∈ [((w.heap.size : Nat), ([.int .u64 x0, .int .u64 x1, .int .u64 x2, .int .u64 x3, .int .u64 x4, .int .u64 x5, .int .u64 y0, .int .u64 y1, .int .u64 y2, .int .u64 y3, .int .u64 y4, .int .u64 y5, .bool n] : List Value)), ((w.heap.size + 1 : Nat), ([.int .u64 p0, .int .u64 p1, .int .u64 p2, .int .u64 p3, .int .u64 p4, .int .u64 p5, .int .u64 q0, .int .u64 q1, .int .u64 q2, .int .u64 q3, .int .u64 q4, .int .u64 q5, .bool m] : List Value))] → c ≠ w.heap.size + 1 + 1 := by
    intro c X h
    simp only [List.mem_cons, List.not_mem_nil, or_false, Prod.mk.injEq] at h
    omega
  have hN1 := bel.size
  clear bel B0 B1
  go_region_held3 (Hd S1)
    (first
      | with_reducible exact (KQ1.out _ _ _ _ (KQ1.out _ _ _ _ (KQ1.out _ _ _ _ (KQ1.out _ _ _ _ (KQ1.out _ _ _ _ (KQ1.out _ _ _ _ (KQ1.out _ _ _ _ (KQ1.out _ _ _ _ (KQ1.out _ _ _ _ (KQ1.out _ _ _ _ (KQ1.out _ _ _ _ (KQ1.out _ _ _ _ (KQ1.out _ _ _ _ (by assumption) (Or.inr mq1a) (by omega)) (Or.inr mq1a) (by omega)) (Or.inr mq1a) (by omega)) (Or.inr mq1a) (by omega)) (Or.inr mq1a) (by omega)) (Or.inr mq1a) (by omega)) (Or.inr mq1a) (by omega)) (Or.inr mq1a) (by omega)) (Or.inr mq1a) (by omega)) (Or.inr mq1a) (by omega)) (Or.inr mq1a) (by omega)) (Or.inr mq1a) (by omega)) (Or.inr mq1a) (by omega))
      | with_reducible exact KL1.out _ _ (by assumption) hb
      | with_reducible exact KA1.out _ _ (by assumption)
      | with_reducible exact KS1.out _ _ _ (by omega) (by assumption)
      | with_reducible exact KD1.out _ hS1
      | with_reducible exact KD1.out _ (KA1.out _ _ hS1)
      | with_reducible assumption)
    (first
      | (go_at_call 39; go_fit (pick_let H01.out fX fP); rintro e w' ⟨s0, s1, s2, s3, s4, s5, rfl, fS, hv, hb⟩; have HS : Hid _ := hv; clear hv; (first | replace B2 := B2.later hb | replace B2 := B2.drew.later hb | skip))
      | (go_at_call 39; go_fit (pick_let H01.out fY fQ); rintro e w' ⟨t0, t1, t2, t3, t4, t5, rfl, fT, hv, hb⟩; have HT : Hid _ := hv; clear hv; (first | replace B2 := B2.later hb | replace B2 := B2.drew.later hb | skip))
      | (go_at_call 28; go_fit (con_pt (k := Noo [s0, s1, s2, s3, s4, s5] [t0, t1, t2, t3, t4, t5]) fS fT (noo_iff _ _)); rintro e w' ⟨rfl, hb⟩; (first | replace B2 := B2.later hb | replace B2 := B2.drew.later hb | skip); have lt2 := B2.lt; have d0 := B2.cell 0 _ rfl; have g0 := B2.frozen 0; have d1 := B2.cell 1 _ rfl; have g1 := B2.frozen 1; have d2 := B2.cell 2 _ rfl; have g2 := B2.frozen 2; have d3 := B2.cell 3 _ rfl; have g3 := B2.frozen 3; have d4 := B2.cell 4 _ rfl; have g4 := B2.frozen 4; have d5 := B2.cell 5 _ rfl; have g5 := B2.frozen 5; have d6 := B2.cell 6 _ rfl; have g6 := B2.frozen 6; have d7 := B2.cell 7 _ rfl; have g7 := B2.frozen 7; have d8 := B2.cell 8 _ rfl; have g8 := B2.frozen 8; have d9 := B2.cell 9 _ rfl; have g9 := B2.frozen 9; have d10 := B2.cell 10 _ rfl; have g10 := B2.frozen 10; have d11 := B2.cell 11 _ rfl; have g11 := B2.frozen 11; have d12 := B2.cell 12 _ rfl; have g12 := B2.frozen 12))
  all_goals go_wp2
  all_goals exact bodyPost_ret (v := .agg #[.int .u64 s0, .int .u64 s1, .int .u64 s2, .int .u64 s3, .int .u64 s4, .int .u64 s5, .int .u64 t0, .int .u64 t1, .int .u64 t2, .int .u64 t3, .int .u64 t4, .int .u64 t5, .bool (Noo [s0, s1, s2, s3, s4, s5] [t0, t1, t2, t3, t4, t5])]) (by simp [results, Tryd.results25, go_sem, d0, d1, d2, d3, d4, d5, d6, d7, d8, d9, d10, d11, d12]) rfl ⟨⟨s0, s1, s2, s3, s4, s5, t0, t1, t2, t3, t4, t5, rfl, fS, fT, HS.out, HT.out⟩, KB1.out _ (by assumption)⟩

end Go.Proofs.YtpgidlnpcjbfhabDoor
