/- curve.bySlope: the sum of two points by their slope. -/
import Derived.Test.YtpgidlnpcjbfhabDoorRows
import Derived.Test.YtpgidlnpcjbfhabDoorCSlope
import Derived.Deep.WholeRow
import Derived.Deep.RegionHeld3
import Derived.Deep.DeepCutAuto
import Derived.Deep.DeepFit
namespace Go.Proofs.YtpgidlnpcjbfhabDoor
open Go.RowKit

theorem by_fin {x1 y1 x2 y2 s x y : Int} (hs : SlIs x1 y1 x2 y2 s) (hx : ∃ a b, a = (s * s) % PP ∧ b = (a - x1) % PP ∧ x = (b - x2) % PP) (hy : ∃ d e, d = (x1 - x) % PP ∧ e = (s * d) % PP ∧ y = (e - y1) % PP) : Aff x1 y1 → Aff x2 y2 → ¬ Opp x1 y1 x2 y2 → cadd (some (x1, y1)) (some (x2, y2)) = some (x, y) := by
  intro A1 A2 hn
  have S := hs.2 A1 A2 hn
  obtain ⟨a, b, ha, hb, hx⟩ := hx
  obtain ⟨d, e, hd, he, hy⟩ := hy
  have e1 := nu_emod (s * s)
  rw [← ha] at e1
  have e2 := nu_emod (a - x1)
  rw [← hb] at e2
  have e3 := nu_emod (b - x2)
  rw [← hx] at e3
  have e4 := nu_emod (x1 - x)
  rw [← hd] at e4
  have e5 := nu_emod (s * d)
  rw [← he] at e5
  have e6 := nu_emod (e - y1)
  rw [← hy] at e6
  refine add_is A1 A2 hn S (by rw [hx]; exact lo_emod _) (by rw [hy]; exact lo_emod _) ?_ ?_
  · exact nu_of3 e3 1 e2 1 e1 1 (by grind)
  · exact nu_of3 e6 1 e5 1 e4 s (by grind)

set_option maxRecDepth 100000 in
set_option maxHeartbeats 8000000 in
theorem con_by {x0 x1 x2 x3 x4 x5 y0 y1 y2 y3 y4 y5 p0 p1 p2 p3 p4 p5 q0 q1 q2 q3 q4 q5 : Int} {n m : Bool} {w : World} (G : Gls w) (fX : fits [x0, x1, x2, x3, x4, x5]) (fY : fits [y0, y1, y2, y3, y4, y5]) (fP : fits [p0, p1, p2, p3, p4, p5]) (fQ : fits [q0, q1, q2, q3, q4, q5]) :
    Calls Tryd.prog 27 #[.agg #[.int .u64 x0, .int .u64 x1, .int .u64 x2, .int .u64 x3, .int .u64 x4, .int .u64 x5, .int .u64 y0, .int .u64 y1, .int .u64 y2, .int .u64 y3, .int .u64 y4, .int .u64 y5, .bool n], .agg #[.int .u64 p0, .int .u64 p1, .int .u64 p2, .int .u64 p3, .int .u64 p4, .int .u64 p5, .int .u64 q0, .int .u64 q1, .int .u64 q2, .int .u64 q3, .int .u64 q4, .int .u64 q5, .bool m]] w fun e w' => Pts e (fun A B => Aff (v64 [x0, x1, x2, x3, x4, x5]) (v64 [y0, y1, y2, y3, y4, y5]) → Aff (v64 [p0, p1, p2, p3, p4, p5]) (v64 [q0, q1, q2, q3, q4, q5]) → ¬ Opp (v64 [x0, x1, x2, x3, x4, x5]) (v64 [y0, y1, y2, y3, y4, y5]) (v64 [p0, p1, p2, p3, p4, p5]) (v64 [q0, q1, q2, q3, q4, q5]) → cadd (some (v64 [x0, x1, x2, x3, x4, x5], v64 [y0, y1, y2, y3, y4, y5])) (some (v64 [p0, p1, p2, p3, p4, p5], v64 [q0, q1, q2, q3, q4, q5])) = some (v64 A, v64 B)) ∧ Below w.heap.size w w' := by
  have B0 := ((Blk.new w [.int .u64 x0, .int .u64 x1, .int .u64 x2, .int .u64 x3, .int .u64 x4, .int .u64 x5, .int .u64 y0, .int .u64 y1, .int .u64 y2, .int .u64 y3, .int .u64 y4, .int .u64 y5, .bool n] 27 (w.heap.size) rfl).alloc (.cells [.int .u64 p0, .int .u64 p1, .int .u64 p2, .int .u64 p3, .int .u64 p4, .int .u64 p5, .int .u64 q0, .int .u64 q1, .int .u64 q2, .int .u64 q3, .int .u64 q4, .int .u64 q5, .bool m].toArray 27)).alloc (.cells [.int .u64 0, .int .u64 0, .int .u64 0, .int .u64 0, .int .u64 0, .int .u64 0, .int .u64 0, .int .u64 0, .int .u64 0, .int .u64 0, .int .u64 0, .int .u64 0, .bool false].toArray 27)
  have B1 := (Blk.new (w.alloc (.cells [.int .u64 x0, .int .u64 x1, .int .u64 x2, .int .u64 x3, .int .u64 x4, .int .u64 x5, .int .u64 y0, .int .u64 y1, .int .u64 y2, .int .u64 y3, .int .u64 y4, .int .u64 y5, .bool n].toArray 27)) [.int .u64 p0, .int .u64 p1, .int .u64 p2, .int .u64 p3, .int .u64 p4, .int .u64 p5, .int .u64 q0, .int .u64 q1, .int .u64 q2, .int .u64 q3, .int .u64 q4, .int .u64 q5, .bool m] 27 (w.heap.size + 1) (by simp)).alloc (.cells [.int .u64 0, .int .u64 0, .int .u64 0, .int .u64 0, .int .u64 0, .int .u64 0, .int .u64 0, .int .u64 0, .int .u64 0, .int .u64 0, .int .u64 0, .int .u64 0, .bool false].toArray 27)
  have B2 := Blk.new ((w.alloc (.cells [.int .u64 x0, .int .u64 x1, .int .u64 x2, .int .u64 x3, .int .u64 x4, .int .u64 x5, .int .u64 y0, .int .u64 y1, .int .u64 y2, .int .u64 y3, .int .u64 y4, .int .u64 y5, .bool n].toArray 27)).alloc (.cells [.int .u64 p0, .int .u64 p1, .int .u64 p2, .int .u64 p3, .int .u64 p4, .int .u64 p5, .int .u64 q0, .int .u64 q1, .int .u64 q2, .int .u64 q3, .int .u64 q4, .int .u64 q5, .bool m].toArray 27)) [.int .u64 0, .int .u64 0, .int .u64 0, .int .u64 0, .int .u64 0, .int .u64 0, .int .u64 0, .int .u64 0, .int .u64 0, .int .u64 0, .int .u64 0, .int .u64 0, .bool false] 27 (w.heap.size + 1 + 1) (by simp)
  have bel : Below w.heap.size w (((w.alloc (.cells [.int .u64 x0, .int .u64 x1, .int .u64 x2, .int .u64 x3, .int .u64 x4, .int .u64 x5, .int .u64 y0, .int .u64 y1, .int .u64 y2, .int .u64 y3, .int .u64 y4, .int .u64 y5, .bool n].toArray 27)).alloc (.cells [.int .u64 p0, .int .u64 p1, .int .u64 p2, .int .u64 p3, .int .u64 p4, .int .u64 p5, .int .u64 q0, .int .u64 q1, .int .u64 q2, .int .u64 q3, .int .u64 q4, .int .u64 q5, .bool m].toArray 27)).alloc (.cells [.int .u64 0, .int .u64 0, .int .u64 0, .int .u64 0, .int .u64 0, .int .u64 0, .int .u64 0, .int .u64 0, .int .u64 0, .int .u64 0, .int .u64 0, .int .u64 0, .bool false].toArray 27)) := ((((Below.refl _ _).alloc (Nat.le_refl _) _).alloc (by simp) _).alloc (by simp; omega) _)
  go_enter Tryd.func27, Tryd.ntmps27
  go_upto_region 1 with fail
  try simp only [us, List.map_cons, List.map_nil] at bel
  generalize (((w.alloc (Obj.cells #[.int .u64 x0, .int .u64 x1, .int .u64 x2, .int .u64 x3, .int .u64 x4, .int .u64 x5, .int .u64 y0, .int .u64 y1, .int .u64 y2, .int .u64 y3, .int .u64 y4, .int .u64 y5, .bool n] 27)).alloc (Obj.cells #[.int .u64 p0, .int .u64 p1, .int .u64 p2, .int .u64 p3, .int .u64 p4, .int .u64 p5, .int .u64 q0, .int .u64 q1, .int .u64 q2, .int .u64 q3, .int .u64 q4, .int .u64 q5, .bool m] 27)).alloc (Obj.cells #[.int .u64 0, .int .u64 0, .int .u64 0, .int .u64 0, .int .u64 0, .int .u64 0, .int .u64 0, .int .u64 0, .int .u64 0, .int .u64 0, .int .u64 0, .int .u64 0, .bool false] 27)) = W at *
  have Bp := B0
  have Bq := B1
  have Br := B2
  clear B0 B1 B2
  have ltp := Bp.lt
  have cp0 := Bp.cell 0 _ rfl
  have cp1 := Bp.cell 1 _ rfl
  have cp2 := Bp.cell 2 _ rfl
  have cp3 := Bp.cell 3 _ rfl
  have cp4 := Bp.cell 4 _ rfl
  have cp5 := Bp.cell 5 _ rfl
  have cp6 := Bp.cell 6 _ rfl
  have cp7 := Bp.cell 7 _ rfl
  have cp8 := Bp.cell 8 _ rfl
  have cp9 := Bp.cell 9 _ rfl
  have cp10 := Bp.cell 10 _ rfl
  have cp11 := Bp.cell 11 _ rfl
  have cp12 := Bp.cell 12 _ rfl
  have ltq := Bq.lt
  have cq0 := Bq.cell 0 _ rfl
  have cq1 := Bq.cell 1 _ rfl
  have cq2 := Bq.cell 2 _ rfl
  have cq3 := Bq.cell 3 _ rfl
  have cq4 := Bq.cell 4 _ rfl
  have cq5 := Bq.cell 5 _ rfl
  have cq6 := Bq.cell 6 _ rfl
  have cq7 := Bq.cell 7 _ rfl
  have cq8 := Bq.cell 8 _ rfl
  have cq9 := Bq.cell 9 _ rfl
  have cq10 := Bq.cell 10 _ rfl
  have cq11 := Bq.cell 11 _ rfl
  have cq12 := Bq.cell 12 _ rfl
  go_wp2_with fail
  refine (con_slope (G.below bel) fX fY fP fQ).mono ?_
  rintro e w1 ⟨z0, z1, z2, z3, z4, z5, rfl, fZ, SZ, hb⟩
  clear ltp cp0 cp1 cp2 cp3 cp4 cp5 cp6 cp7 cp8 cp9 cp10 cp11 cp12 ltq cq0 cq1 cq2 cq3 cq4 cq5 cq6 cq7 cq8 cq9 cq10 cq11 cq12
  replace Bp := Bp.later hb
  replace Bq := Bq.later hb
  replace Br := Br.later hb
  replace bel := below_step bel hb
  clear hb
  have HZ : Hid (SlIs (v64 [x0, x1, x2, x3, x4, x5]) (v64 [y0, y1, y2, y3, y4, y5]) (v64 [p0, p1, p2, p3, p4, p5]) (v64 [q0, q1, q2, q3, q4, q5]) (v64 [z0, z1, z2, z3, z4, z5])) := SZ
  clear SZ
  replace Bp := Bp.alloc (.cells [.int .u64 z0, .int .u64 z1, .int .u64 z2, .int .u64 z3, .int .u64 z4, .int .u64 z5].toArray 24)
  replace Bq := Bq.alloc (.cells [.int .u64 z0, .int .u64 z1, .int .u64 z2, .int .u64 z3, .int .u64 z4, .int .u64 z5].toArray 24)
  replace Br := Br.alloc (.cells [.int .u64 z0, .int .u64 z1, .int .u64 z2, .int .u64 z3, .int .u64 z4, .int .u64 z5].toArray 24)
  have Bz := Blk.new w1 [.int .u64 z0, .int .u64 z1, .int .u64 z2, .int .u64 z3, .int .u64 z4, .int .u64 z5] 24 w1.heap.size rfl
  replace bel := below_alloc (o := .cells [.int .u64 z0, .int .u64 z1, .int .u64 z2, .int .u64 z3, .int .u64 z4, .int .u64 z5].toArray 24) bel
  have lwz : ∀ z, z < w1.heap.size → z ≠ w1.heap.size := fun z h => Nat.ne_of_lt h
  go_upto_region 2 with fail
  obtain ⟨bz, hbz⟩ : ∃ b, b = w1.heap.size := ⟨_, rfl⟩
  clear lwz
  generalize w1.alloc (Obj.cells #[.int .u64 z0, .int .u64 z1, .int .u64 z2, .int .u64 z3, .int .u64 z4, .int .u64 z5] 24) = Wz at *
  rw [← hbz] at Bz ⊢
  clear hbz
  obtain ⟨S1, hS1, KL1, KA1, KD1, KS1, KQ1, KN1, KB1, KM1, KR1⟩ := held3 (w0 := w) (W := _) [(w.heap.size, [.int .u64 x0, .int .u64 x1, .int .u64 x2, .int .u64 x3, .int .u64 x4, .int .u64 x5, .int .u64 y0, .int .u64 y1, .int .u64 y2, .int .u64 y3, .int .u64 y4, .int .u64 y5, .bool n]), (w.heap.size + 1, [.int .u64 p0, .int .u64 p1, .int .u64 p2, .int .u64 p3, .int .u64 p4, .int .u64 p5, .int .u64 q0, .int .u64 q1, .int .u64 q2, .int .u64 q3, .int .u64 q4, .int .u64 q5, .bool m]), (w.heap.size + 1 + 1, [.int .u64 0, .int .u64 0, .int .u64 0, .int .u64 0, .int .u64 0, .int .u64 0, .int .u64 0, .int .u64 0, .int .u64 0, .int .u64 0, .int .u64 0, .int .u64 0, .bool false]), (bz, [.int .u64 z0, .int .u64 z1, .int .u64 z2, .int .u64 z3, .int .u64 z4, .int .u64 z5])] (by
    intro b X h
    simp only [List.mem_cons, List.not_mem_nil, or_false, Prod.mk.injEq] at h
    rcases h with ⟨rfl, rfl⟩ | ⟨rfl, rfl⟩ | ⟨rfl, rfl⟩ | ⟨rfl, rfl⟩
    · exact Bp
    · exact Bq
    · exact Br
    · exact Bz) bel
  have kb1a : ∀ wx, Hd S1 wx → Blk wx (w.heap.size) [.int .u64 x0, .int .u64 x1, .int .u64 x2, .int .u64 x3, .int .u64 x4, .int .u64 x5, .int .u64 y0, .int .u64 y1, .int .u64 y2, .int .u64 y3, .int .u64 y4, .int .u64 y5, .bool n] := fun wx h => KM1.out wx _ _ h (by simp)
  have c1a0 := rulec kb1a 0 _ rfl
  have c1a1 := rulec kb1a 1 _ rfl
  have c1a2 := rulec kb1a 2 _ rfl
  have c1a3 := rulec kb1a 3 _ rfl
  have c1a4 := rulec kb1a 4 _ rfl
  have c1a5 := rulec kb1a 5 _ rfl
  have c1a6 := rulec kb1a 6 _ rfl
  have c1a7 := rulec kb1a 7 _ rfl
  have c1a8 := rulec kb1a 8 _ rfl
  have c1a9 := rulec kb1a 9 _ rfl
  have c1a10 := rulec kb1a 10 _ rfl
  have c1a11 := rulec kb1a 11 _ rfl
  have c1a12 := rulec kb1a 12 _ rfl
  have c1al := ruleb kb1a
  clear kb1a
  have kb1b : ∀ wx, Hd S1 wx → Blk wx (w.heap.size + 1) [.int .u64 p0, .int .u64 p1, .int .u64 p2, .int .u64 p3, .int .u64 p4, .int .u64 p5, .int .u64 q0, .int .u64 q1, .int .u64 q2, .int .u64 q3, .int .u64 q4, .int .u64 q5, .bool m] := fun wx h => KM1.out wx _ _ h (by simp)
  have c1b0 := rulec kb1b 0 _ rfl
  have c1b1 := rulec kb1b 1 _ rfl
  have c1b2 := rulec kb1b 2 _ rfl
  have c1b3 := rulec kb1b 3 _ rfl
  have c1b4 := rulec kb1b 4 _ rfl
  have c1b5 := rulec kb1b 5 _ rfl
  have c1b6 := rulec kb1b 6 _ rfl
  have c1b7 := rulec kb1b 7 _ rfl
  have c1b8 := rulec kb1b 8 _ rfl
  have c1b9 := rulec kb1b 9 _ rfl
  have c1b10 := rulec kb1b 10 _ rfl
  have c1b11 := rulec kb1b 11 _ rfl
  have c1b12 := rulec kb1b 12 _ rfl
  have c1bl := ruleb kb1b
  clear kb1b
  have kb1c : ∀ wx, Hd S1 wx → Blk wx (w.heap.size + 1 + 1) [.int .u64 0, .int .u64 0, .int .u64 0, .int .u64 0, .int .u64 0, .int .u64 0, .int .u64 0, .int .u64 0, .int .u64 0, .int .u64 0, .int .u64 0, .int .u64 0, .bool false] := fun wx h => KM1.out wx _ _ h (by simp)
  have c1c0 := rulec kb1c 0 _ rfl
  have c1c1 := rulec kb1c 1 _ rfl
  have c1c2 := rulec kb1c 2 _ rfl
  have c1c3 := rulec kb1c 3 _ rfl
  have c1c4 := rulec kb1c 4 _ rfl
  have c1c5 := rulec kb1c 5 _ rfl
  have c1c6 := rulec kb1c 6 _ rfl
  have c1c7 := rulec kb1c 7 _ rfl
  have c1c8 := rulec kb1c 8 _ rfl
  have c1c9 := rulec kb1c 9 _ rfl
  have c1c10 := rulec kb1c 10 _ rfl
  have c1c11 := rulec kb1c 11 _ rfl
  have c1c12 := rulec kb1c 12 _ rfl
  have c1cl := ruleb kb1c
  clear kb1c
  have kb1d : ∀ wx, Hd S1 wx → Blk wx (bz) [.int .u64 z0, .int .u64 z1, .int .u64 z2, .int .u64 z3, .int .u64 z4, .int .u64 z5] := fun wx h => KM1.out wx _ _ h (by simp)
  have c1d0 := rulec kb1d 0 _ rfl
  have c1d1 := rulec kb1d 1 _ rfl
  have c1d2 := rulec kb1d 2 _ rfl
  have c1d3 := rulec kb1d 3 _ rfl
  have c1d4 := rulec kb1d 4 _ rfl
  have c1d5 := rulec kb1d 5 _ rfl
  have c1dl := ruleb kb1d
  clear kb1d
  have hN1 := bel.size
  have ltr := Br.lt
  clear bel Bp Bq Br Bz
  go_cut [6] (fun p wx => ∃ (b : Nat) (s0 s1 s2 s3 s4 s5 : Int), p = .pointer (some ⟨b, 0, none⟩) ∧ w.heap.size + 1 + 1 < b ∧ fits [s0, s1, s2, s3, s4, s5] ∧ Hid (∃ a b, a = (v64 [z0, z1, z2, z3, z4, z5] * v64 [z0, z1, z2, z3, z4, z5]) % PP ∧ b = (a - v64 [x0, x1, x2, x3, x4, x5]) % PP ∧ v64 [s0, s1, s2, s3, s4, s5] = (b - v64 [p0, p1, p2, p3, p4, p5]) % PP) ∧ Blk wx b (us [s0, s1, s2, s3, s4, s5]) ∧ Hd S1 wx)
  case first =>
    go_region_held3 (Hd S1)
      (first
        | with_reducible exact (KQ1.out _ _ _ _ (KQ1.out _ _ _ _ (KQ1.out _ _ _ _ (KQ1.out _ _ _ _ (KQ1.out _ _ _ _ (KQ1.out _ _ _ _ (by assumption) (Or.inl (by omega)) (by omega)) (Or.inl (by omega)) (by omega)) (Or.inl (by omega)) (by omega)) (Or.inl (by omega)) (by omega)) (Or.inl (by omega)) (by omega)) (Or.inl (by omega)) (by omega))
        | with_reducible exact KL1.out _ _ (by assumption) hb
        | with_reducible exact KA1.out _ _ (by assumption)
        | with_reducible exact KS1.out _ _ _ (by omega) (by assumption)
        | with_reducible exact KD1.out _ hS1
        | with_reducible exact KD1.out _ (KA1.out _ _ hS1)
        | with_reducible assumption)
      (first
        | (go_at_call 16; go_fit (fmul6 (G.below (KB1.out _ (by first | with_reducible assumption | with_reducible exact KA1.out _ _ (by assumption) | with_reducible exact KD1.out _ (by assumption)))) fZ fZ); rintro e w' ⟨a0, a1, a2, a3, a4, a5, rfl, fA, hv, hb⟩; have HA : Hid _ := hv; clear hv; (first | replace BN := BN.later hb | with_reducible have BN := Wr6.later Wr6.new hb | with_reducible have BN := Wr6.later (Wr6.drew Wr6.new) hb | skip); have hlt := KN1.out _ (KL1.out _ _ (by assumption) hb))
        | (go_at_call 21; go_fit (fsub6 (G.below (KB1.out _ (by first | with_reducible assumption | with_reducible exact KA1.out _ _ (by assumption) | with_reducible exact KD1.out _ (by assumption)))) fA fX); rintro e w' ⟨b0, b1, b2, b3, b4, b5, rfl, fB, hv, hb⟩; have HB : Hid _ := hv; clear hv; (first | replace BN := BN.later hb | with_reducible have BN := Wr6.later Wr6.new hb | with_reducible have BN := Wr6.later (Wr6.drew Wr6.new) hb | skip); have hlt := KN1.out _ (KL1.out _ _ (by assumption) hb))
        | (go_at_call 21; go_fit (fsub6 (G.below (KB1.out _ (by first | with_reducible assumption | with_reducible exact KA1.out _ _ (by assumption) | with_reducible exact KD1.out _ (by assumption)))) fB fP); rintro e w' ⟨s0, s1, s2, s3, s4, s5, rfl, fS, hv, hb⟩; have HX : Hid _ := hv; clear hv; (first | replace BN := BN.later hb | with_reducible have BN := Wr6.later Wr6.new hb | with_reducible have BN := Wr6.later (Wr6.drew Wr6.new) hb | skip); have hlt := KN1.out _ (KL1.out _ _ (by assumption) hb); (first | (obtain ⟨o0, o1, o2, o3, o4, o5, ⟨j0, j1, j2, j3, j4, j5⟩, ⟨i0, i1, i2, i3, i4, i5⟩⟩ := BN.cells) | skip)))
    all_goals
      go_wp2_with fail
      go_meet
      refine ⟨_, s0, s1, s2, s3, s4, s5, rfl, by omega, fS, ⟨_, _, HA.out, HB.out, HX.out⟩, ?_, by with_reducible assumption⟩
      first
        | with_reducible exact Wr6.is BN
        | exact Blk.new w' (us [s0, s1, s2, s3, s4, s5]) 24 w'.heap.size rfl
  case rest =>
    clear hS1
    obtain ⟨bx, s0, s1, s2, s3, s4, s5, rfl, hbx, fS, HX, BX, hS1⟩ := hcut
    simp only [us, List.map_cons, List.map_nil] at BX
    have Bp := KM1.out _ (w.heap.size) _ hS1 List.mem_cons_self
    have Br := KM1.out _ (w.heap.size + 1 + 1) _ hS1 (List.mem_cons_of_mem _ (List.mem_cons_of_mem _ List.mem_cons_self))
    have Bz := KM1.out _ bz _ hS1 (List.mem_cons_of_mem _ (List.mem_cons_of_mem _ (List.mem_cons_of_mem _ List.mem_cons_self)))
    have bel := KB1.out _ hS1
    go_upto_region 3 with fail
    clear hS1 ltr c1a0 c1b0 c1c0 c1a1 c1b1 c1c1 c1a2 c1b2 c1c2 c1a3 c1b3 c1c3 c1a4 c1b4 c1c4 c1a5 c1b5 c1c5 c1a6 c1b6 c1c6 c1a7 c1b7 c1c7 c1a8 c1b8 c1c8 c1a9 c1b9 c1c9 c1a10 c1b10 c1c10 c1a11 c1b11 c1c11 c1a12 c1b12 c1c12 c1al c1bl c1cl c1d0 c1d1 c1d2 c1d3 c1d4 c1d5 c1dl
    obtain ⟨S2, hS2, KL2, KA2, KD2, KS2, KQ2, KN2, KB2, KM2, KR2⟩ := held3 (w0 := w) (W := _) [(w.heap.size, [.int .u64 x0, .int .u64 x1, .int .u64 x2, .int .u64 x3, .int .u64 x4, .int .u64 x5, .int .u64 y0, .int .u64 y1, .int .u64 y2, .int .u64 y3, .int .u64 y4, .int .u64 y5, .bool n]), (w.heap.size + 1 + 1, [.int .u64 0, .int .u64 0, .int .u64 0, .int .u64 0, .int .u64 0, .int .u64 0, .int .u64 0, .int .u64 0, .int .u64 0, .int .u64 0, .int .u64 0, .int .u64 0, .bool false]), (bz, [.int .u64 z0, .int .u64 z1, .int .u64 z2, .int .u64 z3, .int .u64 z4, .int .u64 z5]), (bx, [.int .u64 s0, .int .u64 s1, .int .u64 s2, .int .u64 s3, .int .u64 s4, .int .u64 s5])] (by
      intro b X h
      simp only [List.mem_cons, List.not_mem_nil, or_false, Prod.mk.injEq] at h
      rcases h with ⟨rfl, rfl⟩ | ⟨rfl, rfl⟩ | ⟨rfl, rfl⟩ | ⟨rfl, rfl⟩
      · exact Bp
      · exact Br
      · exact Bz
      · exact BX) bel
    have kb2a : ∀ wx, Hd S2 wx → Blk wx (w.heap.size) [.int .u64 x0, .int .u64 x1, .int .u64 x2, .int .u64 x3, .int .u64 x4, .int .u64 x5, .int .u64 y0, .int .u64 y1, .int .u64 y2, .int .u64 y3, .int .u64 y4, .int .u64 y5, .bool n] := fun wx h => KM2.out wx _ _ h (by simp)
    have c2a0 := rulec kb2a 0 _ rfl
    have c2a1 := rulec kb2a 1 _ rfl
    have c2a2 := rulec kb2a 2 _ rfl
    have c2a3 := rulec kb2a 3 _ rfl
    have c2a4 := rulec kb2a 4 _ rfl
    have c2a5 := rulec kb2a 5 _ rfl
    have c2a6 := rulec kb2a 6 _ rfl
    have c2a7 := rulec kb2a 7 _ rfl
    have c2a8 := rulec kb2a 8 _ rfl
    have c2a9 := rulec kb2a 9 _ rfl
    have c2a10 := rulec kb2a 10 _ rfl
    have c2a11 := rulec kb2a 11 _ rfl
    have c2a12 := rulec kb2a 12 _ rfl
    have c2al := ruleb kb2a
    clear kb2a
    have kb2b : ∀ wx, Hd S2 wx → Blk wx (w.heap.size + 1 + 1) [.int .u64 0, .int .u64 0, .int .u64 0, .int .u64 0, .int .u64 0, .int .u64 0, .int .u64 0, .int .u64 0, .int .u64 0, .int .u64 0, .int .u64 0, .int .u64 0, .bool false] := fun wx h => KM2.out wx _ _ h (by simp)
    have c2b0 := rulec kb2b 0 _ rfl
    have c2b1 := rulec kb2b 1 _ rfl
    have c2b2 := rulec kb2b 2 _ rfl
    have c2b3 := rulec kb2b 3 _ rfl
    have c2b4 := rulec kb2b 4 _ rfl
    have c2b5 := rulec kb2b 5 _ rfl
    have c2b6 := rulec kb2b 6 _ rfl
    have c2b7 := rulec kb2b 7 _ rfl
    have c2b8 := rulec kb2b 8 _ rfl
    have c2b9 := rulec kb2b 9 _ rfl
    have c2b10 := rulec kb2b 10 _ rfl
    have c2b11 := rulec kb2b 11 _ rfl
    have c2b12 := rulec kb2b 12 _ rfl
    have c2bl := ruleb kb2b
    clear kb2b
    have kb2c : ∀ wx, Hd S2 wx → Blk wx (bz) [.int .u64 z0, .int .u64 z1, .int .u64 z2, .int .u64 z3, .int .u64 z4, .int .u64 z5] := fun wx h => KM2.out wx _ _ h (by simp)
    have c2c0 := rulec kb2c 0 _ rfl
    have c2c1 := rulec kb2c 1 _ rfl
    have c2c2 := rulec kb2c 2 _ rfl
    have c2c3 := rulec kb2c 3 _ rfl
    have c2c4 := rulec kb2c 4 _ rfl
    have c2c5 := rulec kb2c 5 _ rfl
    have c2cl := ruleb kb2c
    clear kb2c
    have kb2d : ∀ wx, Hd S2 wx → Blk wx (bx) [.int .u64 s0, .int .u64 s1, .int .u64 s2, .int .u64 s3, .int .u64 s4, .int .u64 s5] := fun wx h => KM2.out wx _ _ h (by simp)
    have c2d0 := rulec kb2d 0 _ rfl
    have c2d1 := rulec kb2d 1 _ rfl
    have c2d2 := rulec kb2d 2 _ rfl
    have c2d3 := rulec kb2d 3 _ rfl
    have c2d4 := rulec kb2d 4 _ rfl
    have c2d5 := rulec kb2d 5 _ rfl
    have c2dl := ruleb kb2d
    clear kb2d
    have hN2 := bel.size
    have ltr := Br.lt
    clear bel Bp Br Bz BX
    go_cut [7] (fun p wx => ∃ (b : Nat) (t0 t1 t2 t3 t4 t5 : Int), p = .pointer (some ⟨b, 0, none⟩) ∧ w.heap.size + 1 + 1 < b ∧ fits [t0, t1, t2, t3, t4, t5] ∧ Hid (∃ d e, d = (v64 [x0, x1, x2, x3, x4, x5] - v64 [s0, s1, s2, s3, s4, s5]) % PP ∧ e = (v64 [z0, z1, z2, z3, z4, z5] * d) % PP ∧ v64 [t0, t1, t2, t3, t4, t5] = (e - v64 [y0, y1, y2, y3, y4, y5]) % PP) ∧ Blk wx b (us [t0, t1, t2, t3, t4, t5]) ∧ Hd S2 wx)
    case first =>
      go_region_held3 (Hd S2)
        (first
          | with_reducible exact (KQ2.out _ _ _ _ (KQ2.out _ _ _ _ (KQ2.out _ _ _ _ (KQ2.out _ _ _ _ (KQ2.out _ _ _ _ (KQ2.out _ _ _ _ (by assumption) (Or.inl (by omega)) (by omega)) (Or.inl (by omega)) (by omega)) (Or.inl (by omega)) (by omega)) (Or.inl (by omega)) (by omega)) (Or.inl (by omega)) (by omega)) (Or.inl (by omega)) (by omega))
          | with_reducible exact KL2.out _ _ (by assumption) hb
          | with_reducible exact KA2.out _ _ (by assumption)
          | with_reducible exact KS2.out _ _ _ (by omega) (by assumption)
          | with_reducible exact KD2.out _ hS2
          | with_reducible exact KD2.out _ (KA2.out _ _ hS2)
          | with_reducible assumption)
        (first
          | (go_at_call 21; go_fit (fsub6 (G.below (KB2.out _ (by first | with_reducible assumption | with_reducible exact KA2.out _ _ (by assumption) | with_reducible exact KD2.out _ (by assumption)))) fX fS); rintro e w' ⟨d0, d1, d2, d3, d4, d5, rfl, fD, hv, hb⟩; have HD : Hid _ := hv; clear hv; (first | replace BN := BN.later hb | with_reducible have BN := Wr6.later Wr6.new hb | with_reducible have BN := Wr6.later (Wr6.drew Wr6.new) hb | skip); have hlt := KN2.out _ (KL2.out _ _ (by assumption) hb))
          | (go_at_call 16; go_fit (fmul6 (G.below (KB2.out _ (by first | with_reducible assumption | with_reducible exact KA2.out _ _ (by assumption) | with_reducible exact KD2.out _ (by assumption)))) fZ fD); rintro e w' ⟨l0, l1, l2, l3, l4, l5, rfl, fE, hv, hb⟩; have HE : Hid _ := hv; clear hv; (first | replace BN := BN.later hb | with_reducible have BN := Wr6.later Wr6.new hb | with_reducible have BN := Wr6.later (Wr6.drew Wr6.new) hb | skip); have hlt := KN2.out _ (KL2.out _ _ (by assumption) hb))
          | (go_at_call 21; go_fit (fsub6 (G.below (KB2.out _ (by first | with_reducible assumption | with_reducible exact KA2.out _ _ (by assumption) | with_reducible exact KD2.out _ (by assumption)))) fE fY); rintro e w' ⟨t0, t1, t2, t3, t4, t5, rfl, fT, hv, hb⟩; have HY : Hid _ := hv; clear hv; (first | replace BN := BN.later hb | with_reducible have BN := Wr6.later Wr6.new hb | with_reducible have BN := Wr6.later (Wr6.drew Wr6.new) hb | skip); have hlt := KN2.out _ (KL2.out _ _ (by assumption) hb); (first | (obtain ⟨o0, o1, o2, o3, o4, o5, ⟨j0, j1, j2, j3, j4, j5⟩, ⟨i0, i1, i2, i3, i4, i5⟩⟩ := BN.cells) | skip)))
      all_goals
        go_wp2_with fail
        go_meet
        refine ⟨_, t0, t1, t2, t3, t4, t5, rfl, by omega, fT, ⟨_, _, HD.out, HE.out, HY.out⟩, ?_, by with_reducible assumption⟩
        first
          | with_reducible exact Wr6.is BN
          | exact Blk.new w' (us [t0, t1, t2, t3, t4, t5]) 24 w'.heap.size rfl
    case rest =>
      clear hS2
      obtain ⟨by_, t0, t1, t2, t3, t4, t5, rfl, hby, fT, HY, BY, hS2⟩ := hcut
      simp only [us, List.map_cons, List.map_nil] at BY
      have Br := KM2.out _ (w.heap.size + 1 + 1) _ hS2 (List.mem_cons_of_mem _ List.mem_cons_self)
      have BX := KM2.out _ bx _ hS2 (List.mem_cons_of_mem _ (List.mem_cons_of_mem _ (List.mem_cons_of_mem _ List.mem_cons_self)))
      have bel := KB2.out _ hS2
      have HF : Hid _ := by_fin HZ.out HX.out HY.out
      clear HX HY HZ hS2 ltr c2a0 c2b0 c2a1 c2b1 c2a2 c2b2 c2a3 c2b3 c2a4 c2b4 c2a5 c2b5 c2a6 c2b6 c2a7 c2b7 c2a8 c2b8 c2a9 c2b9 c2a10 c2b10 c2a11 c2b11 c2a12 c2b12 c2al c2bl c2c0 c2d0 c2c1 c2d1 c2c2 c2d2 c2c3 c2d3 c2c4 c2d4 c2c5 c2d5 c2cl c2dl
      have ltx := BX.lt
      have lty := BY.lt
      have cx0 := BX.cell 0 _ rfl
      have cx1 := BX.cell 1 _ rfl
      have cx2 := BX.cell 2 _ rfl
      have cx3 := BX.cell 3 _ rfl
      have cx4 := BX.cell 4 _ rfl
      have cx5 := BX.cell 5 _ rfl
      have cy0 := BY.cell 0 _ rfl
      have cy1 := BY.cell 1 _ rfl
      have cy2 := BY.cell 2 _ rfl
      have cy3 := BY.cell 3 _ rfl
      have cy4 := BY.cell 4 _ rfl
      have cy5 := BY.cell 5 _ rfl
      go_wp2_with fail
      refine (con_pt (k := Noo [s0, s1, s2, s3, s4, s5] [t0, t1, t2, t3, t4, t5]) fS fT (noo_iff _ _)).mono ?_
      rintro e w9 ⟨rfl, hb⟩
      replace Br := Br.later hb
      replace bel := below_step bel hb
      clear hb ltx lty cx0 cy0 cx1 cy1 cx2 cy2 cx3 cy3 cx4 cy4 cx5 cy5
      have ltr := Br.lt
      have d0 := Br.cell 0 _ rfl; have g0 := Br.frozen 0; have d1 := Br.cell 1 _ rfl; have g1 := Br.frozen 1; have d2 := Br.cell 2 _ rfl; have g2 := Br.frozen 2; have d3 := Br.cell 3 _ rfl; have g3 := Br.frozen 3; have d4 := Br.cell 4 _ rfl; have g4 := Br.frozen 4; have d5 := Br.cell 5 _ rfl; have g5 := Br.frozen 5; have d6 := Br.cell 6 _ rfl; have g6 := Br.frozen 6; have d7 := Br.cell 7 _ rfl; have g7 := Br.frozen 7; have d8 := Br.cell 8 _ rfl; have g8 := Br.frozen 8; have d9 := Br.cell 9 _ rfl; have g9 := Br.frozen 9; have d10 := Br.cell 10 _ rfl; have g10 := Br.frozen 10; have d11 := Br.cell 11 _ rfl; have g11 := Br.frozen 11; have d12 := Br.cell 12 _ rfl; have g12 := Br.frozen 12
      go_wp2_with fail
      exact bodyPost_ret (v := .agg #[.int .u64 s0, .int .u64 s1, .int .u64 s2, .int .u64 s3, .int .u64 s4, .int .u64 s5, .int .u64 t0, .int .u64 t1, .int .u64 t2, .int .u64 t3, .int .u64 t4, .int .u64 t5, .bool (Noo [s0, s1, s2, s3, s4, s5] [t0, t1, t2, t3, t4, t5])]) (by simp [results, Tryd.results27, go_sem, d0, d1, d2, d3, d4, d5, d6, d7, d8, d9, d10, d11, d12]) rfl ⟨⟨s0, s1, s2, s3, s4, s5, t0, t1, t2, t3, t4, t5, rfl, fS, fT, HF.out⟩, below_put13 bel (by omega)⟩

end Go.Proofs.YtpgidlnpcjbfhabDoor
