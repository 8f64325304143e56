/- The law CurveAdds answers true: the sum of any two points, or that one is none. -/
import Derived.Test.YtpgidlnpcjbfhaaDoorRows
import Derived.Test.YtpgidlnpcjbfhaaDoorCUp
import Derived.Test.YtpgidlnpcjbfhaaDoorCOn
import Derived.Test.YtpgidlnpcjbfhaaDoorCOf
import Derived.Test.YtpgidlnpcjbfhaaDoorCRefC
import Derived.Deep.WholeRow
import Derived.Deep.RegionHeld3
import Derived.Deep.DeepCutAuto
import Derived.Deep.DeepFit
namespace Go.Proofs.YtpgidlnpcjbfhaaDoor
open Go.RowKit

set_option maxRecDepth 100000 in
set_option maxHeartbeats 8000000 in
theorem adds_ok (x0 x1 x2 x3 x4 x5 y0 y1 y2 y3 y4 y5 : Int) (n : Bool) (a0 a1 a2 a3 a4 a5 b0 b1 b2 b3 b4 b5 : Int) (m : Bool) (w : World) (G : GlsC w) (fX : fits [x0, x1, x2, x3, x4, x5]) (fY : fits [y0, y1, y2, y3, y4, y5]) (fA : fits [a0, a1, a2, a3, a4, a5]) (fB : fits [b0, b1, b2, b3, b4, b5]) (hP : IsOn n (v64 [x0, x1, x2, x3, x4, x5]) (v64 [y0, y1, y2, y3, y4, y5])) (hQ : IsOn m (v64 [a0, a1, a2, a3, a4, a5]) (v64 [b0, b1, b2, b3, b4, b5])) :
    Calls Tryd.prog 4 #[.agg #[.int .u64 x0, .int .u64 x1, .int .u64 x2, .int .u64 x3, .int .u64 x4, .int .u64 x5, .int .u64 y0, .int .u64 y1, .int .u64 y2, .int .u64 y3, .int .u64 y4, .int .u64 y5, .bool n], .agg #[.int .u64 a0, .int .u64 a1, .int .u64 a2, .int .u64 a3, .int .u64 a4, .int .u64 a5, .int .u64 b0, .int .u64 b1, .int .u64 b2, .int .u64 b3, .int .u64 b4, .int .u64 b5, .bool m]] w fun e w' => e = .returned (.bool true) ∧ Below w.heap.size w w' := by
  obtain ⟨P, oP, tP⟩ := told_on fX fY rfl rfl hP
  obtain ⟨Q, oQ, tQ⟩ := told_on fA fB rfl rfl hQ
  have HP : Hid _ := hP
  have HQ : Hid _ := hQ
  clear hP hQ
  have B0 := (Blk.new w [.int .u64 x0, .int .u64 x1, .int .u64 x2, .int .u64 x3, .int .u64 x4, .int .u64 x5, .int .u64 y0, .int .u64 y1, .int .u64 y2, .int .u64 y3, .int .u64 y4, .int .u64 y5, .bool n] 26 (w.heap.size) rfl).alloc (.cells [.int .u64 a0, .int .u64 a1, .int .u64 a2, .int .u64 a3, .int .u64 a4, .int .u64 a5, .int .u64 b0, .int .u64 b1, .int .u64 b2, .int .u64 b3, .int .u64 b4, .int .u64 b5, .bool m].toArray 26)
  have B1 := Blk.new (w.alloc (.cells [.int .u64 x0, .int .u64 x1, .int .u64 x2, .int .u64 x3, .int .u64 x4, .int .u64 x5, .int .u64 y0, .int .u64 y1, .int .u64 y2, .int .u64 y3, .int .u64 y4, .int .u64 y5, .bool n].toArray 26)) [.int .u64 a0, .int .u64 a1, .int .u64 a2, .int .u64 a3, .int .u64 a4, .int .u64 a5, .int .u64 b0, .int .u64 b1, .int .u64 b2, .int .u64 b3, .int .u64 b4, .int .u64 b5, .bool m] 26 (w.heap.size + 1) (by simp)
  have bel : Below w.heap.size w ((w.alloc (.cells [.int .u64 x0, .int .u64 x1, .int .u64 x2, .int .u64 x3, .int .u64 x4, .int .u64 x5, .int .u64 y0, .int .u64 y1, .int .u64 y2, .int .u64 y3, .int .u64 y4, .int .u64 y5, .bool n].toArray 26)).alloc (.cells [.int .u64 a0, .int .u64 a1, .int .u64 a2, .int .u64 a3, .int .u64 a4, .int .u64 a5, .int .u64 b0, .int .u64 b1, .int .u64 b2, .int .u64 b3, .int .u64 b4, .int .u64 b5, .bool m].toArray 26)) := (((Below.refl _ _).alloc (Nat.le_refl _) _).alloc (by simp) _)
  go_enter Tryd.func4, Tryd.ntmps4
  go_upto_region 1 with fail
  try simp only [us, List.map_cons, List.map_nil] at bel
  generalize ((w.alloc (Obj.cells #[.int .u64 x0, .int .u64 x1, .int .u64 x2, .int .u64 x3, .int .u64 x4, .int .u64 x5, .int .u64 y0, .int .u64 y1, .int .u64 y2, .int .u64 y3, .int .u64 y4, .int .u64 y5, .bool n] 26)).alloc (Obj.cells #[.int .u64 a0, .int .u64 a1, .int .u64 a2, .int .u64 a3, .int .u64 a4, .int .u64 a5, .int .u64 b0, .int .u64 b1, .int .u64 b2, .int .u64 b3, .int .u64 b4, .int .u64 b5, .bool m] 26)) = W at *
  have Bp := B0
  have Bq := B1
  clear B0 B1
  go_wp2_with fail
  refine (up_any (G.below bel)).mono ?_
  rintro e w1 ⟨rfl, hb⟩
  replace Bp := Bp.later hb
  replace Bq := Bq.later hb
  replace bel := below_step bel hb
  clear hb
  have ltp := Bp.lt
  have cp0 := Bp.cell 0 _ rfl
  have cp1 := Bp.cell 1 _ rfl
  have cp2 := Bp.cell 2 _ rfl
  have cp3 := Bp.cell 3 _ rfl
  have cp4 := Bp.cell 4 _ rfl
  have cp5 := Bp.cell 5 _ rfl
  have cp6 := Bp.cell 6 _ rfl
  have cp7 := Bp.cell 7 _ rfl
  have cp8 := Bp.cell 8 _ rfl
  have cp9 := Bp.cell 9 _ rfl
  have cp10 := Bp.cell 10 _ rfl
  have cp11 := Bp.cell 11 _ rfl
  have cp12 := Bp.cell 12 _ rfl
  have ltq := Bq.lt
  have cq0 := Bq.cell 0 _ rfl
  have cq1 := Bq.cell 1 _ rfl
  have cq2 := Bq.cell 2 _ rfl
  have cq3 := Bq.cell 3 _ rfl
  have cq4 := Bq.cell 4 _ rfl
  have cq5 := Bq.cell 5 _ rfl
  have cq6 := Bq.cell 6 _ rfl
  have cq7 := Bq.cell 7 _ rfl
  have cq8 := Bq.cell 8 _ rfl
  have cq9 := Bq.cell 9 _ rfl
  have cq10 := Bq.cell 10 _ rfl
  have cq11 := Bq.cell 11 _ rfl
  have cq12 := Bq.cell 12 _ rfl
  go_wp2_with fail
  refine (con_Add (G.below bel) tP tQ oP oQ).mono ?_
  rintro e w2 ⟨s0, s1, s2, s3, s4, s5, t0, t1, t2, t3, t4, t5, kk, rfl, TS, hb⟩
  clear ltp cp0 cp1 cp2 cp3 cp4 cp5 cp6 cp7 cp8 cp9 cp10 cp11 cp12 ltq cq0 cq1 cq2 cq3 cq4 cq5 cq6 cq7 cq8 cq9 cq10 cq11 cq12
  replace Bp := Bp.later hb
  replace Bq := Bq.later hb
  replace bel := below_step bel hb
  clear hb
  replace Bp := Bp.alloc (.cells [.int .u64 s0, .int .u64 s1, .int .u64 s2, .int .u64 s3, .int .u64 s4, .int .u64 s5, .int .u64 t0, .int .u64 t1, .int .u64 t2, .int .u64 t3, .int .u64 t4, .int .u64 t5, .bool kk].toArray 26)
  replace Bq := Bq.alloc (.cells [.int .u64 s0, .int .u64 s1, .int .u64 s2, .int .u64 s3, .int .u64 s4, .int .u64 s5, .int .u64 t0, .int .u64 t1, .int .u64 t2, .int .u64 t3, .int .u64 t4, .int .u64 t5, .bool kk].toArray 26)
  have Bs := Blk.new w2 [.int .u64 s0, .int .u64 s1, .int .u64 s2, .int .u64 s3, .int .u64 s4, .int .u64 s5, .int .u64 t0, .int .u64 t1, .int .u64 t2, .int .u64 t3, .int .u64 t4, .int .u64 t5, .bool kk] 26 w2.heap.size rfl
  replace bel := below_alloc (o := .cells [.int .u64 s0, .int .u64 s1, .int .u64 s2, .int .u64 s3, .int .u64 s4, .int .u64 s5, .int .u64 t0, .int .u64 t1, .int .u64 t2, .int .u64 t3, .int .u64 t4, .int .u64 t5, .bool kk].toArray 26) bel
  have lws : ∀ z, z < w2.heap.size → z ≠ w2.heap.size := fun z h => Nat.ne_of_lt h
  have ltp := Bp.lt
  have cp0 := Bp.cell 0 _ rfl
  have cp1 := Bp.cell 1 _ rfl
  have cp2 := Bp.cell 2 _ rfl
  have cp3 := Bp.cell 3 _ rfl
  have cp4 := Bp.cell 4 _ rfl
  have cp5 := Bp.cell 5 _ rfl
  have cp6 := Bp.cell 6 _ rfl
  have cp7 := Bp.cell 7 _ rfl
  have cp8 := Bp.cell 8 _ rfl
  have cp9 := Bp.cell 9 _ rfl
  have cp10 := Bp.cell 10 _ rfl
  have cp11 := Bp.cell 11 _ rfl
  have cp12 := Bp.cell 12 _ rfl
  go_wp2_with fail
  obtain ⟨bs, hbs⟩ : ∃ b, b = w2.heap.size := ⟨_, rfl⟩
  clear lws
  generalize w2.alloc (Obj.cells #[.int .u64 s0, .int .u64 s1, .int .u64 s2, .int .u64 s3, .int .u64 s4, .int .u64 s5, .int .u64 t0, .int .u64 t1, .int .u64 t2, .int .u64 t3, .int .u64 t4, .int .u64 t5, .bool kk] 26) = Ws at *
  rw [← hbs] at Bs ⊢
  clear hbs
  refine (r5_On (b := true) fX fY ⟨fun _ => HP.out, fun _ => rfl⟩).mono ?_
  rintro e w3 ⟨rfl, hb⟩
  clear ltp cp0 cp1 cp2 cp3 cp4 cp5 cp6 cp7 cp8 cp9 cp10 cp11 cp12
  replace Bp := Bp.later hb
  replace Bq := Bq.later hb
  replace Bs := Bs.later hb
  replace bel := below_step bel hb
  clear hb
  have ltq := Bq.lt
  have cq0 := Bq.cell 0 _ rfl
  have cq1 := Bq.cell 1 _ rfl
  have cq2 := Bq.cell 2 _ rfl
  have cq3 := Bq.cell 3 _ rfl
  have cq4 := Bq.cell 4 _ rfl
  have cq5 := Bq.cell 5 _ rfl
  have cq6 := Bq.cell 6 _ rfl
  have cq7 := Bq.cell 7 _ rfl
  have cq8 := Bq.cell 8 _ rfl
  have cq9 := Bq.cell 9 _ rfl
  have cq10 := Bq.cell 10 _ rfl
  have cq11 := Bq.cell 11 _ rfl
  have cq12 := Bq.cell 12 _ rfl
  go_wp2_with fail
  refine (r5_On (b := true) fA fB ⟨fun _ => HQ.out, fun _ => rfl⟩).mono ?_
  rintro e w4 ⟨rfl, hb⟩
  clear ltq cq0 cq1 cq2 cq3 cq4 cq5 cq6 cq7 cq8 cq9 cq10 cq11 cq12
  replace Bp := Bp.later hb
  replace Bq := Bq.later hb
  replace Bs := Bs.later hb
  replace bel := below_step bel hb
  clear hb
  have q1 := iface_nilC
  have q2 := eql_pt_same s0 s1 s2 s3 s4 s5 t0 t1 t2 t3 t4 t5 kk
  go_upto_region 7 with fail
  obtain ⟨S1, hS1, KL1, KA1, KD1, KS1, KQ1, KN1, KB1, KM1, KR1⟩ := held3 (w0 := w) (W := _) [(w.heap.size, [.int .u64 x0, .int .u64 x1, .int .u64 x2, .int .u64 x3, .int .u64 x4, .int .u64 x5, .int .u64 y0, .int .u64 y1, .int .u64 y2, .int .u64 y3, .int .u64 y4, .int .u64 y5, .bool n]), (w.heap.size + 1, [.int .u64 a0, .int .u64 a1, .int .u64 a2, .int .u64 a3, .int .u64 a4, .int .u64 a5, .int .u64 b0, .int .u64 b1, .int .u64 b2, .int .u64 b3, .int .u64 b4, .int .u64 b5, .bool m]), (bs, [.int .u64 s0, .int .u64 s1, .int .u64 s2, .int .u64 s3, .int .u64 s4, .int .u64 s5, .int .u64 t0, .int .u64 t1, .int .u64 t2, .int .u64 t3, .int .u64 t4, .int .u64 t5, .bool kk])] (by
    intro b X h
    simp only [List.mem_cons, List.not_mem_nil, or_false, Prod.mk.injEq] at h
    rcases h with ⟨rfl, rfl⟩ | ⟨rfl, rfl⟩ | ⟨rfl, rfl⟩
    · exact Bp
    · exact Bq
    · exact Bs) bel
  have kb1a : ∀ wx, Hd S1 wx → Blk wx (w.heap.size) [.int .u64 x0, .int .u64 x1, .int .u64 x2, .int .u64 x3, .int .u64 x4, .int .u64 x5, .int .u64 y0, .int .u64 y1, .int .u64 y2, .int .u64 y3, .int .u64 y4, .int .u64 y5, .bool n] := fun wx h => KM1.out wx _ _ h (by simp)
  have c1a0 := rulec kb1a 0 _ rfl
  have c1a1 := rulec kb1a 1 _ rfl
  have c1a2 := rulec kb1a 2 _ rfl
  have c1a3 := rulec kb1a 3 _ rfl
  have c1a4 := rulec kb1a 4 _ rfl
  have c1a5 := rulec kb1a 5 _ rfl
  have c1a6 := rulec kb1a 6 _ rfl
  have c1a7 := rulec kb1a 7 _ rfl
  have c1a8 := rulec kb1a 8 _ rfl
  have c1a9 := rulec kb1a 9 _ rfl
  have c1a10 := rulec kb1a 10 _ rfl
  have c1a11 := rulec kb1a 11 _ rfl
  have c1a12 := rulec kb1a 12 _ rfl
  have c1al := ruleb kb1a
  clear kb1a
  have kb1b : ∀ wx, Hd S1 wx → Blk wx (w.heap.size + 1) [.int .u64 a0, .int .u64 a1, .int .u64 a2, .int .u64 a3, .int .u64 a4, .int .u64 a5, .int .u64 b0, .int .u64 b1, .int .u64 b2, .int .u64 b3, .int .u64 b4, .int .u64 b5, .bool m] := fun wx h => KM1.out wx _ _ h (by simp)
  have c1b0 := rulec kb1b 0 _ rfl
  have c1b1 := rulec kb1b 1 _ rfl
  have c1b2 := rulec kb1b 2 _ rfl
  have c1b3 := rulec kb1b 3 _ rfl
  have c1b4 := rulec kb1b 4 _ rfl
  have c1b5 := rulec kb1b 5 _ rfl
  have c1b6 := rulec kb1b 6 _ rfl
  have c1b7 := rulec kb1b 7 _ rfl
  have c1b8 := rulec kb1b 8 _ rfl
  have c1b9 := rulec kb1b 9 _ rfl
  have c1b10 := rulec kb1b 10 _ rfl
  have c1b11 := rulec kb1b 11 _ rfl
  have c1b12 := rulec kb1b 12 _ rfl
  have c1bl := ruleb kb1b
  clear kb1b
  have kb1c : ∀ wx, Hd S1 wx → Blk wx (bs) [.int .u64 s0, .int .u64 s1, .int .u64 s2, .int .u64 s3, .int .u64 s4, .int .u64 s5, .int .u64 t0, .int .u64 t1, .int .u64 t2, .int .u64 t3, .int .u64 t4, .int .u64 t5, .bool kk] := fun wx h => KM1.out wx _ _ h (by simp)
  have c1c0 := rulec kb1c 0 _ rfl
  have c1c1 := rulec kb1c 1 _ rfl
  have c1c2 := rulec kb1c 2 _ rfl
  have c1c3 := rulec kb1c 3 _ rfl
  have c1c4 := rulec kb1c 4 _ rfl
  have c1c5 := rulec kb1c 5 _ rfl
  have c1c6 := rulec kb1c 6 _ rfl
  have c1c7 := rulec kb1c 7 _ rfl
  have c1c8 := rulec kb1c 8 _ rfl
  have c1c9 := rulec kb1c 9 _ rfl
  have c1c10 := rulec kb1c 10 _ rfl
  have c1c11 := rulec kb1c 11 _ rfl
  have c1c12 := rulec kb1c 12 _ rfl
  have c1cl := ruleb kb1c
  clear kb1c
  have hN1 := bel.size
  clear bel Bp Bq Bs
  go_region_held3 (Hd S1)
    (first
      | with_reducible exact KL1.out _ _ (by assumption) hb
      | with_reducible exact KA1.out _ _ (by assumption)
      | with_reducible exact KS1.out _ _ _ (by omega) (by assumption)
      | with_reducible exact KD1.out _ hS1
      | with_reducible exact KD1.out _ (KA1.out _ _ hS1)
      | with_reducible assumption)
    (first
      | (go_at_call 17; go_fit (r5_Of tP); rintro e w' ⟨v1, rfl, P1, hb⟩)
      | (go_at_call 17; go_fit (r5_Of tQ); rintro e w' ⟨v2, rfl, P2, hb⟩; (first | replace P1 := P1.later hb | replace P1 := P1.drew.later hb | skip))
      | (go_at_call 16; go_fit (r5_Add P1 P2 oP oQ); rintro e w' ⟨v3, rfl, P3, hb⟩)
      | (go_at_call 15; go_fit (r5_To P3 TS); rintro e w' ⟨rfl, hb⟩))
  all_goals go_wp2
  all_goals (go_ret; exact ⟨rfl, KB1.out _ (by assumption)⟩)

set_option maxRecDepth 100000 in
set_option maxHeartbeats 8000000 in
theorem adds_bad1 (x0 x1 x2 x3 x4 x5 y0 y1 y2 y3 y4 y5 : Int) (n : Bool) (a0 a1 a2 a3 a4 a5 b0 b1 b2 b3 b4 b5 : Int) (m : Bool) (w : World) (G : GlsC w) (fX : fits [x0, x1, x2, x3, x4, x5]) (fY : fits [y0, y1, y2, y3, y4, y5]) (fA : fits [a0, a1, a2, a3, a4, a5]) (fB : fits [b0, b1, b2, b3, b4, b5]) (hP : ¬ IsOn n (v64 [x0, x1, x2, x3, x4, x5]) (v64 [y0, y1, y2, y3, y4, y5])) (hQ : IsOn m (v64 [a0, a1, a2, a3, a4, a5]) (v64 [b0, b1, b2, b3, b4, b5])) :
    Calls Tryd.prog 4 #[.agg #[.int .u64 x0, .int .u64 x1, .int .u64 x2, .int .u64 x3, .int .u64 x4, .int .u64 x5, .int .u64 y0, .int .u64 y1, .int .u64 y2, .int .u64 y3, .int .u64 y4, .int .u64 y5, .bool n], .agg #[.int .u64 a0, .int .u64 a1, .int .u64 a2, .int .u64 a3, .int .u64 a4, .int .u64 a5, .int .u64 b0, .int .u64 b1, .int .u64 b2, .int .u64 b3, .int .u64 b4, .int .u64 b5, .bool m]] w fun e w' => e = .returned (.bool true) ∧ Below w.heap.size w w' := by
  have HP : Hid _ := hP
  clear hP
  have HQ : Hid _ := hQ
  clear hQ
  have B0 := (Blk.new w [.int .u64 x0, .int .u64 x1, .int .u64 x2, .int .u64 x3, .int .u64 x4, .int .u64 x5, .int .u64 y0, .int .u64 y1, .int .u64 y2, .int .u64 y3, .int .u64 y4, .int .u64 y5, .bool n] 26 (w.heap.size) rfl).alloc (.cells [.int .u64 a0, .int .u64 a1, .int .u64 a2, .int .u64 a3, .int .u64 a4, .int .u64 a5, .int .u64 b0, .int .u64 b1, .int .u64 b2, .int .u64 b3, .int .u64 b4, .int .u64 b5, .bool m].toArray 26)
  have B1 := Blk.new (w.alloc (.cells [.int .u64 x0, .int .u64 x1, .int .u64 x2, .int .u64 x3, .int .u64 x4, .int .u64 x5, .int .u64 y0, .int .u64 y1, .int .u64 y2, .int .u64 y3, .int .u64 y4, .int .u64 y5, .bool n].toArray 26)) [.int .u64 a0, .int .u64 a1, .int .u64 a2, .int .u64 a3, .int .u64 a4, .int .u64 a5, .int .u64 b0, .int .u64 b1, .int .u64 b2, .int .u64 b3, .int .u64 b4, .int .u64 b5, .bool m] 26 (w.heap.size + 1) (by simp)
  have bel : Below w.heap.size w ((w.alloc (.cells [.int .u64 x0, .int .u64 x1, .int .u64 x2, .int .u64 x3, .int .u64 x4, .int .u64 x5, .int .u64 y0, .int .u64 y1, .int .u64 y2, .int .u64 y3, .int .u64 y4, .int .u64 y5, .bool n].toArray 26)).alloc (.cells [.int .u64 a0, .int .u64 a1, .int .u64 a2, .int .u64 a3, .int .u64 a4, .int .u64 a5, .int .u64 b0, .int .u64 b1, .int .u64 b2, .int .u64 b3, .int .u64 b4, .int .u64 b5, .bool m].toArray 26)) := (((Below.refl _ _).alloc (Nat.le_refl _) _).alloc (by simp) _)
  go_enter Tryd.func4, Tryd.ntmps4
  go_upto_region 1 with fail
  try simp only [us, List.map_cons, List.map_nil] at bel
  generalize ((w.alloc (Obj.cells #[.int .u64 x0, .int .u64 x1, .int .u64 x2, .int .u64 x3, .int .u64 x4, .int .u64 x5, .int .u64 y0, .int .u64 y1, .int .u64 y2, .int .u64 y3, .int .u64 y4, .int .u64 y5, .bool n] 26)).alloc (Obj.cells #[.int .u64 a0, .int .u64 a1, .int .u64 a2, .int .u64 a3, .int .u64 a4, .int .u64 a5, .int .u64 b0, .int .u64 b1, .int .u64 b2, .int .u64 b3, .int .u64 b4, .int .u64 b5, .bool m] 26)) = W at *
  have Bp := B0
  have Bq := B1
  clear B0 B1
  go_wp2_with fail
  refine (up_any (G.below bel)).mono ?_
  rintro e w1 ⟨rfl, hb⟩
  replace Bp := Bp.later hb
  replace Bq := Bq.later hb
  replace bel := below_step bel hb
  clear hb
  have ltp := Bp.lt
  have cp0 := Bp.cell 0 _ rfl
  have cp1 := Bp.cell 1 _ rfl
  have cp2 := Bp.cell 2 _ rfl
  have cp3 := Bp.cell 3 _ rfl
  have cp4 := Bp.cell 4 _ rfl
  have cp5 := Bp.cell 5 _ rfl
  have cp6 := Bp.cell 6 _ rfl
  have cp7 := Bp.cell 7 _ rfl
  have cp8 := Bp.cell 8 _ rfl
  have cp9 := Bp.cell 9 _ rfl
  have cp10 := Bp.cell 10 _ rfl
  have cp11 := Bp.cell 11 _ rfl
  have cp12 := Bp.cell 12 _ rfl
  have ltq := Bq.lt
  have cq0 := Bq.cell 0 _ rfl
  have cq1 := Bq.cell 1 _ rfl
  have cq2 := Bq.cell 2 _ rfl
  have cq3 := Bq.cell 3 _ rfl
  have cq4 := Bq.cell 4 _ rfl
  have cq5 := Bq.cell 5 _ rfl
  have cq6 := Bq.cell 6 _ rfl
  have cq7 := Bq.cell 7 _ rfl
  have cq8 := Bq.cell 8 _ rfl
  have cq9 := Bq.cell 9 _ rfl
  have cq10 := Bq.cell 10 _ rfl
  have cq11 := Bq.cell 11 _ rfl
  have cq12 := Bq.cell 12 _ rfl
  go_wp2_with fail
  refine (con_AddBad (G.below bel) fX fY fA fB (Or.inl HP.out)).mono ?_
  rintro e w2 ⟨rfl, hb⟩
  clear ltp cp0 cp1 cp2 cp3 cp4 cp5 cp6 cp7 cp8 cp9 cp10 cp11 cp12 ltq cq0 cq1 cq2 cq3 cq4 cq5 cq6 cq7 cq8 cq9 cq10 cq11 cq12
  replace Bp := Bp.later hb
  replace Bq := Bq.later hb
  replace bel := below_step bel hb
  clear hb
  replace Bp := Bp.alloc (.cells [.int .u64 0, .int .u64 0, .int .u64 0, .int .u64 0, .int .u64 0, .int .u64 0, .int .u64 0, .int .u64 0, .int .u64 0, .int .u64 0, .int .u64 0, .int .u64 0, .bool false].toArray 26)
  replace Bq := Bq.alloc (.cells [.int .u64 0, .int .u64 0, .int .u64 0, .int .u64 0, .int .u64 0, .int .u64 0, .int .u64 0, .int .u64 0, .int .u64 0, .int .u64 0, .int .u64 0, .int .u64 0, .bool false].toArray 26)
  have Bs := Blk.new w2 [.int .u64 0, .int .u64 0, .int .u64 0, .int .u64 0, .int .u64 0, .int .u64 0, .int .u64 0, .int .u64 0, .int .u64 0, .int .u64 0, .int .u64 0, .int .u64 0, .bool false] 26 w2.heap.size rfl
  replace bel := below_alloc (o := .cells [.int .u64 0, .int .u64 0, .int .u64 0, .int .u64 0, .int .u64 0, .int .u64 0, .int .u64 0, .int .u64 0, .int .u64 0, .int .u64 0, .int .u64 0, .int .u64 0, .bool false].toArray 26) bel
  have lws : ∀ z, z < w2.heap.size → z ≠ w2.heap.size := fun z h => Nat.ne_of_lt h
  have ltp := Bp.lt
  have cp0 := Bp.cell 0 _ rfl
  have cp1 := Bp.cell 1 _ rfl
  have cp2 := Bp.cell 2 _ rfl
  have cp3 := Bp.cell 3 _ rfl
  have cp4 := Bp.cell 4 _ rfl
  have cp5 := Bp.cell 5 _ rfl
  have cp6 := Bp.cell 6 _ rfl
  have cp7 := Bp.cell 7 _ rfl
  have cp8 := Bp.cell 8 _ rfl
  have cp9 := Bp.cell 9 _ rfl
  have cp10 := Bp.cell 10 _ rfl
  have cp11 := Bp.cell 11 _ rfl
  have cp12 := Bp.cell 12 _ rfl
  go_wp2_with fail
  obtain ⟨bs, hbs⟩ : ∃ b, b = w2.heap.size := ⟨_, rfl⟩
  clear lws
  generalize w2.alloc (Obj.cells #[.int .u64 0, .int .u64 0, .int .u64 0, .int .u64 0, .int .u64 0, .int .u64 0, .int .u64 0, .int .u64 0, .int .u64 0, .int .u64 0, .int .u64 0, .int .u64 0, .bool false] 26) = Ws at *
  rw [← hbs] at Bs ⊢
  clear hbs
  refine (r5_On (b := false) fX fY ⟨fun h => absurd h (by simp), fun h => absurd h HP.out⟩).mono ?_
  rintro e w3 ⟨rfl, hb⟩
  clear ltp cp0 cp1 cp2 cp3 cp4 cp5 cp6 cp7 cp8 cp9 cp10 cp11 cp12
  replace Bp := Bp.later hb
  replace Bq := Bq.later hb
  replace Bs := Bs.later hb
  replace bel := below_step bel hb
  clear hb
  have ltq := Bq.lt
  have cq0 := Bq.cell 0 _ rfl
  have cq1 := Bq.cell 1 _ rfl
  have cq2 := Bq.cell 2 _ rfl
  have cq3 := Bq.cell 3 _ rfl
  have cq4 := Bq.cell 4 _ rfl
  have cq5 := Bq.cell 5 _ rfl
  have cq6 := Bq.cell 6 _ rfl
  have cq7 := Bq.cell 7 _ rfl
  have cq8 := Bq.cell 8 _ rfl
  have cq9 := Bq.cell 9 _ rfl
  have cq10 := Bq.cell 10 _ rfl
  have cq11 := Bq.cell 11 _ rfl
  have cq12 := Bq.cell 12 _ rfl
  go_wp2_with fail
  refine (r5_On (b := true) fA fB ⟨fun _ => HQ.out, fun _ => rfl⟩).mono ?_
  rintro e w4 ⟨rfl, hb⟩
  clear ltq cq0 cq1 cq2 cq3 cq4 cq5 cq6 cq7 cq8 cq9 cq10 cq11 cq12
  replace Bp := Bp.later hb
  replace Bq := Bq.later hb
  replace Bs := Bs.later hb
  replace bel := below_step bel hb
  clear hb
  have q1 := iface_eqC 4
  have q2 := eql_pt_same 0 0 0 0 0 0 0 0 0 0 0 0 false
  have lts := Bs.lt
  have cs0 := Bs.cell 0 _ rfl
  have cs1 := Bs.cell 1 _ rfl
  have cs2 := Bs.cell 2 _ rfl
  have cs3 := Bs.cell 3 _ rfl
  have cs4 := Bs.cell 4 _ rfl
  have cs5 := Bs.cell 5 _ rfl
  have cs6 := Bs.cell 6 _ rfl
  have cs7 := Bs.cell 7 _ rfl
  have cs8 := Bs.cell 8 _ rfl
  have cs9 := Bs.cell 9 _ rfl
  have cs10 := Bs.cell 10 _ rfl
  have cs11 := Bs.cell 11 _ rfl
  have cs12 := Bs.cell 12 _ rfl
  go_wp2_with fail
  go_ret
  exact ⟨rfl, bel⟩

set_option maxRecDepth 100000 in
set_option maxHeartbeats 8000000 in
theorem adds_bad3 (x0 x1 x2 x3 x4 x5 y0 y1 y2 y3 y4 y5 : Int) (n : Bool) (a0 a1 a2 a3 a4 a5 b0 b1 b2 b3 b4 b5 : Int) (m : Bool) (w : World) (G : GlsC w) (fX : fits [x0, x1, x2, x3, x4, x5]) (fY : fits [y0, y1, y2, y3, y4, y5]) (fA : fits [a0, a1, a2, a3, a4, a5]) (fB : fits [b0, b1, b2, b3, b4, b5]) (hP : ¬ IsOn n (v64 [x0, x1, x2, x3, x4, x5]) (v64 [y0, y1, y2, y3, y4, y5])) (hQ : ¬ IsOn m (v64 [a0, a1, a2, a3, a4, a5]) (v64 [b0, b1, b2, b3, b4, b5])) :
    Calls Tryd.prog 4 #[.agg #[.int .u64 x0, .int .u64 x1, .int .u64 x2, .int .u64 x3, .int .u64 x4, .int .u64 x5, .int .u64 y0, .int .u64 y1, .int .u64 y2, .int .u64 y3, .int .u64 y4, .int .u64 y5, .bool n], .agg #[.int .u64 a0, .int .u64 a1, .int .u64 a2, .int .u64 a3, .int .u64 a4, .int .u64 a5, .int .u64 b0, .int .u64 b1, .int .u64 b2, .int .u64 b3, .int .u64 b4, .int .u64 b5, .bool m]] w fun e w' => e = .returned (.bool true) ∧ Below w.heap.size w w' := by
  have HP : Hid _ := hP
  clear hP
  have HQ : Hid _ := hQ
  clear hQ
  have B0 := (Blk.new w [.int .u64 x0, .int .u64 x1, .int .u64 x2, .int .u64 x3, .int .u64 x4, .int .u64 x5, .int .u64 y0, .int .u64 y1, .int .u64 y2, .int .u64 y3, .int .u64 y4, .int .u64 y5, .bool n] 26 (w.heap.size) rfl).alloc (.cells [.int .u64 a0, .int .u64 a1, .int .u64 a2, .int .u64 a3, .int .u64 a4, .int .u64 a5, .int .u64 b0, .int .u64 b1, .int .u64 b2, .int .u64 b3, .int .u64 b4, .int .u64 b5, .bool m].toArray 26)
  have B1 := Blk.new (w.alloc (.cells [.int .u64 x0, .int .u64 x1, .int .u64 x2, .int .u64 x3, .int .u64 x4, .int .u64 x5, .int .u64 y0, .int .u64 y1, .int .u64 y2, .int .u64 y3, .int .u64 y4, .int .u64 y5, .bool n].toArray 26)) [.int .u64 a0, .int .u64 a1, .int .u64 a2, .int .u64 a3, .int .u64 a4, .int .u64 a5, .int .u64 b0, .int .u64 b1, .int .u64 b2, .int .u64 b3, .int .u64 b4, .int .u64 b5, .bool m] 26 (w.heap.size + 1) (by simp)
  have bel : Below w.heap.size w ((w.alloc (.cells [.int .u64 x0, .int .u64 x1, .int .u64 x2, .int .u64 x3, .int .u64 x4, .int .u64 x5, .int .u64 y0, .int .u64 y1, .int .u64 y2, .int .u64 y3, .int .u64 y4, .int .u64 y5, .bool n].toArray 26)).alloc (.cells [.int .u64 a0, .int .u64 a1, .int .u64 a2, .int .u64 a3, .int .u64 a4, .int .u64 a5, .int .u64 b0, .int .u64 b1, .int .u64 b2, .int .u64 b3, .int .u64 b4, .int .u64 b5, .bool m].toArray 26)) := (((Below.refl _ _).alloc (Nat.le_refl _) _).alloc (by simp) _)
  go_enter Tryd.func4, Tryd.ntmps4
  go_upto_region 1 with fail
  try simp only [us, List.map_cons, List.map_nil] at bel
  generalize ((w.alloc (Obj.cells #[.int .u64 x0, .int .u64 x1, .int .u64 x2, .int .u64 x3, .int .u64 x4, .int .u64 x5, .int .u64 y0, .int .u64 y1, .int .u64 y2, .int .u64 y3, .int .u64 y4, .int .u64 y5, .bool n] 26)).alloc (Obj.cells #[.int .u64 a0, .int .u64 a1, .int .u64 a2, .int .u64 a3, .int .u64 a4, .int .u64 a5, .int .u64 b0, .int .u64 b1, .int .u64 b2, .int .u64 b3, .int .u64 b4, .int .u64 b5, .bool m] 26)) = W at *
  have Bp := B0
  have Bq := B1
  clear B0 B1
  go_wp2_with fail
  refine (up_any (G.below bel)).mono ?_
  rintro e w1 ⟨rfl, hb⟩
  replace Bp := Bp.later hb
  replace Bq := Bq.later hb
  replace bel := below_step bel hb
  clear hb
  have ltp := Bp.lt
  have cp0 := Bp.cell 0 _ rfl
  have cp1 := Bp.cell 1 _ rfl
  have cp2 := Bp.cell 2 _ rfl
  have cp3 := Bp.cell 3 _ rfl
  have cp4 := Bp.cell 4 _ rfl
  have cp5 := Bp.cell 5 _ rfl
  have cp6 := Bp.cell 6 _ rfl
  have cp7 := Bp.cell 7 _ rfl
  have cp8 := Bp.cell 8 _ rfl
  have cp9 := Bp.cell 9 _ rfl
  have cp10 := Bp.cell 10 _ rfl
  have cp11 := Bp.cell 11 _ rfl
  have cp12 := Bp.cell 12 _ rfl
  have ltq := Bq.lt
  have cq0 := Bq.cell 0 _ rfl
  have cq1 := Bq.cell 1 _ rfl
  have cq2 := Bq.cell 2 _ rfl
  have cq3 := Bq.cell 3 _ rfl
  have cq4 := Bq.cell 4 _ rfl
  have cq5 := Bq.cell 5 _ rfl
  have cq6 := Bq.cell 6 _ rfl
  have cq7 := Bq.cell 7 _ rfl
  have cq8 := Bq.cell 8 _ rfl
  have cq9 := Bq.cell 9 _ rfl
  have cq10 := Bq.cell 10 _ rfl
  have cq11 := Bq.cell 11 _ rfl
  have cq12 := Bq.cell 12 _ rfl
  go_wp2_with fail
  refine (con_AddBad (G.below bel) fX fY fA fB (Or.inl HP.out)).mono ?_
  rintro e w2 ⟨rfl, hb⟩
  clear ltp cp0 cp1 cp2 cp3 cp4 cp5 cp6 cp7 cp8 cp9 cp10 cp11 cp12 ltq cq0 cq1 cq2 cq3 cq4 cq5 cq6 cq7 cq8 cq9 cq10 cq11 cq12
  replace Bp := Bp.later hb
  replace Bq := Bq.later hb
  replace bel := below_step bel hb
  clear hb
  replace Bp := Bp.alloc (.cells [.int .u64 0, .int .u64 0, .int .u64 0, .int .u64 0, .int .u64 0, .int .u64 0, .int .u64 0, .int .u64 0, .int .u64 0, .int .u64 0, .int .u64 0, .int .u64 0, .bool false].toArray 26)
  replace Bq := Bq.alloc (.cells [.int .u64 0, .int .u64 0, .int .u64 0, .int .u64 0, .int .u64 0, .int .u64 0, .int .u64 0, .int .u64 0, .int .u64 0, .int .u64 0, .int .u64 0, .int .u64 0, .bool false].toArray 26)
  have Bs := Blk.new w2 [.int .u64 0, .int .u64 0, .int .u64 0, .int .u64 0, .int .u64 0, .int .u64 0, .int .u64 0, .int .u64 0, .int .u64 0, .int .u64 0, .int .u64 0, .int .u64 0, .bool false] 26 w2.heap.size rfl
  replace bel := below_alloc (o := .cells [.int .u64 0, .int .u64 0, .int .u64 0, .int .u64 0, .int .u64 0, .int .u64 0, .int .u64 0, .int .u64 0, .int .u64 0, .int .u64 0, .int .u64 0, .int .u64 0, .bool false].toArray 26) bel
  have lws : ∀ z, z < w2.heap.size → z ≠ w2.heap.size := fun z h => Nat.ne_of_lt h
  have ltp := Bp.lt
  have cp0 := Bp.cell 0 _ rfl
  have cp1 := Bp.cell 1 _ rfl
  have cp2 := Bp.cell 2 _ rfl
  have cp3 := Bp.cell 3 _ rfl
  have cp4 := Bp.cell 4 _ rfl
  have cp5 := Bp.cell 5 _ rfl
  have cp6 := Bp.cell 6 _ rfl
  have cp7 := Bp.cell 7 _ rfl
  have cp8 := Bp.cell 8 _ rfl
  have cp9 := Bp.cell 9 _ rfl
  have cp10 := Bp.cell 10 _ rfl
  have cp11 := Bp.cell 11 _ rfl
  have cp12 := Bp.cell 12 _ rfl
  go_wp2_with fail
  obtain ⟨bs, hbs⟩ : ∃ b, b = w2.heap.size := ⟨_, rfl⟩
  clear lws
  generalize w2.alloc (Obj.cells #[.int .u64 0, .int .u64 0, .int .u64 0, .int .u64 0, .int .u64 0, .int .u64 0, .int .u64 0, .int .u64 0, .int .u64 0, .int .u64 0, .int .u64 0, .int .u64 0, .bool false] 26) = Ws at *
  rw [← hbs] at Bs ⊢
  clear hbs
  refine (r5_On (b := false) fX fY ⟨fun h => absurd h (by simp), fun h => absurd h HP.out⟩).mono ?_
  rintro e w3 ⟨rfl, hb⟩
  clear ltp cp0 cp1 cp2 cp3 cp4 cp5 cp6 cp7 cp8 cp9 cp10 cp11 cp12
  replace Bp := Bp.later hb
  replace Bq := Bq.later hb
  replace Bs := Bs.later hb
  replace bel := below_step bel hb
  clear hb
  have ltq := Bq.lt
  have cq0 := Bq.cell 0 _ rfl
  have cq1 := Bq.cell 1 _ rfl
  have cq2 := Bq.cell 2 _ rfl
  have cq3 := Bq.cell 3 _ rfl
  have cq4 := Bq.cell 4 _ rfl
  have cq5 := Bq.cell 5 _ rfl
  have cq6 := Bq.cell 6 _ rfl
  have cq7 := Bq.cell 7 _ rfl
  have cq8 := Bq.cell 8 _ rfl
  have cq9 := Bq.cell 9 _ rfl
  have cq10 := Bq.cell 10 _ rfl
  have cq11 := Bq.cell 11 _ rfl
  have cq12 := Bq.cell 12 _ rfl
  go_wp2_with fail
  refine (r5_On (b := false) fA fB ⟨fun h => absurd h (by simp), fun h => absurd h HQ.out⟩).mono ?_
  rintro e w4 ⟨rfl, hb⟩
  clear ltq cq0 cq1 cq2 cq3 cq4 cq5 cq6 cq7 cq8 cq9 cq10 cq11 cq12
  replace Bp := Bp.later hb
  replace Bq := Bq.later hb
  replace Bs := Bs.later hb
  replace bel := below_step bel hb
  clear hb
  have q1 := iface_eqC 4
  have q2 := eql_pt_same 0 0 0 0 0 0 0 0 0 0 0 0 false
  have lts := Bs.lt
  have cs0 := Bs.cell 0 _ rfl
  have cs1 := Bs.cell 1 _ rfl
  have cs2 := Bs.cell 2 _ rfl
  have cs3 := Bs.cell 3 _ rfl
  have cs4 := Bs.cell 4 _ rfl
  have cs5 := Bs.cell 5 _ rfl
  have cs6 := Bs.cell 6 _ rfl
  have cs7 := Bs.cell 7 _ rfl
  have cs8 := Bs.cell 8 _ rfl
  have cs9 := Bs.cell 9 _ rfl
  have cs10 := Bs.cell 10 _ rfl
  have cs11 := Bs.cell 11 _ rfl
  have cs12 := Bs.cell 12 _ rfl
  go_wp2_with fail
  go_ret
  exact ⟨rfl, bel⟩

set_option maxRecDepth 100000 in
set_option maxHeartbeats 8000000 in
theorem adds_bad2 (x0 x1 x2 x3 x4 x5 y0 y1 y2 y3 y4 y5 : Int) (n : Bool) (a0 a1 a2 a3 a4 a5 b0 b1 b2 b3 b4 b5 : Int) (m : Bool) (w : World) (G : GlsC w) (fX : fits [x0, x1, x2, x3, x4, x5]) (fY : fits [y0, y1, y2, y3, y4, y5]) (fA : fits [a0, a1, a2, a3, a4, a5]) (fB : fits [b0, b1, b2, b3, b4, b5]) (hP : IsOn n (v64 [x0, x1, x2, x3, x4, x5]) (v64 [y0, y1, y2, y3, y4, y5])) (hQ : ¬ IsOn m (v64 [a0, a1, a2, a3, a4, a5]) (v64 [b0, b1, b2, b3, b4, b5])) :
    Calls Tryd.prog 4 #[.agg #[.int .u64 x0, .int .u64 x1, .int .u64 x2, .int .u64 x3, .int .u64 x4, .int .u64 x5, .int .u64 y0, .int .u64 y1, .int .u64 y2, .int .u64 y3, .int .u64 y4, .int .u64 y5, .bool n], .agg #[.int .u64 a0, .int .u64 a1, .int .u64 a2, .int .u64 a3, .int .u64 a4, .int .u64 a5, .int .u64 b0, .int .u64 b1, .int .u64 b2, .int .u64 b3, .int .u64 b4, .int .u64 b5, .bool m]] w fun e w' => e = .returned (.bool true) ∧ Below w.heap.size w w' := by
  have HP : Hid _ := hP
  clear hP
  have HQ : Hid _ := hQ
  clear hQ
  have B0 := (Blk.new w [.int .u64 x0, .int .u64 x1, .int .u64 x2, .int .u64 x3, .int .u64 x4, .int .u64 x5, .int .u64 y0, .int .u64 y1, .int .u64 y2, .int .u64 y3, .int .u64 y4, .int .u64 y5, .bool n] 26 (w.heap.size) rfl).alloc (.cells [.int .u64 a0, .int .u64 a1, .int .u64 a2, .int .u64 a3, .int .u64 a4, .int .u64 a5, .int .u64 b0, .int .u64 b1, .int .u64 b2, .int .u64 b3, .int .u64 b4, .int .u64 b5, .bool m].toArray 26)
  have B1 := Blk.new (w.alloc (.cells [.int .u64 x0, .int .u64 x1, .int .u64 x2, .int .u64 x3, .int .u64 x4, .int .u64 x5, .int .u64 y0, .int .u64 y1, .int .u64 y2, .int .u64 y3, .int .u64 y4, .int .u64 y5, .bool n].toArray 26)) [.int .u64 a0, .int .u64 a1, .int .u64 a2, .int .u64 a3, .int .u64 a4, .int .u64 a5, .int .u64 b0, .int .u64 b1, .int .u64 b2, .int .u64 b3, .int .u64 b4, .int .u64 b5, .bool m] 26 (w.heap.size + 1) (by simp)
  have bel : Below w.heap.size w ((w.alloc (.cells [.int .u64 x0, .int .u64 x1, .int .u64 x2, .int .u64 x3, .int .u64 x4, .int .u64 x5, .int .u64 y0, .int .u64 y1, .int .u64 y2, .int .u64 y3, .int .u64 y4, .int .u64 y5, .bool n].toArray 26)).alloc (.cells [.int .u64 a0, .int .u64 a1, .int .u64 a2, .int .u64 a3, .int .u64 a4, .int .u64 a5, .int .u64 b0, .int .u64 b1, .int .u64 b2, .int .u64 b3, .int .u64 b4, .int .u64 b5, .bool m].toArray 26)) := (((Below.refl _ _).alloc (Nat.le_refl _) _).alloc (by simp) _)
  go_enter Tryd.func4, Tryd.ntmps4
  go_upto_region 1 with fail
  try simp only [us, List.map_cons, List.map_nil] at bel
  generalize ((w.alloc (Obj.cells #[.int .u64 x0, .int .u64 x1, .int .u64 x2, .int .u64 x3, .int .u64 x4, .int .u64 x5, .int .u64 y0, .int .u64 y1, .int .u64 y2, .int .u64 y3, .int .u64 y4, .int .u64 y5, .bool n] 26)).alloc (Obj.cells #[.int .u64 a0, .int .u64 a1, .int .u64 a2, .int .u64 a3, .int .u64 a4, .int .u64 a5, .int .u64 b0, .int .u64 b1, .int .u64 b2, .int .u64 b3, .int .u64 b4, .int .u64 b5, .bool m] 26)) = W at *
  have Bp := B0
  have Bq := B1
  clear B0 B1
  go_wp2_with fail
  refine (up_any (G.below bel)).mono ?_
  rintro e w1 ⟨rfl, hb⟩
  replace Bp := Bp.later hb
  replace Bq := Bq.later hb
  replace bel := below_step bel hb
  clear hb
  have ltp := Bp.lt
  have cp0 := Bp.cell 0 _ rfl
  have cp1 := Bp.cell 1 _ rfl
  have cp2 := Bp.cell 2 _ rfl
  have cp3 := Bp.cell 3 _ rfl
  have cp4 := Bp.cell 4 _ rfl
  have cp5 := Bp.cell 5 _ rfl
  have cp6 := Bp.cell 6 _ rfl
  have cp7 := Bp.cell 7 _ rfl
  have cp8 := Bp.cell 8 _ rfl
  have cp9 := Bp.cell 9 _ rfl
  have cp10 := Bp.cell 10 _ rfl
  have cp11 := Bp.cell 11 _ rfl
  have cp12 := Bp.cell 12 _ rfl
  have ltq := Bq.lt
  have cq0 := Bq.cell 0 _ rfl
  have cq1 := Bq.cell 1 _ rfl
  have cq2 := Bq.cell 2 _ rfl
  have cq3 := Bq.cell 3 _ rfl
  have cq4 := Bq.cell 4 _ rfl
  have cq5 := Bq.cell 5 _ rfl
  have cq6 := Bq.cell 6 _ rfl
  have cq7 := Bq.cell 7 _ rfl
  have cq8 := Bq.cell 8 _ rfl
  have cq9 := Bq.cell 9 _ rfl
  have cq10 := Bq.cell 10 _ rfl
  have cq11 := Bq.cell 11 _ rfl
  have cq12 := Bq.cell 12 _ rfl
  go_wp2_with fail
  refine (con_AddBad (G.below bel) fX fY fA fB (Or.inr HQ.out)).mono ?_
  rintro e w2 ⟨rfl, hb⟩
  clear ltp cp0 cp1 cp2 cp3 cp4 cp5 cp6 cp7 cp8 cp9 cp10 cp11 cp12 ltq cq0 cq1 cq2 cq3 cq4 cq5 cq6 cq7 cq8 cq9 cq10 cq11 cq12
  replace Bp := Bp.later hb
  replace Bq := Bq.later hb
  replace bel := below_step bel hb
  clear hb
  replace Bp := Bp.alloc (.cells [.int .u64 0, .int .u64 0, .int .u64 0, .int .u64 0, .int .u64 0, .int .u64 0, .int .u64 0, .int .u64 0, .int .u64 0, .int .u64 0, .int .u64 0, .int .u64 0, .bool false].toArray 26)
  replace Bq := Bq.alloc (.cells [.int .u64 0, .int .u64 0, .int .u64 0, .int .u64 0, .int .u64 0, .int .u64 0, .int .u64 0, .int .u64 0, .int .u64 0, .int .u64 0, .int .u64 0, .int .u64 0, .bool false].toArray 26)
  have Bs := Blk.new w2 [.int .u64 0, .int .u64 0, .int .u64 0, .int .u64 0, .int .u64 0, .int .u64 0, .int .u64 0, .int .u64 0, .int .u64 0, .int .u64 0, .int .u64 0, .int .u64 0, .bool false] 26 w2.heap.size rfl
  replace bel := below_alloc (o := .cells [.int .u64 0, .int .u64 0, .int .u64 0, .int .u64 0, .int .u64 0, .int .u64 0, .int .u64 0, .int .u64 0, .int .u64 0, .int .u64 0, .int .u64 0, .int .u64 0, .bool false].toArray 26) bel
  have lws : ∀ z, z < w2.heap.size → z ≠ w2.heap.size := fun z h => Nat.ne_of_lt h
  have ltp := Bp.lt
  have cp0 := Bp.cell 0 _ rfl
  have cp1 := Bp.cell 1 _ rfl
  have cp2 := Bp.cell 2 _ rfl
  have cp3 := Bp.cell 3 _ rfl
  have cp4 := Bp.cell 4 _ rfl
  have cp5 := Bp.cell 5 _ rfl
  have cp6 := Bp.cell 6 _ rfl
  have cp7 := Bp.cell 7 _ rfl
  have cp8 := Bp.cell 8 _ rfl
  have cp9 := Bp.cell 9 _ rfl
  have cp10 := Bp.cell 10 _ rfl
  have cp11 := Bp.cell 11 _ rfl
  have cp12 := Bp.cell 12 _ rfl
  go_wp2_with fail
  obtain ⟨bs, hbs⟩ : ∃ b, b = w2.heap.size := ⟨_, rfl⟩
  clear lws
  generalize w2.alloc (Obj.cells #[.int .u64 0, .int .u64 0, .int .u64 0, .int .u64 0, .int .u64 0, .int .u64 0, .int .u64 0, .int .u64 0, .int .u64 0, .int .u64 0, .int .u64 0, .int .u64 0, .bool false] 26) = Ws at *
  rw [← hbs] at Bs ⊢
  clear hbs
  refine (r5_On (b := true) fX fY ⟨fun _ => HP.out, fun _ => rfl⟩).mono ?_
  rintro e w3 ⟨rfl, hb⟩
  clear ltp cp0 cp1 cp2 cp3 cp4 cp5 cp6 cp7 cp8 cp9 cp10 cp11 cp12
  replace Bp := Bp.later hb
  replace Bq := Bq.later hb
  replace Bs := Bs.later hb
  replace bel := below_step bel hb
  clear hb
  have ltq := Bq.lt
  have cq0 := Bq.cell 0 _ rfl
  have cq1 := Bq.cell 1 _ rfl
  have cq2 := Bq.cell 2 _ rfl
  have cq3 := Bq.cell 3 _ rfl
  have cq4 := Bq.cell 4 _ rfl
  have cq5 := Bq.cell 5 _ rfl
  have cq6 := Bq.cell 6 _ rfl
  have cq7 := Bq.cell 7 _ rfl
  have cq8 := Bq.cell 8 _ rfl
  have cq9 := Bq.cell 9 _ rfl
  have cq10 := Bq.cell 10 _ rfl
  have cq11 := Bq.cell 11 _ rfl
  have cq12 := Bq.cell 12 _ rfl
  go_wp2_with fail
  refine (r5_On (b := false) fA fB ⟨fun h => absurd h (by simp), fun h => absurd h HQ.out⟩).mono ?_
  rintro e w4 ⟨rfl, hb⟩
  clear ltq cq0 cq1 cq2 cq3 cq4 cq5 cq6 cq7 cq8 cq9 cq10 cq11 cq12
  replace Bp := Bp.later hb
  replace Bq := Bq.later hb
  replace Bs := Bs.later hb
  replace bel := below_step bel hb
  clear hb
  have q1 := iface_eqC 4
  have q2 := eql_pt_same 0 0 0 0 0 0 0 0 0 0 0 0 false
  have lts := Bs.lt
  have cs0 := Bs.cell 0 _ rfl
  have cs1 := Bs.cell 1 _ rfl
  have cs2 := Bs.cell 2 _ rfl
  have cs3 := Bs.cell 3 _ rfl
  have cs4 := Bs.cell 4 _ rfl
  have cs5 := Bs.cell 5 _ rfl
  have cs6 := Bs.cell 6 _ rfl
  have cs7 := Bs.cell 7 _ rfl
  have cs8 := Bs.cell 8 _ rfl
  have cs9 := Bs.cell 9 _ rfl
  have cs10 := Bs.cell 10 _ rfl
  have cs11 := Bs.cell 11 _ rfl
  have cs12 := Bs.cell 12 _ rfl
  go_wp2_with fail
  go_ret
  exact ⟨rfl, bel⟩

theorem law_curveAdds (x0 x1 x2 x3 x4 x5 y0 y1 y2 y3 y4 y5 : Int) (n : Bool) (a0 a1 a2 a3 a4 a5 b0 b1 b2 b3 b4 b5 : Int) (m : Bool) (w : World) (G : GlsC w) (fX : fits [x0, x1, x2, x3, x4, x5]) (fY : fits [y0, y1, y2, y3, y4, y5]) (fA : fits [a0, a1, a2, a3, a4, a5]) (fB : fits [b0, b1, b2, b3, b4, b5]) :
    Calls Tryd.prog 4 #[.agg #[.int .u64 x0, .int .u64 x1, .int .u64 x2, .int .u64 x3, .int .u64 x4, .int .u64 x5, .int .u64 y0, .int .u64 y1, .int .u64 y2, .int .u64 y3, .int .u64 y4, .int .u64 y5, .bool n], .agg #[.int .u64 a0, .int .u64 a1, .int .u64 a2, .int .u64 a3, .int .u64 a4, .int .u64 a5, .int .u64 b0, .int .u64 b1, .int .u64 b2, .int .u64 b3, .int .u64 b4, .int .u64 b5, .bool m]] w fun e w' => e = .returned (.bool true) ∧ Below w.heap.size w w' := by
  by_cases hP : IsOn n (v64 [x0, x1, x2, x3, x4, x5]) (v64 [y0, y1, y2, y3, y4, y5])
  · by_cases hQ : IsOn m (v64 [a0, a1, a2, a3, a4, a5]) (v64 [b0, b1, b2, b3, b4, b5])
    · exact adds_ok x0 x1 x2 x3 x4 x5 y0 y1 y2 y3 y4 y5 n a0 a1 a2 a3 a4 a5 b0 b1 b2 b3 b4 b5 m w G fX fY fA fB hP hQ
    · exact adds_bad2 x0 x1 x2 x3 x4 x5 y0 y1 y2 y3 y4 y5 n a0 a1 a2 a3 a4 a5 b0 b1 b2 b3 b4 b5 m w G fX fY fA fB hP hQ
  · by_cases hQ : IsOn m (v64 [a0, a1, a2, a3, a4, a5]) (v64 [b0, b1, b2, b3, b4, b5])
    · exact adds_bad1 x0 x1 x2 x3 x4 x5 y0 y1 y2 y3 y4 y5 n a0 a1 a2 a3 a4 a5 b0 b1 b2 b3 b4 b5 m w G fX fY fA fB hP hQ
    · exact adds_bad3 x0 x1 x2 x3 x4 x5 y0 y1 y2 y3 y4 y5 n a0 a1 a2 a3 a4 a5 b0 b1 b2 b3 b4 b5 m w G fX fY fA fB hP hQ
end Go.Proofs.YtpgidlnpcjbfhaaDoor
