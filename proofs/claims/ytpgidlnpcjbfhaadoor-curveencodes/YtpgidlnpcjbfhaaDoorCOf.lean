/- The document's Of and Neg. -/
import Derived.Test.YtpgidlnpcjbfhaaDoorRows
import Derived.Test.YtpgidlnpcjbfhaaDoorCPt
import Derived.Test.YtpgidlnpcjbfhaaDoorRefA
import Derived.Test.YtpgidlnpcjbfhaaDoorFLaw
import Derived.Deep.WholeRow
import Derived.Deep.RegionHeld3
import Derived.Deep.DeepCutAuto
import Derived.Deep.DeepFit
namespace Go.Proofs.YtpgidlnpcjbfhaaDoor
open Go.RowKit

theorem of6z {x0 x1 x2 x3 x4 x5 : Int} {w : World} (fX : fits [x0, x1, x2, x3, x4, x5]) :
    Calls Tryd.prog 22 #[.agg #[.int .u64 x0, .int .u64 x1, .int .u64 x2, .int .u64 x3, .int .u64 x4, .int .u64 x5]] w fun e w' => ∃ v', e = .returned v' ∧ NumIs w' v' (v64 [x0, x1, x2, x3, x4, x5]) ∧ Below w.heap.size w w' := of6_any [x0, x1, x2, x3, x4, x5] w rfl fX

set_option maxRecDepth 100000 in
set_option maxHeartbeats 1000000 in
theorem of_none {x0 x1 x2 x3 x4 x5 y0 y1 y2 y3 y4 y5 : Int} {w : World} :
    Calls Tryd.prog 17 #[.agg #[.int .u64 x0, .int .u64 x1, .int .u64 x2, .int .u64 x3, .int .u64 x4, .int .u64 x5, .int .u64 y0, .int .u64 y1, .int .u64 y2, .int .u64 y3, .int .u64 y4, .int .u64 y5, .bool true]] w fun e w' => ∃ v', e = .returned v' ∧ PtIs w' v' none ∧ Below w.heap.size w w' := by
  have B0 := (Blk.new w [.int .u64 x0, .int .u64 x1, .int .u64 x2, .int .u64 x3, .int .u64 x4, .int .u64 x5, .int .u64 y0, .int .u64 y1, .int .u64 y2, .int .u64 y3, .int .u64 y4, .int .u64 y5, .bool true] 26 (w.heap.size) rfl).alloc (.cells [.bool false, .slice none 0 0, .slice none 0 0].toArray 41)
  have B1 := Blk.new (w.alloc (.cells [.int .u64 x0, .int .u64 x1, .int .u64 x2, .int .u64 x3, .int .u64 x4, .int .u64 x5, .int .u64 y0, .int .u64 y1, .int .u64 y2, .int .u64 y3, .int .u64 y4, .int .u64 y5, .bool true].toArray 26)) [.bool false, .slice none 0 0, .slice none 0 0] 41 (w.heap.size + 1) (by simp)
  have bel : Below w.heap.size w ((w.alloc (.cells [.int .u64 x0, .int .u64 x1, .int .u64 x2, .int .u64 x3, .int .u64 x4, .int .u64 x5, .int .u64 y0, .int .u64 y1, .int .u64 y2, .int .u64 y3, .int .u64 y4, .int .u64 y5, .bool true].toArray 26)).alloc (.cells [.bool false, .slice none 0 0, .slice none 0 0].toArray 41)) := (((Below.refl _ _).alloc (Nat.le_refl _) _).alloc (by simp) _)
  go_enter Tryd.func17, Tryd.ntmps17
  go_upto_region 1 with fail
  try simp only [us, List.map_cons, List.map_nil] at bel
  generalize ((w.alloc (Obj.cells #[.int .u64 x0, .int .u64 x1, .int .u64 x2, .int .u64 x3, .int .u64 x4, .int .u64 x5, .int .u64 y0, .int .u64 y1, .int .u64 y2, .int .u64 y3, .int .u64 y4, .int .u64 y5, .bool true] 26)).alloc (Obj.cells #[.bool false, .slice none 0 0, .slice none 0 0] 41)) = W at *
  have lt0 := B0.lt
  have lt1 := B1.lt
  have c0 := B0.cell 0 _ rfl; have f0 := B0.frozen 0; have c1 := B0.cell 1 _ rfl; have f1 := B0.frozen 1; have c2 := B0.cell 2 _ rfl; have f2 := B0.frozen 2; have c3 := B0.cell 3 _ rfl; have f3 := B0.frozen 3; have c4 := B0.cell 4 _ rfl; have f4 := B0.frozen 4; have c5 := B0.cell 5 _ rfl; have f5 := B0.frozen 5; have c6 := B0.cell 6 _ rfl; have f6 := B0.frozen 6; have c7 := B0.cell 7 _ rfl; have f7 := B0.frozen 7; have c8 := B0.cell 8 _ rfl; have f8 := B0.frozen 8; have c9 := B0.cell 9 _ rfl; have f9 := B0.frozen 9; have c10 := B0.cell 10 _ rfl; have f10 := B0.frozen 10; have c11 := B0.cell 11 _ rfl; have f11 := B0.frozen 11; have c12 := B0.cell 12 _ rfl; have f12 := B0.frozen 12
  have d0 := B1.cell 0 _ rfl; have g0 := B1.frozen 0; have d1 := B1.cell 1 _ rfl; have g1 := B1.frozen 1; have d2 := B1.cell 2 _ rfl; have g2 := B1.frozen 2
  go_wp2_with fail
  exact bodyPost_ret (v := .agg #[.bool true, .slice none 0 0, .slice none 0 0]) (by simp [results, Tryd.results17, go_sem, d0, d1, d2]) rfl ⟨_, rfl, rfl, below_put3 bel (by omega)⟩

set_option maxRecDepth 100000 in
set_option maxHeartbeats 2000000 in
theorem of_some {x0 x1 x2 x3 x4 x5 y0 y1 y2 y3 y4 y5 : Int} {w : World} (fX : fits [x0, x1, x2, x3, x4, x5]) (fY : fits [y0, y1, y2, y3, y4, y5]) :
    Calls Tryd.prog 17 #[.agg #[.int .u64 x0, .int .u64 x1, .int .u64 x2, .int .u64 x3, .int .u64 x4, .int .u64 x5, .int .u64 y0, .int .u64 y1, .int .u64 y2, .int .u64 y3, .int .u64 y4, .int .u64 y5, .bool false]] w fun e w' => ∃ v', e = .returned v' ∧ PtIs w' v' (some (v64 [x0, x1, x2, x3, x4, x5], v64 [y0, y1, y2, y3, y4, y5])) ∧ Below w.heap.size w w' := by
  have B0 := (Blk.new w [.int .u64 x0, .int .u64 x1, .int .u64 x2, .int .u64 x3, .int .u64 x4, .int .u64 x5, .int .u64 y0, .int .u64 y1, .int .u64 y2, .int .u64 y3, .int .u64 y4, .int .u64 y5, .bool false] 26 (w.heap.size) rfl).alloc (.cells [.bool false, .slice none 0 0, .slice none 0 0].toArray 41)
  have B1 := Blk.new (w.alloc (.cells [.int .u64 x0, .int .u64 x1, .int .u64 x2, .int .u64 x3, .int .u64 x4, .int .u64 x5, .int .u64 y0, .int .u64 y1, .int .u64 y2, .int .u64 y3, .int .u64 y4, .int .u64 y5, .bool false].toArray 26)) [.bool false, .slice none 0 0, .slice none 0 0] 41 (w.heap.size + 1) (by simp)
  have bel : Below w.heap.size w ((w.alloc (.cells [.int .u64 x0, .int .u64 x1, .int .u64 x2, .int .u64 x3, .int .u64 x4, .int .u64 x5, .int .u64 y0, .int .u64 y1, .int .u64 y2, .int .u64 y3, .int .u64 y4, .int .u64 y5, .bool false].toArray 26)).alloc (.cells [.bool false, .slice none 0 0, .slice none 0 0].toArray 41)) := (((Below.refl _ _).alloc (Nat.le_refl _) _).alloc (by simp) _)
  go_enter Tryd.func17, Tryd.ntmps17
  go_upto_region 1 with fail
  try simp only [us, List.map_cons, List.map_nil] at bel
  generalize ((w.alloc (Obj.cells #[.int .u64 x0, .int .u64 x1, .int .u64 x2, .int .u64 x3, .int .u64 x4, .int .u64 x5, .int .u64 y0, .int .u64 y1, .int .u64 y2, .int .u64 y3, .int .u64 y4, .int .u64 y5, .bool false] 26)).alloc (Obj.cells #[.bool false, .slice none 0 0, .slice none 0 0] 41)) = W at *
  have lt0 := B0.lt
  have c0 := B0.cell 0 _ rfl; have f0 := B0.frozen 0; have c1 := B0.cell 1 _ rfl; have f1 := B0.frozen 1; have c2 := B0.cell 2 _ rfl; have f2 := B0.frozen 2; have c3 := B0.cell 3 _ rfl; have f3 := B0.frozen 3; have c4 := B0.cell 4 _ rfl; have f4 := B0.frozen 4; have c5 := B0.cell 5 _ rfl; have f5 := B0.frozen 5; have c6 := B0.cell 6 _ rfl; have f6 := B0.frozen 6; have c7 := B0.cell 7 _ rfl; have f7 := B0.frozen 7; have c8 := B0.cell 8 _ rfl; have f8 := B0.frozen 8; have c9 := B0.cell 9 _ rfl; have f9 := B0.frozen 9; have c10 := B0.cell 10 _ rfl; have f10 := B0.frozen 10; have c11 := B0.cell 11 _ rfl; have f11 := B0.frozen 11; have c12 := B0.cell 12 _ rfl; have f12 := B0.frozen 12
  go_upto_region 3 with fail
  clear c0 c1 c2 c3 c4 c5 c6 c7 c8 c9 c10 c11 c12 f0 f1 f2 f3 f4 f5 f6 f7 f8 f9 f10 f11 f12
  obtain ⟨S1, hS1, KL1, KA1, KD1, KS1, KQ1, KN1, KB1, KM1, KR1⟩ := held3 (w0 := w) (W := W) [(w.heap.size, [.int .u64 x0, .int .u64 x1, .int .u64 x2, .int .u64 x3, .int .u64 x4, .int .u64 x5, .int .u64 y0, .int .u64 y1, .int .u64 y2, .int .u64 y3, .int .u64 y4, .int .u64 y5, .bool false])] (by
    intro b X h
    simp only [List.mem_cons, List.not_mem_nil, or_false, Prod.mk.injEq] at h
    rcases h with ⟨rfl, rfl⟩
    · exact B0) bel
  have kb1a : ∀ wx, Hd S1 wx → Blk wx (w.heap.size) [.int .u64 x0, .int .u64 x1, .int .u64 x2, .int .u64 x3, .int .u64 x4, .int .u64 x5, .int .u64 y0, .int .u64 y1, .int .u64 y2, .int .u64 y3, .int .u64 y4, .int .u64 y5, .bool false] := fun wx h => KM1.out wx _ _ h (by simp)
  have c1a0 := rulec kb1a 0 _ rfl
  have c1a1 := rulec kb1a 1 _ rfl
  have c1a2 := rulec kb1a 2 _ rfl
  have c1a3 := rulec kb1a 3 _ rfl
  have c1a4 := rulec kb1a 4 _ rfl
  have c1a5 := rulec kb1a 5 _ rfl
  have c1a6 := rulec kb1a 6 _ rfl
  have c1a7 := rulec kb1a 7 _ rfl
  have c1a8 := rulec kb1a 8 _ rfl
  have c1a9 := rulec kb1a 9 _ rfl
  have c1a10 := rulec kb1a 10 _ rfl
  have c1a11 := rulec kb1a 11 _ rfl
  have c1a12 := rulec kb1a 12 _ rfl
  have c1al := ruleb kb1a
  clear kb1a
  have mq1a : ∀ c X, (c, X) ∈ [((w.heap.size : Nat), ([.int .u64 x0, .int .u64 x1, .int .u64 x2, .int .u64 x3, .int .u64 x4, .int .u64 x5, .int .u64 y0, .int .u64 y1, .int .u64 y2, .int .u64 y3, .int .u64 y4, .int .u64 y5, .bool false] : List Value))] → c ≠ w.heap.size + 1 := by
    intro c X h
    simp only [List.mem_cons, List.not_mem_nil, or_false, Prod.mk.injEq] at h
    omega
  have hN1 := bel.size
  clear bel B0 lt0
  go_region_held3 (Hd S1)
    (first
      | with_reducible exact (KQ1.out _ _ _ _ (KQ1.out _ _ _ _ (KQ1.out _ _ _ _ (by assumption) (Or.inr mq1a) (by omega)) (Or.inr mq1a) (by omega)) (Or.inr mq1a) (by omega))
      | with_reducible exact KL1.out _ _ (by assumption) hb
      | with_reducible exact KA1.out _ _ (by assumption)
      | with_reducible exact KS1.out _ _ _ (by omega) (by assumption)
      | with_reducible exact KD1.out _ hS1
      | with_reducible exact KD1.out _ (KA1.out _ _ hS1)
      | with_reducible assumption)
    (first
      | (go_at_call 22; go_fit (of6z fX); rintro e w' ⟨vx, rfl, NX, hb⟩; (first | replace B1 := B1.later hb | replace B1 := B1.drew.later hb | skip); obtain ⟨a1, n1, k1, rfl⟩ := NX.form)
      | (go_at_call 22; go_fit (of6z fY); rintro e w' ⟨vy, rfl, NY, hb⟩; (first | replace B1 := B1.later hb | replace B1 := B1.drew.later hb | skip); (first | replace NX := NX.later hb | replace NX := NX.drew.later hb | skip); obtain ⟨a2, n2, k2, rfl⟩ := NY.form; have lt1 := B1.lt; have d0 := B1.cell 0 _ rfl; have g0 := B1.frozen 0; have d1 := B1.cell 1 _ rfl; have g1 := B1.frozen 1; have d2 := B1.cell 2 _ rfl; have g2 := B1.frozen 2))
  all_goals go_wp2
  all_goals exact bodyPost_ret (v := .agg #[.bool false, .slice a1 n1 k1, .slice a2 n2 k2]) (by simp [results, Tryd.results17, go_sem, d0, d1, d2]) rfl ⟨_, rfl, ⟨_, _, _, _, _, _, rfl, NX.put3 B1, NY.put3 B1⟩, KB1.out _ (by assumption)⟩

set_option maxRecDepth 100000 in
set_option maxHeartbeats 1000000 in
theorem neg_none {v : Value} {w : World} (h : PtIs w v none) :
    Calls Tryd.prog 19 #[v] w fun e w' => ∃ v', e = .returned v' ∧ PtIs w' v' none ∧ Below w.heap.size w w' := by
  obtain rfl : v = _ := h
  have B0 := (Blk.new w [.bool true, .slice none 0 0, .slice none 0 0] 41 (w.heap.size) rfl).alloc (.cells [.bool false, .slice none 0 0, .slice none 0 0].toArray 41)
  have B1 := Blk.new (w.alloc (.cells [.bool true, .slice none 0 0, .slice none 0 0].toArray 41)) [.bool false, .slice none 0 0, .slice none 0 0] 41 (w.heap.size + 1) (by simp)
  have bel : Below w.heap.size w ((w.alloc (.cells [.bool true, .slice none 0 0, .slice none 0 0].toArray 41)).alloc (.cells [.bool false, .slice none 0 0, .slice none 0 0].toArray 41)) := (((Below.refl _ _).alloc (Nat.le_refl _) _).alloc (by simp) _)
  go_enter Tryd.func19, Tryd.ntmps19
  go_upto_region 1 with fail
  try simp only [us, List.map_cons, List.map_nil] at bel
  generalize ((w.alloc (Obj.cells #[.bool true, .slice none 0 0, .slice none 0 0] 41)).alloc (Obj.cells #[.bool false, .slice none 0 0, .slice none 0 0] 41)) = W at *
  have lt0 := B0.lt
  have lt1 := B1.lt
  have c0 := B0.cell 0 _ rfl; have f0 := B0.frozen 0; have c1 := B0.cell 1 _ rfl; have f1 := B0.frozen 1; have c2 := B0.cell 2 _ rfl; have f2 := B0.frozen 2
  have d0 := B1.cell 0 _ rfl; have g0 := B1.frozen 0; have d1 := B1.cell 1 _ rfl; have g1 := B1.frozen 1; have d2 := B1.cell 2 _ rfl; have g2 := B1.frozen 2
  go_wp2_with fail
  exact bodyPost_ret (v := .agg #[.bool true, .slice none 0 0, .slice none 0 0]) (by simp [results, Tryd.results19, go_sem, d0, d1, d2]) rfl ⟨_, rfl, rfl, below_put3 bel (by omega)⟩

set_option maxRecDepth 100000 in
set_option maxHeartbeats 2000000 in
theorem neg_some {v : Value} {X Y : Int} {w : World} (h : PtIs w v (some (X, Y))) (hY : Lo Y) :
    Calls Tryd.prog 19 #[v] w fun e w' => ∃ v', e = .returned v' ∧ PtIs w' v' (some (X, (0 - Y) % PP)) ∧ Below w.heap.size w w' := by
  obtain ⟨a1, n1, k1, b1, m1, l1, rfl, NX, NY⟩ := h
  have Y3 : Hid _ := lo_30 hY
  clear hY
  have NX := (NX.alloc (.cells [.bool false, .slice a1 n1 k1, .slice b1 m1 l1].toArray 41)).alloc (.cells [.bool false, .slice none 0 0, .slice none 0 0].toArray 41)
  have NY := (NY.alloc (.cells [.bool false, .slice a1 n1 k1, .slice b1 m1 l1].toArray 41)).alloc (.cells [.bool false, .slice none 0 0, .slice none 0 0].toArray 41)
  have B0 := (Blk.new w [.bool false, .slice a1 n1 k1, .slice b1 m1 l1] 41 (w.heap.size) rfl).alloc (.cells [.bool false, .slice none 0 0, .slice none 0 0].toArray 41)
  have B1 := Blk.new (w.alloc (.cells [.bool false, .slice a1 n1 k1, .slice b1 m1 l1].toArray 41)) [.bool false, .slice none 0 0, .slice none 0 0] 41 (w.heap.size + 1) (by simp)
  have bel : Below w.heap.size w ((w.alloc (.cells [.bool false, .slice a1 n1 k1, .slice b1 m1 l1].toArray 41)).alloc (.cells [.bool false, .slice none 0 0, .slice none 0 0].toArray 41)) := (((Below.refl _ _).alloc (Nat.le_refl _) _).alloc (by simp) _)
  go_enter Tryd.func19, Tryd.ntmps19
  go_upto_region 1 with fail
  try simp only [us, List.map_cons, List.map_nil] at bel
  generalize ((w.alloc (Obj.cells #[.bool false, .slice a1 n1 k1, .slice b1 m1 l1] 41)).alloc (Obj.cells #[.bool false, .slice none 0 0, .slice none 0 0] 41)) = W at *
  have lt0 := B0.lt
  have c0 := B0.cell 0 _ rfl; have f0 := B0.frozen 0; have c1 := B0.cell 1 _ rfl; have f1 := B0.frozen 1; have c2 := B0.cell 2 _ rfl; have f2 := B0.frozen 2
  go_upto_region 3 with fail
  clear c0 c1 c2 f0 f1 f2
  obtain ⟨S1, hS1, KL1, KA1, KD1, KS1, KQ1, KN1, KB1, KM1, KR1⟩ := held3 (w0 := w) (W := W) [(w.heap.size, [.bool false, .slice a1 n1 k1, .slice b1 m1 l1])] (by
    intro b X h
    simp only [List.mem_cons, List.not_mem_nil, or_false, Prod.mk.injEq] at h
    rcases h with ⟨rfl, rfl⟩
    · exact B0) bel
  have kb1a : ∀ wx, Hd S1 wx → Blk wx (w.heap.size) [.bool false, .slice a1 n1 k1, .slice b1 m1 l1] := fun wx h => KM1.out wx _ _ h (by simp)
  have c1a0 := rulec kb1a 0 _ rfl
  have c1a1 := rulec kb1a 1 _ rfl
  have c1a2 := rulec kb1a 2 _ rfl
  have c1al := ruleb kb1a
  clear kb1a
  have mq1a : ∀ c X, (c, X) ∈ [((w.heap.size : Nat), ([.bool false, .slice a1 n1 k1, .slice b1 m1 l1] : List Value))] → c ≠ w.heap.size + 1 := by
    intro c X h
    simp only [List.mem_cons, List.not_mem_nil, or_false, Prod.mk.injEq] at h
    omega
  have hN1 := bel.size
  clear bel B0 lt0
  go_region_held3 (Hd S1)
    (first
      | with_reducible exact (KQ1.out _ _ _ _ (KQ1.out _ _ _ _ (KQ1.out _ _ _ _ (by assumption) (Or.inr mq1a) (by omega)) (Or.inr mq1a) (by omega)) (Or.inr mq1a) (by omega))
      | with_reducible exact KL1.out _ _ (by assumption) hb
      | with_reducible exact KA1.out _ _ (by assumption)
      | with_reducible exact KS1.out _ _ _ (by omega) (by assumption)
      | with_reducible exact KD1.out _ hS1
      | with_reducible exact KD1.out _ (KA1.out _ _ hS1)
      | with_reducible assumption)
    (first
      | (go_at_call 45; go_fit (psub (nil_num _) (by first | exact NY | exact NY.drew) (by decide) Y3.out); rintro e w' ⟨vy, rfl, NZ, hb⟩; (first | replace B1 := B1.later hb | replace B1 := B1.drew.later hb | skip); (first | replace NX := NX.later hb | replace NX := NX.drew.later hb | skip); obtain ⟨a2, n2, k2, rfl⟩ := NZ.form; have lt1 := B1.lt; have d0 := B1.cell 0 _ rfl; have g0 := B1.frozen 0; have d1 := B1.cell 1 _ rfl; have g1 := B1.frozen 1; have d2 := B1.cell 2 _ rfl; have g2 := B1.frozen 2))
  all_goals go_wp2
  all_goals exact bodyPost_ret (v := .agg #[.bool false, .slice a1 n1 k1, .slice a2 n2 k2]) (by simp [results, Tryd.results19, go_sem, d0, d1, d2]) rfl ⟨_, rfl, ⟨_, _, _, _, _, _, rfl, NX.put3 B1, NZ.put3 B1⟩, KB1.out _ (by assumption)⟩

theorem r5_Neg {v : Value} {P : Pt} {w : World} (h : PtIs w v P) (hP : OnC P) :
    Calls Tryd.prog 19 #[v] w fun e w' => ∃ v', e = .returned v' ∧ PtIs w' v' (cneg P) ∧ Below w.heap.size w w' := by
  match P, h, hP with
  | none, h, _ => exact neg_none h
  | some (X, Y), h, hP => exact neg_some h (show Aff X Y from hP).ly

theorem r5_Of {x0 x1 x2 x3 x4 x5 y0 y1 y2 y3 y4 y5 : Int} {n : Bool} {P : Pt} {w : World} (h : Told P [x0, x1, x2, x3, x4, x5] [y0, y1, y2, y3, y4, y5] n) :
    Calls Tryd.prog 17 #[.agg #[.int .u64 x0, .int .u64 x1, .int .u64 x2, .int .u64 x3, .int .u64 x4, .int .u64 x5, .int .u64 y0, .int .u64 y1, .int .u64 y2, .int .u64 y3, .int .u64 y4, .int .u64 y5, .bool n]] w fun e w' => ∃ v', e = .returned v' ∧ PtIs w' v' P ∧ Below w.heap.size w w' := by
  rcases h.is with ⟨rfl, rfl, _, _⟩ | ⟨rfl, rfl⟩
  · exact of_none
  · exact of_some h.fA h.fB
end Go.Proofs.YtpgidlnpcjbfhaaDoor
