/- The document's To and G. -/
import Derived.Test.YtpgidlnpcjbfhabDoorRows
import Derived.Test.YtpgidlnpcjbfhabDoorCPt
import Derived.Deep.WholeRow
import Derived.Deep.RegionHeld3
import Derived.Deep.DeepCutAuto
import Derived.Deep.DeepFit
namespace Go.Proofs.YtpgidlnpcjbfhabDoor
open Go.RowKit

set_option maxRecDepth 100000 in
set_option maxHeartbeats 1000000 in
theorem to_none {v : Value} {w : World} (h : PtIs w v none) :
    Calls Tryd.prog 13 #[v] w fun e w' => e = .returned (.agg #[.int .u64 0, .int .u64 0, .int .u64 0, .int .u64 0, .int .u64 0, .int .u64 0, .int .u64 0, .int .u64 0, .int .u64 0, .int .u64 0, .int .u64 0, .int .u64 0, .bool true]) ∧ Below w.heap.size w w' := by
  obtain rfl : v = _ := h
  have B0 := (Blk.new w [.bool true, .slice none 0 0, .slice none 0 0] 46 (w.heap.size) rfl).alloc (.cells [.int .u64 0, .int .u64 0, .int .u64 0, .int .u64 0, .int .u64 0, .int .u64 0, .int .u64 0, .int .u64 0, .int .u64 0, .int .u64 0, .int .u64 0, .int .u64 0, .bool false].toArray 27)
  have B1 := Blk.new (w.alloc (.cells [.bool true, .slice none 0 0, .slice none 0 0].toArray 46)) [.int .u64 0, .int .u64 0, .int .u64 0, .int .u64 0, .int .u64 0, .int .u64 0, .int .u64 0, .int .u64 0, .int .u64 0, .int .u64 0, .int .u64 0, .int .u64 0, .bool false] 27 (w.heap.size + 1) (by simp)
  have bel : Below w.heap.size w ((w.alloc (.cells [.bool true, .slice none 0 0, .slice none 0 0].toArray 46)).alloc (.cells [.int .u64 0, .int .u64 0, .int .u64 0, .int .u64 0, .int .u64 0, .int .u64 0, .int .u64 0, .int .u64 0, .int .u64 0, .int .u64 0, .int .u64 0, .int .u64 0, .bool false].toArray 27)) := (((Below.refl _ _).alloc (Nat.le_refl _) _).alloc (by simp) _)
  go_enter Tryd.func13, Tryd.ntmps13
  go_upto_region 1 with fail
  try simp only [us, List.map_cons, List.map_nil] at bel
  generalize ((w.alloc (Obj.cells #[.bool true, .slice none 0 0, .slice none 0 0] 46)).alloc (Obj.cells #[.int .u64 0, .int .u64 0, .int .u64 0, .int .u64 0, .int .u64 0, .int .u64 0, .int .u64 0, .int .u64 0, .int .u64 0, .int .u64 0, .int .u64 0, .int .u64 0, .bool false] 27)) = W at *
  have lt0 := B0.lt
  have lt1 := B1.lt
  have c0 := B0.cell 0 _ rfl; have f0 := B0.frozen 0; have c1 := B0.cell 1 _ rfl; have f1 := B0.frozen 1; have c2 := B0.cell 2 _ rfl; have f2 := B0.frozen 2
  have d0 := B1.cell 0 _ rfl; have g0 := B1.frozen 0; have d1 := B1.cell 1 _ rfl; have g1 := B1.frozen 1; have d2 := B1.cell 2 _ rfl; have g2 := B1.frozen 2; have d3 := B1.cell 3 _ rfl; have g3 := B1.frozen 3; have d4 := B1.cell 4 _ rfl; have g4 := B1.frozen 4; have d5 := B1.cell 5 _ rfl; have g5 := B1.frozen 5; have d6 := B1.cell 6 _ rfl; have g6 := B1.frozen 6; have d7 := B1.cell 7 _ rfl; have g7 := B1.frozen 7; have d8 := B1.cell 8 _ rfl; have g8 := B1.frozen 8; have d9 := B1.cell 9 _ rfl; have g9 := B1.frozen 9; have d10 := B1.cell 10 _ rfl; have g10 := B1.frozen 10; have d11 := B1.cell 11 _ rfl; have g11 := B1.frozen 11; have d12 := B1.cell 12 _ rfl; have g12 := B1.frozen 12
  go_wp2_with fail
  exact bodyPost_ret (v := .agg #[.int .u64 0, .int .u64 0, .int .u64 0, .int .u64 0, .int .u64 0, .int .u64 0, .int .u64 0, .int .u64 0, .int .u64 0, .int .u64 0, .int .u64 0, .int .u64 0, .bool true]) (by simp [results, Tryd.results13, go_sem, d0, d1, d2, d3, d4, d5, d6, d7, d8, d9, d10, d11, d12]) rfl ⟨rfl, below_put13 bel (by omega)⟩

set_option maxRecDepth 100000 in
set_option maxHeartbeats 4000000 in
theorem to_some {v : Value} {X Y : Int} {w : World} {x0 x1 x2 x3 x4 x5 y0 y1 y2 y3 y4 y5 : Int} (h : PtIs w v (some (X, Y))) (fX : fits [x0, x1, x2, x3, x4, x5]) (fY : fits [y0, y1, y2, y3, y4, y5]) (hX : v64 [x0, x1, x2, x3, x4, x5] = X) (hY : v64 [y0, y1, y2, y3, y4, y5] = Y) :
    Calls Tryd.prog 13 #[v] w fun e w' => e = .returned (.agg #[.int .u64 x0, .int .u64 x1, .int .u64 x2, .int .u64 x3, .int .u64 x4, .int .u64 x5, .int .u64 y0, .int .u64 y1, .int .u64 y2, .int .u64 y3, .int .u64 y4, .int .u64 y5, .bool false]) ∧ Below w.heap.size w w' := by
  obtain ⟨a1, n1, k1, b1, m1, l1, rfl, NX, NY⟩ := h
  have HX : Hid _ := hX
  have HY : Hid _ := hY
  clear hX hY
  have NX := (NX.alloc (.cells [.bool false, .slice a1 n1 k1, .slice b1 m1 l1].toArray 46)).alloc (.cells [.int .u64 0, .int .u64 0, .int .u64 0, .int .u64 0, .int .u64 0, .int .u64 0, .int .u64 0, .int .u64 0, .int .u64 0, .int .u64 0, .int .u64 0, .int .u64 0, .bool false].toArray 27)
  have NY := (NY.alloc (.cells [.bool false, .slice a1 n1 k1, .slice b1 m1 l1].toArray 46)).alloc (.cells [.int .u64 0, .int .u64 0, .int .u64 0, .int .u64 0, .int .u64 0, .int .u64 0, .int .u64 0, .int .u64 0, .int .u64 0, .int .u64 0, .int .u64 0, .int .u64 0, .bool false].toArray 27)
  have B0 := (Blk.new w [.bool false, .slice a1 n1 k1, .slice b1 m1 l1] 46 (w.heap.size) rfl).alloc (.cells [.int .u64 0, .int .u64 0, .int .u64 0, .int .u64 0, .int .u64 0, .int .u64 0, .int .u64 0, .int .u64 0, .int .u64 0, .int .u64 0, .int .u64 0, .int .u64 0, .bool false].toArray 27)
  have B1 := Blk.new (w.alloc (.cells [.bool false, .slice a1 n1 k1, .slice b1 m1 l1].toArray 46)) [.int .u64 0, .int .u64 0, .int .u64 0, .int .u64 0, .int .u64 0, .int .u64 0, .int .u64 0, .int .u64 0, .int .u64 0, .int .u64 0, .int .u64 0, .int .u64 0, .bool false] 27 (w.heap.size + 1) (by simp)
  have bel : Below w.heap.size w ((w.alloc (.cells [.bool false, .slice a1 n1 k1, .slice b1 m1 l1].toArray 46)).alloc (.cells [.int .u64 0, .int .u64 0, .int .u64 0, .int .u64 0, .int .u64 0, .int .u64 0, .int .u64 0, .int .u64 0, .int .u64 0, .int .u64 0, .int .u64 0, .int .u64 0, .bool false].toArray 27)) := (((Below.refl _ _).alloc (Nat.le_refl _) _).alloc (by simp) _)
  go_enter Tryd.func13, Tryd.ntmps13
  go_upto_region 1 with fail
  try simp only [us, List.map_cons, List.map_nil] at bel
  generalize ((w.alloc (Obj.cells #[.bool false, .slice a1 n1 k1, .slice b1 m1 l1] 46)).alloc (Obj.cells #[.int .u64 0, .int .u64 0, .int .u64 0, .int .u64 0, .int .u64 0, .int .u64 0, .int .u64 0, .int .u64 0, .int .u64 0, .int .u64 0, .int .u64 0, .int .u64 0, .bool false] 27)) = W at *
  have lt0 := B0.lt
  have c0 := B0.cell 0 _ rfl; have f0 := B0.frozen 0; have c1 := B0.cell 1 _ rfl; have f1 := B0.frozen 1; have c2 := B0.cell 2 _ rfl; have f2 := B0.frozen 2
  go_upto_region 3 with fail
  clear c0 c1 c2 f0 f1 f2
  obtain ⟨S1, hS1, KL1, KA1, KD1, KS1, KQ1, KN1, KB1, KM1, KR1⟩ := held3 (w0 := w) (W := W) [(w.heap.size, [.bool false, .slice a1 n1 k1, .slice b1 m1 l1])] (by
    intro b X h
    simp only [List.mem_cons, List.not_mem_nil, or_false, Prod.mk.injEq] at h
    rcases h with ⟨rfl, rfl⟩
    · exact B0) bel
  have kb1a : ∀ wx, Hd S1 wx → Blk wx (w.heap.size) [.bool false, .slice a1 n1 k1, .slice b1 m1 l1] := fun wx h => KM1.out wx _ _ h (by simp)
  have c1a0 := rulec kb1a 0 _ rfl
  have c1a1 := rulec kb1a 1 _ rfl
  have c1a2 := rulec kb1a 2 _ rfl
  have c1al := ruleb kb1a
  clear kb1a
  have mq1a : ∀ c X, (c, X) ∈ [((w.heap.size : Nat), ([.bool false, .slice a1 n1 k1, .slice b1 m1 l1] : List Value))] → c ≠ w.heap.size + 1 := by
    intro c X h
    simp only [List.mem_cons, List.not_mem_nil, or_false, Prod.mk.injEq] at h
    omega
  have hN1 := bel.size
  clear bel B0 lt0
  go_region_held3 (Hd S1)
    (first
      | with_reducible exact (KQ1.out _ _ _ _ (KQ1.out _ _ _ _ (KQ1.out _ _ _ _ (KQ1.out _ _ _ _ (KQ1.out _ _ _ _ (KQ1.out _ _ _ _ (KQ1.out _ _ _ _ (KQ1.out _ _ _ _ (KQ1.out _ _ _ _ (KQ1.out _ _ _ _ (KQ1.out _ _ _ _ (KQ1.out _ _ _ _ (KQ1.out _ _ _ _ (by assumption) (Or.inr mq1a) (by omega)) (Or.inr mq1a) (by omega)) (Or.inr mq1a) (by omega)) (Or.inr mq1a) (by omega)) (Or.inr mq1a) (by omega)) (Or.inr mq1a) (by omega)) (Or.inr mq1a) (by omega)) (Or.inr mq1a) (by omega)) (Or.inr mq1a) (by omega)) (Or.inr mq1a) (by omega)) (Or.inr mq1a) (by omega)) (Or.inr mq1a) (by omega)) (Or.inr mq1a) (by omega))
      | with_reducible exact KL1.out _ _ (by assumption) hb
      | with_reducible exact KA1.out _ _ (by assumption)
      | with_reducible exact KS1.out _ _ _ (by omega) (by assumption)
      | with_reducible exact KD1.out _ hS1
      | with_reducible exact KD1.out _ (KA1.out _ _ hS1)
      | with_reducible assumption)
    (first
      | (go_at_call 17; go_fit (to6_is (by first | exact NX | exact NX.drew) fX HX.out); rintro e w' ⟨rfl, hb⟩; (first | replace B1 := B1.later hb | replace B1 := B1.drew.later hb | skip); (first | replace NY := NY.later hb | replace NY := NY.drew.later hb | skip))
      | (go_at_call 17; go_fit (to6_is (by first | exact NY | exact NY.drew) fY HY.out); rintro e w' ⟨rfl, hb⟩; (first | replace B1 := B1.later hb | replace B1 := B1.drew.later hb | skip); have lt1 := B1.lt; have d0 := B1.cell 0 _ rfl; have g0 := B1.frozen 0; have d1 := B1.cell 1 _ rfl; have g1 := B1.frozen 1; have d2 := B1.cell 2 _ rfl; have g2 := B1.frozen 2; have d3 := B1.cell 3 _ rfl; have g3 := B1.frozen 3; have d4 := B1.cell 4 _ rfl; have g4 := B1.frozen 4; have d5 := B1.cell 5 _ rfl; have g5 := B1.frozen 5; have d6 := B1.cell 6 _ rfl; have g6 := B1.frozen 6; have d7 := B1.cell 7 _ rfl; have g7 := B1.frozen 7; have d8 := B1.cell 8 _ rfl; have g8 := B1.frozen 8; have d9 := B1.cell 9 _ rfl; have g9 := B1.frozen 9; have d10 := B1.cell 10 _ rfl; have g10 := B1.frozen 10; have d11 := B1.cell 11 _ rfl; have g11 := B1.frozen 11; have d12 := B1.cell 12 _ rfl; have g12 := B1.frozen 12))
  all_goals go_wp2
  all_goals exact bodyPost_ret (v := .agg #[.int .u64 x0, .int .u64 x1, .int .u64 x2, .int .u64 x3, .int .u64 x4, .int .u64 x5, .int .u64 y0, .int .u64 y1, .int .u64 y2, .int .u64 y3, .int .u64 y4, .int .u64 y5, .bool false]) (by simp [results, Tryd.results13, go_sem, d0, d1, d2, d3, d4, d5, d6, d7, d8, d9, d10, d11, d12]) rfl ⟨rfl, KB1.out _ (by assumption)⟩

set_option maxRecDepth 100000 in
set_option maxHeartbeats 1000000 in
theorem r5_G {w : World} :
    Calls Tryd.prog 14 #[] w fun e w' => ∃ v', e = .returned v' ∧ PtIs w' v' GG ∧ Below w.heap.size w w' := by
  have B0 := Blk.new w [.bool false, .slice none 0 0, .slice none 0 0] 46 (w.heap.size) rfl
  have bel : Below w.heap.size w (w.alloc (.cells [.bool false, .slice none 0 0, .slice none 0 0].toArray 46)) := ((Below.refl _ _).alloc (Nat.le_refl _) _)
  go_enter Tryd.func14, Tryd.ntmps14
  go_upto_region 1 with fail
  generalize w.alloc _ = W at *
  have NX := (gx_dig W 22 W.heap.size rfl).alloc (.cells #[.int .u64 2431258207, .int .u64 2051218812, .int .u64 494829981, .int .u64 174109134, .int .u64 3052452032, .int .u64 3923390739, .int .u64 681186428, .int .u64 4176747965, .int .u64 2459098153, .int .u64 1570674879, .int .u64 2519084143, .int .u64 907533898] 22)
  have NY := gy_dig (W.alloc (.cells #[.int .u64 1920338615, .int .u64 978607672, .int .u64 3210029420, .int .u64 1426256477, .int .u64 2186553912, .int .u64 1509376480, .int .u64 2343017368, .int .u64 1847409506, .int .u64 4079005044, .int .u64 2394015518, .int .u64 3196781879, .int .u64 2861025826] 22)) 22 (W.heap.size + 1) (by simp)
  replace B0 := (B0.alloc (.cells #[.int .u64 1920338615, .int .u64 978607672, .int .u64 3210029420, .int .u64 1426256477, .int .u64 2186553912, .int .u64 1509376480, .int .u64 2343017368, .int .u64 1847409506, .int .u64 4079005044, .int .u64 2394015518, .int .u64 3196781879, .int .u64 2861025826] 22)).alloc (.cells #[.int .u64 2431258207, .int .u64 2051218812, .int .u64 494829981, .int .u64 174109134, .int .u64 3052452032, .int .u64 3923390739, .int .u64 681186428, .int .u64 4176747965, .int .u64 2459098153, .int .u64 1570674879, .int .u64 2519084143, .int .u64 907533898] 22)
  replace bel := below_alloc (o := .cells #[.int .u64 2431258207, .int .u64 2051218812, .int .u64 494829981, .int .u64 174109134, .int .u64 3052452032, .int .u64 3923390739, .int .u64 681186428, .int .u64 4176747965, .int .u64 2459098153, .int .u64 1570674879, .int .u64 2519084143, .int .u64 907533898] 22) (below_alloc (o := .cells #[.int .u64 1920338615, .int .u64 978607672, .int .u64 3210029420, .int .u64 1426256477, .int .u64 2186553912, .int .u64 1509376480, .int .u64 2343017368, .int .u64 1847409506, .int .u64 4079005044, .int .u64 2394015518, .int .u64 3196781879, .int .u64 2861025826] 22) bel)
  have lt0 := B0.lt
  have d0 := B0.cell 0 _ rfl; have g0 := B0.frozen 0; have d1 := B0.cell 1 _ rfl; have g1 := B0.frozen 1; have d2 := B0.cell 2 _ rfl; have g2 := B0.frozen 2
  go_wp2_with fail
  generalize (W.alloc (Obj.cells #[.int .u64 1920338615, .int .u64 978607672, .int .u64 3210029420, .int .u64 1426256477, .int .u64 2186553912, .int .u64 1509376480, .int .u64 2343017368, .int .u64 1847409506, .int .u64 4079005044, .int .u64 2394015518, .int .u64 3196781879, .int .u64 2861025826] 22)).alloc (Obj.cells #[.int .u64 2431258207, .int .u64 2051218812, .int .u64 494829981, .int .u64 174109134, .int .u64 3052452032, .int .u64 3923390739, .int .u64 681186428, .int .u64 4176747965, .int .u64 2459098153, .int .u64 1570674879, .int .u64 2519084143, .int .u64 907533898] 22) = W2 at *
  exact bodyPost_ret (v := .agg #[.bool false, .slice (some ⟨W.heap.size, 0, none⟩) 12 12, .slice (some ⟨W.heap.size + 1, 0, none⟩) 12 12]) (by simp [results, Tryd.results14, go_sem, d0, d1, d2]) rfl ⟨_, rfl, ⟨_, _, _, _, _, _, rfl, NX.put3 B0, NY.put3 B0⟩, below_put3 bel (Nat.le_refl _)⟩

theorem r5_To {v : Value} {P : Pt} {x0 x1 x2 x3 x4 x5 y0 y1 y2 y3 y4 y5 : Int} {n : Bool} {w : World} (h : PtIs w v P) (t : Told P [x0, x1, x2, x3, x4, x5] [y0, y1, y2, y3, y4, y5] n) :
    Calls Tryd.prog 13 #[v] w fun e w' => e = .returned (.agg #[.int .u64 x0, .int .u64 x1, .int .u64 x2, .int .u64 x3, .int .u64 x4, .int .u64 x5, .int .u64 y0, .int .u64 y1, .int .u64 y2, .int .u64 y3, .int .u64 y4, .int .u64 y5, .bool n]) ∧ Below w.heap.size w w' := by
  rcases t.is with ⟨rfl, rfl, hx, hy⟩ | ⟨rfl, rfl⟩
  · simp only [List.cons.injEq, and_true] at hx hy
    obtain ⟨rfl, rfl, rfl, rfl, rfl, rfl⟩ := hx
    obtain ⟨rfl, rfl, rfl, rfl, rfl, rfl⟩ := hy
    exact to_none h
  · exact to_some h t.fA t.fB rfl rfl
end Go.Proofs.YtpgidlnpcjbfhabDoor
