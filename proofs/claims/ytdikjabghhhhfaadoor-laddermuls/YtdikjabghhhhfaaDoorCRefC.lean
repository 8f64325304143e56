/- The document's reckoning for layer 5: Add. -/
import Derived.Test.YtdikjabghhhhfaaDoorRows
import Derived.Test.YtdikjabghhhhfaaDoorCRef
import Derived.Deep.WholeRow
import Derived.Deep.RegionHeld3
import Derived.Deep.DeepCutAuto
import Derived.Deep.DeepFit
namespace Go.Proofs.YtdikjabghhhhfaaDoor
open Go.RowKit

theorem cadd_val {x1 y1 x2 y2 s x y : Int} (hn : ¬ Opp x1 y1 x2 y2) (hs : s = slope x1 y1 x2 y2) (hx : x = (((s * s) % PP - x1) % PP - x2) % PP) (hy : y = ((s * ((x1 - x) % PP)) % PP - y1) % PP) : cadd (some (x1, y1)) (some (x2, y2)) = some (x, y) := by
  simp only [cadd]
  rw [if_neg (show ¬ (x1 = x2 ∧ (y1 + y2) % PP = 0) from hn), ← hs]
  have ex : (s * s - x1 - x2) % PP = x := by
    rw [hx]
    have e1 := nu_emod (s * s)
    generalize (s * s) % PP = A at *
    have e2 := nu_emod (A - x1)
    generalize (A - x1) % PP = B at *
    exact nu_eq (nu_of2 e1 (-1) e2 (-1) (by grind))
  rw [ex]
  have ey : (s * (x1 - x) - y1) % PP = y := by
    rw [hy]
    have e1 := nu_emod (x1 - x)
    generalize (x1 - x) % PP = A at *
    have e2 := nu_emod (s * A)
    generalize (s * A) % PP = B at *
    exact nu_eq (nu_of2 e1 (-s) e2 (-1) (by grind))
  rw [ey]

theorem slope_eq {x y1 y2 : Int} (h : y1 = y2) : ((((3 * ((x * x) % PP)) % PP - 3) % PP) * pinv ((y1 + y1) % PP)) % PP = slope x y1 x y2 := by
  subst h
  unfold slope
  rw [if_pos rfl]
  have e : ((3 * ((x * x) % PP)) % PP - 3) % PP = (3 * (x * x) - 3) % PP := by
    have e1 := nu_emod (x * x)
    generalize (x * x) % PP = A at *
    have e2 := nu_emod (3 * A)
    generalize (3 * A) % PP = B at *
    exact nu_eq (nu_of2 e1 3 e2 1 (by grind))
  rw [e]

theorem slope_ne {x1 y1 x2 y2 : Int} (h : ¬ x1 = x2) : (((y2 - y1) % PP) * pinv ((x2 - x1) % PP)) % PP = slope x1 y1 x2 y2 := by
  unfold slope
  rw [if_neg h]

theorem cmp_eq (X : Int) : cmpN X X = 0 := by unfold cmpN; simp
theorem cmp_ne {X Y : Int} (h : ¬ X = Y) : ¬ cmpN X Y = 0 := by
  unfold cmpN
  by_cases h1 : X < Y
  · rw [if_pos h1]; omega
  · rw [if_neg h1, if_neg h]; omega

/-- of two places of one x that are not opposite, both are one -/
theorem same_y {x y1 y2 : Int} (A1 : Aff x y1) (A2 : Aff x y2) (hn : ¬ Opp x y1 x y2) : y1 = y2 := by
  have hs : ¬ Nu (y1 + y2) := fun k => hn ⟨rfl, nu_iff.1 k⟩
  have hd : Nu ((y1 - y2) * (y1 + y2)) := nu_of2 A1.cu 1 A2.cu (-1) (by grind)
  exact A1.ly.eq A2.ly (hd.left hs)

set_option maxRecDepth 100000 in
set_option maxHeartbeats 1000000 in
theorem add_nn {u v : Value} {w : World} (hu : PtIs w u none) (hv : PtIs w v none) :
    Calls Tryd.prog 36 #[u, v] w fun e w' => ∃ v', e = .returned v' ∧ PtIs w' v' none ∧ Below w.heap.size w w' := by
  obtain rfl : u = _ := hu
  obtain rfl : v = _ := hv
  have B0 := ((Blk.new w [.bool true, .slice none 0 0, .slice none 0 0] 38 (w.heap.size) rfl).alloc (.cells [.bool true, .slice none 0 0, .slice none 0 0].toArray 38)).alloc (.cells [.bool false, .slice none 0 0, .slice none 0 0].toArray 38)
  have B1 := (Blk.new (w.alloc (.cells [.bool true, .slice none 0 0, .slice none 0 0].toArray 38)) [.bool true, .slice none 0 0, .slice none 0 0] 38 (w.heap.size + 1) (by simp)).alloc (.cells [.bool false, .slice none 0 0, .slice none 0 0].toArray 38)
  have B2 := Blk.new ((w.alloc (.cells [.bool true, .slice none 0 0, .slice none 0 0].toArray 38)).alloc (.cells [.bool true, .slice none 0 0, .slice none 0 0].toArray 38)) [.bool false, .slice none 0 0, .slice none 0 0] 38 (w.heap.size + 1 + 1) (by simp)
  have bel : Below w.heap.size w (((w.alloc (.cells [.bool true, .slice none 0 0, .slice none 0 0].toArray 38)).alloc (.cells [.bool true, .slice none 0 0, .slice none 0 0].toArray 38)).alloc (.cells [.bool false, .slice none 0 0, .slice none 0 0].toArray 38)) := ((((Below.refl _ _).alloc (Nat.le_refl _) _).alloc (by simp) _).alloc (by simp; omega) _)
  go_enter Tryd.func36, Tryd.ntmps36
  go_upto_region 1 with fail
  try simp only [us, List.map_cons, List.map_nil] at bel
  generalize (((w.alloc (Obj.cells #[.bool true, .slice none 0 0, .slice none 0 0] 38)).alloc (Obj.cells #[.bool true, .slice none 0 0, .slice none 0 0] 38)).alloc (Obj.cells #[.bool false, .slice none 0 0, .slice none 0 0] 38)) = W at *
  have lt0 := B0.lt
  have lt1 := B1.lt
  have lt2 := B2.lt
  have c0 := B0.cell 0 _ rfl; have f0 := B0.frozen 0; have c1 := B0.cell 1 _ rfl; have f1 := B0.frozen 1; have c2 := B0.cell 2 _ rfl; have f2 := B0.frozen 2
  have d0 := B1.cell 0 _ rfl; have g0 := B1.frozen 0; have d1 := B1.cell 1 _ rfl; have g1 := B1.frozen 1; have d2 := B1.cell 2 _ rfl; have g2 := B1.frozen 2
  have e0 := B2.cell 0 _ rfl; have h0 := B2.frozen 0; have e1 := B2.cell 1 _ rfl; have h1 := B2.frozen 1; have e2 := B2.cell 2 _ rfl; have h2 := B2.frozen 2
  go_wp2_with fail
  exact bodyPost_ret (v := .agg #[.bool true, .slice none 0 0, .slice none 0 0]) (by simp [results, Tryd.results36, go_sem, e0, e1, e2]) rfl ⟨_, rfl, rfl, below_put3 bel (by omega)⟩

set_option maxRecDepth 100000 in
set_option maxHeartbeats 1000000 in
theorem add_ns {u v : Value} {X Y : Int} {w : World} (hu : PtIs w u none) (hv : PtIs w v (some (X, Y))) :
    Calls Tryd.prog 36 #[u, v] w fun e w' => ∃ v', e = .returned v' ∧ PtIs w' v' (some (X, Y)) ∧ Below w.heap.size w w' := by
  obtain rfl : u = _ := hu
  obtain ⟨a2, n2, k2, b2, m2, l2, rfl, NX, NY⟩ := hv
  have B0 := ((Blk.new w [.bool true, .slice none 0 0, .slice none 0 0] 38 (w.heap.size) rfl).alloc (.cells [.bool false, .slice a2 n2 k2, .slice b2 m2 l2].toArray 38)).alloc (.cells [.bool false, .slice none 0 0, .slice none 0 0].toArray 38)
  have B1 := (Blk.new (w.alloc (.cells [.bool true, .slice none 0 0, .slice none 0 0].toArray 38)) [.bool false, .slice a2 n2 k2, .slice b2 m2 l2] 38 (w.heap.size + 1) (by simp)).alloc (.cells [.bool false, .slice none 0 0, .slice none 0 0].toArray 38)
  have B2 := Blk.new ((w.alloc (.cells [.bool true, .slice none 0 0, .slice none 0 0].toArray 38)).alloc (.cells [.bool false, .slice a2 n2 k2, .slice b2 m2 l2].toArray 38)) [.bool false, .slice none 0 0, .slice none 0 0] 38 (w.heap.size + 1 + 1) (by simp)
  have bel : Below w.heap.size w (((w.alloc (.cells [.bool true, .slice none 0 0, .slice none 0 0].toArray 38)).alloc (.cells [.bool false, .slice a2 n2 k2, .slice b2 m2 l2].toArray 38)).alloc (.cells [.bool false, .slice none 0 0, .slice none 0 0].toArray 38)) := ((((Below.refl _ _).alloc (Nat.le_refl _) _).alloc (by simp) _).alloc (by simp; omega) _)
  go_enter Tryd.func36, Tryd.ntmps36
  go_upto_region 1 with fail
  try simp only [us, List.map_cons, List.map_nil] at bel
  generalize (((w.alloc (Obj.cells #[.bool true, .slice none 0 0, .slice none 0 0] 38)).alloc (Obj.cells #[.bool false, .slice a2 n2 k2, .slice b2 m2 l2] 38)).alloc (Obj.cells #[.bool false, .slice none 0 0, .slice none 0 0] 38)) = W at *
  replace NX := NX.later bel
  replace NY := NY.later bel
  have lt0 := B0.lt
  have lt1 := B1.lt
  have lt2 := B2.lt
  have c0 := B0.cell 0 _ rfl; have f0 := B0.frozen 0; have c1 := B0.cell 1 _ rfl; have f1 := B0.frozen 1; have c2 := B0.cell 2 _ rfl; have f2 := B0.frozen 2
  have d0 := B1.cell 0 _ rfl; have g0 := B1.frozen 0; have d1 := B1.cell 1 _ rfl; have g1 := B1.frozen 1; have d2 := B1.cell 2 _ rfl; have g2 := B1.frozen 2
  have e0 := B2.cell 0 _ rfl; have h0 := B2.frozen 0; have e1 := B2.cell 1 _ rfl; have h1 := B2.frozen 1; have e2 := B2.cell 2 _ rfl; have h2 := B2.frozen 2
  go_wp2_with fail
  exact bodyPost_ret (v := .agg #[.bool false, .slice a2 n2 k2, .slice b2 m2 l2]) (by simp [results, Tryd.results36, go_sem, e0, e1, e2]) rfl ⟨_, rfl, ⟨_, _, _, _, _, _, rfl, NX.put3 B2, NY.put3 B2⟩, below_put3 bel (by omega)⟩

set_option maxRecDepth 100000 in
set_option maxHeartbeats 1000000 in
theorem add_sn {u v : Value} {X Y : Int} {w : World} (hu : PtIs w u (some (X, Y))) (hv : PtIs w v none) :
    Calls Tryd.prog 36 #[u, v] w fun e w' => ∃ v', e = .returned v' ∧ PtIs w' v' (some (X, Y)) ∧ Below w.heap.size w w' := by
  obtain ⟨a1, n1, k1, b1, m1, l1, rfl, NX, NY⟩ := hu
  obtain rfl : v = _ := hv
  have B0 := ((Blk.new w [.bool false, .slice a1 n1 k1, .slice b1 m1 l1] 38 (w.heap.size) rfl).alloc (.cells [.bool true, .slice none 0 0, .slice none 0 0].toArray 38)).alloc (.cells [.bool false, .slice none 0 0, .slice none 0 0].toArray 38)
  have B1 := (Blk.new (w.alloc (.cells [.bool false, .slice a1 n1 k1, .slice b1 m1 l1].toArray 38)) [.bool true, .slice none 0 0, .slice none 0 0] 38 (w.heap.size + 1) (by simp)).alloc (.cells [.bool false, .slice none 0 0, .slice none 0 0].toArray 38)
  have B2 := Blk.new ((w.alloc (.cells [.bool false, .slice a1 n1 k1, .slice b1 m1 l1].toArray 38)).alloc (.cells [.bool true, .slice none 0 0, .slice none 0 0].toArray 38)) [.bool false, .slice none 0 0, .slice none 0 0] 38 (w.heap.size + 1 + 1) (by simp)
  have bel : Below w.heap.size w (((w.alloc (.cells [.bool false, .slice a1 n1 k1, .slice b1 m1 l1].toArray 38)).alloc (.cells [.bool true, .slice none 0 0, .slice none 0 0].toArray 38)).alloc (.cells [.bool false, .slice none 0 0, .slice none 0 0].toArray 38)) := ((((Below.refl _ _).alloc (Nat.le_refl _) _).alloc (by simp) _).alloc (by simp; omega) _)
  go_enter Tryd.func36, Tryd.ntmps36
  go_upto_region 1 with fail
  try simp only [us, List.map_cons, List.map_nil] at bel
  generalize (((w.alloc (Obj.cells #[.bool false, .slice a1 n1 k1, .slice b1 m1 l1] 38)).alloc (Obj.cells #[.bool true, .slice none 0 0, .slice none 0 0] 38)).alloc (Obj.cells #[.bool false, .slice none 0 0, .slice none 0 0] 38)) = W at *
  replace NX := NX.later bel
  replace NY := NY.later bel
  have lt0 := B0.lt
  have lt1 := B1.lt
  have lt2 := B2.lt
  have c0 := B0.cell 0 _ rfl; have f0 := B0.frozen 0; have c1 := B0.cell 1 _ rfl; have f1 := B0.frozen 1; have c2 := B0.cell 2 _ rfl; have f2 := B0.frozen 2
  have d0 := B1.cell 0 _ rfl; have g0 := B1.frozen 0; have d1 := B1.cell 1 _ rfl; have g1 := B1.frozen 1; have d2 := B1.cell 2 _ rfl; have g2 := B1.frozen 2
  have e0 := B2.cell 0 _ rfl; have h0 := B2.frozen 0; have e1 := B2.cell 1 _ rfl; have h1 := B2.frozen 1; have e2 := B2.cell 2 _ rfl; have h2 := B2.frozen 2
  go_wp2_with fail
  exact bodyPost_ret (v := .agg #[.bool false, .slice a1 n1 k1, .slice b1 m1 l1]) (by simp [results, Tryd.results36, go_sem, e0, e1, e2]) rfl ⟨_, rfl, ⟨_, _, _, _, _, _, rfl, NX.put3 B2, NY.put3 B2⟩, below_put3 bel (by omega)⟩

set_option maxRecDepth 100000 in
set_option maxHeartbeats 2000000 in
theorem add_op {u v : Value} {X1 Y1 X2 Y2 : Int} {w : World} (hu : PtIs w u (some (X1, Y1))) (hv : PtIs w v (some (X2, Y2))) (A1 : Aff X1 Y1) (A2 : Aff X2 Y2) (ho : Opp X1 Y1 X2 Y2) :
    Calls Tryd.prog 36 #[u, v] w fun e w' => ∃ v', e = .returned v' ∧ PtIs w' v' (cadd (some (X1, Y1)) (some (X2, Y2))) ∧ Below w.heap.size w w' := by
  obtain ⟨a1, n1, k1, b1, m1, l1, rfl, NX1, NY1⟩ := hu
  obtain ⟨a2, n2, k2, b2, m2, l2, rfl, NX2, NY2⟩ := hv
  have L1 : Hid _ := A1
  have L2 : Hid _ := A2
  clear A1 A2
  have B0 := ((Blk.new w [.bool false, .slice a1 n1 k1, .slice b1 m1 l1] 38 (w.heap.size) rfl).alloc (.cells [.bool false, .slice a2 n2 k2, .slice b2 m2 l2].toArray 38)).alloc (.cells [.bool false, .slice none 0 0, .slice none 0 0].toArray 38)
  have B1 := (Blk.new (w.alloc (.cells [.bool false, .slice a1 n1 k1, .slice b1 m1 l1].toArray 38)) [.bool false, .slice a2 n2 k2, .slice b2 m2 l2] 38 (w.heap.size + 1) (by simp)).alloc (.cells [.bool false, .slice none 0 0, .slice none 0 0].toArray 38)
  have B2 := Blk.new ((w.alloc (.cells [.bool false, .slice a1 n1 k1, .slice b1 m1 l1].toArray 38)).alloc (.cells [.bool false, .slice a2 n2 k2, .slice b2 m2 l2].toArray 38)) [.bool false, .slice none 0 0, .slice none 0 0] 38 (w.heap.size + 1 + 1) (by simp)
  have bel : Below w.heap.size w (((w.alloc (.cells [.bool false, .slice a1 n1 k1, .slice b1 m1 l1].toArray 38)).alloc (.cells [.bool false, .slice a2 n2 k2, .slice b2 m2 l2].toArray 38)).alloc (.cells [.bool false, .slice none 0 0, .slice none 0 0].toArray 38)) := ((((Below.refl _ _).alloc (Nat.le_refl _) _).alloc (by simp) _).alloc (by simp; omega) _)
  go_enter Tryd.func36, Tryd.ntmps36
  go_upto_region 1 with fail
  try simp only [us, List.map_cons, List.map_nil] at bel
  generalize (((w.alloc (Obj.cells #[.bool false, .slice a1 n1 k1, .slice b1 m1 l1] 38)).alloc (Obj.cells #[.bool false, .slice a2 n2 k2, .slice b2 m2 l2] 38)).alloc (Obj.cells #[.bool false, .slice none 0 0, .slice none 0 0] 38)) = W at *
  replace NX1 := NX1.later bel
  replace NY1 := NY1.later bel
  replace NX2 := NX2.later bel
  replace NY2 := NY2.later bel
  obtain ⟨S1, hS1, KL1, KA1, KD1, KS1, KQ1, KN1, KB1, KM1, KR1⟩ := held3 (w0 := w) (W := W) [(w.heap.size, [.bool false, .slice a1 n1 k1, .slice b1 m1 l1]), (w.heap.size + 1, [.bool false, .slice a2 n2 k2, .slice b2 m2 l2])] (by
    intro b X h
    simp only [List.mem_cons, List.not_mem_nil, or_false, Prod.mk.injEq] at h
    rcases h with ⟨rfl, rfl⟩ | ⟨rfl, rfl⟩
    · exact B0
    · exact B1) bel
  have kb1a : ∀ wx, Hd S1 wx → Blk wx (w.heap.size) [.bool false, .slice a1 n1 k1, .slice b1 m1 l1] := fun wx h => KM1.out wx _ _ h (by simp)
  have c1a0 := rulec kb1a 0 _ rfl
  have c1a1 := rulec kb1a 1 _ rfl
  have c1a2 := rulec kb1a 2 _ rfl
  have c1al := ruleb kb1a
  clear kb1a
  have kb1b : ∀ wx, Hd S1 wx → Blk wx (w.heap.size + 1) [.bool false, .slice a2 n2 k2, .slice b2 m2 l2] := fun wx h => KM1.out wx _ _ h (by simp)
  have c1b0 := rulec kb1b 0 _ rfl
  have c1b1 := rulec kb1b 1 _ rfl
  have c1b2 := rulec kb1b 2 _ rfl
  have c1bl := ruleb kb1b
  clear kb1b
  have mq1a : ∀ c X, (c, X) ∈ [((w.heap.size : Nat), ([.bool false, .slice a1 n1 k1, .slice b1 m1 l1] : List Value)), ((w.heap.size + 1 : Nat), ([.bool false, .slice a2 n2 k2, .slice b2 m2 l2] : List Value))] → c ≠ w.heap.size + 1 + 1 := by
    intro c X h
    simp only [List.mem_cons, List.not_mem_nil, or_false, Prod.mk.injEq] at h
    omega
  have hN1 := bel.size
  clear bel B0 B1
  go_wp2_with fail
  refine (cmp_any _ _ _ _ _ NX1 NX2).mono ?_
  rintro e w1 ⟨rfl, hb⟩
  replace hS1 := KL1.out _ _ hS1 hb
  replace B2 := B2.later hb
  replace NX1 := NX1.later hb
  replace NY1 := NY1.later hb
  replace NX2 := NX2.later hb
  replace NY2 := NY2.later hb
  clear hb
  have ex := ho.1
  subst ex
  have hc := cmp_eq X1
  go_wp2_with fail
  refine (padd NY1 NY2 (lo_30 L1.out.ly) (lo_30 L2.out.ly) (lo_sum L1.out.ly L2.out.ly)).mono ?_
  rintro e w2 ⟨vp, rfl, NP, hb⟩
  replace hS1 := KL1.out _ _ hS1 hb
  replace B2 := B2.later hb
  replace NX1 := NX1.later hb
  replace NY1 := NY1.later hb
  replace NX2 := NX2.later hb
  replace NY2 := NY2.later hb
  clear hb
  rw [ho.2] at NP
  obtain ⟨a3, n3, k3, rfl, q1, q2, hn⟩ := num_len NP
  have e0 : (n3 : Int) = 0 := hn.2 rfl
  have e1 : n3 = 0 := by omega
  subst e1
  clear hn e0 hc
  have HO : Hid _ := add_opp ho
  clear ho
  unfold maxLen at q2
  have lt2 := B2.lt
  have d0 := B2.cell 0 _ rfl; have g0 := B2.frozen 0; have d1 := B2.cell 1 _ rfl; have g1 := B2.frozen 1; have d2 := B2.cell 2 _ rfl; have g2 := B2.frozen 2
  have bel := KB1.out _ hS1
  go_wp2_with fail
  exact bodyPost_ret (v := .agg #[.bool true, .slice none 0 0, .slice none 0 0]) (by simp [results, Tryd.results36, go_sem, d0, d1, d2]) rfl ⟨_, rfl, (by rw [HO.out]; rfl), below_put3 bel (by omega)⟩

set_option maxRecDepth 100000 in
set_option maxHeartbeats 4000000 in
theorem add_eq {u v : Value} {X1 Y1 X2 Y2 : Int} {w : World} (hu : PtIs w u (some (X1, Y1))) (hv : PtIs w v (some (X2, Y2))) (A1 : Aff X1 Y1) (A2 : Aff X2 Y2) (ex : X1 = X2) (hn : ¬ Opp X1 Y1 X2 Y2) :
    Calls Tryd.prog 36 #[u, v] w fun e w' => ∃ v', e = .returned v' ∧ PtIs w' v' (cadd (some (X1, Y1)) (some (X2, Y2))) ∧ Below w.heap.size w w' := by
  obtain ⟨a1, n1, k1, b1, m1, l1, rfl, NX1, NY1⟩ := hu
  obtain ⟨a2, n2, k2, b2, m2, l2, rfl, NX2, NY2⟩ := hv
  have L1 : Hid _ := A1
  have L2 : Hid _ := A2
  clear A1 A2
  have B0 := ((Blk.new w [.bool false, .slice a1 n1 k1, .slice b1 m1 l1] 38 (w.heap.size) rfl).alloc (.cells [.bool false, .slice a2 n2 k2, .slice b2 m2 l2].toArray 38)).alloc (.cells [.bool false, .slice none 0 0, .slice none 0 0].toArray 38)
  have B1 := (Blk.new (w.alloc (.cells [.bool false, .slice a1 n1 k1, .slice b1 m1 l1].toArray 38)) [.bool false, .slice a2 n2 k2, .slice b2 m2 l2] 38 (w.heap.size + 1) (by simp)).alloc (.cells [.bool false, .slice none 0 0, .slice none 0 0].toArray 38)
  have B2 := Blk.new ((w.alloc (.cells [.bool false, .slice a1 n1 k1, .slice b1 m1 l1].toArray 38)).alloc (.cells [.bool false, .slice a2 n2 k2, .slice b2 m2 l2].toArray 38)) [.bool false, .slice none 0 0, .slice none 0 0] 38 (w.heap.size + 1 + 1) (by simp)
  have bel : Below w.heap.size w (((w.alloc (.cells [.bool false, .slice a1 n1 k1, .slice b1 m1 l1].toArray 38)).alloc (.cells [.bool false, .slice a2 n2 k2, .slice b2 m2 l2].toArray 38)).alloc (.cells [.bool false, .slice none 0 0, .slice none 0 0].toArray 38)) := ((((Below.refl _ _).alloc (Nat.le_refl _) _).alloc (by simp) _).alloc (by simp; omega) _)
  go_enter Tryd.func36, Tryd.ntmps36
  go_upto_region 1 with fail
  try simp only [us, List.map_cons, List.map_nil] at bel
  generalize (((w.alloc (Obj.cells #[.bool false, .slice a1 n1 k1, .slice b1 m1 l1] 38)).alloc (Obj.cells #[.bool false, .slice a2 n2 k2, .slice b2 m2 l2] 38)).alloc (Obj.cells #[.bool false, .slice none 0 0, .slice none 0 0] 38)) = W at *
  replace NX1 := NX1.later bel
  replace NY1 := NY1.later bel
  replace NX2 := NX2.later bel
  replace NY2 := NY2.later bel
  obtain ⟨S1, hS1, KL1, KA1, KD1, KS1, KQ1, KN1, KB1, KM1, KR1⟩ := held3 (w0 := w) (W := W) [(w.heap.size, [.bool false, .slice a1 n1 k1, .slice b1 m1 l1]), (w.heap.size + 1, [.bool false, .slice a2 n2 k2, .slice b2 m2 l2])] (by
    intro b X h
    simp only [List.mem_cons, List.not_mem_nil, or_false, Prod.mk.injEq] at h
    rcases h with ⟨rfl, rfl⟩ | ⟨rfl, rfl⟩
    · exact B0
    · exact B1) bel
  have kb1a : ∀ wx, Hd S1 wx → Blk wx (w.heap.size) [.bool false, .slice a1 n1 k1, .slice b1 m1 l1] := fun wx h => KM1.out wx _ _ h (by simp)
  have c1a0 := rulec kb1a 0 _ rfl
  have c1a1 := rulec kb1a 1 _ rfl
  have c1a2 := rulec kb1a 2 _ rfl
  have c1al := ruleb kb1a
  clear kb1a
  have kb1b : ∀ wx, Hd S1 wx → Blk wx (w.heap.size + 1) [.bool false, .slice a2 n2 k2, .slice b2 m2 l2] := fun wx h => KM1.out wx _ _ h (by simp)
  have c1b0 := rulec kb1b 0 _ rfl
  have c1b1 := rulec kb1b 1 _ rfl
  have c1b2 := rulec kb1b 2 _ rfl
  have c1bl := ruleb kb1b
  clear kb1b
  have mq1a : ∀ c X, (c, X) ∈ [((w.heap.size : Nat), ([.bool false, .slice a1 n1 k1, .slice b1 m1 l1] : List Value)), ((w.heap.size + 1 : Nat), ([.bool false, .slice a2 n2 k2, .slice b2 m2 l2] : List Value))] → c ≠ w.heap.size + 1 + 1 := by
    intro c X h
    simp only [List.mem_cons, List.not_mem_nil, or_false, Prod.mk.injEq] at h
    omega
  have hN1 := bel.size
  clear bel B0 B1
  go_wp2_with fail
  refine (cmp_any _ _ _ _ _ NX1 NX2).mono ?_
  rintro e w1 ⟨rfl, hb⟩
  replace hS1 := KL1.out _ _ hS1 hb
  replace B2 := B2.later hb
  replace NX1 := NX1.later hb
  replace NY1 := NY1.later hb
  replace NX2 := NX2.later hb
  replace NY2 := NY2.later hb
  clear hb
  subst ex
  have hc := cmp_eq X1
  have HN : Hid _ := hn
  clear hn
  go_wp2_with fail
  refine (padd NY1 NY2 (lo_30 L1.out.ly) (lo_30 L2.out.ly) (lo_sum L1.out.ly L2.out.ly)).mono ?_
  rintro e w2 ⟨vp, rfl, NP, hb⟩
  replace hS1 := KL1.out _ _ hS1 hb
  replace B2 := B2.later hb
  replace NX1 := NX1.later hb
  replace NY1 := NY1.later hb
  replace NX2 := NX2.later hb
  replace NY2 := NY2.later hb
  clear hb
  obtain ⟨a3, n3, k3, rfl, q1, q2, hn⟩ := num_len NP
  have e0 : ¬ (n3 : Int) = 0 := fun h => HN.out ⟨rfl, hn.1 h⟩
  clear hn hc NP
  unfold maxLen at q2
  have ey := same_y L1.out L2.out HN.out
  have HSL : Hid _ := slope_eq (x := X1) ey
  clear ey
  have N3b := three_dig w2 22
  replace hS1 := KA1.out _ (.cells #[.int .u64 3] 22) hS1
  replace B2 := B2.alloc (.cells #[.int .u64 3] 22)
  replace NX1 := NX1.alloc (.cells #[.int .u64 3] 22)
  replace NY1 := NY1.alloc (.cells #[.int .u64 3] 22)
  replace NX2 := NX2.alloc (.cells #[.int .u64 3] 22)
  replace NY2 := NY2.alloc (.cells #[.int .u64 3] 22)
  go_wp2_with fail
  generalize w2.alloc (Obj.cells #[.int .u64 3] 22) = V1 at *
  refine (pmul NX1 NX1 (lo_30 L1.out.lx) (lo_30 L1.out.lx) (lo_mul L1.out.lx L1.out.lx)).mono ?_
  rintro e w3 ⟨vq, rfl, NQ, hb⟩
  replace hS1 := KL1.out _ _ hS1 hb
  replace B2 := B2.later hb
  replace NX1 := NX1.later hb
  replace NY1 := NY1.later hb
  replace NX2 := NX2.later hb
  replace NY2 := NY2.later hb
  replace N3b := N3b.later hb
  clear hb
  go_wp2_with fail
  refine (pmul N3b NQ (lo_30 lo_three) (lo_30 (lo_emod _)) (lo_mul lo_three (lo_emod _))).mono ?_
  rintro e w4 ⟨vr, rfl, NR, hb⟩
  replace hS1 := KL1.out _ _ hS1 hb
  replace B2 := B2.later hb
  replace NX1 := NX1.later hb
  replace NY1 := NY1.later hb
  replace NX2 := NX2.later hb
  replace NY2 := NY2.later hb
  clear hb NQ N3b
  have N3c := three_dig w4 22
  replace hS1 := KA1.out _ (.cells #[.int .u64 3] 22) hS1
  replace B2 := B2.alloc (.cells #[.int .u64 3] 22)
  replace NX1 := NX1.alloc (.cells #[.int .u64 3] 22)
  replace NY1 := NY1.alloc (.cells #[.int .u64 3] 22)
  replace NX2 := NX2.alloc (.cells #[.int .u64 3] 22)
  replace NY2 := NY2.alloc (.cells #[.int .u64 3] 22)
  replace NR := NR.alloc (.cells #[.int .u64 3] 22)
  go_wp2_with fail
  generalize w4.alloc (Obj.cells #[.int .u64 3] 22) = V2 at *
  refine (psub NR N3c (lo_30 (lo_emod _)) (lo_30 lo_three)).mono ?_
  rintro e w5 ⟨vu, rfl, NU, hb⟩
  replace hS1 := KL1.out _ _ hS1 hb
  replace B2 := B2.later hb
  replace NX1 := NX1.later hb
  replace NY1 := NY1.later hb
  replace NX2 := NX2.later hb
  replace NY2 := NY2.later hb
  clear hb NR N3c
  go_wp2_with fail
  refine (padd NY1 NY1 (lo_30 L1.out.ly) (lo_30 L1.out.ly) (lo_sum L1.out.ly L1.out.ly)).mono ?_
  rintro e w6 ⟨vd, rfl, ND, hb⟩
  replace hS1 := KL1.out _ _ hS1 hb
  replace B2 := B2.later hb
  replace NX1 := NX1.later hb
  replace NY1 := NY1.later hb
  replace NX2 := NX2.later hb
  replace NY2 := NY2.later hb
  replace NU := NU.later hb
  clear hb
  go_wp2_with fail
  refine (r3_Inv ND (lo_30 (lo_emod _))).mono ?_
  rintro e w7 ⟨vi, rfl, NI, hb⟩
  replace hS1 := KL1.out _ _ hS1 hb
  replace B2 := B2.later hb
  replace NX1 := NX1.later hb
  replace NY1 := NY1.later hb
  replace NX2 := NX2.later hb
  replace NY2 := NY2.later hb
  replace NU := NU.later hb
  clear hb ND
  go_wp2_with fail
  refine (pmul NU NI (lo_30 (lo_emod _)) (lo_30 (pinv_lo _)) (lo_mul (lo_emod _) (pinv_lo _))).mono ?_
  rintro e w8 ⟨vs, rfl, NS, hb⟩
  replace hS1 := KL1.out _ _ hS1 hb
  replace B2 := B2.later hb
  replace NX1 := NX1.later hb
  replace NY1 := NY1.later hb
  replace NX2 := NX2.later hb
  replace NY2 := NY2.later hb
  clear hb NU NI
  rw [HSL.out] at NS
  have LS : Hid (Lo (slope X1 Y1 X1 Y2)) := by rw [← HSL.out]; exact lo_emod _
  clear HSL
  obtain ⟨s, hs⟩ : ∃ s, s = slope X1 Y1 X1 Y2 := ⟨_, rfl⟩
  rw [← hs] at NS LS
  have HS : Hid _ := hs
  clear hs
  go_upto_region 15 with fail
  go_cut [8] (fun p wx => (∃ a m c, p = .slice a m c ∧ NumIs wx (.slice a m c) ((((s * s) % PP - X1) % PP - X1) % PP)) ∧ NumIs wx vs s ∧ NumIs wx (.slice a1 n1 k1) X1 ∧ NumIs wx (.slice b1 m1 l1) Y1 ∧ Blk wx (w.heap.size + 1 + 1) [.bool false, .slice none 0 0, .slice none 0 0] ∧ Hd S1 wx)
  case first =>
    go_region_held3 (Hd S1)
      (first
        | with_reducible exact KL1.out _ _ (by assumption) hb
        | with_reducible exact KA1.out _ _ (by assumption)
        | with_reducible exact KS1.out _ _ _ (by omega) (by assumption)
        | with_reducible exact KD1.out _ hS1
        | with_reducible exact KD1.out _ (KA1.out _ _ hS1)
        | with_reducible assumption)
      (first
        | (go_at_call 31; go_fit (pmul (by first | exact NS | exact NS.drew) (by first | exact NS | exact NS.drew) (lo_30 LS.out) (lo_30 LS.out) (lo_mul LS.out LS.out)); rintro e w' ⟨vq, rfl, NQ, hb⟩; (first | replace NX1 := NX1.later hb | replace NX1 := NX1.drew.later hb | skip); (first | replace NX2 := NX2.later hb | replace NX2 := NX2.drew.later hb | skip); (first | replace NY1 := NY1.later hb | replace NY1 := NY1.drew.later hb | skip); (first | replace NS := NS.later hb | replace NS := NS.drew.later hb | skip); (first | replace B2 := B2.later hb | replace B2 := B2.drew.later hb | skip))
        | (go_at_call 33; go_fit (psub NQ (by first | exact NX1 | exact NX1.drew) (lo_30 (lo_emod _)) (lo_30 L1.out.lx)); rintro e w' ⟨vr, rfl, NR, hb⟩; (first | replace NX1 := NX1.later hb | replace NX1 := NX1.drew.later hb | skip); (first | replace NX2 := NX2.later hb | replace NX2 := NX2.drew.later hb | skip); (first | replace NY1 := NY1.later hb | replace NY1 := NY1.drew.later hb | skip); (first | replace NS := NS.later hb | replace NS := NS.drew.later hb | skip); (first | replace B2 := B2.later hb | replace B2 := B2.drew.later hb | skip))
        | (go_at_call 33; go_fit (psub NR (by first | exact NX2 | exact NX2.drew) (lo_30 (lo_emod _)) (lo_30 L2.out.lx)); rintro e w' ⟨vt, rfl, NT, hb⟩; (first | replace NX1 := NX1.later hb | replace NX1 := NX1.drew.later hb | skip); (first | replace NX2 := NX2.later hb | replace NX2 := NX2.drew.later hb | skip); (first | replace NY1 := NY1.later hb | replace NY1 := NY1.drew.later hb | skip); (first | replace NS := NS.later hb | replace NS := NS.drew.later hb | skip); (first | replace B2 := B2.later hb | replace B2 := B2.drew.later hb | skip); obtain ⟨a3, n3, k3, rfl⟩ := NT.form))
    all_goals
      go_wp2_with fail
      go_meet
      exact ⟨⟨_, _, _, rfl, NT⟩, NS, NX1, NY1, B2, by with_reducible assumption⟩
  case rest =>
    clear hS1 NS NX1 NX2 NY1 NY2 B2
    obtain ⟨⟨a3, n3, k3, rfl, N3⟩, NS, NX1, NY1, B2, hS1⟩ := hcut
    obtain ⟨x, hx⟩ : ∃ x, x = (((s * s) % PP - X1) % PP - X1) % PP := ⟨_, rfl⟩
    have LX : Hid (Lo x) := by rw [hx]; exact lo_emod _
    rw [← hx] at N3
    have HX : Hid _ := hx
    clear hx
    go_upto_region 16 with fail
    go_cut [9] (fun p wx => (∃ a m c, p = .slice a m c ∧ NumIs wx (.slice a m c) (((s * ((X1 - x) % PP)) % PP - Y1) % PP)) ∧ NumIs wx (.slice a3 n3 k3) x ∧ Blk wx (w.heap.size + 1 + 1) [.bool false, .slice none 0 0, .slice none 0 0] ∧ Hd S1 wx)
    case first =>
      go_region_held3 (Hd S1)
        (first
          | with_reducible exact KL1.out _ _ (by assumption) hb
          | with_reducible exact KA1.out _ _ (by assumption)
          | with_reducible exact KS1.out _ _ _ (by omega) (by assumption)
          | with_reducible exact KD1.out _ hS1
          | with_reducible exact KD1.out _ (KA1.out _ _ hS1)
          | with_reducible assumption)
        (first
          | (go_at_call 33; go_fit (psub (by first | exact NX1 | exact NX1.drew) (by first | exact N3 | exact N3.drew) (lo_30 L1.out.lx) (lo_30 LX.out)); rintro e w' ⟨vq, rfl, NQ, hb⟩; (first | replace NX1 := NX1.later hb | replace NX1 := NX1.drew.later hb | skip); (first | replace NY1 := NY1.later hb | replace NY1 := NY1.drew.later hb | skip); (first | replace NS := NS.later hb | replace NS := NS.drew.later hb | skip); (first | replace N3 := N3.later hb | replace N3 := N3.drew.later hb | skip); (first | replace B2 := B2.later hb | replace B2 := B2.drew.later hb | skip))
          | (go_at_call 31; go_fit (pmul (by first | exact NS | exact NS.drew) NQ (lo_30 LS.out) (lo_30 (lo_emod _)) (lo_mul LS.out (lo_emod _))); rintro e w' ⟨vr, rfl, NR, hb⟩; (first | replace NX1 := NX1.later hb | replace NX1 := NX1.drew.later hb | skip); (first | replace NY1 := NY1.later hb | replace NY1 := NY1.drew.later hb | skip); (first | replace NS := NS.later hb | replace NS := NS.drew.later hb | skip); (first | replace N3 := N3.later hb | replace N3 := N3.drew.later hb | skip); (first | replace B2 := B2.later hb | replace B2 := B2.drew.later hb | skip))
          | (go_at_call 33; go_fit (psub NR (by first | exact NY1 | exact NY1.drew) (lo_30 (lo_emod _)) (lo_30 L1.out.ly)); rintro e w' ⟨vt, rfl, NT, hb⟩; (first | replace NX1 := NX1.later hb | replace NX1 := NX1.drew.later hb | skip); (first | replace NY1 := NY1.later hb | replace NY1 := NY1.drew.later hb | skip); (first | replace NS := NS.later hb | replace NS := NS.drew.later hb | skip); (first | replace N3 := N3.later hb | replace N3 := N3.drew.later hb | skip); (first | replace B2 := B2.later hb | replace B2 := B2.drew.later hb | skip); obtain ⟨a4, n4, k4, rfl⟩ := NT.form))
      all_goals
        go_wp2_with fail
        go_meet
        exact ⟨⟨_, _, _, rfl, NT⟩, N3, B2, by with_reducible assumption⟩
    case rest =>
      clear hS1 NS NX1 NY1 B2 N3
      obtain ⟨⟨a4, n4, k4, rfl, N4⟩, N3, B2, hS1⟩ := hcut
      have HE : Hid _ := cadd_val HN.out HS.out HX.out rfl
      have lt2 := B2.lt
      have d0 := B2.cell 0 _ rfl; have g0 := B2.frozen 0; have d1 := B2.cell 1 _ rfl; have g1 := B2.frozen 1; have d2 := B2.cell 2 _ rfl; have g2 := B2.frozen 2
      have bel := KB1.out _ hS1
      clear hS1
      go_wp2_with fail
      exact bodyPost_ret (v := .agg #[.bool false, .slice a3 n3 k3, .slice a4 n4 k4]) (by simp [results, Tryd.results36, go_sem, d0, d1, d2]) rfl ⟨_, rfl, (by rw [HE.out]; exact ⟨_, _, _, _, _, _, rfl, N3.put3 B2, N4.put3 B2⟩), below_put3 bel (by omega)⟩

set_option maxRecDepth 100000 in
set_option maxHeartbeats 4000000 in
theorem add_ne {u v : Value} {X1 Y1 X2 Y2 : Int} {w : World} (hu : PtIs w u (some (X1, Y1))) (hv : PtIs w v (some (X2, Y2))) (A1 : Aff X1 Y1) (A2 : Aff X2 Y2) (ex : ¬ X1 = X2) :
    Calls Tryd.prog 36 #[u, v] w fun e w' => ∃ v', e = .returned v' ∧ PtIs w' v' (cadd (some (X1, Y1)) (some (X2, Y2))) ∧ Below w.heap.size w w' := by
  obtain ⟨a1, n1, k1, b1, m1, l1, rfl, NX1, NY1⟩ := hu
  obtain ⟨a2, n2, k2, b2, m2, l2, rfl, NX2, NY2⟩ := hv
  have L1 : Hid _ := A1
  have L2 : Hid _ := A2
  clear A1 A2
  have B0 := ((Blk.new w [.bool false, .slice a1 n1 k1, .slice b1 m1 l1] 38 (w.heap.size) rfl).alloc (.cells [.bool false, .slice a2 n2 k2, .slice b2 m2 l2].toArray 38)).alloc (.cells [.bool false, .slice none 0 0, .slice none 0 0].toArray 38)
  have B1 := (Blk.new (w.alloc (.cells [.bool false, .slice a1 n1 k1, .slice b1 m1 l1].toArray 38)) [.bool false, .slice a2 n2 k2, .slice b2 m2 l2] 38 (w.heap.size + 1) (by simp)).alloc (.cells [.bool false, .slice none 0 0, .slice none 0 0].toArray 38)
  have B2 := Blk.new ((w.alloc (.cells [.bool false, .slice a1 n1 k1, .slice b1 m1 l1].toArray 38)).alloc (.cells [.bool false, .slice a2 n2 k2, .slice b2 m2 l2].toArray 38)) [.bool false, .slice none 0 0, .slice none 0 0] 38 (w.heap.size + 1 + 1) (by simp)
  have bel : Below w.heap.size w (((w.alloc (.cells [.bool false, .slice a1 n1 k1, .slice b1 m1 l1].toArray 38)).alloc (.cells [.bool false, .slice a2 n2 k2, .slice b2 m2 l2].toArray 38)).alloc (.cells [.bool false, .slice none 0 0, .slice none 0 0].toArray 38)) := ((((Below.refl _ _).alloc (Nat.le_refl _) _).alloc (by simp) _).alloc (by simp; omega) _)
  go_enter Tryd.func36, Tryd.ntmps36
  go_upto_region 1 with fail
  try simp only [us, List.map_cons, List.map_nil] at bel
  generalize (((w.alloc (Obj.cells #[.bool false, .slice a1 n1 k1, .slice b1 m1 l1] 38)).alloc (Obj.cells #[.bool false, .slice a2 n2 k2, .slice b2 m2 l2] 38)).alloc (Obj.cells #[.bool false, .slice none 0 0, .slice none 0 0] 38)) = W at *
  replace NX1 := NX1.later bel
  replace NY1 := NY1.later bel
  replace NX2 := NX2.later bel
  replace NY2 := NY2.later bel
  obtain ⟨S1, hS1, KL1, KA1, KD1, KS1, KQ1, KN1, KB1, KM1, KR1⟩ := held3 (w0 := w) (W := W) [(w.heap.size, [.bool false, .slice a1 n1 k1, .slice b1 m1 l1]), (w.heap.size + 1, [.bool false, .slice a2 n2 k2, .slice b2 m2 l2])] (by
    intro b X h
    simp only [List.mem_cons, List.not_mem_nil, or_false, Prod.mk.injEq] at h
    rcases h with ⟨rfl, rfl⟩ | ⟨rfl, rfl⟩
    · exact B0
    · exact B1) bel
  have kb1a : ∀ wx, Hd S1 wx → Blk wx (w.heap.size) [.bool false, .slice a1 n1 k1, .slice b1 m1 l1] := fun wx h => KM1.out wx _ _ h (by simp)
  have c1a0 := rulec kb1a 0 _ rfl
  have c1a1 := rulec kb1a 1 _ rfl
  have c1a2 := rulec kb1a 2 _ rfl
  have c1al := ruleb kb1a
  clear kb1a
  have kb1b : ∀ wx, Hd S1 wx → Blk wx (w.heap.size + 1) [.bool false, .slice a2 n2 k2, .slice b2 m2 l2] := fun wx h => KM1.out wx _ _ h (by simp)
  have c1b0 := rulec kb1b 0 _ rfl
  have c1b1 := rulec kb1b 1 _ rfl
  have c1b2 := rulec kb1b 2 _ rfl
  have c1bl := ruleb kb1b
  clear kb1b
  have mq1a : ∀ c X, (c, X) ∈ [((w.heap.size : Nat), ([.bool false, .slice a1 n1 k1, .slice b1 m1 l1] : List Value)), ((w.heap.size + 1 : Nat), ([.bool false, .slice a2 n2 k2, .slice b2 m2 l2] : List Value))] → c ≠ w.heap.size + 1 + 1 := by
    intro c X h
    simp only [List.mem_cons, List.not_mem_nil, or_false, Prod.mk.injEq] at h
    omega
  have hN1 := bel.size
  clear bel B0 B1
  go_wp2_with fail
  refine (cmp_any _ _ _ _ _ NX1 NX2).mono ?_
  rintro e w1 ⟨rfl, hb⟩
  replace hS1 := KL1.out _ _ hS1 hb
  replace B2 := B2.later hb
  replace NX1 := NX1.later hb
  replace NY1 := NY1.later hb
  replace NX2 := NX2.later hb
  replace NY2 := NY2.later hb
  clear hb
  have HN : Hid (¬ Opp X1 Y1 X2 Y2) := fun h => ex h.1
  have hc := cmp_ne ex
  have HSL : Hid _ := slope_ne (y1 := Y1) (y2 := Y2) ex
  clear ex
  go_wp2_with fail
  refine (psub NY2 NY1 (lo_30 L2.out.ly) (lo_30 L1.out.ly)).mono ?_
  rintro e w2 ⟨vu, rfl, NU, hb⟩
  replace hS1 := KL1.out _ _ hS1 hb
  replace B2 := B2.later hb
  replace NX1 := NX1.later hb
  replace NY1 := NY1.later hb
  replace NX2 := NX2.later hb
  replace NY2 := NY2.later hb
  clear hb
  clear hc
  go_wp2_with fail
  refine (psub NX2 NX1 (lo_30 L2.out.lx) (lo_30 L1.out.lx)).mono ?_
  rintro e w3 ⟨vd, rfl, ND, hb⟩
  replace hS1 := KL1.out _ _ hS1 hb
  replace B2 := B2.later hb
  replace NX1 := NX1.later hb
  replace NY1 := NY1.later hb
  replace NX2 := NX2.later hb
  replace NY2 := NY2.later hb
  replace NU := NU.later hb
  clear hb
  go_wp2_with fail
  refine (r3_Inv ND (lo_30 (lo_emod _))).mono ?_
  rintro e w4 ⟨vi, rfl, NI, hb⟩
  replace hS1 := KL1.out _ _ hS1 hb
  replace B2 := B2.later hb
  replace NX1 := NX1.later hb
  replace NY1 := NY1.later hb
  replace NX2 := NX2.later hb
  replace NY2 := NY2.later hb
  replace NU := NU.later hb
  clear hb ND
  go_wp2_with fail
  refine (pmul NU NI (lo_30 (lo_emod _)) (lo_30 (pinv_lo _)) (lo_mul (lo_emod _) (pinv_lo _))).mono ?_
  rintro e w5 ⟨vs, rfl, NS, hb⟩
  replace hS1 := KL1.out _ _ hS1 hb
  replace B2 := B2.later hb
  replace NX1 := NX1.later hb
  replace NY1 := NY1.later hb
  replace NX2 := NX2.later hb
  replace NY2 := NY2.later hb
  clear hb NU NI
  rw [HSL.out] at NS
  have LS : Hid (Lo (slope X1 Y1 X2 Y2)) := by rw [← HSL.out]; exact lo_emod _
  clear HSL
  obtain ⟨s, hs⟩ : ∃ s, s = slope X1 Y1 X2 Y2 := ⟨_, rfl⟩
  rw [← hs] at NS LS
  have HS : Hid _ := hs
  clear hs
  go_upto_region 15 with fail
  go_cut [8] (fun p wx => (∃ a m c, p = .slice a m c ∧ NumIs wx (.slice a m c) ((((s * s) % PP - X1) % PP - X2) % PP)) ∧ NumIs wx vs s ∧ NumIs wx (.slice a1 n1 k1) X1 ∧ NumIs wx (.slice b1 m1 l1) Y1 ∧ Blk wx (w.heap.size + 1 + 1) [.bool false, .slice none 0 0, .slice none 0 0] ∧ Hd S1 wx)
  case first =>
    go_region_held3 (Hd S1)
      (first
        | with_reducible exact KL1.out _ _ (by assumption) hb
        | with_reducible exact KA1.out _ _ (by assumption)
        | with_reducible exact KS1.out _ _ _ (by omega) (by assumption)
        | with_reducible exact KD1.out _ hS1
        | with_reducible exact KD1.out _ (KA1.out _ _ hS1)
        | with_reducible assumption)
      (first
        | (go_at_call 31; go_fit (pmul (by first | exact NS | exact NS.drew) (by first | exact NS | exact NS.drew) (lo_30 LS.out) (lo_30 LS.out) (lo_mul LS.out LS.out)); rintro e w' ⟨vq, rfl, NQ, hb⟩; (first | replace NX1 := NX1.later hb | replace NX1 := NX1.drew.later hb | skip); (first | replace NX2 := NX2.later hb | replace NX2 := NX2.drew.later hb | skip); (first | replace NY1 := NY1.later hb | replace NY1 := NY1.drew.later hb | skip); (first | replace NS := NS.later hb | replace NS := NS.drew.later hb | skip); (first | replace B2 := B2.later hb | replace B2 := B2.drew.later hb | skip))
        | (go_at_call 33; go_fit (psub NQ (by first | exact NX1 | exact NX1.drew) (lo_30 (lo_emod _)) (lo_30 L1.out.lx)); rintro e w' ⟨vr, rfl, NR, hb⟩; (first | replace NX1 := NX1.later hb | replace NX1 := NX1.drew.later hb | skip); (first | replace NX2 := NX2.later hb | replace NX2 := NX2.drew.later hb | skip); (first | replace NY1 := NY1.later hb | replace NY1 := NY1.drew.later hb | skip); (first | replace NS := NS.later hb | replace NS := NS.drew.later hb | skip); (first | replace B2 := B2.later hb | replace B2 := B2.drew.later hb | skip))
        | (go_at_call 33; go_fit (psub NR (by first | exact NX2 | exact NX2.drew) (lo_30 (lo_emod _)) (lo_30 L2.out.lx)); rintro e w' ⟨vt, rfl, NT, hb⟩; (first | replace NX1 := NX1.later hb | replace NX1 := NX1.drew.later hb | skip); (first | replace NX2 := NX2.later hb | replace NX2 := NX2.drew.later hb | skip); (first | replace NY1 := NY1.later hb | replace NY1 := NY1.drew.later hb | skip); (first | replace NS := NS.later hb | replace NS := NS.drew.later hb | skip); (first | replace B2 := B2.later hb | replace B2 := B2.drew.later hb | skip); obtain ⟨a3, n3, k3, rfl⟩ := NT.form))
    all_goals
      go_wp2_with fail
      go_meet
      exact ⟨⟨_, _, _, rfl, NT⟩, NS, NX1, NY1, B2, by with_reducible assumption⟩
  case rest =>
    clear hS1 NS NX1 NX2 NY1 NY2 B2
    obtain ⟨⟨a3, n3, k3, rfl, N3⟩, NS, NX1, NY1, B2, hS1⟩ := hcut
    obtain ⟨x, hx⟩ : ∃ x, x = (((s * s) % PP - X1) % PP - X2) % PP := ⟨_, rfl⟩
    have LX : Hid (Lo x) := by rw [hx]; exact lo_emod _
    rw [← hx] at N3
    have HX : Hid _ := hx
    clear hx
    go_upto_region 16 with fail
    go_cut [9] (fun p wx => (∃ a m c, p = .slice a m c ∧ NumIs wx (.slice a m c) (((s * ((X1 - x) % PP)) % PP - Y1) % PP)) ∧ NumIs wx (.slice a3 n3 k3) x ∧ Blk wx (w.heap.size + 1 + 1) [.bool false, .slice none 0 0, .slice none 0 0] ∧ Hd S1 wx)
    case first =>
      go_region_held3 (Hd S1)
        (first
          | with_reducible exact KL1.out _ _ (by assumption) hb
          | with_reducible exact KA1.out _ _ (by assumption)
          | with_reducible exact KS1.out _ _ _ (by omega) (by assumption)
          | with_reducible exact KD1.out _ hS1
          | with_reducible exact KD1.out _ (KA1.out _ _ hS1)
          | with_reducible assumption)
        (first
          | (go_at_call 33; go_fit (psub (by first | exact NX1 | exact NX1.drew) (by first | exact N3 | exact N3.drew) (lo_30 L1.out.lx) (lo_30 LX.out)); rintro e w' ⟨vq, rfl, NQ, hb⟩; (first | replace NX1 := NX1.later hb | replace NX1 := NX1.drew.later hb | skip); (first | replace NY1 := NY1.later hb | replace NY1 := NY1.drew.later hb | skip); (first | replace NS := NS.later hb | replace NS := NS.drew.later hb | skip); (first | replace N3 := N3.later hb | replace N3 := N3.drew.later hb | skip); (first | replace B2 := B2.later hb | replace B2 := B2.drew.later hb | skip))
          | (go_at_call 31; go_fit (pmul (by first | exact NS | exact NS.drew) NQ (lo_30 LS.out) (lo_30 (lo_emod _)) (lo_mul LS.out (lo_emod _))); rintro e w' ⟨vr, rfl, NR, hb⟩; (first | replace NX1 := NX1.later hb | replace NX1 := NX1.drew.later hb | skip); (first | replace NY1 := NY1.later hb | replace NY1 := NY1.drew.later hb | skip); (first | replace NS := NS.later hb | replace NS := NS.drew.later hb | skip); (first | replace N3 := N3.later hb | replace N3 := N3.drew.later hb | skip); (first | replace B2 := B2.later hb | replace B2 := B2.drew.later hb | skip))
          | (go_at_call 33; go_fit (psub NR (by first | exact NY1 | exact NY1.drew) (lo_30 (lo_emod _)) (lo_30 L1.out.ly)); rintro e w' ⟨vt, rfl, NT, hb⟩; (first | replace NX1 := NX1.later hb | replace NX1 := NX1.drew.later hb | skip); (first | replace NY1 := NY1.later hb | replace NY1 := NY1.drew.later hb | skip); (first | replace NS := NS.later hb | replace NS := NS.drew.later hb | skip); (first | replace N3 := N3.later hb | replace N3 := N3.drew.later hb | skip); (first | replace B2 := B2.later hb | replace B2 := B2.drew.later hb | skip); obtain ⟨a4, n4, k4, rfl⟩ := NT.form))
      all_goals
        go_wp2_with fail
        go_meet
        exact ⟨⟨_, _, _, rfl, NT⟩, N3, B2, by with_reducible assumption⟩
    case rest =>
      clear hS1 NS NX1 NY1 B2 N3
      obtain ⟨⟨a4, n4, k4, rfl, N4⟩, N3, B2, hS1⟩ := hcut
      have HE : Hid _ := cadd_val HN.out HS.out HX.out rfl
      have lt2 := B2.lt
      have d0 := B2.cell 0 _ rfl; have g0 := B2.frozen 0; have d1 := B2.cell 1 _ rfl; have g1 := B2.frozen 1; have d2 := B2.cell 2 _ rfl; have g2 := B2.frozen 2
      have bel := KB1.out _ hS1
      clear hS1
      go_wp2_with fail
      exact bodyPost_ret (v := .agg #[.bool false, .slice a3 n3 k3, .slice a4 n4 k4]) (by simp [results, Tryd.results36, go_sem, d0, d1, d2]) rfl ⟨_, rfl, (by rw [HE.out]; exact ⟨_, _, _, _, _, _, rfl, N3.put3 B2, N4.put3 B2⟩), below_put3 bel (by omega)⟩

theorem r5_Add {u v : Value} {P Q : Pt} {w : World} (hu : PtIs w u P) (hv : PtIs w v Q) (hP : OnC P) (hQ : OnC Q) :
    Calls Tryd.prog 36 #[u, v] w fun e w' => ∃ v', e = .returned v' ∧ PtIs w' v' (cadd P Q) ∧ Below w.heap.size w w' := by
  match P, Q, hu, hv, hP, hQ with
  | none, none, hu, hv, _, _ => exact add_nn hu hv
  | none, some (X, Y), hu, hv, _, _ => exact add_ns hu hv
  | some (X, Y), none, hu, hv, _, _ => exact add_sn hu hv
  | some (X1, Y1), some (X2, Y2), hu, hv, h1, h2 =>
    by_cases ho : Opp X1 Y1 X2 Y2
    · exact add_op hu hv h1 h2 ho
    by_cases ex : X1 = X2
    · exact add_eq hu hv h1 h2 ex ho
    · exact add_ne hu hv h1 h2 ex
end Go.Proofs.YtdikjabghhhhfaaDoor
