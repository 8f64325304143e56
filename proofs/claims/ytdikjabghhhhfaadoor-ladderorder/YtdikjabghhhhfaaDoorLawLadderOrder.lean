/- The law LadderOrder answers true: the order times any multiple of the base point is the point at infinity; as many times less is the opposite. -/
import Derived.Test.YtdikjabghhhhfaaDoorRows
import Derived.Test.YtdikjabghhhhfaaDoorLUp
import Derived.Test.YtdikjabghhhhfaaDoorShape
import Derived.Deep.WholeRow
import Derived.Deep.RegionHeld3
import Derived.Deep.DeepCutAuto
import Derived.Deep.DeepFit
namespace Go.Proofs.YtdikjabghhhhfaaDoor
open Go.RowKit

theorem n_dig (w : World) (t : TypeId) : NumIs (w.alloc (.cells #[.int .u64 3435473267, .int .u64 3974895978, .int .u64 1219536762, .int .u64 1478102450, .int .u64 4097256927, .int .u64 3345173889, .int .u64 4294967295, .int .u64 4294967295, .int .u64 4294967295, .int .u64 4294967295, .int .u64 4294967295, .int .u64 4294967295] t)) (.slice (some ⟨w.heap.size, 0, none⟩) 12 12) (NNn : Int) := num_lit w t [3435473267, 3974895978, 1219536762, 1478102450, 4097256927, 3345173889, 4294967295, 4294967295, 4294967295, 4294967295, 4294967295, 4294967295] 12 (NNn : Int) rfl (by decide) (by decide) (fun _ => by decide) (by decide +kernel)
set_option maxRecDepth 100000 in
theorem r4_N6 {w : World} :
    Calls Tryd.prog 25 #[] w fun e w' => ∃ v', e = .returned v' ∧ NumIs w' v' (NNn : Int) ∧ Below w.heap.size w w' := by
  have h := n_dig w 22
  go_enter Tryd.func25, Tryd.ntmps25
  go_wp2
  go_ret
  exact ⟨_, rfl, h, (Below.refl _ _).alloc (Nat.le_refl _) _⟩
theorem n_nat : (v64 [17072048233947408755, 6348401684107011962, 14367412456785391071, 18446744073709551615, 18446744073709551615, 18446744073709551615]).toNat = NNn := by decide +kernel
theorem n_v : v64 [17072048233947408755, 6348401684107011962, 14367412456785391071, 18446744073709551615, 18446744073709551615, 18446744073709551615] = (NNn : Int) := by decide +kernel
theorem m_nat : (v64 [17072048233947408754, 6348401684107011962, 14367412456785391071, 18446744073709551615, 18446744073709551615, 18446744073709551615]).toNat = NNn - 1 := by decide +kernel
theorem n_one : IntKind.u64.wrap (17072048233947408755 - 1) = 17072048233947408754 := by decide

set_option maxRecDepth 100000 in
set_option maxHeartbeats 8000000 in
theorem law_ladderOrder (a0 a1 a2 a3 a4 a5 : Int) (w : World) (G : GlsC w) (fA : fits [a0, a1, a2, a3, a4, a5]) :
    Calls Tryd.prog 8 #[.agg #[.int .u64 a0, .int .u64 a1, .int .u64 a2, .int .u64 a3, .int .u64 a4, .int .u64 a5]] w fun e w' => e = .returned (.bool true) ∧ Below w.heap.size w w' := by
  have B0 := Blk.new w [.int .u64 a0, .int .u64 a1, .int .u64 a2, .int .u64 a3, .int .u64 a4, .int .u64 a5] 24 (w.heap.size) rfl
  have bel : Below w.heap.size w (w.alloc (.cells [.int .u64 a0, .int .u64 a1, .int .u64 a2, .int .u64 a3, .int .u64 a4, .int .u64 a5].toArray 24)) := ((Below.refl _ _).alloc (Nat.le_refl _) _)
  go_enter Tryd.func8, Tryd.ntmps8
  go_upto_region 1 with fail
  try simp only [us, List.map_cons, List.map_nil] at bel
  generalize (w.alloc (Obj.cells #[.int .u64 a0, .int .u64 a1, .int .u64 a2, .int .u64 a3, .int .u64 a4, .int .u64 a5] 24)) = W at *
  have Bk := B0
  clear B0
  go_wp2_with fail
  refine (up6 (G.below bel)).mono ?_
  rintro e w1 ⟨rfl, hb⟩
  replace Bk := Bk.later hb
  replace bel := below_step bel hb
  clear hb
  have ltk := Bk.lt
  have ck0 := Bk.cell 0 _ rfl
  have ck1 := Bk.cell 1 _ rfl
  have ck2 := Bk.cell 2 _ rfl
  have ck3 := Bk.cell 3 _ rfl
  have ck4 := Bk.cell 4 _ rfl
  have ck5 := Bk.cell 5 _ rfl
  go_wp2_with fail
  refine (con_Base (G.below bel) fA).mono ?_
  rintro e w2 ⟨s0, s1, s2, s3, s4, s5, t0, t1, t2, t3, t4, t5, ks, rfl, Ts, hb⟩
  clear ltk ck0 ck1 ck2 ck3 ck4 ck5
  replace Bk := Bk.later hb
  replace bel := below_step bel hb
  clear hb
  have Op : Hid _ := on_cmul on_G (v64 [a0, a1, a2, a3, a4, a5]).toNat
  replace Bk := Bk.alloc (.cells [.int .u64 s0, .int .u64 s1, .int .u64 s2, .int .u64 s3, .int .u64 s4, .int .u64 s5, .int .u64 t0, .int .u64 t1, .int .u64 t2, .int .u64 t3, .int .u64 t4, .int .u64 t5, .bool ks].toArray 26)
  have Bp := Blk.new w2 [.int .u64 s0, .int .u64 s1, .int .u64 s2, .int .u64 s3, .int .u64 s4, .int .u64 s5, .int .u64 t0, .int .u64 t1, .int .u64 t2, .int .u64 t3, .int .u64 t4, .int .u64 t5, .bool ks] 26 w2.heap.size rfl
  replace bel := below_alloc (o := .cells [.int .u64 s0, .int .u64 s1, .int .u64 s2, .int .u64 s3, .int .u64 s4, .int .u64 s5, .int .u64 t0, .int .u64 t1, .int .u64 t2, .int .u64 t3, .int .u64 t4, .int .u64 t5, .bool ks].toArray 26) bel
  have lwp : ∀ z, z < w2.heap.size → z ≠ w2.heap.size := fun z h => Nat.ne_of_lt h
  go_wp2_with fail
  obtain ⟨bp, hbp⟩ : ∃ b, b = w2.heap.size := ⟨_, rfl⟩
  clear lwp
  generalize w2.alloc (Obj.cells #[.int .u64 s0, .int .u64 s1, .int .u64 s2, .int .u64 s3, .int .u64 s4, .int .u64 s5, .int .u64 t0, .int .u64 t1, .int .u64 t2, .int .u64 t3, .int .u64 t4, .int .u64 t5, .bool ks] 26) = Wp at *
  rw [← hbp] at Bp ⊢
  clear hbp
  refine (r4_N6).mono ?_
  rintro e w3 ⟨vn, rfl, NN, hb⟩
  replace Bk := Bk.later hb
  replace Bp := Bp.later hb
  replace bel := below_step bel hb
  clear hb
  go_wp2_with fail
  refine (to6_is NN (fits6 (by decide)) n_v).mono ?_
  rintro e w4 ⟨rfl, hb⟩
  replace Bk := Bk.later hb
  replace Bp := Bp.later hb
  replace bel := below_step bel hb
  clear hb NN
  have lk9 := Bk.lt
  have lp9 := Bp.lt
  have lb9 := bel.size
  replace Bk := Bk.alloc (.cells [.int .u64 17072048233947408755, .int .u64 6348401684107011962, .int .u64 14367412456785391071, .int .u64 18446744073709551615, .int .u64 18446744073709551615, .int .u64 18446744073709551615].toArray 23)
  replace Bp := Bp.alloc (.cells [.int .u64 17072048233947408755, .int .u64 6348401684107011962, .int .u64 14367412456785391071, .int .u64 18446744073709551615, .int .u64 18446744073709551615, .int .u64 18446744073709551615].toArray 23)
  have Bn := Blk.new w4 [.int .u64 17072048233947408755, .int .u64 6348401684107011962, .int .u64 14367412456785391071, .int .u64 18446744073709551615, .int .u64 18446744073709551615, .int .u64 18446744073709551615] 23 w4.heap.size rfl
  replace bel := below_alloc (o := .cells [.int .u64 17072048233947408755, .int .u64 6348401684107011962, .int .u64 14367412456785391071, .int .u64 18446744073709551615, .int .u64 18446744073709551615, .int .u64 18446744073709551615].toArray 23) bel
  have lwn : ∀ z, z < w4.heap.size → z ≠ w4.heap.size := fun z h => Nat.ne_of_lt h
  have ltn := Bn.lt
  have cn0 := Bn.cell 0 _ rfl
  have cn1 := Bn.cell 1 _ rfl
  have cn2 := Bn.cell 2 _ rfl
  have cn3 := Bn.cell 3 _ rfl
  have cn4 := Bn.cell 4 _ rfl
  have cn5 := Bn.cell 5 _ rfl
  have ltp := Bp.lt
  have cp0 := Bp.cell 0 _ rfl
  have cp1 := Bp.cell 1 _ rfl
  have cp2 := Bp.cell 2 _ rfl
  have cp3 := Bp.cell 3 _ rfl
  have cp4 := Bp.cell 4 _ rfl
  have cp5 := Bp.cell 5 _ rfl
  have cp6 := Bp.cell 6 _ rfl
  have cp7 := Bp.cell 7 _ rfl
  have cp8 := Bp.cell 8 _ rfl
  have cp9 := Bp.cell 9 _ rfl
  have cp10 := Bp.cell 10 _ rfl
  have cp11 := Bp.cell 11 _ rfl
  have cp12 := Bp.cell 12 _ rfl
  go_wp2_with fail
  obtain ⟨bn, hbn⟩ : ∃ b, b = w4.heap.size := ⟨_, rfl⟩
  clear lwn
  generalize w4.alloc (Obj.cells #[.int .u64 17072048233947408755, .int .u64 6348401684107011962, .int .u64 14367412456785391071, .int .u64 18446744073709551615, .int .u64 18446744073709551615, .int .u64 18446744073709551615] 23) = Wn at *
  rw [← hbn] at Bn lk9 lp9 lb9 ⊢
  clear hbn
  refine (con_Mul (G.below bel) (fits6 (by decide)) Ts Op.out).mono ?_
  rintro e w5 ⟨c0, c1, c2, c3, c4, c5, d0, d1, d2, d3, d4, d5, kc, rfl, Tc, hb⟩
  clear ltn cn0 cn1 cn2 cn3 cn4 cn5 ltp cp0 cp1 cp2 cp3 cp4 cp5 cp6 cp7 cp8 cp9 cp10 cp11 cp12
  replace Bk := Bk.later hb
  replace Bp := Bp.later hb
  replace Bn := Bn.later hb
  replace bel := below_step bel hb
  clear hb
  rw [n_nat, ord_times] at Tc
  obtain ⟨e1, e2, rfl⟩ := told_one told_zero Tc rfl rfl rfl rfl; simp only [List.cons.injEq, and_true] at e1 e2; obtain ⟨rfl, rfl, rfl, rfl, rfl, rfl⟩ := e1; obtain ⟨rfl, rfl, rfl, rfl, rfl, rfl⟩ := e2
  clear Tc
  have ln9 := Bn.lt
  replace Bk := Bk.alloc (.cells [.int .u64 0, .int .u64 0, .int .u64 0, .int .u64 0, .int .u64 0, .int .u64 0, .int .u64 0, .int .u64 0, .int .u64 0, .int .u64 0, .int .u64 0, .int .u64 0, .bool true].toArray 26)
  replace Bp := Bp.alloc (.cells [.int .u64 0, .int .u64 0, .int .u64 0, .int .u64 0, .int .u64 0, .int .u64 0, .int .u64 0, .int .u64 0, .int .u64 0, .int .u64 0, .int .u64 0, .int .u64 0, .bool true].toArray 26)
  replace Bn := Bn.alloc (.cells [.int .u64 0, .int .u64 0, .int .u64 0, .int .u64 0, .int .u64 0, .int .u64 0, .int .u64 0, .int .u64 0, .int .u64 0, .int .u64 0, .int .u64 0, .int .u64 0, .bool true].toArray 26)
  have Bz := Blk.new w5 [.int .u64 0, .int .u64 0, .int .u64 0, .int .u64 0, .int .u64 0, .int .u64 0, .int .u64 0, .int .u64 0, .int .u64 0, .int .u64 0, .int .u64 0, .int .u64 0, .bool true] 26 w5.heap.size rfl
  replace bel := below_alloc (o := .cells [.int .u64 0, .int .u64 0, .int .u64 0, .int .u64 0, .int .u64 0, .int .u64 0, .int .u64 0, .int .u64 0, .int .u64 0, .int .u64 0, .int .u64 0, .int .u64 0, .bool true].toArray 26) bel
  have lwz : ∀ z, z < w5.heap.size → z ≠ w5.heap.size := fun z h => Nat.ne_of_lt h
  go_upto_region 5 with fail
  obtain ⟨bz, hbz⟩ : ∃ b, b = w5.heap.size := ⟨_, rfl⟩
  clear lwz
  generalize w5.alloc (Obj.cells #[.int .u64 0, .int .u64 0, .int .u64 0, .int .u64 0, .int .u64 0, .int .u64 0, .int .u64 0, .int .u64 0, .int .u64 0, .int .u64 0, .int .u64 0, .int .u64 0, .bool true] 26) = Wz at *
  rw [← hbz] at Bz ln9 ⊢
  clear hbz
  have wn := n_one
  have ltn := Bn.lt
  have cn0 := Bn.cell 0 _ rfl; have fn0 := Bn.frozen 0
  have cn1 := Bn.cell 1 _ rfl; have fn1 := Bn.frozen 1
  have cn2 := Bn.cell 2 _ rfl; have fn2 := Bn.frozen 2
  have cn3 := Bn.cell 3 _ rfl; have fn3 := Bn.frozen 3
  have cn4 := Bn.cell 4 _ rfl; have fn4 := Bn.frozen 4
  have cn5 := Bn.cell 5 _ rfl; have fn5 := Bn.frozen 5
  go_upto_region 6 with fail
  have Bn2 : Blk (Wz.setCell ⟨bn, 0, none⟩ (.int .u64 17072048233947408754)) bn [.int .u64 17072048233947408754, .int .u64 6348401684107011962, .int .u64 14367412456785391071, .int .u64 18446744073709551615, .int .u64 18446744073709551615, .int .u64 18446744073709551615] := Bn.set 0 (.int .u64 17072048233947408754)
  replace Bk := Bk.other ⟨bn, 0, none⟩ (.int .u64 17072048233947408754) (Nat.ne_of_lt lk9)
  replace Bp := Bp.other ⟨bn, 0, none⟩ (.int .u64 17072048233947408754) (Nat.ne_of_lt lp9)
  replace Bz := Bz.other ⟨bn, 0, none⟩ (.int .u64 17072048233947408754) (Nat.ne_of_gt ln9)
  replace bel : Below _ _ (Wz.setCell ⟨bn, 0, none⟩ (.int .u64 17072048233947408754)) := bel.setCell lb9 (.int .u64 17072048233947408754)
  clear Bn ltn wn lk9 lp9 ln9 lb9 cn0 fn0 cn1 fn1 cn2 fn2 cn3 fn3 cn4 fn4 cn5 fn5
  have Bn := Bn2
  clear Bn2
  generalize Wz.setCell ⟨bn, 0, none⟩ (.int .u64 17072048233947408754) = wv at *
  have ltn := Bn.lt
  have cn0 := Bn.cell 0 _ rfl
  have cn1 := Bn.cell 1 _ rfl
  have cn2 := Bn.cell 2 _ rfl
  have cn3 := Bn.cell 3 _ rfl
  have cn4 := Bn.cell 4 _ rfl
  have cn5 := Bn.cell 5 _ rfl
  have ltp := Bp.lt
  have cp0 := Bp.cell 0 _ rfl
  have cp1 := Bp.cell 1 _ rfl
  have cp2 := Bp.cell 2 _ rfl
  have cp3 := Bp.cell 3 _ rfl
  have cp4 := Bp.cell 4 _ rfl
  have cp5 := Bp.cell 5 _ rfl
  have cp6 := Bp.cell 6 _ rfl
  have cp7 := Bp.cell 7 _ rfl
  have cp8 := Bp.cell 8 _ rfl
  have cp9 := Bp.cell 9 _ rfl
  have cp10 := Bp.cell 10 _ rfl
  have cp11 := Bp.cell 11 _ rfl
  have cp12 := Bp.cell 12 _ rfl
  go_wp2_with fail
  refine (con_Mul (G.below bel) (fits6 (by decide)) Ts Op.out).mono ?_
  rintro e w6 ⟨c0, c1, c2, c3, c4, c5, d0, d1, d2, d3, d4, d5, kc, rfl, Tc, hb⟩
  clear ltn cn0 cn1 cn2 cn3 cn4 cn5 ltp cp0 cp1 cp2 cp3 cp4 cp5 cp6 cp7 cp8 cp9 cp10 cp11 cp12
  replace Bk := Bk.later hb
  replace Bp := Bp.later hb
  replace Bn := Bn.later hb
  replace Bz := Bz.later hb
  replace bel := below_step bel hb
  clear hb
  rw [m_nat, ord_opp] at Tc
  replace Bk := Bk.alloc (.cells [.int .u64 c0, .int .u64 c1, .int .u64 c2, .int .u64 c3, .int .u64 c4, .int .u64 c5, .int .u64 d0, .int .u64 d1, .int .u64 d2, .int .u64 d3, .int .u64 d4, .int .u64 d5, .bool kc].toArray 26)
  replace Bp := Bp.alloc (.cells [.int .u64 c0, .int .u64 c1, .int .u64 c2, .int .u64 c3, .int .u64 c4, .int .u64 c5, .int .u64 d0, .int .u64 d1, .int .u64 d2, .int .u64 d3, .int .u64 d4, .int .u64 d5, .bool kc].toArray 26)
  replace Bn := Bn.alloc (.cells [.int .u64 c0, .int .u64 c1, .int .u64 c2, .int .u64 c3, .int .u64 c4, .int .u64 c5, .int .u64 d0, .int .u64 d1, .int .u64 d2, .int .u64 d3, .int .u64 d4, .int .u64 d5, .bool kc].toArray 26)
  replace Bz := Bz.alloc (.cells [.int .u64 c0, .int .u64 c1, .int .u64 c2, .int .u64 c3, .int .u64 c4, .int .u64 c5, .int .u64 d0, .int .u64 d1, .int .u64 d2, .int .u64 d3, .int .u64 d4, .int .u64 d5, .bool kc].toArray 26)
  have Bm := Blk.new w6 [.int .u64 c0, .int .u64 c1, .int .u64 c2, .int .u64 c3, .int .u64 c4, .int .u64 c5, .int .u64 d0, .int .u64 d1, .int .u64 d2, .int .u64 d3, .int .u64 d4, .int .u64 d5, .bool kc] 26 w6.heap.size rfl
  replace bel := below_alloc (o := .cells [.int .u64 c0, .int .u64 c1, .int .u64 c2, .int .u64 c3, .int .u64 c4, .int .u64 c5, .int .u64 d0, .int .u64 d1, .int .u64 d2, .int .u64 d3, .int .u64 d4, .int .u64 d5, .bool kc].toArray 26) bel
  have lwm : ∀ z, z < w6.heap.size → z ≠ w6.heap.size := fun z h => Nat.ne_of_lt h
  have ltp := Bp.lt
  have cp0 := Bp.cell 0 _ rfl
  have cp1 := Bp.cell 1 _ rfl
  have cp2 := Bp.cell 2 _ rfl
  have cp3 := Bp.cell 3 _ rfl
  have cp4 := Bp.cell 4 _ rfl
  have cp5 := Bp.cell 5 _ rfl
  have cp6 := Bp.cell 6 _ rfl
  have cp7 := Bp.cell 7 _ rfl
  have cp8 := Bp.cell 8 _ rfl
  have cp9 := Bp.cell 9 _ rfl
  have cp10 := Bp.cell 10 _ rfl
  have cp11 := Bp.cell 11 _ rfl
  have cp12 := Bp.cell 12 _ rfl
  go_wp2_with fail
  obtain ⟨bm, hbm⟩ : ∃ b, b = w6.heap.size := ⟨_, rfl⟩
  clear lwm
  generalize w6.alloc (Obj.cells #[.int .u64 c0, .int .u64 c1, .int .u64 c2, .int .u64 c3, .int .u64 c4, .int .u64 c5, .int .u64 d0, .int .u64 d1, .int .u64 d2, .int .u64 d3, .int .u64 d4, .int .u64 d5, .bool kc] 26) = Wm at *
  rw [← hbm] at Bm ⊢
  clear hbm
  refine (con_Neg (G.below bel) Ts Op.out).mono ?_
  rintro e w7 ⟨e0, e1, e2, e3, e4, e5, f0, f1, f2, f3, f4, f5, ke, rfl, Te, hb⟩
  clear ltp cp0 cp1 cp2 cp3 cp4 cp5 cp6 cp7 cp8 cp9 cp10 cp11 cp12
  replace Bk := Bk.later hb
  replace Bp := Bp.later hb
  replace Bn := Bn.later hb
  replace Bz := Bz.later hb
  replace Bm := Bm.later hb
  replace bel := below_step bel hb
  clear hb
  obtain ⟨e1, e2, rfl⟩ := told_one Tc Te rfl rfl rfl rfl; simp only [List.cons.injEq, and_true] at e1 e2; obtain ⟨rfl, rfl, rfl, rfl, rfl, rfl⟩ := e1; obtain ⟨rfl, rfl, rfl, rfl, rfl, rfl⟩ := e2
  clear Te
  replace Bk := Bk.alloc (.cells [.int .u64 c0, .int .u64 c1, .int .u64 c2, .int .u64 c3, .int .u64 c4, .int .u64 c5, .int .u64 d0, .int .u64 d1, .int .u64 d2, .int .u64 d3, .int .u64 d4, .int .u64 d5, .bool kc].toArray 26)
  replace Bp := Bp.alloc (.cells [.int .u64 c0, .int .u64 c1, .int .u64 c2, .int .u64 c3, .int .u64 c4, .int .u64 c5, .int .u64 d0, .int .u64 d1, .int .u64 d2, .int .u64 d3, .int .u64 d4, .int .u64 d5, .bool kc].toArray 26)
  replace Bn := Bn.alloc (.cells [.int .u64 c0, .int .u64 c1, .int .u64 c2, .int .u64 c3, .int .u64 c4, .int .u64 c5, .int .u64 d0, .int .u64 d1, .int .u64 d2, .int .u64 d3, .int .u64 d4, .int .u64 d5, .bool kc].toArray 26)
  replace Bz := Bz.alloc (.cells [.int .u64 c0, .int .u64 c1, .int .u64 c2, .int .u64 c3, .int .u64 c4, .int .u64 c5, .int .u64 d0, .int .u64 d1, .int .u64 d2, .int .u64 d3, .int .u64 d4, .int .u64 d5, .bool kc].toArray 26)
  replace Bm := Bm.alloc (.cells [.int .u64 c0, .int .u64 c1, .int .u64 c2, .int .u64 c3, .int .u64 c4, .int .u64 c5, .int .u64 d0, .int .u64 d1, .int .u64 d2, .int .u64 d3, .int .u64 d4, .int .u64 d5, .bool kc].toArray 26)
  have Byy := Blk.new w7 [.int .u64 c0, .int .u64 c1, .int .u64 c2, .int .u64 c3, .int .u64 c4, .int .u64 c5, .int .u64 d0, .int .u64 d1, .int .u64 d2, .int .u64 d3, .int .u64 d4, .int .u64 d5, .bool kc] 26 w7.heap.size rfl
  replace bel := below_alloc (o := .cells [.int .u64 c0, .int .u64 c1, .int .u64 c2, .int .u64 c3, .int .u64 c4, .int .u64 c5, .int .u64 d0, .int .u64 d1, .int .u64 d2, .int .u64 d3, .int .u64 d4, .int .u64 d5, .bool kc].toArray 26) bel
  have lwyy : ∀ z, z < w7.heap.size → z ≠ w7.heap.size := fun z h => Nat.ne_of_lt h
  go_upto_region 8 with fail
  obtain ⟨byy, hbyy⟩ : ∃ b, b = w7.heap.size := ⟨_, rfl⟩
  clear lwyy
  generalize w7.alloc (Obj.cells #[.int .u64 c0, .int .u64 c1, .int .u64 c2, .int .u64 c3, .int .u64 c4, .int .u64 c5, .int .u64 d0, .int .u64 d1, .int .u64 d2, .int .u64 d3, .int .u64 d4, .int .u64 d5, .bool kc] 26) = Wyy at *
  rw [← hbyy] at Byy ⊢
  clear hbyy
  have q1 := iface_nilL
  have q2 := eql_pt_same
  have ltz := Bz.lt
  have cz0 := Bz.cell 0 _ rfl
  have cz1 := Bz.cell 1 _ rfl
  have cz2 := Bz.cell 2 _ rfl
  have cz3 := Bz.cell 3 _ rfl
  have cz4 := Bz.cell 4 _ rfl
  have cz5 := Bz.cell 5 _ rfl
  have cz6 := Bz.cell 6 _ rfl
  have cz7 := Bz.cell 7 _ rfl
  have cz8 := Bz.cell 8 _ rfl
  have cz9 := Bz.cell 9 _ rfl
  have cz10 := Bz.cell 10 _ rfl
  have cz11 := Bz.cell 11 _ rfl
  have cz12 := Bz.cell 12 _ rfl
  have ltm := Bm.lt
  have cm0 := Bm.cell 0 _ rfl
  have cm1 := Bm.cell 1 _ rfl
  have cm2 := Bm.cell 2 _ rfl
  have cm3 := Bm.cell 3 _ rfl
  have cm4 := Bm.cell 4 _ rfl
  have cm5 := Bm.cell 5 _ rfl
  have cm6 := Bm.cell 6 _ rfl
  have cm7 := Bm.cell 7 _ rfl
  have cm8 := Bm.cell 8 _ rfl
  have cm9 := Bm.cell 9 _ rfl
  have cm10 := Bm.cell 10 _ rfl
  have cm11 := Bm.cell 11 _ rfl
  have cm12 := Bm.cell 12 _ rfl
  have ltyy := Byy.lt
  have cyy0 := Byy.cell 0 _ rfl
  have cyy1 := Byy.cell 1 _ rfl
  have cyy2 := Byy.cell 2 _ rfl
  have cyy3 := Byy.cell 3 _ rfl
  have cyy4 := Byy.cell 4 _ rfl
  have cyy5 := Byy.cell 5 _ rfl
  have cyy6 := Byy.cell 6 _ rfl
  have cyy7 := Byy.cell 7 _ rfl
  have cyy8 := Byy.cell 8 _ rfl
  have cyy9 := Byy.cell 9 _ rfl
  have cyy10 := Byy.cell 10 _ rfl
  have cyy11 := Byy.cell 11 _ rfl
  have cyy12 := Byy.cell 12 _ rfl
  go_wp2_with fail
  go_ret
  exact ⟨rfl, bel⟩

end Go.Proofs.YtdikjabghhhhfaaDoor
