/- The law LadderAdds answers true: numbers add up, and products are taken one after the other, modulo the order. -/
import Derived.Test.YtdikjabghhhhfaaDoorRows
import Derived.Test.YtdikjabghhhhfaaDoorLUp
import Derived.Test.YtdikjabghhhhfaaDoorLTab
import Derived.Test.YtdikjabghhhhfaaDoorOAdd
import Derived.Deep.WholeRow
import Derived.Deep.RegionHeld3
import Derived.Deep.DeepCutAuto
import Derived.Deep.DeepFit
namespace Go.Proofs.YtdikjabghhhhfaaDoor
open Go.RowKit

theorem nat_mod {Z A B : Int} (hA : 0 ≤ A) (hB : 0 ≤ B) (h : Z = (A * B) % QQ) : Z.toNat = (A.toNat * B.toNat) % NNn := by
  have hq : QQ = (NNn : Int) := by decide +kernel
  obtain ⟨a, rfl⟩ := Int.eq_ofNat_of_zero_le hA
  obtain ⟨b, rfl⟩ := Int.eq_ofNat_of_zero_le hB
  rw [h, hq, ← Int.natCast_mul, ← Int.natCast_emod, Int.toNat_natCast, Int.toNat_natCast, Int.toNat_natCast]
theorem nat_add {Z A B : Int} (hA : 0 ≤ A) (hB : 0 ≤ B) (h : Z = (A + B) % QQ) : Z.toNat = (A.toNat + B.toNat) % NNn := by
  have hq : QQ = (NNn : Int) := by decide +kernel
  obtain ⟨a, rfl⟩ := Int.eq_ofNat_of_zero_le hA
  obtain ⟨b, rfl⟩ := Int.eq_ofNat_of_zero_le hB
  rw [h, hq, ← Int.natCast_add, ← Int.natCast_emod, Int.toNat_natCast, Int.toNat_natCast, Int.toNat_natCast]

set_option maxRecDepth 100000 in
set_option maxHeartbeats 8000000 in
theorem law_ladderAdds (a0 a1 a2 a3 a4 a5 b0 b1 b2 b3 b4 b5 : Int) (w : World) (G : GlsL w) (fA : fits [a0, a1, a2, a3, a4, a5]) (fB : fits [b0, b1, b2, b3, b4, b5]) :
    Calls Tryd.prog 7 #[.agg #[.int .u64 a0, .int .u64 a1, .int .u64 a2, .int .u64 a3, .int .u64 a4, .int .u64 a5], .agg #[.int .u64 b0, .int .u64 b1, .int .u64 b2, .int .u64 b3, .int .u64 b4, .int .u64 b5]] w fun e w' => e = .returned (.bool true) ∧ Below w.heap.size w w' := by
  have PA : Hid _ := (v6_bound [a0, a1, a2, a3, a4, a5] rfl fA).1
  have PB : Hid _ := (v6_bound [b0, b1, b2, b3, b4, b5] rfl fB).1
  have B0 := (Blk.new w [.int .u64 a0, .int .u64 a1, .int .u64 a2, .int .u64 a3, .int .u64 a4, .int .u64 a5] 24 (w.heap.size) rfl).alloc (.cells [.int .u64 b0, .int .u64 b1, .int .u64 b2, .int .u64 b3, .int .u64 b4, .int .u64 b5].toArray 24)
  have B1 := Blk.new (w.alloc (.cells [.int .u64 a0, .int .u64 a1, .int .u64 a2, .int .u64 a3, .int .u64 a4, .int .u64 a5].toArray 24)) [.int .u64 b0, .int .u64 b1, .int .u64 b2, .int .u64 b3, .int .u64 b4, .int .u64 b5] 24 (w.heap.size + 1) (by simp)
  have bel : Below w.heap.size w ((w.alloc (.cells [.int .u64 a0, .int .u64 a1, .int .u64 a2, .int .u64 a3, .int .u64 a4, .int .u64 a5].toArray 24)).alloc (.cells [.int .u64 b0, .int .u64 b1, .int .u64 b2, .int .u64 b3, .int .u64 b4, .int .u64 b5].toArray 24)) := (((Below.refl _ _).alloc (Nat.le_refl _) _).alloc (by simp) _)
  go_enter Tryd.func7, Tryd.ntmps7
  go_upto_region 1 with fail
  try simp only [us, List.map_cons, List.map_nil] at bel
  generalize ((w.alloc (Obj.cells #[.int .u64 a0, .int .u64 a1, .int .u64 a2, .int .u64 a3, .int .u64 a4, .int .u64 a5] 24)).alloc (Obj.cells #[.int .u64 b0, .int .u64 b1, .int .u64 b2, .int .u64 b3, .int .u64 b4, .int .u64 b5] 24)) = W at *
  have Bk := B0
  have Bl := B1
  clear B0 B1
  go_wp2_with fail
  refine (up6 (G.below bel).1).mono ?_
  rintro e w1 ⟨rfl, hb⟩
  replace Bk := Bk.later hb
  replace Bl := Bl.later hb
  replace bel := below_step bel hb
  clear hb
  have ltk := Bk.lt
  have ck0 := Bk.cell 0 _ rfl
  have ck1 := Bk.cell 1 _ rfl
  have ck2 := Bk.cell 2 _ rfl
  have ck3 := Bk.cell 3 _ rfl
  have ck4 := Bk.cell 4 _ rfl
  have ck5 := Bk.cell 5 _ rfl
  go_wp2_with fail
  refine (con_Base (G.below bel).1 fA).mono ?_
  rintro e w2 ⟨s0, s1, s2, s3, s4, s5, t0, t1, t2, t3, t4, t5, ks, rfl, Ta, hb⟩
  clear ltk ck0 ck1 ck2 ck3 ck4 ck5
  replace Bk := Bk.later hb
  replace Bl := Bl.later hb
  replace bel := below_step bel hb
  clear hb
  have Oa : Hid _ := on_cmul on_G (v64 [a0, a1, a2, a3, a4, a5]).toNat
  have Ob : Hid _ := on_cmul on_G (v64 [b0, b1, b2, b3, b4, b5]).toNat
  replace Bk := Bk.alloc (.cells [.int .u64 s0, .int .u64 s1, .int .u64 s2, .int .u64 s3, .int .u64 s4, .int .u64 s5, .int .u64 t0, .int .u64 t1, .int .u64 t2, .int .u64 t3, .int .u64 t4, .int .u64 t5, .bool ks].toArray 26)
  replace Bl := Bl.alloc (.cells [.int .u64 s0, .int .u64 s1, .int .u64 s2, .int .u64 s3, .int .u64 s4, .int .u64 s5, .int .u64 t0, .int .u64 t1, .int .u64 t2, .int .u64 t3, .int .u64 t4, .int .u64 t5, .bool ks].toArray 26)
  have Ba := Blk.new w2 [.int .u64 s0, .int .u64 s1, .int .u64 s2, .int .u64 s3, .int .u64 s4, .int .u64 s5, .int .u64 t0, .int .u64 t1, .int .u64 t2, .int .u64 t3, .int .u64 t4, .int .u64 t5, .bool ks] 26 w2.heap.size rfl
  replace bel := below_alloc (o := .cells [.int .u64 s0, .int .u64 s1, .int .u64 s2, .int .u64 s3, .int .u64 s4, .int .u64 s5, .int .u64 t0, .int .u64 t1, .int .u64 t2, .int .u64 t3, .int .u64 t4, .int .u64 t5, .bool ks].toArray 26) bel
  have lwa : ∀ z, z < w2.heap.size → z ≠ w2.heap.size := fun z h => Nat.ne_of_lt h
  have ltl := Bl.lt
  have cl0 := Bl.cell 0 _ rfl
  have cl1 := Bl.cell 1 _ rfl
  have cl2 := Bl.cell 2 _ rfl
  have cl3 := Bl.cell 3 _ rfl
  have cl4 := Bl.cell 4 _ rfl
  have cl5 := Bl.cell 5 _ rfl
  go_wp2_with fail
  obtain ⟨ba, hba⟩ : ∃ b, b = w2.heap.size := ⟨_, rfl⟩
  clear lwa
  generalize w2.alloc (Obj.cells #[.int .u64 s0, .int .u64 s1, .int .u64 s2, .int .u64 s3, .int .u64 s4, .int .u64 s5, .int .u64 t0, .int .u64 t1, .int .u64 t2, .int .u64 t3, .int .u64 t4, .int .u64 t5, .bool ks] 26) = Wa at *
  rw [← hba] at Ba ⊢
  clear hba
  refine (con_Base (G.below bel).1 fB).mono ?_
  rintro e w3 ⟨c0, c1, c2, c3, c4, c5, d0, d1, d2, d3, d4, d5, kc, rfl, Tb, hb⟩
  clear ltl cl0 cl1 cl2 cl3 cl4 cl5
  replace Bk := Bk.later hb
  replace Bl := Bl.later hb
  replace Ba := Ba.later hb
  replace bel := below_step bel hb
  clear hb
  replace Bk := Bk.alloc (.cells [.int .u64 c0, .int .u64 c1, .int .u64 c2, .int .u64 c3, .int .u64 c4, .int .u64 c5, .int .u64 d0, .int .u64 d1, .int .u64 d2, .int .u64 d3, .int .u64 d4, .int .u64 d5, .bool kc].toArray 26)
  replace Bl := Bl.alloc (.cells [.int .u64 c0, .int .u64 c1, .int .u64 c2, .int .u64 c3, .int .u64 c4, .int .u64 c5, .int .u64 d0, .int .u64 d1, .int .u64 d2, .int .u64 d3, .int .u64 d4, .int .u64 d5, .bool kc].toArray 26)
  replace Ba := Ba.alloc (.cells [.int .u64 c0, .int .u64 c1, .int .u64 c2, .int .u64 c3, .int .u64 c4, .int .u64 c5, .int .u64 d0, .int .u64 d1, .int .u64 d2, .int .u64 d3, .int .u64 d4, .int .u64 d5, .bool kc].toArray 26)
  have Be := Blk.new w3 [.int .u64 c0, .int .u64 c1, .int .u64 c2, .int .u64 c3, .int .u64 c4, .int .u64 c5, .int .u64 d0, .int .u64 d1, .int .u64 d2, .int .u64 d3, .int .u64 d4, .int .u64 d5, .bool kc] 26 w3.heap.size rfl
  replace bel := below_alloc (o := .cells [.int .u64 c0, .int .u64 c1, .int .u64 c2, .int .u64 c3, .int .u64 c4, .int .u64 c5, .int .u64 d0, .int .u64 d1, .int .u64 d2, .int .u64 d3, .int .u64 d4, .int .u64 d5, .bool kc].toArray 26) bel
  have lwe : ∀ z, z < w3.heap.size → z ≠ w3.heap.size := fun z h => Nat.ne_of_lt h
  have lta := Ba.lt
  have ca0 := Ba.cell 0 _ rfl
  have ca1 := Ba.cell 1 _ rfl
  have ca2 := Ba.cell 2 _ rfl
  have ca3 := Ba.cell 3 _ rfl
  have ca4 := Ba.cell 4 _ rfl
  have ca5 := Ba.cell 5 _ rfl
  have ca6 := Ba.cell 6 _ rfl
  have ca7 := Ba.cell 7 _ rfl
  have ca8 := Ba.cell 8 _ rfl
  have ca9 := Ba.cell 9 _ rfl
  have ca10 := Ba.cell 10 _ rfl
  have ca11 := Ba.cell 11 _ rfl
  have ca12 := Ba.cell 12 _ rfl
  have lte := Be.lt
  have ce0 := Be.cell 0 _ rfl
  have ce1 := Be.cell 1 _ rfl
  have ce2 := Be.cell 2 _ rfl
  have ce3 := Be.cell 3 _ rfl
  have ce4 := Be.cell 4 _ rfl
  have ce5 := Be.cell 5 _ rfl
  have ce6 := Be.cell 6 _ rfl
  have ce7 := Be.cell 7 _ rfl
  have ce8 := Be.cell 8 _ rfl
  have ce9 := Be.cell 9 _ rfl
  have ce10 := Be.cell 10 _ rfl
  have ce11 := Be.cell 11 _ rfl
  have ce12 := Be.cell 12 _ rfl
  go_wp2_with fail
  obtain ⟨be, hbe⟩ : ∃ b, b = w3.heap.size := ⟨_, rfl⟩
  clear lwe
  generalize w3.alloc (Obj.cells #[.int .u64 c0, .int .u64 c1, .int .u64 c2, .int .u64 c3, .int .u64 c4, .int .u64 c5, .int .u64 d0, .int .u64 d1, .int .u64 d2, .int .u64 d3, .int .u64 d4, .int .u64 d5, .bool kc] 26) = We at *
  rw [← hbe] at Be ⊢
  clear hbe
  refine (con_Add (G.below bel).1 Ta Tb Oa.out Ob.out).mono ?_
  rintro e w4 ⟨e0, e1, e2, e3, e4, e5, f0, f1, f2, f3, f4, f5, ke, rfl, Ts, hb⟩
  clear lta ca0 ca1 ca2 ca3 ca4 ca5 ca6 ca7 ca8 ca9 ca10 ca11 ca12 lte ce0 ce1 ce2 ce3 ce4 ce5 ce6 ce7 ce8 ce9 ce10 ce11 ce12
  replace Bk := Bk.later hb
  replace Bl := Bl.later hb
  replace Ba := Ba.later hb
  replace Be := Be.later hb
  replace bel := below_step bel hb
  clear hb
  skip
  replace Bk := Bk.alloc (.cells [.int .u64 e0, .int .u64 e1, .int .u64 e2, .int .u64 e3, .int .u64 e4, .int .u64 e5, .int .u64 f0, .int .u64 f1, .int .u64 f2, .int .u64 f3, .int .u64 f4, .int .u64 f5, .bool ke].toArray 26)
  replace Bl := Bl.alloc (.cells [.int .u64 e0, .int .u64 e1, .int .u64 e2, .int .u64 e3, .int .u64 e4, .int .u64 e5, .int .u64 f0, .int .u64 f1, .int .u64 f2, .int .u64 f3, .int .u64 f4, .int .u64 f5, .bool ke].toArray 26)
  replace Ba := Ba.alloc (.cells [.int .u64 e0, .int .u64 e1, .int .u64 e2, .int .u64 e3, .int .u64 e4, .int .u64 e5, .int .u64 f0, .int .u64 f1, .int .u64 f2, .int .u64 f3, .int .u64 f4, .int .u64 f5, .bool ke].toArray 26)
  replace Be := Be.alloc (.cells [.int .u64 e0, .int .u64 e1, .int .u64 e2, .int .u64 e3, .int .u64 e4, .int .u64 e5, .int .u64 f0, .int .u64 f1, .int .u64 f2, .int .u64 f3, .int .u64 f4, .int .u64 f5, .bool ke].toArray 26)
  have Bs := Blk.new w4 [.int .u64 e0, .int .u64 e1, .int .u64 e2, .int .u64 e3, .int .u64 e4, .int .u64 e5, .int .u64 f0, .int .u64 f1, .int .u64 f2, .int .u64 f3, .int .u64 f4, .int .u64 f5, .bool ke] 26 w4.heap.size rfl
  replace bel := below_alloc (o := .cells [.int .u64 e0, .int .u64 e1, .int .u64 e2, .int .u64 e3, .int .u64 e4, .int .u64 e5, .int .u64 f0, .int .u64 f1, .int .u64 f2, .int .u64 f3, .int .u64 f4, .int .u64 f5, .bool ke].toArray 26) bel
  have lws : ∀ z, z < w4.heap.size → z ≠ w4.heap.size := fun z h => Nat.ne_of_lt h
  have ltl := Bl.lt
  have cl0 := Bl.cell 0 _ rfl
  have cl1 := Bl.cell 1 _ rfl
  have cl2 := Bl.cell 2 _ rfl
  have cl3 := Bl.cell 3 _ rfl
  have cl4 := Bl.cell 4 _ rfl
  have cl5 := Bl.cell 5 _ rfl
  have lta := Ba.lt
  have ca0 := Ba.cell 0 _ rfl
  have ca1 := Ba.cell 1 _ rfl
  have ca2 := Ba.cell 2 _ rfl
  have ca3 := Ba.cell 3 _ rfl
  have ca4 := Ba.cell 4 _ rfl
  have ca5 := Ba.cell 5 _ rfl
  have ca6 := Ba.cell 6 _ rfl
  have ca7 := Ba.cell 7 _ rfl
  have ca8 := Ba.cell 8 _ rfl
  have ca9 := Ba.cell 9 _ rfl
  have ca10 := Ba.cell 10 _ rfl
  have ca11 := Ba.cell 11 _ rfl
  have ca12 := Ba.cell 12 _ rfl
  go_wp2_with fail
  obtain ⟨bs, hbs⟩ : ∃ b, b = w4.heap.size := ⟨_, rfl⟩
  clear lws
  generalize w4.alloc (Obj.cells #[.int .u64 e0, .int .u64 e1, .int .u64 e2, .int .u64 e3, .int .u64 e4, .int .u64 e5, .int .u64 f0, .int .u64 f1, .int .u64 f2, .int .u64 f3, .int .u64 f4, .int .u64 f5, .bool ke] 26) = Ws at *
  rw [← hbs] at Bs ⊢
  clear hbs
  refine (con_Mul (G.below bel).1 fB Ta Oa.out).mono ?_
  rintro e w5 ⟨g0, g1, g2, g3, g4, g5, h0, h1, h2, h3, h4, h5, kg, rfl, Tm, hb⟩
  clear ltl cl0 cl1 cl2 cl3 cl4 cl5 lta ca0 ca1 ca2 ca3 ca4 ca5 ca6 ca7 ca8 ca9 ca10 ca11 ca12
  replace Bk := Bk.later hb
  replace Bl := Bl.later hb
  replace Ba := Ba.later hb
  replace Be := Be.later hb
  replace Bs := Bs.later hb
  replace bel := below_step bel hb
  clear hb
  replace Bk := Bk.alloc (.cells [.int .u64 g0, .int .u64 g1, .int .u64 g2, .int .u64 g3, .int .u64 g4, .int .u64 g5, .int .u64 h0, .int .u64 h1, .int .u64 h2, .int .u64 h3, .int .u64 h4, .int .u64 h5, .bool kg].toArray 26)
  replace Bl := Bl.alloc (.cells [.int .u64 g0, .int .u64 g1, .int .u64 g2, .int .u64 g3, .int .u64 g4, .int .u64 g5, .int .u64 h0, .int .u64 h1, .int .u64 h2, .int .u64 h3, .int .u64 h4, .int .u64 h5, .bool kg].toArray 26)
  replace Ba := Ba.alloc (.cells [.int .u64 g0, .int .u64 g1, .int .u64 g2, .int .u64 g3, .int .u64 g4, .int .u64 g5, .int .u64 h0, .int .u64 h1, .int .u64 h2, .int .u64 h3, .int .u64 h4, .int .u64 h5, .bool kg].toArray 26)
  replace Be := Be.alloc (.cells [.int .u64 g0, .int .u64 g1, .int .u64 g2, .int .u64 g3, .int .u64 g4, .int .u64 g5, .int .u64 h0, .int .u64 h1, .int .u64 h2, .int .u64 h3, .int .u64 h4, .int .u64 h5, .bool kg].toArray 26)
  replace Bs := Bs.alloc (.cells [.int .u64 g0, .int .u64 g1, .int .u64 g2, .int .u64 g3, .int .u64 g4, .int .u64 g5, .int .u64 h0, .int .u64 h1, .int .u64 h2, .int .u64 h3, .int .u64 h4, .int .u64 h5, .bool kg].toArray 26)
  have Bm := Blk.new w5 [.int .u64 g0, .int .u64 g1, .int .u64 g2, .int .u64 g3, .int .u64 g4, .int .u64 g5, .int .u64 h0, .int .u64 h1, .int .u64 h2, .int .u64 h3, .int .u64 h4, .int .u64 h5, .bool kg] 26 w5.heap.size rfl
  replace bel := below_alloc (o := .cells [.int .u64 g0, .int .u64 g1, .int .u64 g2, .int .u64 g3, .int .u64 g4, .int .u64 g5, .int .u64 h0, .int .u64 h1, .int .u64 h2, .int .u64 h3, .int .u64 h4, .int .u64 h5, .bool kg].toArray 26) bel
  have lwm : ∀ z, z < w5.heap.size → z ≠ w5.heap.size := fun z h => Nat.ne_of_lt h
  have ltk := Bk.lt
  have ck0 := Bk.cell 0 _ rfl
  have ck1 := Bk.cell 1 _ rfl
  have ck2 := Bk.cell 2 _ rfl
  have ck3 := Bk.cell 3 _ rfl
  have ck4 := Bk.cell 4 _ rfl
  have ck5 := Bk.cell 5 _ rfl
  have lte := Be.lt
  have ce0 := Be.cell 0 _ rfl
  have ce1 := Be.cell 1 _ rfl
  have ce2 := Be.cell 2 _ rfl
  have ce3 := Be.cell 3 _ rfl
  have ce4 := Be.cell 4 _ rfl
  have ce5 := Be.cell 5 _ rfl
  have ce6 := Be.cell 6 _ rfl
  have ce7 := Be.cell 7 _ rfl
  have ce8 := Be.cell 8 _ rfl
  have ce9 := Be.cell 9 _ rfl
  have ce10 := Be.cell 10 _ rfl
  have ce11 := Be.cell 11 _ rfl
  have ce12 := Be.cell 12 _ rfl
  go_wp2_with fail
  obtain ⟨bm, hbm⟩ : ∃ b, b = w5.heap.size := ⟨_, rfl⟩
  clear lwm
  generalize w5.alloc (Obj.cells #[.int .u64 g0, .int .u64 g1, .int .u64 g2, .int .u64 g3, .int .u64 g4, .int .u64 g5, .int .u64 h0, .int .u64 h1, .int .u64 h2, .int .u64 h3, .int .u64 h4, .int .u64 h5, .bool kg] 26) = Wm at *
  rw [← hbm] at Bm ⊢
  clear hbm
  refine (con_Mul (G.below bel).1 fA Tb Ob.out).mono ?_
  rintro e w6 ⟨i0, i1, i2, i3, i4, i5, j0, j1, j2, j3, j4, j5, ki, rfl, Tn, hb⟩
  clear ltk ck0 ck1 ck2 ck3 ck4 ck5 lte ce0 ce1 ce2 ce3 ce4 ce5 ce6 ce7 ce8 ce9 ce10 ce11 ce12
  replace Bk := Bk.later hb
  replace Bl := Bl.later hb
  replace Ba := Ba.later hb
  replace Be := Be.later hb
  replace Bs := Bs.later hb
  replace Bm := Bm.later hb
  replace bel := below_step bel hb
  clear hb
  rw [mul_swap] at Tn
  obtain ⟨e1, e2, rfl⟩ := told_one Tm Tn rfl rfl rfl rfl; simp only [List.cons.injEq, and_true] at e1 e2; obtain ⟨rfl, rfl, rfl, rfl, rfl, rfl⟩ := e1; obtain ⟨rfl, rfl, rfl, rfl, rfl, rfl⟩ := e2
  clear Tn
  replace Bk := Bk.alloc (.cells [.int .u64 g0, .int .u64 g1, .int .u64 g2, .int .u64 g3, .int .u64 g4, .int .u64 g5, .int .u64 h0, .int .u64 h1, .int .u64 h2, .int .u64 h3, .int .u64 h4, .int .u64 h5, .bool kg].toArray 26)
  replace Bl := Bl.alloc (.cells [.int .u64 g0, .int .u64 g1, .int .u64 g2, .int .u64 g3, .int .u64 g4, .int .u64 g5, .int .u64 h0, .int .u64 h1, .int .u64 h2, .int .u64 h3, .int .u64 h4, .int .u64 h5, .bool kg].toArray 26)
  replace Ba := Ba.alloc (.cells [.int .u64 g0, .int .u64 g1, .int .u64 g2, .int .u64 g3, .int .u64 g4, .int .u64 g5, .int .u64 h0, .int .u64 h1, .int .u64 h2, .int .u64 h3, .int .u64 h4, .int .u64 h5, .bool kg].toArray 26)
  replace Be := Be.alloc (.cells [.int .u64 g0, .int .u64 g1, .int .u64 g2, .int .u64 g3, .int .u64 g4, .int .u64 g5, .int .u64 h0, .int .u64 h1, .int .u64 h2, .int .u64 h3, .int .u64 h4, .int .u64 h5, .bool kg].toArray 26)
  replace Bs := Bs.alloc (.cells [.int .u64 g0, .int .u64 g1, .int .u64 g2, .int .u64 g3, .int .u64 g4, .int .u64 g5, .int .u64 h0, .int .u64 h1, .int .u64 h2, .int .u64 h3, .int .u64 h4, .int .u64 h5, .bool kg].toArray 26)
  replace Bm := Bm.alloc (.cells [.int .u64 g0, .int .u64 g1, .int .u64 g2, .int .u64 g3, .int .u64 g4, .int .u64 g5, .int .u64 h0, .int .u64 h1, .int .u64 h2, .int .u64 h3, .int .u64 h4, .int .u64 h5, .bool kg].toArray 26)
  have Bn := Blk.new w6 [.int .u64 g0, .int .u64 g1, .int .u64 g2, .int .u64 g3, .int .u64 g4, .int .u64 g5, .int .u64 h0, .int .u64 h1, .int .u64 h2, .int .u64 h3, .int .u64 h4, .int .u64 h5, .bool kg] 26 w6.heap.size rfl
  replace bel := below_alloc (o := .cells [.int .u64 g0, .int .u64 g1, .int .u64 g2, .int .u64 g3, .int .u64 g4, .int .u64 g5, .int .u64 h0, .int .u64 h1, .int .u64 h2, .int .u64 h3, .int .u64 h4, .int .u64 h5, .bool kg].toArray 26) bel
  have lwn : ∀ z, z < w6.heap.size → z ≠ w6.heap.size := fun z h => Nat.ne_of_lt h
  have ltk := Bk.lt
  have ck0 := Bk.cell 0 _ rfl
  have ck1 := Bk.cell 1 _ rfl
  have ck2 := Bk.cell 2 _ rfl
  have ck3 := Bk.cell 3 _ rfl
  have ck4 := Bk.cell 4 _ rfl
  have ck5 := Bk.cell 5 _ rfl
  have ltl := Bl.lt
  have cl0 := Bl.cell 0 _ rfl
  have cl1 := Bl.cell 1 _ rfl
  have cl2 := Bl.cell 2 _ rfl
  have cl3 := Bl.cell 3 _ rfl
  have cl4 := Bl.cell 4 _ rfl
  have cl5 := Bl.cell 5 _ rfl
  go_wp2_with fail
  obtain ⟨bn, hbn⟩ : ∃ b, b = w6.heap.size := ⟨_, rfl⟩
  clear lwn
  generalize w6.alloc (Obj.cells #[.int .u64 g0, .int .u64 g1, .int .u64 g2, .int .u64 g3, .int .u64 g4, .int .u64 g5, .int .u64 h0, .int .u64 h1, .int .u64 h2, .int .u64 h3, .int .u64 h4, .int .u64 h5, .bool kg] 26) = Wn at *
  rw [← hbn] at Bn ⊢
  clear hbn
  refine (omul6 (G.below bel).2 fA fB).mono ?_
  rintro e w7 ⟨o0, o1, o2, o3, o4, o5, rfl, fO, hO, hb⟩
  clear ltk ck0 ck1 ck2 ck3 ck4 ck5 ltl cl0 cl1 cl2 cl3 cl4 cl5
  replace Bk := Bk.later hb
  replace Bl := Bl.later hb
  replace Ba := Ba.later hb
  replace Be := Be.later hb
  replace Bs := Bs.later hb
  replace Bm := Bm.later hb
  replace Bn := Bn.later hb
  replace bel := below_step bel hb
  clear hb
  have HO : Hid _ := nat_mod PA.out PB.out hO
  clear hO
  go_wp2_with fail
  refine (con_Base (G.below bel).1 fO).mono ?_
  rintro e w8 ⟨i0, i1, i2, i3, i4, i5, j0, j1, j2, j3, j4, j5, ki, rfl, Tp, hb⟩
  replace Bk := Bk.later hb
  replace Bl := Bl.later hb
  replace Ba := Ba.later hb
  replace Be := Be.later hb
  replace Bs := Bs.later hb
  replace Bm := Bm.later hb
  replace Bn := Bn.later hb
  replace bel := below_step bel hb
  clear hb
  rw [HO.out, mul_order] at Tp
  obtain ⟨e1, e2, rfl⟩ := told_one Tm Tp rfl rfl rfl rfl; simp only [List.cons.injEq, and_true] at e1 e2; obtain ⟨rfl, rfl, rfl, rfl, rfl, rfl⟩ := e1; obtain ⟨rfl, rfl, rfl, rfl, rfl, rfl⟩ := e2
  clear Tp
  replace Bk := Bk.alloc (.cells [.int .u64 g0, .int .u64 g1, .int .u64 g2, .int .u64 g3, .int .u64 g4, .int .u64 g5, .int .u64 h0, .int .u64 h1, .int .u64 h2, .int .u64 h3, .int .u64 h4, .int .u64 h5, .bool kg].toArray 26)
  replace Bl := Bl.alloc (.cells [.int .u64 g0, .int .u64 g1, .int .u64 g2, .int .u64 g3, .int .u64 g4, .int .u64 g5, .int .u64 h0, .int .u64 h1, .int .u64 h2, .int .u64 h3, .int .u64 h4, .int .u64 h5, .bool kg].toArray 26)
  replace Ba := Ba.alloc (.cells [.int .u64 g0, .int .u64 g1, .int .u64 g2, .int .u64 g3, .int .u64 g4, .int .u64 g5, .int .u64 h0, .int .u64 h1, .int .u64 h2, .int .u64 h3, .int .u64 h4, .int .u64 h5, .bool kg].toArray 26)
  replace Be := Be.alloc (.cells [.int .u64 g0, .int .u64 g1, .int .u64 g2, .int .u64 g3, .int .u64 g4, .int .u64 g5, .int .u64 h0, .int .u64 h1, .int .u64 h2, .int .u64 h3, .int .u64 h4, .int .u64 h5, .bool kg].toArray 26)
  replace Bs := Bs.alloc (.cells [.int .u64 g0, .int .u64 g1, .int .u64 g2, .int .u64 g3, .int .u64 g4, .int .u64 g5, .int .u64 h0, .int .u64 h1, .int .u64 h2, .int .u64 h3, .int .u64 h4, .int .u64 h5, .bool kg].toArray 26)
  replace Bm := Bm.alloc (.cells [.int .u64 g0, .int .u64 g1, .int .u64 g2, .int .u64 g3, .int .u64 g4, .int .u64 g5, .int .u64 h0, .int .u64 h1, .int .u64 h2, .int .u64 h3, .int .u64 h4, .int .u64 h5, .bool kg].toArray 26)
  replace Bn := Bn.alloc (.cells [.int .u64 g0, .int .u64 g1, .int .u64 g2, .int .u64 g3, .int .u64 g4, .int .u64 g5, .int .u64 h0, .int .u64 h1, .int .u64 h2, .int .u64 h3, .int .u64 h4, .int .u64 h5, .bool kg].toArray 26)
  have Bp := Blk.new w8 [.int .u64 g0, .int .u64 g1, .int .u64 g2, .int .u64 g3, .int .u64 g4, .int .u64 g5, .int .u64 h0, .int .u64 h1, .int .u64 h2, .int .u64 h3, .int .u64 h4, .int .u64 h5, .bool kg] 26 w8.heap.size rfl
  replace bel := below_alloc (o := .cells [.int .u64 g0, .int .u64 g1, .int .u64 g2, .int .u64 g3, .int .u64 g4, .int .u64 g5, .int .u64 h0, .int .u64 h1, .int .u64 h2, .int .u64 h3, .int .u64 h4, .int .u64 h5, .bool kg].toArray 26) bel
  have lwp : ∀ z, z < w8.heap.size → z ≠ w8.heap.size := fun z h => Nat.ne_of_lt h
  go_upto_region 8 with fail
  obtain ⟨bp, hbp⟩ : ∃ b, b = w8.heap.size := ⟨_, rfl⟩
  clear lwp
  generalize w8.alloc (Obj.cells #[.int .u64 g0, .int .u64 g1, .int .u64 g2, .int .u64 g3, .int .u64 g4, .int .u64 g5, .int .u64 h0, .int .u64 h1, .int .u64 h2, .int .u64 h3, .int .u64 h4, .int .u64 h5, .bool kg] 26) = Wp at *
  rw [← hbp] at Bp ⊢
  clear hbp
  have q1 := iface_nilL
  have q2 := eql_pt_same e0 e1 e2 e3 e4 e5 f0 f1 f2 f3 f4 f5 ke
  have q3 := eql_pt_same g0 g1 g2 g3 g4 g5 h0 h1 h2 h3 h4 h5 kg
  obtain ⟨S1, hS1, KL1, KA1, KD1, KS1, KQ1, KN1, KB1, KM1, KR1⟩ := held3 (w0 := w) (W := _) [(w.heap.size, [.int .u64 a0, .int .u64 a1, .int .u64 a2, .int .u64 a3, .int .u64 a4, .int .u64 a5]), (w.heap.size + 1, [.int .u64 b0, .int .u64 b1, .int .u64 b2, .int .u64 b3, .int .u64 b4, .int .u64 b5]), (bs, [.int .u64 e0, .int .u64 e1, .int .u64 e2, .int .u64 e3, .int .u64 e4, .int .u64 e5, .int .u64 f0, .int .u64 f1, .int .u64 f2, .int .u64 f3, .int .u64 f4, .int .u64 f5, .bool ke]), (bm, [.int .u64 g0, .int .u64 g1, .int .u64 g2, .int .u64 g3, .int .u64 g4, .int .u64 g5, .int .u64 h0, .int .u64 h1, .int .u64 h2, .int .u64 h3, .int .u64 h4, .int .u64 h5, .bool kg]), (bn, [.int .u64 g0, .int .u64 g1, .int .u64 g2, .int .u64 g3, .int .u64 g4, .int .u64 g5, .int .u64 h0, .int .u64 h1, .int .u64 h2, .int .u64 h3, .int .u64 h4, .int .u64 h5, .bool kg]), (bp, [.int .u64 g0, .int .u64 g1, .int .u64 g2, .int .u64 g3, .int .u64 g4, .int .u64 g5, .int .u64 h0, .int .u64 h1, .int .u64 h2, .int .u64 h3, .int .u64 h4, .int .u64 h5, .bool kg])] (by
    intro b X h
    simp only [List.mem_cons, List.not_mem_nil, or_false, Prod.mk.injEq] at h
    rcases h with ⟨rfl, rfl⟩ | ⟨rfl, rfl⟩ | ⟨rfl, rfl⟩ | ⟨rfl, rfl⟩ | ⟨rfl, rfl⟩ | ⟨rfl, rfl⟩
    · exact Bk
    · exact Bl
    · exact Bs
    · exact Bm
    · exact Bn
    · exact Bp) bel
  have kb1a : ∀ wx, Hd S1 wx → Blk wx (w.heap.size) [.int .u64 a0, .int .u64 a1, .int .u64 a2, .int .u64 a3, .int .u64 a4, .int .u64 a5] := fun wx h => KM1.out wx _ _ h (by simp)
  have c1a0 := rulec kb1a 0 _ rfl
  have c1a1 := rulec kb1a 1 _ rfl
  have c1a2 := rulec kb1a 2 _ rfl
  have c1a3 := rulec kb1a 3 _ rfl
  have c1a4 := rulec kb1a 4 _ rfl
  have c1a5 := rulec kb1a 5 _ rfl
  have c1al := ruleb kb1a
  clear kb1a
  have kb1b : ∀ wx, Hd S1 wx → Blk wx (w.heap.size + 1) [.int .u64 b0, .int .u64 b1, .int .u64 b2, .int .u64 b3, .int .u64 b4, .int .u64 b5] := fun wx h => KM1.out wx _ _ h (by simp)
  have c1b0 := rulec kb1b 0 _ rfl
  have c1b1 := rulec kb1b 1 _ rfl
  have c1b2 := rulec kb1b 2 _ rfl
  have c1b3 := rulec kb1b 3 _ rfl
  have c1b4 := rulec kb1b 4 _ rfl
  have c1b5 := rulec kb1b 5 _ rfl
  have c1bl := ruleb kb1b
  clear kb1b
  have kb1c : ∀ wx, Hd S1 wx → Blk wx (bs) [.int .u64 e0, .int .u64 e1, .int .u64 e2, .int .u64 e3, .int .u64 e4, .int .u64 e5, .int .u64 f0, .int .u64 f1, .int .u64 f2, .int .u64 f3, .int .u64 f4, .int .u64 f5, .bool ke] := fun wx h => KM1.out wx _ _ h (by simp)
  have c1c0 := rulec kb1c 0 _ rfl
  have c1c1 := rulec kb1c 1 _ rfl
  have c1c2 := rulec kb1c 2 _ rfl
  have c1c3 := rulec kb1c 3 _ rfl
  have c1c4 := rulec kb1c 4 _ rfl
  have c1c5 := rulec kb1c 5 _ rfl
  have c1c6 := rulec kb1c 6 _ rfl
  have c1c7 := rulec kb1c 7 _ rfl
  have c1c8 := rulec kb1c 8 _ rfl
  have c1c9 := rulec kb1c 9 _ rfl
  have c1c10 := rulec kb1c 10 _ rfl
  have c1c11 := rulec kb1c 11 _ rfl
  have c1c12 := rulec kb1c 12 _ rfl
  have c1cl := ruleb kb1c
  clear kb1c
  have kb1d : ∀ wx, Hd S1 wx → Blk wx (bm) [.int .u64 g0, .int .u64 g1, .int .u64 g2, .int .u64 g3, .int .u64 g4, .int .u64 g5, .int .u64 h0, .int .u64 h1, .int .u64 h2, .int .u64 h3, .int .u64 h4, .int .u64 h5, .bool kg] := fun wx h => KM1.out wx _ _ h (by simp)
  have c1d0 := rulec kb1d 0 _ rfl
  have c1d1 := rulec kb1d 1 _ rfl
  have c1d2 := rulec kb1d 2 _ rfl
  have c1d3 := rulec kb1d 3 _ rfl
  have c1d4 := rulec kb1d 4 _ rfl
  have c1d5 := rulec kb1d 5 _ rfl
  have c1d6 := rulec kb1d 6 _ rfl
  have c1d7 := rulec kb1d 7 _ rfl
  have c1d8 := rulec kb1d 8 _ rfl
  have c1d9 := rulec kb1d 9 _ rfl
  have c1d10 := rulec kb1d 10 _ rfl
  have c1d11 := rulec kb1d 11 _ rfl
  have c1d12 := rulec kb1d 12 _ rfl
  have c1dl := ruleb kb1d
  clear kb1d
  have kb1e : ∀ wx, Hd S1 wx → Blk wx (bn) [.int .u64 g0, .int .u64 g1, .int .u64 g2, .int .u64 g3, .int .u64 g4, .int .u64 g5, .int .u64 h0, .int .u64 h1, .int .u64 h2, .int .u64 h3, .int .u64 h4, .int .u64 h5, .bool kg] := fun wx h => KM1.out wx _ _ h (by simp)
  have c1e0 := rulec kb1e 0 _ rfl
  have c1e1 := rulec kb1e 1 _ rfl
  have c1e2 := rulec kb1e 2 _ rfl
  have c1e3 := rulec kb1e 3 _ rfl
  have c1e4 := rulec kb1e 4 _ rfl
  have c1e5 := rulec kb1e 5 _ rfl
  have c1e6 := rulec kb1e 6 _ rfl
  have c1e7 := rulec kb1e 7 _ rfl
  have c1e8 := rulec kb1e 8 _ rfl
  have c1e9 := rulec kb1e 9 _ rfl
  have c1e10 := rulec kb1e 10 _ rfl
  have c1e11 := rulec kb1e 11 _ rfl
  have c1e12 := rulec kb1e 12 _ rfl
  have c1el := ruleb kb1e
  clear kb1e
  have kb1f : ∀ wx, Hd S1 wx → Blk wx (bp) [.int .u64 g0, .int .u64 g1, .int .u64 g2, .int .u64 g3, .int .u64 g4, .int .u64 g5, .int .u64 h0, .int .u64 h1, .int .u64 h2, .int .u64 h3, .int .u64 h4, .int .u64 h5, .bool kg] := fun wx h => KM1.out wx _ _ h (by simp)
  have c1f0 := rulec kb1f 0 _ rfl
  have c1f1 := rulec kb1f 1 _ rfl
  have c1f2 := rulec kb1f 2 _ rfl
  have c1f3 := rulec kb1f 3 _ rfl
  have c1f4 := rulec kb1f 4 _ rfl
  have c1f5 := rulec kb1f 5 _ rfl
  have c1f6 := rulec kb1f 6 _ rfl
  have c1f7 := rulec kb1f 7 _ rfl
  have c1f8 := rulec kb1f 8 _ rfl
  have c1f9 := rulec kb1f 9 _ rfl
  have c1f10 := rulec kb1f 10 _ rfl
  have c1f11 := rulec kb1f 11 _ rfl
  have c1f12 := rulec kb1f 12 _ rfl
  have c1fl := ruleb kb1f
  clear kb1f
  have hN1 := bel.size
  clear bel Bk Bl Ba Be Bs Bm Bn Bp
  go_region_held3 (Hd S1)
    (first
      | with_reducible exact KL1.out _ _ (by assumption) hb
      | with_reducible exact KA1.out _ _ (by assumption)
      | with_reducible exact KS1.out _ _ _ (by omega) (by assumption)
      | with_reducible exact KD1.out _ hS1
      | with_reducible exact KD1.out _ (KA1.out _ _ hS1)
      | with_reducible assumption)
    (first
      | (go_at_call 23; go_fit (oadd6 (G.below (KB1.out _ (by first | with_reducible assumption | with_reducible exact KA1.out _ _ (by assumption) | with_reducible exact KD1.out _ (by assumption)))).2 fA fB); rintro e w' ⟨u0, u1, u2, u3, u4, u5, rfl, fU, hU, hb⟩; have HU : Hid _ := nat_add PA.out PB.out hU; clear hU)
      | (go_at_call 16; go_fit (con_Base (G.below (KB1.out _ (by first | with_reducible assumption | with_reducible exact KA1.out _ _ (by assumption) | with_reducible exact KD1.out _ (by assumption)))).1 fU); rintro e w' ⟨i0, i1, i2, i3, i4, i5, j0, j1, j2, j3, j4, j5, ki, rfl, Tq, hb⟩; rw [HU.out, add_order] at Tq; obtain ⟨e1, e2, rfl⟩ := told_one Ts Tq rfl rfl rfl rfl; simp only [List.cons.injEq, and_true] at e1 e2; obtain ⟨rfl, rfl, rfl, rfl, rfl, rfl⟩ := e1; obtain ⟨rfl, rfl, rfl, rfl, rfl, rfl⟩ := e2; clear Tq))
  all_goals go_wp2
  all_goals (go_ret; exact ⟨rfl, KB1.out _ (by assumption)⟩)

end Go.Proofs.YtdikjabghhhhfaaDoor
