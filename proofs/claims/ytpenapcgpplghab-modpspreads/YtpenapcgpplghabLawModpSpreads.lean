/- The law ModpSpreads answers true: a product with a sum is the sum of the products, and what is taken off comes back. -/
import Derived.Test.YtpenapcgpplghabRows
import Derived.Test.YtpenapcgpplghabMLaw
import Derived.Test.YtpenapcgpplghabMAdd
import Derived.Test.YtpenapcgpplghabMSub
import Derived.Test.YtpenapcgpplghabHeld
import Derived.Deep.RegionHeld3
import Derived.Deep.DeepCutAuto
import Derived.Deep.DeepFit
namespace Go.Proofs.Ytpenapcgpplghab
open Go.RowKit

theorem spread_num {X Y G M s r u v t : Int} (hs : s = (Y + G) % M) (hr : r = (X * s) % M) (hu : u = (X * Y) % M) (hv : v = (X * G) % M) (ht : t = (u + v) % M) : r = t := by
  rw [hr, hs, ht, hu, hv, ← Int.add_emod, ← Int.mul_add, Int.mul_emod, Int.emod_emod, ← Int.mul_emod]

theorem back_mod {X Y M d k z O : Int} (hd : d = (X - Y) % M) (hk : k = (d + Y) % M) (hO : O = 0) (hz : z = (X + O) % M) : z = k := by
  rw [hz, hk, hd, hO, Int.add_zero, Int.add_emod, Int.emod_emod, ← Int.add_emod, Int.sub_add_cancel]

set_option maxRecDepth 100000 in
set_option maxHeartbeats 8000000 in
theorem law_modpSpreads (x0 x1 x2 x3 x4 x5 y0 y1 y2 y3 y4 y5 g0 g1 g2 g3 g4 g5 k0 m1 m2 m3 m4 k5 : Int) (w : World) (fX : fits [x0, x1, x2, x3, x4, x5]) (fY : fits [y0, y1, y2, y3, y4, y5]) (fG : fits [g0, g1, g2, g3, g4, g5]) (fK : fits [k0, m1, m2, m3, m4, k5]) :
    Calls Try.prog 3 #[.agg #[.int .u64 x0, .int .u64 x1, .int .u64 x2, .int .u64 x3, .int .u64 x4, .int .u64 x5], .agg #[.int .u64 y0, .int .u64 y1, .int .u64 y2, .int .u64 y3, .int .u64 y4, .int .u64 y5], .agg #[.int .u64 g0, .int .u64 g1, .int .u64 g2, .int .u64 g3, .int .u64 g4, .int .u64 g5], .agg #[.int .u64 k0, .int .u64 m1, .int .u64 m2, .int .u64 m3, .int .u64 m4, .int .u64 k5]] w fun e w' => e = .returned (.bool true) ∧ Below w.heap.size w w' := by
  have B0 := (((Blk.new w (us [x0, x1, x2, x3, x4, x5]) 24 (w.heap.size) rfl).alloc (.cells (us [y0, y1, y2, y3, y4, y5]).toArray 24)).alloc (.cells (us [g0, g1, g2, g3, g4, g5]).toArray 24)).alloc (.cells (us [k0, m1, m2, m3, m4, k5]).toArray 24)
  have B1 := ((Blk.new (w.alloc (.cells (us [x0, x1, x2, x3, x4, x5]).toArray 24)) (us [y0, y1, y2, y3, y4, y5]) 24 (w.heap.size + 1) (by simp)).alloc (.cells (us [g0, g1, g2, g3, g4, g5]).toArray 24)).alloc (.cells (us [k0, m1, m2, m3, m4, k5]).toArray 24)
  have B2 := (Blk.new ((w.alloc (.cells (us [x0, x1, x2, x3, x4, x5]).toArray 24)).alloc (.cells (us [y0, y1, y2, y3, y4, y5]).toArray 24)) (us [g0, g1, g2, g3, g4, g5]) 24 (w.heap.size + 1 + 1) (by simp)).alloc (.cells (us [k0, m1, m2, m3, m4, k5]).toArray 24)
  have B3 := Blk.new (((w.alloc (.cells (us [x0, x1, x2, x3, x4, x5]).toArray 24)).alloc (.cells (us [y0, y1, y2, y3, y4, y5]).toArray 24)).alloc (.cells (us [g0, g1, g2, g3, g4, g5]).toArray 24)) (us [k0, m1, m2, m3, m4, k5]) 24 (w.heap.size + 1 + 1 + 1) (by simp)
  have bel : Below w.heap.size w ((((w.alloc (.cells (us [x0, x1, x2, x3, x4, x5]).toArray 24)).alloc (.cells (us [y0, y1, y2, y3, y4, y5]).toArray 24)).alloc (.cells (us [g0, g1, g2, g3, g4, g5]).toArray 24)).alloc (.cells (us [k0, m1, m2, m3, m4, k5]).toArray 24)) := ((((Below.refl _ _).alloc (Nat.le_refl _) _).alloc (by simp) _).alloc (by simp; omega) _).alloc (by simp; omega) _
  have q2 := iface_nil
  go_enter Try.func3, Try.ntmps3
  go_wp2_with fail
  simp only [us, List.map_cons, List.map_nil] at B0 B1 B2 B3 bel
  generalize (((w.alloc (Obj.cells #[.int .u64 x0, .int .u64 x1, .int .u64 x2, .int .u64 x3, .int .u64 x4, .int .u64 x5] 24)).alloc (Obj.cells #[.int .u64 y0, .int .u64 y1, .int .u64 y2, .int .u64 y3, .int .u64 y4, .int .u64 y5] 24)).alloc (Obj.cells #[.int .u64 g0, .int .u64 g1, .int .u64 g2, .int .u64 g3, .int .u64 g4, .int .u64 g5] 24)).alloc (Obj.cells #[.int .u64 k0, .int .u64 m1, .int .u64 m2, .int .u64 m3, .int .u64 m4, .int .u64 k5] 24) = W at *
  refine (up_any _).mono ?_
  rintro e w1 ⟨rfl, hb⟩
  replace B0 := B0.later hb
  replace B1 := B1.later hb
  replace B2 := B2.later hb
  replace B3 := B3.later hb
  replace bel := below_step bel hb
  clear hb
  obtain ⟨e0, e1, e2, e3, e4, e5⟩ := B3.cells6
  go_wp2_with fail
  refine (modulus6 fK).mono ?_
  rintro e w2 ⟨m0, m5, rfl, fM, ho, hh, hb⟩
  clear e0 e1 e2 e3 e4 e5 B3
  replace B0 := B0.later hb
  replace B1 := B1.later hb
  replace B2 := B2.later hb
  replace bel := below_step bel hb
  clear hb
  go_wp2_with fail
  refine (new_ok fM ho hh).mono ?_
  rintro e w3 ⟨i, t0, t1, t2, t3, t4, t5, rfl, hm, hb⟩
  have HM : Hid _ := hm
  clear hm ho hh
  replace B0 := B0.later hb
  replace B1 := B1.later hb
  replace B2 := B2.later hb
  replace bel := below_step bel hb
  clear hb
  have ltc := B2.lt
  replace B0 := B0.alloc (.cells (us [m0, m1, m2, m3, m4, m5, i, t0, t1, t2, t3, t4, t5]).toArray 27)
  replace B1 := B1.alloc (.cells (us [m0, m1, m2, m3, m4, m5, i, t0, t1, t2, t3, t4, t5]).toArray 27)
  replace B2 := B2.alloc (.cells (us [m0, m1, m2, m3, m4, m5, i, t0, t1, t2, t3, t4, t5]).toArray 27)
  have B3 := Blk.new w3 (us [m0, m1, m2, m3, m4, m5, i, t0, t1, t2, t3, t4, t5]) 27 w3.heap.size rfl
  replace bel := below_alloc (o := .cells (us [m0, m1, m2, m3, m4, m5, i, t0, t1, t2, t3, t4, t5]).toArray 27) bel
  go_wp2_with fail
  simp only [us, List.map_cons, List.map_nil] at B0 B1 B2 B3 bel
  generalize w3.alloc (Obj.cells #[.int .u64 m0, .int .u64 m1, .int .u64 m2, .int .u64 m3, .int .u64 m4, .int .u64 m5, .int .u64 i, .int .u64 t0, .int .u64 t1, .int .u64 t2, .int .u64 t3, .int .u64 t4, .int .u64 t5] 27) = W3 at *
  obtain ⟨bx, hbx⟩ : ∃ b, b = w3.heap.size := ⟨_, rfl⟩
  rw [← hbx] at B3 ltc ⊢
  clear hbx
  obtain ⟨S1, hS1, KL1, KA1, KD1, KS1, KP1, KN1, KB1, KM1, KW1⟩ := held_mk (w0 := w) (W := W3) [(w.heap.size, [x0, x1, x2, x3, x4, x5]), (w.heap.size + 1, [y0, y1, y2, y3, y4, y5]), (w.heap.size + 1 + 1, [g0, g1, g2, g3, g4, g5]), (bx, [m0, m1, m2, m3, m4, m5, i, t0, t1, t2, t3, t4, t5])] [] (by
    intro b X h
    simp only [List.mem_cons, List.not_mem_nil, or_false, Prod.mk.injEq] at h
    rcases h with ⟨rfl, rfl⟩ | ⟨rfl, rfl⟩ | ⟨rfl, rfl⟩ | ⟨rfl, rfl⟩
    · exact B0
    · exact B1
    · exact B2
    · exact B3) (by
    intro b h
    exact absurd h (by simp)) (by
    intro b X h
    simp) bel
  obtain ⟨c1a0, c1a1, c1a2, c1a3, c1a4, c1a5, c1a6⟩ := rule6 (S := Hd S1) (b := w.heap.size) (x0 := x0) (x1 := x1) (x2 := x2) (x3 := x3) (x4 := x4) (x5 := x5) (fun wx h => KM1.out wx _ _ h (by simp))
  obtain ⟨c1b0, c1b1, c1b2, c1b3, c1b4, c1b5, c1b6⟩ := rule6 (S := Hd S1) (b := w.heap.size + 1) (x0 := y0) (x1 := y1) (x2 := y2) (x3 := y3) (x4 := y4) (x5 := y5) (fun wx h => KM1.out wx _ _ h (by simp))
  obtain ⟨c1c0, c1c1, c1c2, c1c3, c1c4, c1c5, c1c6⟩ := rule6 (S := Hd S1) (b := w.heap.size + 1 + 1) (x0 := g0) (x1 := g1) (x2 := g2) (x3 := g3) (x4 := g4) (x5 := g5) (fun wx h => KM1.out wx _ _ h (by simp))
  obtain ⟨c1d0, c1d1, c1d2, c1d3, c1d4, c1d5, c1d6, c1d7, c1d8, c1d9, c1d10, c1d11, c1d12, c1d13⟩ := rule13 (S := Hd S1) (b := bx) (m0 := m0) (m1 := m1) (m2 := m2) (m3 := m3) (m4 := m4) (m5 := m5) (i := i) (t0 := t0) (t1 := t1) (t2 := t2) (t3 := t3) (t4 := t4) (t5 := t5) (fun wx h => KM1.out wx _ _ h (by simp))
  have hN1 := bel.size
  clear B0 B1 B2 B3 bel
  go_cut [12] (fun p wx => ∃ (b : Nat) (r0 r1 r2 r3 r4 r5 : Int), p = .pointer (some ⟨b, 0, none⟩) ∧ W3.heap.size ≤ b ∧ fits [r0, r1, r2, r3, r4, r5] ∧ Hid (∃ s, s = (v64 [y0, y1, y2, y3, y4, y5] + v64 [g0, g1, g2, g3, g4, g5]) % v64 [m0, m1, m2, m3, m4, m5] ∧ v64 [r0, r1, r2, r3, r4, r5] = (v64 [x0, x1, x2, x3, x4, x5] * s) % v64 [m0, m1, m2, m3, m4, m5]) ∧ Blk wx b (us [r0, r1, r2, r3, r4, r5]) ∧ Hd S1 wx)
  case first =>
    go_region_held3 (Hd S1)
      (first
        | with_reducible exact KP1.out _ _ _ _ _ _ _ _ (by assumption) (by first | (right; simp; done) | (left; omega)) (by omega)
        | with_reducible exact KL1.out _ _ (by assumption) hb
        | with_reducible exact KA1.out _ _ (by assumption)
        | with_reducible exact KS1.out _ _ _ (by omega) (by assumption)
        | with_reducible exact KD1.out _ hS1
        | with_reducible exact KD1.out _ (KA1.out _ _ hS1)
        | with_reducible assumption)
      (first
        | (go_at_call 9; go_fit (addm6 fY fG HM.out); rintro e w' ⟨s0, s1, s2, s3, s4, s5, rfl, fS, hv, hb⟩; have HS : Hid _ := hv; clear hv; (first | replace BN := BN.later hb | with_reducible have BN := Wr6.later Wr6.new hb | with_reducible have BN := Wr6.later (Wr6.drew Wr6.new) hb | skip); have hlt := KN1.out _ (KL1.out _ _ (by assumption) hb))
        | (go_at_call 8; go_fit (mul6 fX fS HM.out); rintro e w' ⟨r0, r1, r2, r3, r4, r5, rfl, fR, hv, hb⟩; have HR : Hid _ := hv; clear hv; (first | replace BN := BN.later hb | with_reducible have BN := Wr6.later Wr6.new hb | with_reducible have BN := Wr6.later (Wr6.drew Wr6.new) hb | skip); have hlt := KN1.out _ (KL1.out _ _ (by assumption) hb); (first | (obtain ⟨q0, q1, q2, q3, q4, q5, ⟨j0, j1, j2, j3, j4, j5⟩, ⟨n0, n1, n2, n3, n4, n5⟩⟩ := BN.cells) | skip)))
    all_goals
      go_wp2_with fail
      go_meet
      refine ⟨_, r0, r1, r2, r3, r4, r5, rfl, by omega, fR, ⟨_, HS.out, HR.out⟩, ?_, by with_reducible assumption⟩
      first
        | with_reducible exact Wr6.is BN
        | exact Blk.new w' (us [r0, r1, r2, r3, r4, r5]) 24 w'.heap.size rfl
  case rest =>
    obtain ⟨b12, r0, r1, r2, r3, r4, r5, rfl, hb12, fR, HR, B12, hc1⟩ := hcut
    obtain ⟨S2, hS2, KL2, KA2, KD2, KS2, KP2, KN2, KB2, KM2, KW2⟩ := held_mk (w0 := w) (W := wc) [(w.heap.size, [x0, x1, x2, x3, x4, x5]), (w.heap.size + 1, [y0, y1, y2, y3, y4, y5]), (w.heap.size + 1 + 1, [g0, g1, g2, g3, g4, g5]), (bx, [m0, m1, m2, m3, m4, m5, i, t0, t1, t2, t3, t4, t5]), (b12, [r0, r1, r2, r3, r4, r5])] [] (by
      intro b X h
      simp only [List.mem_cons, List.not_mem_nil, or_false, Prod.mk.injEq] at h
      rcases h with ⟨rfl, rfl⟩ | ⟨rfl, rfl⟩ | ⟨rfl, rfl⟩ | ⟨rfl, rfl⟩ | ⟨rfl, rfl⟩
      · exact KM1.out _ _ _ hc1 (by simp)
      · exact KM1.out _ _ _ hc1 (by simp)
      · exact KM1.out _ _ _ hc1 (by simp)
      · exact KM1.out _ _ _ hc1 (by simp)
      · exact B12) (by
      intro b h
      exact absurd h (by simp)) (by
      intro b X h
      simp) (KB1.out _ hc1)
    obtain ⟨c2a0, c2a1, c2a2, c2a3, c2a4, c2a5, c2a6⟩ := rule6 (S := Hd S2) (b := w.heap.size) (x0 := x0) (x1 := x1) (x2 := x2) (x3 := x3) (x4 := x4) (x5 := x5) (fun wx h => KM2.out wx _ _ h (by simp))
    obtain ⟨c2b0, c2b1, c2b2, c2b3, c2b4, c2b5, c2b6⟩ := rule6 (S := Hd S2) (b := w.heap.size + 1) (x0 := y0) (x1 := y1) (x2 := y2) (x3 := y3) (x4 := y4) (x5 := y5) (fun wx h => KM2.out wx _ _ h (by simp))
    obtain ⟨c2c0, c2c1, c2c2, c2c3, c2c4, c2c5, c2c6⟩ := rule6 (S := Hd S2) (b := w.heap.size + 1 + 1) (x0 := g0) (x1 := g1) (x2 := g2) (x3 := g3) (x4 := g4) (x5 := g5) (fun wx h => KM2.out wx _ _ h (by simp))
    obtain ⟨c2d0, c2d1, c2d2, c2d3, c2d4, c2d5, c2d6, c2d7, c2d8, c2d9, c2d10, c2d11, c2d12, c2d13⟩ := rule13 (S := Hd S2) (b := bx) (m0 := m0) (m1 := m1) (m2 := m2) (m3 := m3) (m4 := m4) (m5 := m5) (i := i) (t0 := t0) (t1 := t1) (t2 := t2) (t3 := t3) (t4 := t4) (t5 := t5) (fun wx h => KM2.out wx _ _ h (by simp))
    obtain ⟨c2e0, c2e1, c2e2, c2e3, c2e4, c2e5, c2e6⟩ := rule6 (S := Hd S2) (b := b12) (x0 := r0) (x1 := r1) (x2 := r2) (x3 := r3) (x4 := r4) (x5 := r5) (fun wx h => KM2.out wx _ _ h (by simp))
    have hN2 := KN1.out _ hc1
    clear hc1 B12
    clear c1a0 c1a1 c1a2 c1a3 c1a4 c1a5 c1a6 c1b0 c1b1 c1b2 c1b3 c1b4 c1b5 c1b6 c1c0 c1c1 c1c2 c1c3 c1c4 c1c5 c1c6 c1d0 c1d1 c1d2 c1d3 c1d4 c1d5 c1d6 c1d7 c1d8 c1d9 c1d10 c1d11 c1d12 c1d13 hS1 KL1 KA1 KD1 KS1 KP1 KN1 KB1 KM1 KW1
    clear S1
    go_upto_region 4 with fail
    go_cut [13] (fun p wx => ∃ (b : Nat) (z0 z1 z2 z3 z4 z5 : Int), p = .pointer (some ⟨b, 0, none⟩) ∧ wc.heap.size ≤ b ∧ fits [z0, z1, z2, z3, z4, z5] ∧ Hid (∃ u v, u = (v64 [x0, x1, x2, x3, x4, x5] * v64 [y0, y1, y2, y3, y4, y5]) % v64 [m0, m1, m2, m3, m4, m5] ∧ v = (v64 [x0, x1, x2, x3, x4, x5] * v64 [g0, g1, g2, g3, g4, g5]) % v64 [m0, m1, m2, m3, m4, m5] ∧ v64 [z0, z1, z2, z3, z4, z5] = (u + v) % v64 [m0, m1, m2, m3, m4, m5]) ∧ Blk wx b (us [z0, z1, z2, z3, z4, z5]) ∧ Hd S2 wx)
    case first =>
      go_region_held3 (Hd S2)
        (first
          | with_reducible exact KP2.out _ _ _ _ _ _ _ _ (by assumption) (by first | (right; simp; done) | (left; omega)) (by omega)
          | with_reducible exact KL2.out _ _ (by assumption) hb
          | with_reducible exact KA2.out _ _ (by assumption)
          | with_reducible exact KS2.out _ _ _ (by omega) (by assumption)
          | with_reducible exact KD2.out _ hS2
          | with_reducible exact KD2.out _ (KA2.out _ _ hS2)
          | with_reducible assumption)
        (first
          | (go_at_call 8; go_fit (mul6 fX fY HM.out); rintro e w' ⟨o0, o1, o2, o3, o4, o5, rfl, fU, hv, hb⟩; have HU : Hid _ := hv; clear hv; (first | replace BN := BN.later hb | with_reducible have BN := Wr6.later Wr6.new hb | with_reducible have BN := Wr6.later (Wr6.drew Wr6.new) hb | skip); have hlt := KN2.out _ (KL2.out _ _ (by assumption) hb))
          | (go_at_call 8; go_fit (mul6 fX fG HM.out); rintro e w' ⟨v0, v1, v2, v3, v4, v5, rfl, fV, hv, hb⟩; have HV : Hid _ := hv; clear hv; (first | replace BN := BN.later hb | with_reducible have BN := Wr6.later Wr6.new hb | with_reducible have BN := Wr6.later (Wr6.drew Wr6.new) hb | skip); have hlt := KN2.out _ (KL2.out _ _ (by assumption) hb))
          | (go_at_call 9; go_fit (addm6 fU fV HM.out); rintro e w' ⟨z0, z1, z2, z3, z4, z5, rfl, fT, hv, hb⟩; have HT : Hid _ := hv; clear hv; (first | replace BN := BN.later hb | with_reducible have BN := Wr6.later Wr6.new hb | with_reducible have BN := Wr6.later (Wr6.drew Wr6.new) hb | skip); have hlt := KN2.out _ (KL2.out _ _ (by assumption) hb); (first | (obtain ⟨q0, q1, q2, q3, q4, q5, ⟨j0, j1, j2, j3, j4, j5⟩, ⟨n0, n1, n2, n3, n4, n5⟩⟩ := BN.cells) | skip)))
      all_goals
        go_wp2_with fail
        go_meet
        refine ⟨_, z0, z1, z2, z3, z4, z5, rfl, by omega, fT, ⟨_, _, HU.out, HV.out, HT.out⟩, ?_, by with_reducible assumption⟩
        first
          | with_reducible exact Wr6.is BN
          | exact Blk.new w' (us [z0, z1, z2, z3, z4, z5]) 24 w'.heap.size rfl
    case rest =>
      obtain ⟨b13, z0, z1, z2, z3, z4, z5, rfl, hb13, fT, HT, B13, hc2⟩ := hcut
      obtain ⟨S3, hS3, KL3, KA3, KD3, KS3, KP3, KN3, KB3, KM3, KW3⟩ := held_mk (w0 := w) (W := wc) [(w.heap.size, [x0, x1, x2, x3, x4, x5]), (w.heap.size + 1, [y0, y1, y2, y3, y4, y5]), (w.heap.size + 1 + 1, [g0, g1, g2, g3, g4, g5]), (bx, [m0, m1, m2, m3, m4, m5, i, t0, t1, t2, t3, t4, t5]), (b12, [r0, r1, r2, r3, r4, r5]), (b13, [z0, z1, z2, z3, z4, z5])] [] (by
        intro b X h
        simp only [List.mem_cons, List.not_mem_nil, or_false, Prod.mk.injEq] at h
        rcases h with ⟨rfl, rfl⟩ | ⟨rfl, rfl⟩ | ⟨rfl, rfl⟩ | ⟨rfl, rfl⟩ | ⟨rfl, rfl⟩ | ⟨rfl, rfl⟩
        · exact KM2.out _ _ _ hc2 (by simp)
        · exact KM2.out _ _ _ hc2 (by simp)
        · exact KM2.out _ _ _ hc2 (by simp)
        · exact KM2.out _ _ _ hc2 (by simp)
        · exact KM2.out _ _ _ hc2 (by simp)
        · exact B13) (by
        intro b h
        exact absurd h (by simp)) (by
        intro b X h
        simp) (KB2.out _ hc2)
      obtain ⟨c3a0, c3a1, c3a2, c3a3, c3a4, c3a5, c3a6⟩ := rule6 (S := Hd S3) (b := w.heap.size) (x0 := x0) (x1 := x1) (x2 := x2) (x3 := x3) (x4 := x4) (x5 := x5) (fun wx h => KM3.out wx _ _ h (by simp))
      obtain ⟨c3b0, c3b1, c3b2, c3b3, c3b4, c3b5, c3b6⟩ := rule6 (S := Hd S3) (b := w.heap.size + 1) (x0 := y0) (x1 := y1) (x2 := y2) (x3 := y3) (x4 := y4) (x5 := y5) (fun wx h => KM3.out wx _ _ h (by simp))
      obtain ⟨c3c0, c3c1, c3c2, c3c3, c3c4, c3c5, c3c6⟩ := rule6 (S := Hd S3) (b := w.heap.size + 1 + 1) (x0 := g0) (x1 := g1) (x2 := g2) (x3 := g3) (x4 := g4) (x5 := g5) (fun wx h => KM3.out wx _ _ h (by simp))
      obtain ⟨c3d0, c3d1, c3d2, c3d3, c3d4, c3d5, c3d6, c3d7, c3d8, c3d9, c3d10, c3d11, c3d12, c3d13⟩ := rule13 (S := Hd S3) (b := bx) (m0 := m0) (m1 := m1) (m2 := m2) (m3 := m3) (m4 := m4) (m5 := m5) (i := i) (t0 := t0) (t1 := t1) (t2 := t2) (t3 := t3) (t4 := t4) (t5 := t5) (fun wx h => KM3.out wx _ _ h (by simp))
      obtain ⟨c3e0, c3e1, c3e2, c3e3, c3e4, c3e5, c3e6⟩ := rule6 (S := Hd S3) (b := b12) (x0 := r0) (x1 := r1) (x2 := r2) (x3 := r3) (x4 := r4) (x5 := r5) (fun wx h => KM3.out wx _ _ h (by simp))
      obtain ⟨c3f0, c3f1, c3f2, c3f3, c3f4, c3f5, c3f6⟩ := rule6 (S := Hd S3) (b := b13) (x0 := z0) (x1 := z1) (x2 := z2) (x3 := z3) (x4 := z4) (x5 := z5) (fun wx h => KM3.out wx _ _ h (by simp))
      have hN3 := KN2.out _ hc2
      clear hc2 B13
      clear c2a0 c2a1 c2a2 c2a3 c2a4 c2a5 c2a6 c2b0 c2b1 c2b2 c2b3 c2b4 c2b5 c2b6 c2c0 c2c1 c2c2 c2c3 c2c4 c2c5 c2c6 c2d0 c2d1 c2d2 c2d3 c2d4 c2d5 c2d6 c2d7 c2d8 c2d9 c2d10 c2d11 c2d12 c2d13 c2e0 c2e1 c2e2 c2e3 c2e4 c2e5 c2e6 hS2 KL2 KA2 KD2 KS2 KP2 KN2 KB2 KM2 KW2
      clear S2
      go_upto_region 5 with fail
      go_cut [14] (fun p wx => ∃ (b : Nat) (a0 a1 a2 a3 a4 a5 : Int), p = .pointer (some ⟨b, 0, none⟩) ∧ wc.heap.size ≤ b ∧ fits [a0, a1, a2, a3, a4, a5] ∧ Hid (∃ d, d = (v64 [x0, x1, x2, x3, x4, x5] - v64 [y0, y1, y2, y3, y4, y5]) % v64 [m0, m1, m2, m3, m4, m5] ∧ v64 [a0, a1, a2, a3, a4, a5] = (d + v64 [y0, y1, y2, y3, y4, y5]) % v64 [m0, m1, m2, m3, m4, m5]) ∧ Blk wx b (us [a0, a1, a2, a3, a4, a5]) ∧ Hd S3 wx)
      case first =>
        go_region_held3 (Hd S3)
          (first
            | with_reducible exact KP3.out _ _ _ _ _ _ _ _ (by assumption) (by first | (right; simp; done) | (left; omega)) (by omega)
            | with_reducible exact KL3.out _ _ (by assumption) hb
            | with_reducible exact KA3.out _ _ (by assumption)
            | with_reducible exact KS3.out _ _ _ (by omega) (by assumption)
            | with_reducible exact KD3.out _ hS3
            | with_reducible exact KD3.out _ (KA3.out _ _ hS3)
            | with_reducible assumption)
          (first
            | (go_at_call 10; go_fit (subm6 fX fY HM.out); rintro e w' ⟨d0, d1, d2, d3, d4, d5, rfl, fD, hv, hb⟩; have HD : Hid _ := hv; clear hv; (first | replace BN := BN.later hb | with_reducible have BN := Wr6.later Wr6.new hb | with_reducible have BN := Wr6.later (Wr6.drew Wr6.new) hb | skip); have hlt := KN3.out _ (KL3.out _ _ (by assumption) hb))
            | (go_at_call 9; go_fit (addm6 fD fY HM.out); rintro e w' ⟨a0, a1, a2, a3, a4, a5, rfl, fA, hv, hb⟩; have HA : Hid _ := hv; clear hv; (first | replace BN := BN.later hb | with_reducible have BN := Wr6.later Wr6.new hb | with_reducible have BN := Wr6.later (Wr6.drew Wr6.new) hb | skip); have hlt := KN3.out _ (KL3.out _ _ (by assumption) hb); (first | (obtain ⟨q0, q1, q2, q3, q4, q5, ⟨j0, j1, j2, j3, j4, j5⟩, ⟨n0, n1, n2, n3, n4, n5⟩⟩ := BN.cells) | skip)))
        all_goals
          go_wp2_with fail
          go_meet
          refine ⟨_, a0, a1, a2, a3, a4, a5, rfl, by omega, fA, ⟨_, HD.out, HA.out⟩, ?_, by with_reducible assumption⟩
          first
            | with_reducible exact Wr6.is BN
            | exact Blk.new w' (us [a0, a1, a2, a3, a4, a5]) 24 w'.heap.size rfl
      case rest =>
        obtain ⟨b14, a0, a1, a2, a3, a4, a5, rfl, hb14, fA, HA, B14, hc3⟩ := hcut
        have er : [r0, r1, r2, r3, r4, r5] = [z0, z1, z2, z3, z4, z5] := by
          refine v64_inj _ _ rfl fR fT ?_
          obtain ⟨s, a1, a2⟩ := HR.out
          obtain ⟨u, v, a3, a4, a5⟩ := HT.out
          exact spread_num a1 a2 a3 a4 a5
        simp only [List.cons.injEq, and_true] at er
        obtain ⟨rfl, rfl, rfl, rfl, rfl, rfl⟩ := er
        obtain ⟨S4, hS4, KL4, KA4, KD4, KS4, KP4, KN4, KB4, KM4, KW4⟩ := held_mk (w0 := w) (W := wc) [(w.heap.size, [x0, x1, x2, x3, x4, x5]), (w.heap.size + 1, [y0, y1, y2, y3, y4, y5]), (w.heap.size + 1 + 1, [g0, g1, g2, g3, g4, g5]), (bx, [m0, m1, m2, m3, m4, m5, i, t0, t1, t2, t3, t4, t5]), (b12, [r0, r1, r2, r3, r4, r5]), (b13, [r0, r1, r2, r3, r4, r5]), (b14, [a0, a1, a2, a3, a4, a5])] [] (by
          intro b X h
          simp only [List.mem_cons, List.not_mem_nil, or_false, Prod.mk.injEq] at h
          rcases h with ⟨rfl, rfl⟩ | ⟨rfl, rfl⟩ | ⟨rfl, rfl⟩ | ⟨rfl, rfl⟩ | ⟨rfl, rfl⟩ | ⟨rfl, rfl⟩ | ⟨rfl, rfl⟩
          · exact KM3.out _ _ _ hc3 (by simp)
          · exact KM3.out _ _ _ hc3 (by simp)
          · exact KM3.out _ _ _ hc3 (by simp)
          · exact KM3.out _ _ _ hc3 (by simp)
          · exact KM3.out _ _ _ hc3 (by simp)
          · exact KM3.out _ _ _ hc3 (by simp)
          · exact B14) (by
          intro b h
          exact absurd h (by simp)) (by
          intro b X h
          simp) (KB3.out _ hc3)
        obtain ⟨c4a0, c4a1, c4a2, c4a3, c4a4, c4a5, c4a6⟩ := rule6 (S := Hd S4) (b := w.heap.size) (x0 := x0) (x1 := x1) (x2 := x2) (x3 := x3) (x4 := x4) (x5 := x5) (fun wx h => KM4.out wx _ _ h (by simp))
        obtain ⟨c4b0, c4b1, c4b2, c4b3, c4b4, c4b5, c4b6⟩ := rule6 (S := Hd S4) (b := w.heap.size + 1) (x0 := y0) (x1 := y1) (x2 := y2) (x3 := y3) (x4 := y4) (x5 := y5) (fun wx h => KM4.out wx _ _ h (by simp))
        obtain ⟨c4c0, c4c1, c4c2, c4c3, c4c4, c4c5, c4c6⟩ := rule6 (S := Hd S4) (b := w.heap.size + 1 + 1) (x0 := g0) (x1 := g1) (x2 := g2) (x3 := g3) (x4 := g4) (x5 := g5) (fun wx h => KM4.out wx _ _ h (by simp))
        obtain ⟨c4d0, c4d1, c4d2, c4d3, c4d4, c4d5, c4d6, c4d7, c4d8, c4d9, c4d10, c4d11, c4d12, c4d13⟩ := rule13 (S := Hd S4) (b := bx) (m0 := m0) (m1 := m1) (m2 := m2) (m3 := m3) (m4 := m4) (m5 := m5) (i := i) (t0 := t0) (t1 := t1) (t2 := t2) (t3 := t3) (t4 := t4) (t5 := t5) (fun wx h => KM4.out wx _ _ h (by simp))
        obtain ⟨c4e0, c4e1, c4e2, c4e3, c4e4, c4e5, c4e6⟩ := rule6 (S := Hd S4) (b := b12) (x0 := r0) (x1 := r1) (x2 := r2) (x3 := r3) (x4 := r4) (x5 := r5) (fun wx h => KM4.out wx _ _ h (by simp))
        obtain ⟨c4f0, c4f1, c4f2, c4f3, c4f4, c4f5, c4f6⟩ := rule6 (S := Hd S4) (b := b13) (x0 := r0) (x1 := r1) (x2 := r2) (x3 := r3) (x4 := r4) (x5 := r5) (fun wx h => KM4.out wx _ _ h (by simp))
        obtain ⟨c4g0, c4g1, c4g2, c4g3, c4g4, c4g5, c4g6⟩ := rule6 (S := Hd S4) (b := b14) (x0 := a0) (x1 := a1) (x2 := a2) (x3 := a3) (x4 := a4) (x5 := a5) (fun wx h => KM4.out wx _ _ h (by simp))
        clear hc3 B14
        clear c3a0 c3a1 c3a2 c3a3 c3a4 c3a5 c3a6 c3b0 c3b1 c3b2 c3b3 c3b4 c3b5 c3b6 c3c0 c3c1 c3c2 c3c3 c3c4 c3c5 c3c6 c3d0 c3d1 c3d2 c3d3 c3d4 c3d5 c3d6 c3d7 c3d8 c3d9 c3d10 c3d11 c3d12 c3d13 c3e0 c3e1 c3e2 c3e3 c3e4 c3e5 c3e6 c3f0 c3f1 c3f2 c3f3 c3f4 c3f5 c3f6 hS3 KL3 KA3 KD3 KS3 KP3 KN3 KB3 KM3 KW3
        clear S3
        have q3 := eql_same r0 r1 r2 r3 r4 r5
        have q4 := eql_same a0 a1 a2 a3 a4 a5
        have fz : fits [0, 0, 0, 0, 0, 0] := fits_zero 6
        clear HR HT hb12 hb13 hb14
        go_wp2_with fail
        go_region_held3 (Hd S4)
          (first
            | with_reducible exact KP4.out _ _ _ _ _ _ _ _ (by assumption) (by first | (right; simp; done) | (left; omega)) (by omega)
            | with_reducible exact KL4.out _ _ (by assumption) hb
            | with_reducible exact KA4.out _ _ (by assumption)
            | with_reducible exact KS4.out _ _ _ (by omega) (by assumption)
            | with_reducible exact KD4.out _ hS4
            | with_reducible exact KD4.out _ (KA4.out _ _ hS4)
            | with_reducible assumption)
          (first
            | (go_at_call 9; go_fit (addm6 fX fz HM.out); rintro e w' ⟨o0, o1, o2, o3, o4, o5, rfl, fO, hv, hb⟩; (have eo : [o0, o1, o2, o3, o4, o5] = [a0, a1, a2, a3, a4, a5] := (by refine v64_inj _ _ rfl fO fA ?_; obtain ⟨d, a1, a2⟩ := HA.out; exact back_mod a1 a2 (by simp [v64, pv]) hv)); clear hv; simp only [List.cons.injEq, and_true] at eo; obtain ⟨rfl, rfl, rfl, rfl, rfl, rfl⟩ := eo))
        all_goals go_wp2
        all_goals (go_ret; exact ⟨rfl, KB4.out _ (by assumption)⟩)
end Go.Proofs.Ytpenapcgpplghab
