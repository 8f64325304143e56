/- The law ModpPowers answers true: exponents add up, as long as their sum fits; powers of products are products of powers. -/
import Derived.Test.YtpenapcgpplghabRows
import Derived.Test.YtpenapcgpplghabMLaw
import Derived.Test.YtpenapcgpplghabMExp
import Derived.Test.YtpenapcgpplghabHeld
import Derived.Test.YtpenapcgpplghabMTo
import Derived.Test.YtpenapcgpplghabRAdd
import Derived.Deep.RegionHeld3
import Derived.Deep.DeepCutAuto
import Derived.Deep.DeepFit
namespace Go.Proofs.Ytpenapcgpplghab
open Go.RowKit

theorem pow_sum {X M u v p r : Int} {A B S : Int} (hA : 0 ≤ A) (hB : 0 ≤ B) (hS : S = A + B) (hu : u = X ^ A.toNat % M) (hv : v = X ^ B.toNat % M) (hp : p = (u * v) % M) (hr : r = X ^ S.toNat % M) : r = p := by
  rw [hr, hp, hu, hv, ← Int.mul_emod, ← Int.pow_add, hS, Int.toNat_add hA hB]

theorem pow_prod {X Y M u v p g r : Int} {A : Nat} (hu : u = X ^ A % M) (hv : v = Y ^ A % M) (hp : p = (u * v) % M) (hg : g = (X * Y) % M) (hr : r = g ^ A % M) : r = p := by
  rw [hr, hp, hu, hv, ← Int.mul_emod, hg, pow_emod, Int.mul_pow]

theorem half_val {x0 x1 x2 x3 x4 x5 : Int} (f : fits [x0, x1, x2, x3, x4, x5]) (h : x5 < 9223372036854775808) : 2 * v64 [x0, x1, x2, x3, x4, x5] < 18446744073709551616 ^ 6 := by
  have h0 := f 0
  have h1 := f 1
  have h2 := f 2
  have h3 := f 3
  have h4 := f 4
  have h5 := f 5
  simp [v64, pv] at *
  omega

theorem sum_fits {A B : List Int} (hA : 2 * v64 A < 18446744073709551616 ^ 6) (hB : 2 * v64 B < 18446744073709551616 ^ 6) (h0 : 0 ≤ v64 A + v64 B) : (v64 A + v64 B) % 18446744073709551616 ^ 6 = v64 A + v64 B := by
  refine Int.emod_eq_of_lt h0 ?_
  generalize (18446744073709551616 : Int) ^ 6 = R at *
  omega

theorem to6_six {v : Value} {N : Int} {w : World} (h : NumIs w v N) :
    Calls Try.prog 11 #[v] w fun e w' => ∃ s0 s1 s2 s3 s4 s5 : Int, e = .returned (.agg #[.int .u64 s0, .int .u64 s1, .int .u64 s2, .int .u64 s3, .int .u64 s4, .int .u64 s5]) ∧ fits [s0, s1, s2, s3, s4, s5] ∧ v64 [s0, s1, s2, s3, s4, s5] = N % 18446744073709551616 ^ 6 ∧ Below w.heap.size w w' := by
  refine (to6_any v N w h).mono ?_
  rintro e w' ⟨T, rfl, lT, fT, hT, hb⟩
  obtain ⟨s0, s1, s2, s3, s4, s5, rfl⟩ := six lT
  exact ⟨s0, s1, s2, s3, s4, s5, rfl, fT, hT, hb⟩

set_option maxRecDepth 100000 in
set_option maxHeartbeats 8000000 in
theorem law_modpPowers (x0 x1 x2 x3 x4 x5 y0 y1 y2 y3 y4 y5 c0 c1 c2 c3 c4 c5 d0 d1 d2 d3 d4 d5 k0 m1 m2 m3 m4 k5 : Int) (w : World) (fX : fits [x0, x1, x2, x3, x4, x5]) (fY : fits [y0, y1, y2, y3, y4, y5]) (fC : fits [c0, c1, c2, c3, c4, c5]) (fD : fits [d0, d1, d2, d3, d4, d5]) (fK : fits [k0, m1, m2, m3, m4, k5]) :
    Calls Try.prog 4 #[.agg #[.int .u64 x0, .int .u64 x1, .int .u64 x2, .int .u64 x3, .int .u64 x4, .int .u64 x5], .agg #[.int .u64 y0, .int .u64 y1, .int .u64 y2, .int .u64 y3, .int .u64 y4, .int .u64 y5], .agg #[.int .u64 c0, .int .u64 c1, .int .u64 c2, .int .u64 c3, .int .u64 c4, .int .u64 c5], .agg #[.int .u64 d0, .int .u64 d1, .int .u64 d2, .int .u64 d3, .int .u64 d4, .int .u64 d5], .agg #[.int .u64 k0, .int .u64 m1, .int .u64 m2, .int .u64 m3, .int .u64 m4, .int .u64 k5]] w fun e w' => e = .returned (.bool true) ∧ Below w.heap.size w w' := by
  have B0 := ((((Blk.new w (us [x0, x1, x2, x3, x4, x5]) 24 (w.heap.size) rfl).alloc (.cells (us [y0, y1, y2, y3, y4, y5]).toArray 24)).alloc (.cells (us [c0, c1, c2, c3, c4, c5]).toArray 24)).alloc (.cells (us [d0, d1, d2, d3, d4, d5]).toArray 24)).alloc (.cells (us [k0, m1, m2, m3, m4, k5]).toArray 24)
  have B1 := (((Blk.new (w.alloc (.cells (us [x0, x1, x2, x3, x4, x5]).toArray 24)) (us [y0, y1, y2, y3, y4, y5]) 24 (w.heap.size + 1) (by simp)).alloc (.cells (us [c0, c1, c2, c3, c4, c5]).toArray 24)).alloc (.cells (us [d0, d1, d2, d3, d4, d5]).toArray 24)).alloc (.cells (us [k0, m1, m2, m3, m4, k5]).toArray 24)
  have B2 := ((Blk.new ((w.alloc (.cells (us [x0, x1, x2, x3, x4, x5]).toArray 24)).alloc (.cells (us [y0, y1, y2, y3, y4, y5]).toArray 24)) (us [c0, c1, c2, c3, c4, c5]) 24 (w.heap.size + 1 + 1) (by simp)).alloc (.cells (us [d0, d1, d2, d3, d4, d5]).toArray 24)).alloc (.cells (us [k0, m1, m2, m3, m4, k5]).toArray 24)
  have B3 := (Blk.new (((w.alloc (.cells (us [x0, x1, x2, x3, x4, x5]).toArray 24)).alloc (.cells (us [y0, y1, y2, y3, y4, y5]).toArray 24)).alloc (.cells (us [c0, c1, c2, c3, c4, c5]).toArray 24)) (us [d0, d1, d2, d3, d4, d5]) 24 (w.heap.size + 1 + 1 + 1) (by simp)).alloc (.cells (us [k0, m1, m2, m3, m4, k5]).toArray 24)
  have B4 := Blk.new ((((w.alloc (.cells (us [x0, x1, x2, x3, x4, x5]).toArray 24)).alloc (.cells (us [y0, y1, y2, y3, y4, y5]).toArray 24)).alloc (.cells (us [c0, c1, c2, c3, c4, c5]).toArray 24)).alloc (.cells (us [d0, d1, d2, d3, d4, d5]).toArray 24)) (us [k0, m1, m2, m3, m4, k5]) 24 (w.heap.size + 1 + 1 + 1 + 1) (by simp)
  have bel : Below w.heap.size w (((((w.alloc (.cells (us [x0, x1, x2, x3, x4, x5]).toArray 24)).alloc (.cells (us [y0, y1, y2, y3, y4, y5]).toArray 24)).alloc (.cells (us [c0, c1, c2, c3, c4, c5]).toArray 24)).alloc (.cells (us [d0, d1, d2, d3, d4, d5]).toArray 24)).alloc (.cells (us [k0, m1, m2, m3, m4, k5]).toArray 24)) := (((((Below.refl _ _).alloc (Nat.le_refl _) _).alloc (by simp) _).alloc (by simp; omega) _).alloc (by simp; omega) _).alloc (by simp; omega) _
  have q2 := iface_nil
  go_enter Try.func4, Try.ntmps4
  go_wp2_with fail
  simp only [us, List.map_cons, List.map_nil] at B0 B1 B2 B3 B4 bel
  generalize ((((w.alloc (Obj.cells #[.int .u64 x0, .int .u64 x1, .int .u64 x2, .int .u64 x3, .int .u64 x4, .int .u64 x5] 24)).alloc (Obj.cells #[.int .u64 y0, .int .u64 y1, .int .u64 y2, .int .u64 y3, .int .u64 y4, .int .u64 y5] 24)).alloc (Obj.cells #[.int .u64 c0, .int .u64 c1, .int .u64 c2, .int .u64 c3, .int .u64 c4, .int .u64 c5] 24)).alloc (Obj.cells #[.int .u64 d0, .int .u64 d1, .int .u64 d2, .int .u64 d3, .int .u64 d4, .int .u64 d5] 24)).alloc (Obj.cells #[.int .u64 k0, .int .u64 m1, .int .u64 m2, .int .u64 m3, .int .u64 m4, .int .u64 k5] 24) = W at *
  refine (up_any _).mono ?_
  rintro e w1 ⟨rfl, hb⟩
  replace B0 := B0.later hb
  replace B1 := B1.later hb
  replace B2 := B2.later hb
  replace B3 := B3.later hb
  replace B4 := B4.later hb
  replace bel := below_step bel hb
  clear hb
  obtain ⟨a0, a1, a2, a3, a4, a5⟩ := B4.cells6
  go_wp2_with fail
  refine (modulus6 fK).mono ?_
  rintro e w2 ⟨m0, m5, rfl, fM, ho, hh, hb⟩
  clear a0 a1 a2 a3 a4 a5 B4
  replace B0 := B0.later hb
  replace B1 := B1.later hb
  replace B2 := B2.later hb
  replace B3 := B3.later hb
  replace bel := below_step bel hb
  clear hb
  go_wp2_with fail
  refine (new_ok fM ho hh).mono ?_
  rintro e w3 ⟨i, t0, t1, t2, t3, t4, t5, rfl, hm, hb⟩
  have HM : Hid _ := hm
  clear hm ho hh
  replace B0 := B0.later hb
  replace B1 := B1.later hb
  replace B2 := B2.later hb
  replace B3 := B3.later hb
  replace bel := below_step bel hb
  clear hb
  have ltc := B3.lt
  replace B0 := B0.alloc (.cells (us [m0, m1, m2, m3, m4, m5, i, t0, t1, t2, t3, t4, t5]).toArray 27)
  replace B1 := B1.alloc (.cells (us [m0, m1, m2, m3, m4, m5, i, t0, t1, t2, t3, t4, t5]).toArray 27)
  replace B2 := B2.alloc (.cells (us [m0, m1, m2, m3, m4, m5, i, t0, t1, t2, t3, t4, t5]).toArray 27)
  replace B3 := B3.alloc (.cells (us [m0, m1, m2, m3, m4, m5, i, t0, t1, t2, t3, t4, t5]).toArray 27)
  have B4 := Blk.new w3 (us [m0, m1, m2, m3, m4, m5, i, t0, t1, t2, t3, t4, t5]) 27 w3.heap.size rfl
  replace bel := below_alloc (o := .cells (us [m0, m1, m2, m3, m4, m5, i, t0, t1, t2, t3, t4, t5]).toArray 27) bel
  go_upto_region 3 with fail
  simp only [us, List.map_cons, List.map_nil] at B0 B1 B2 B3 B4 bel
  generalize w3.alloc (Obj.cells #[.int .u64 m0, .int .u64 m1, .int .u64 m2, .int .u64 m3, .int .u64 m4, .int .u64 m5, .int .u64 i, .int .u64 t0, .int .u64 t1, .int .u64 t2, .int .u64 t3, .int .u64 t4, .int .u64 t5] 27) = W3 at *
  obtain ⟨bx, hbx⟩ : ∃ b, b = w3.heap.size := ⟨_, rfl⟩
  rw [← hbx] at B4 ltc ⊢
  clear hbx
  have hc5 : 0 ≤ c5 ∧ c5 < 18446744073709551616 := fC 5
  have hd5 : 0 ≤ d5 ∧ d5 < 18446744073709551616 := fD 5
  obtain ⟨h5, hh5⟩ : ∃ z, c5 / 2 = z := ⟨_, rfl⟩
  obtain ⟨e5, he5⟩ : ∃ z, d5 / 2 = z := ⟨_, rfl⟩
  have tc1 : c5.tdiv 2 = h5 := by rw [Int.tdiv_eq_ediv_of_nonneg hc5.1]; exact hh5
  have td1 : d5.tdiv 2 = e5 := by rw [Int.tdiv_eq_ediv_of_nonneg hd5.1]; exact he5
  have tc2 : IntKind.u64.wrap h5 = h5 := by rw [IntKind.wrap_u64]; omega
  have td2 : IntKind.u64.wrap e5 = e5 := by rw [IntKind.wrap_u64]; omega
  have lh : h5 < 9223372036854775808 := by omega
  have le : e5 < 9223372036854775808 := by omega
  have fC2 : fits [c0, c1, c2, c3, c4, h5] := fits_set fC 5 h5 (by omega) (by omega)
  have fD2 : fits [d0, d1, d2, d3, d4, e5] := fits_set fD 5 e5 (by omega) (by omega)
  have HC : Hid _ := half_val fC2 lh
  have HD : Hid _ := half_val fD2 le
  clear hh5 he5 lh le hc5 hd5 fC fD
  have xc := B2.cell 5 _ rfl
  have xf := B2.frozen 5
  have xd := B3.cell 5 _ rfl
  have xg := B3.frozen 5
  go_upto_region 5 with fail
  replace B0 := (B0.other ⟨w.heap.size + 1 + 1, 5, none⟩ (.int .u64 h5) (by simp <;> omega)).other ⟨w.heap.size + 1 + 1 + 1, 5, none⟩ (.int .u64 e5) (by simp <;> omega)
  replace B1 := (B1.other ⟨w.heap.size + 1 + 1, 5, none⟩ (.int .u64 h5) (by simp <;> omega)).other ⟨w.heap.size + 1 + 1 + 1, 5, none⟩ (.int .u64 e5) (by simp <;> omega)
  replace B4 := (B4.other ⟨w.heap.size + 1 + 1, 5, none⟩ (.int .u64 h5) (by simp <;> omega)).other ⟨w.heap.size + 1 + 1 + 1, 5, none⟩ (.int .u64 e5) (by simp <;> omega)
  replace B2 := (B2.setu (S := [c0, c1, c2, c3, c4, c5]) 5 h5).other ⟨w.heap.size + 1 + 1 + 1, 5, none⟩ (.int .u64 e5) (by simp <;> omega)
  replace B3 := (B3.other ⟨w.heap.size + 1 + 1, 5, none⟩ (.int .u64 h5) (by simp <;> omega)).setu (S := [d0, d1, d2, d3, d4, d5]) 5 e5
  replace bel := (bel.setCell (p := ⟨w.heap.size + 1 + 1, 5, none⟩) (by simp <;> omega) (.int .u64 h5)).setCell (p := ⟨w.heap.size + 1 + 1 + 1, 5, none⟩) (by simp <;> omega) (.int .u64 e5)
  clear xc xf xd xg tc1 tc2 td1 td2
  generalize (W3.setCell ⟨w.heap.size + 1 + 1, 5, none⟩ (.int .u64 h5)).setCell ⟨w.heap.size + 1 + 1 + 1, 5, none⟩ (.int .u64 e5) = W4 at *
  obtain ⟨S1, hS1, KL1, KA1, KD1, KS1, KP1, KN1, KB1, KM1, KW1⟩ := held_mk (w0 := w) (W := W4) [(w.heap.size, [x0, x1, x2, x3, x4, x5]), (w.heap.size + 1, [y0, y1, y2, y3, y4, y5]), (w.heap.size + 1 + 1, [c0, c1, c2, c3, c4, h5]), (w.heap.size + 1 + 1 + 1, [d0, d1, d2, d3, d4, e5]), (bx, [m0, m1, m2, m3, m4, m5, i, t0, t1, t2, t3, t4, t5])] [] (by
    intro b X h
    simp only [List.mem_cons, List.not_mem_nil, or_false, Prod.mk.injEq] at h
    rcases h with ⟨rfl, rfl⟩ | ⟨rfl, rfl⟩ | ⟨rfl, rfl⟩ | ⟨rfl, rfl⟩ | ⟨rfl, rfl⟩
    · exact B0
    · exact B1
    · exact B2
    · exact B3
    · exact B4) (by
    intro b h
    exact absurd h (by simp)) (by
    intro b X h
    simp) bel
  obtain ⟨c1a0, c1a1, c1a2, c1a3, c1a4, c1a5, c1a6⟩ := rule6 (S := Hd S1) (b := w.heap.size) (x0 := x0) (x1 := x1) (x2 := x2) (x3 := x3) (x4 := x4) (x5 := x5) (fun wx h => KM1.out wx _ _ h (by simp))
  obtain ⟨c1b0, c1b1, c1b2, c1b3, c1b4, c1b5, c1b6⟩ := rule6 (S := Hd S1) (b := w.heap.size + 1) (x0 := y0) (x1 := y1) (x2 := y2) (x3 := y3) (x4 := y4) (x5 := y5) (fun wx h => KM1.out wx _ _ h (by simp))
  obtain ⟨c1c0, c1c1, c1c2, c1c3, c1c4, c1c5, c1c6⟩ := rule6 (S := Hd S1) (b := w.heap.size + 1 + 1) (x0 := c0) (x1 := c1) (x2 := c2) (x3 := c3) (x4 := c4) (x5 := h5) (fun wx h => KM1.out wx _ _ h (by simp))
  obtain ⟨c1d0, c1d1, c1d2, c1d3, c1d4, c1d5, c1d6⟩ := rule6 (S := Hd S1) (b := w.heap.size + 1 + 1 + 1) (x0 := d0) (x1 := d1) (x2 := d2) (x3 := d3) (x4 := d4) (x5 := e5) (fun wx h => KM1.out wx _ _ h (by simp))
  obtain ⟨c1e0, c1e1, c1e2, c1e3, c1e4, c1e5, c1e6, c1e7, c1e8, c1e9, c1e10, c1e11, c1e12, c1e13⟩ := rule13 (S := Hd S1) (b := bx) (m0 := m0) (m1 := m1) (m2 := m2) (m3 := m3) (m4 := m4) (m5 := m5) (i := i) (t0 := t0) (t1 := t1) (t2 := t2) (t3 := t3) (t4 := t4) (t5 := t5) (fun wx h => KM1.out wx _ _ h (by simp))
  have hN1 := bel.size
  clear B0 B1 B2 B3 B4 bel
  go_cut [14] (fun p wx => ∃ (b : Nat) (s0 s1 s2 s3 s4 s5 : Int), p = .pointer (some ⟨b, 0, none⟩) ∧ W4.heap.size ≤ b ∧ fits [s0, s1, s2, s3, s4, s5] ∧ Hid (v64 [s0, s1, s2, s3, s4, s5] = v64 [c0, c1, c2, c3, c4, h5] + v64 [d0, d1, d2, d3, d4, e5]) ∧ Blk wx b (us [s0, s1, s2, s3, s4, s5]) ∧ Hd S1 wx)
  case first =>
    go_region_held3 (Hd S1)
      (first
        | with_reducible exact KP1.out _ _ _ _ _ _ _ _ (by assumption) (by first | (right; simp; done) | (left; omega)) (by omega)
        | with_reducible exact KL1.out _ _ (by assumption) hb
        | with_reducible exact KA1.out _ _ (by assumption)
        | with_reducible exact KS1.out _ _ _ (by omega) (by assumption)
        | with_reducible exact KD1.out _ hS1
        | with_reducible exact KD1.out _ (KA1.out _ _ hS1)
        | with_reducible assumption)
      (first
        | (go_at_call 13; go_fit (num6 fC2); rintro e w' ⟨va, rfl, NA, hb⟩; (first | replace NB := NB.later hb | replace NB := NB.drew.later hb | replace NB := (NB.alloc _).later hb | skip); (first | replace BN := BN.later hb | with_reducible have BN := Wr6.later Wr6.new hb | with_reducible have BN := Wr6.later (Wr6.drew Wr6.new) hb | skip); have hlt := KN1.out _ (KL1.out _ _ (by assumption) hb))
        | (go_at_call 13; go_fit (num6 fD2); rintro e w' ⟨vb, rfl, NB, hb⟩; (first | replace NA := NA.later hb | replace NA := NA.drew.later hb | replace NA := (NA.alloc _).later hb | skip); (first | replace BN := BN.later hb | with_reducible have BN := Wr6.later Wr6.new hb | with_reducible have BN := Wr6.later (Wr6.drew Wr6.new) hb | skip); have hlt := KN1.out _ (KL1.out _ _ (by assumption) hb))
        | (go_at_call 12; (first | go_fit (radd_any _ _ _ _ _ NA NB (num_30 _ rfl fC2) (num_30 _ rfl fD2)) | go_fit (radd_any _ _ _ _ _ (NA.alloc _) (NB.alloc _) (num_30 _ rfl fC2) (num_30 _ rfl fD2))); rintro e w' ⟨vs, rfl, NS, hb⟩; (first | replace BN := BN.later hb | with_reducible have BN := Wr6.later Wr6.new hb | with_reducible have BN := Wr6.later (Wr6.drew Wr6.new) hb | skip); have hlt := KN1.out _ (KL1.out _ _ (by assumption) hb))
        | (go_at_call 11; (first | go_fit (to6_six NS) | go_fit (to6_six (NS.alloc _))); rintro e w' ⟨s0, s1, s2, s3, s4, s5, rfl, fS, hs, hb⟩; rw [sum_fits HC.out HD.out (Int.add_nonneg (v6_bound _ rfl fC2).1 (v6_bound _ rfl fD2).1)] at hs; have HS : Hid _ := hs; clear hs; (first | replace BN := BN.later hb | with_reducible have BN := Wr6.later Wr6.new hb | with_reducible have BN := Wr6.later (Wr6.drew Wr6.new) hb | skip); have hlt := KN1.out _ (KL1.out _ _ (by assumption) hb); (first | (obtain ⟨q0, q1, q2, q3, q4, q5, ⟨j0, j1, j2, j3, j4, j5⟩, ⟨n0, n1, n2, n3, n4, n5⟩⟩ := BN.cells) | skip)))
    all_goals
      go_wp2_with fail
      go_meet
      refine ⟨_, s0, s1, s2, s3, s4, s5, rfl, by omega, fS, HS, ?_, by with_reducible assumption⟩
      first
        | with_reducible exact Wr6.is BN
        | exact Blk.new w' (us [s0, s1, s2, s3, s4, s5]) 23 w'.heap.size rfl
  case rest =>
    obtain ⟨b14, s0, s1, s2, s3, s4, s5, rfl, hb14, fS, HS, B14, hc1⟩ := hcut
    obtain ⟨S2, hS2, KL2, KA2, KD2, KS2, KP2, KN2, KB2, KM2, KW2⟩ := held_mk (w0 := w) (W := wc) [(w.heap.size, [x0, x1, x2, x3, x4, x5]), (w.heap.size + 1, [y0, y1, y2, y3, y4, y5]), (w.heap.size + 1 + 1, [c0, c1, c2, c3, c4, h5]), (w.heap.size + 1 + 1 + 1, [d0, d1, d2, d3, d4, e5]), (bx, [m0, m1, m2, m3, m4, m5, i, t0, t1, t2, t3, t4, t5]), (b14, [s0, s1, s2, s3, s4, s5])] [] (by
      intro b X h
      simp only [List.mem_cons, List.not_mem_nil, or_false, Prod.mk.injEq] at h
      rcases h with ⟨rfl, rfl⟩ | ⟨rfl, rfl⟩ | ⟨rfl, rfl⟩ | ⟨rfl, rfl⟩ | ⟨rfl, rfl⟩ | ⟨rfl, rfl⟩
      · exact KM1.out _ _ _ hc1 (by simp)
      · exact KM1.out _ _ _ hc1 (by simp)
      · exact KM1.out _ _ _ hc1 (by simp)
      · exact KM1.out _ _ _ hc1 (by simp)
      · exact KM1.out _ _ _ hc1 (by simp)
      · exact B14) (by
      intro b h
      exact absurd h (by simp)) (by
      intro b X h
      simp) (KB1.out _ hc1)
    obtain ⟨c2a0, c2a1, c2a2, c2a3, c2a4, c2a5, c2a6⟩ := rule6 (S := Hd S2) (b := w.heap.size) (x0 := x0) (x1 := x1) (x2 := x2) (x3 := x3) (x4 := x4) (x5 := x5) (fun wx h => KM2.out wx _ _ h (by simp))
    obtain ⟨c2b0, c2b1, c2b2, c2b3, c2b4, c2b5, c2b6⟩ := rule6 (S := Hd S2) (b := w.heap.size + 1) (x0 := y0) (x1 := y1) (x2 := y2) (x3 := y3) (x4 := y4) (x5 := y5) (fun wx h => KM2.out wx _ _ h (by simp))
    obtain ⟨c2c0, c2c1, c2c2, c2c3, c2c4, c2c5, c2c6⟩ := rule6 (S := Hd S2) (b := w.heap.size + 1 + 1) (x0 := c0) (x1 := c1) (x2 := c2) (x3 := c3) (x4 := c4) (x5 := h5) (fun wx h => KM2.out wx _ _ h (by simp))
    obtain ⟨c2d0, c2d1, c2d2, c2d3, c2d4, c2d5, c2d6⟩ := rule6 (S := Hd S2) (b := w.heap.size + 1 + 1 + 1) (x0 := d0) (x1 := d1) (x2 := d2) (x3 := d3) (x4 := d4) (x5 := e5) (fun wx h => KM2.out wx _ _ h (by simp))
    obtain ⟨c2e0, c2e1, c2e2, c2e3, c2e4, c2e5, c2e6, c2e7, c2e8, c2e9, c2e10, c2e11, c2e12, c2e13⟩ := rule13 (S := Hd S2) (b := bx) (m0 := m0) (m1 := m1) (m2 := m2) (m3 := m3) (m4 := m4) (m5 := m5) (i := i) (t0 := t0) (t1 := t1) (t2 := t2) (t3 := t3) (t4 := t4) (t5 := t5) (fun wx h => KM2.out wx _ _ h (by simp))
    obtain ⟨c2f0, c2f1, c2f2, c2f3, c2f4, c2f5, c2f6⟩ := rule6 (S := Hd S2) (b := b14) (x0 := s0) (x1 := s1) (x2 := s2) (x3 := s3) (x4 := s4) (x5 := s5) (fun wx h => KM2.out wx _ _ h (by simp))
    clear hc1 B14
    clear c1a0 c1a1 c1a2 c1a3 c1a4 c1a5 c1a6 c1b0 c1b1 c1b2 c1b3 c1b4 c1b5 c1b6 c1c0 c1c1 c1c2 c1c3 c1c4 c1c5 c1c6 c1d0 c1d1 c1d2 c1d3 c1d4 c1d5 c1d6 c1e0 c1e1 c1e2 c1e3 c1e4 c1e5 c1e6 c1e7 c1e8 c1e9 c1e10 c1e11 c1e12 c1e13 hS1 KL1 KA1 KD1 KS1 KP1 KN1 KB1 KM1 KW1
    clear S1
    go_upto_region 6 with fail
    go_cut [15] (fun p wx => p = .bool true ∧ Hd S2 wx)
    case first =>
      go_region_held3 (Hd S2)
        (first
          | with_reducible exact KP2.out _ _ _ _ _ _ _ _ (by assumption) (by first | (right; simp; done) | (left; omega)) (by omega)
          | with_reducible exact KL2.out _ _ (by assumption) hb
          | with_reducible exact KA2.out _ _ (by assumption)
          | with_reducible exact KS2.out _ _ _ (by omega) (by assumption)
          | with_reducible exact KD2.out _ hS2
          | with_reducible exact KD2.out _ (KA2.out _ _ hS2)
          | with_reducible assumption)
        (first
          | (go_at_call 14; go_fit (exp6 fX fC2 HM.out); rintro e w' ⟨o0, o1, o2, o3, o4, o5, rfl, fU, hv, hb⟩; have HU : Hid _ := hv; clear hv)
          | (go_at_call 14; go_fit (exp6 fX fD2 HM.out); rintro e w' ⟨v0, v1, v2, v3, v4, v5, rfl, fV, hv, hb⟩; have HV : Hid _ := hv; clear hv)
          | (go_at_call 8; go_fit (mul6 fU fV HM.out); rintro e w' ⟨p0, p1, p2, p3, p4, p5, rfl, fP, hv, hb⟩; have HP : Hid _ := hv; clear hv)
          | (go_at_call 14; go_fit (exp6 fX fS HM.out); rintro e w' ⟨r0, r1, r2, r3, r4, r5, rfl, fR, hv, hb⟩; (have eq : [r0, r1, r2, r3, r4, r5] = [p0, p1, p2, p3, p4, p5] := (by refine v64_inj _ _ rfl fR fP ?_; exact pow_sum (v6_bound _ rfl fC2).1 (v6_bound _ rfl fD2).1 HS.out HU.out HV.out HP.out hv)); clear hv; simp only [List.cons.injEq, and_true] at eq; obtain ⟨rfl, rfl, rfl, rfl, rfl, rfl⟩ := eq; have q3 := eql_same r0 r1 r2 r3 r4 r5))
      all_goals
        go_wp2_with fail
        go_meet
        exact ⟨rfl, by with_reducible assumption⟩
    case rest =>
      clear hS2
      obtain ⟨rfl, hS2⟩ := hcut
      go_upto_region 7 with fail
      go_cut [16] (fun p wx => p = .bool true ∧ Hd S2 wx)
      case first =>
        go_region_held3 (Hd S2)
          (first
            | with_reducible exact KP2.out _ _ _ _ _ _ _ _ (by assumption) (by first | (right; simp; done) | (left; omega)) (by omega)
            | with_reducible exact KL2.out _ _ (by assumption) hb
            | with_reducible exact KA2.out _ _ (by assumption)
            | with_reducible exact KS2.out _ _ _ (by omega) (by assumption)
            | with_reducible exact KD2.out _ hS2
            | with_reducible exact KD2.out _ (KA2.out _ _ hS2)
            | with_reducible assumption)
          (first
            | (go_at_call 14; go_fit (exp6 fX fC2 HM.out); rintro e w' ⟨o0, o1, o2, o3, o4, o5, rfl, fU, hv, hb⟩; have HU : Hid _ := hv; clear hv)
            | (go_at_call 14; go_fit (exp6 fY fC2 HM.out); rintro e w' ⟨v0, v1, v2, v3, v4, v5, rfl, fV, hv, hb⟩; have HV : Hid _ := hv; clear hv)
            | (go_at_call 8; go_fit (mul6 fU fV HM.out); rintro e w' ⟨p0, p1, p2, p3, p4, p5, rfl, fP, hv, hb⟩; have HP : Hid _ := hv; clear hv)
            | (go_at_call 8; go_fit (mul6 fX fY HM.out); rintro e w' ⟨g0, g1, g2, g3, g4, g5, rfl, fG, hv, hb⟩; have HG : Hid _ := hv; clear hv)
            | (go_at_call 14; go_fit (exp6 fG fC2 HM.out); rintro e w' ⟨r0, r1, r2, r3, r4, r5, rfl, fR, hv, hb⟩; (have eq : [r0, r1, r2, r3, r4, r5] = [p0, p1, p2, p3, p4, p5] := (by refine v64_inj _ _ rfl fR fP ?_; exact pow_prod HU.out HV.out HP.out HG.out hv)); clear hv; simp only [List.cons.injEq, and_true] at eq; obtain ⟨rfl, rfl, rfl, rfl, rfl, rfl⟩ := eq; have q3 := eql_same r0 r1 r2 r3 r4 r5))
        all_goals
          go_wp2_with fail
          go_meet
          exact ⟨rfl, by with_reducible assumption⟩
      case rest =>
        obtain ⟨rfl, hc⟩ := hcut
        go_wp2_with fail
        go_ret
        exact ⟨rfl, KB2.out _ hc⟩
end Go.Proofs.Ytpenapcgpplghab
