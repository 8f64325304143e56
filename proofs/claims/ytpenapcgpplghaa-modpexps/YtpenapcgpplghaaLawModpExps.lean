/- The law ModpExps answers true: the rest of any power. -/
import Derived.Test.YtpenapcgpplghaaRows
import Derived.Test.YtpenapcgpplghaaMLaw
import Derived.Test.YtpenapcgpplghaaMExp
import Derived.Test.YtpenapcgpplghaaHeld
import Derived.Test.YtpenapcgpplghaaMTo
import Derived.Test.YtpenapcgpplghaaRExp
import Derived.Deep.RegionHeld3
import Derived.Deep.DeepCutAuto
import Derived.Deep.DeepFit
namespace Go.Proofs.Ytpenapcgpplghaa
open Go.RowKit

theorem num_40 (X : List Int) (lX : X.length = 6) (fX : fits X) : v64 X < 4294967296 ^ 40 := by
  have b := num_30 X lX fX
  have : (4294967296 : Int) ^ 30 < 4294967296 ^ 40 := by decide
  omega

set_option maxRecDepth 100000 in
set_option maxHeartbeats 8000000 in
theorem law_modpExps (x0 x1 x2 x3 x4 x5 y0 y1 y2 y3 y4 y5 k0 m1 m2 m3 m4 k5 : Int) (w : World) (fX : fits [x0, x1, x2, x3, x4, x5]) (fY : fits [y0, y1, y2, y3, y4, y5]) (fK : fits [k0, m1, m2, m3, m4, k5]) :
    Calls Try.prog 8 #[.agg #[.int .u64 x0, .int .u64 x1, .int .u64 x2, .int .u64 x3, .int .u64 x4, .int .u64 x5], .agg #[.int .u64 y0, .int .u64 y1, .int .u64 y2, .int .u64 y3, .int .u64 y4, .int .u64 y5], .agg #[.int .u64 k0, .int .u64 m1, .int .u64 m2, .int .u64 m3, .int .u64 m4, .int .u64 k5]] w fun e w' => e = .returned (.bool true) ∧ Below w.heap.size w w' := by
  have B0 := ((Blk.new w (us [x0, x1, x2, x3, x4, x5]) 24 (w.heap.size) rfl).alloc (.cells (us [y0, y1, y2, y3, y4, y5]).toArray 24)).alloc (.cells (us [k0, m1, m2, m3, m4, k5]).toArray 24)
  have B1 := (Blk.new (w.alloc (.cells (us [x0, x1, x2, x3, x4, x5]).toArray 24)) (us [y0, y1, y2, y3, y4, y5]) 24 (w.heap.size + 1) (by simp)).alloc (.cells (us [k0, m1, m2, m3, m4, k5]).toArray 24)
  have B2 := Blk.new ((w.alloc (.cells (us [x0, x1, x2, x3, x4, x5]).toArray 24)).alloc (.cells (us [y0, y1, y2, y3, y4, y5]).toArray 24)) (us [k0, m1, m2, m3, m4, k5]) 24 (w.heap.size + 1 + 1) (by simp)
  have bel : Below w.heap.size w (((w.alloc (.cells (us [x0, x1, x2, x3, x4, x5]).toArray 24)).alloc (.cells (us [y0, y1, y2, y3, y4, y5]).toArray 24)).alloc (.cells (us [k0, m1, m2, m3, m4, k5]).toArray 24)) := (((Below.refl _ _).alloc (Nat.le_refl _) _).alloc (by simp) _).alloc (by simp; omega) _
  have q2 := iface_nil
  go_enter Try.func8, Try.ntmps8
  go_wp2_with fail
  simp only [us, List.map_cons, List.map_nil] at B0 B1 B2 bel
  generalize ((w.alloc (Obj.cells #[.int .u64 x0, .int .u64 x1, .int .u64 x2, .int .u64 x3, .int .u64 x4, .int .u64 x5] 24)).alloc (Obj.cells #[.int .u64 y0, .int .u64 y1, .int .u64 y2, .int .u64 y3, .int .u64 y4, .int .u64 y5] 24)).alloc (Obj.cells #[.int .u64 k0, .int .u64 m1, .int .u64 m2, .int .u64 m3, .int .u64 m4, .int .u64 k5] 24) = W at *
  refine (up_any _).mono ?_
  rintro e w1 ⟨rfl, hb⟩
  replace B0 := B0.later hb
  replace B1 := B1.later hb
  replace B2 := B2.later hb
  replace bel := below_step bel hb
  clear hb
  obtain ⟨e0, e1, e2, e3, e4, e5⟩ := B2.cells6
  go_wp2_with fail
  refine (modulus6 fK).mono ?_
  rintro e w2 ⟨m0, m5, rfl, fM, ho, hh, hb⟩
  clear e0 e1 e2 e3 e4 e5
  replace B0 := B0.later hb
  replace B1 := B1.later hb
  replace B2 := B2.later hb
  replace bel := below_step bel hb
  clear hb
  have ltm := B2.lt
  have e0 := B2.cell 0 _ rfl; have f0 := B2.frozen 0; have e1 := B2.cell 1 _ rfl; have f1 := B2.frozen 1; have e2 := B2.cell 2 _ rfl; have f2 := B2.frozen 2; have e3 := B2.cell 3 _ rfl; have f3 := B2.frozen 3; have e4 := B2.cell 4 _ rfl; have f4 := B2.frozen 4; have e5 := B2.cell 5 _ rfl; have f5 := B2.frozen 5
  go_wp2_with fail
  refine (new_ok fM ho hh).mono ?_
  rintro e w3 ⟨i, t0, t1, t2, t3, t4, t5, rfl, hm, hb⟩
  have HM : Hid _ := hm
  clear hm ho hh e0 e1 e2 e3 e4 e5 f0 f1 f2 f3 f4 f5
  replace B0 := (blk_far6 B0 (by omega)).later hb
  replace B1 := (blk_far6 B1 (by omega)).later hb
  replace B2 : Blk w3 (w.heap.size + 1 + 1) (us [m0, m1, m2, m3, m4, m5]) := (blk_put6 (x0 := k0) (x1 := m1) (x2 := m2) (x3 := m3) (x4 := m4) (x5 := k5) B2).later hb
  replace bel := below_step (below_put6 bel (by omega)) hb
  clear hb ltm
  have ltc := B2.lt
  replace B0 := B0.alloc (.cells (us [m0, m1, m2, m3, m4, m5, i, t0, t1, t2, t3, t4, t5]).toArray 27)
  replace B1 := B1.alloc (.cells (us [m0, m1, m2, m3, m4, m5, i, t0, t1, t2, t3, t4, t5]).toArray 27)
  replace B2 := B2.alloc (.cells (us [m0, m1, m2, m3, m4, m5, i, t0, t1, t2, t3, t4, t5]).toArray 27)
  have B3 := Blk.new w3 (us [m0, m1, m2, m3, m4, m5, i, t0, t1, t2, t3, t4, t5]) 27 w3.heap.size rfl
  replace bel := below_alloc (o := .cells (us [m0, m1, m2, m3, m4, m5, i, t0, t1, t2, t3, t4, t5]).toArray 27) bel
  go_wp2_with fail
  simp only [us, List.map_cons, List.map_nil] at B0 B1 B2 B3 bel
  generalize w3.alloc (Obj.cells #[.int .u64 m0, .int .u64 m1, .int .u64 m2, .int .u64 m3, .int .u64 m4, .int .u64 m5, .int .u64 i, .int .u64 t0, .int .u64 t1, .int .u64 t2, .int .u64 t3, .int .u64 t4, .int .u64 t5] 27) = W3 at *
  obtain ⟨bx, hbx⟩ : ∃ b, b = w3.heap.size := ⟨_, rfl⟩
  rw [← hbx] at B3 ltc ⊢
  clear hbx
  obtain ⟨S1, hS1, KL1, KA1, KD1, KS1, KP1, KN1, KB1, KM1, KW1⟩ := held_mk (w0 := w) (W := W3) [(w.heap.size, [x0, x1, x2, x3, x4, x5]), (w.heap.size + 1, [y0, y1, y2, y3, y4, y5]), (w.heap.size + 1 + 1, [m0, m1, m2, m3, m4, m5]), (bx, [m0, m1, m2, m3, m4, m5, i, t0, t1, t2, t3, t4, t5])] [] (by
    intro b X h
    simp only [List.mem_cons, List.not_mem_nil, or_false, Prod.mk.injEq] at h
    rcases h with ⟨rfl, rfl⟩ | ⟨rfl, rfl⟩ | ⟨rfl, rfl⟩ | ⟨rfl, rfl⟩
    · exact B0
    · exact B1
    · exact B2
    · exact B3) (by
    intro b h
    exact absurd h (by simp)) (by
    intro b X h
    simp) bel
  obtain ⟨c1a0, c1a1, c1a2, c1a3, c1a4, c1a5, c1a6⟩ := rule6 (S := Hd S1) (b := w.heap.size) (x0 := x0) (x1 := x1) (x2 := x2) (x3 := x3) (x4 := x4) (x5 := x5) (fun wx h => KM1.out wx _ _ h (by simp))
  obtain ⟨c1b0, c1b1, c1b2, c1b3, c1b4, c1b5, c1b6⟩ := rule6 (S := Hd S1) (b := w.heap.size + 1) (x0 := y0) (x1 := y1) (x2 := y2) (x3 := y3) (x4 := y4) (x5 := y5) (fun wx h => KM1.out wx _ _ h (by simp))
  obtain ⟨c1c0, c1c1, c1c2, c1c3, c1c4, c1c5, c1c6⟩ := rule6 (S := Hd S1) (b := w.heap.size + 1 + 1) (x0 := m0) (x1 := m1) (x2 := m2) (x3 := m3) (x4 := m4) (x5 := m5) (fun wx h => KM1.out wx _ _ h (by simp))
  obtain ⟨c1d0, c1d1, c1d2, c1d3, c1d4, c1d5, c1d6, c1d7, c1d8, c1d9, c1d10, c1d11, c1d12, c1d13⟩ := rule13 (S := Hd S1) (b := bx) (m0 := m0) (m1 := m1) (m2 := m2) (m3 := m3) (m4 := m4) (m5 := m5) (i := i) (t0 := t0) (t1 := t1) (t2 := t2) (t3 := t3) (t4 := t4) (t5 := t5) (fun wx h => KM1.out wx _ _ h (by simp))
  clear B0 B1 B2 B3 bel
  go_cut [10] (fun p wx => NumIs wx p ((v64 [x0, x1, x2, x3, x4, x5]) ^ (v64 [y0, y1, y2, y3, y4, y5]).toNat % v64 [m0, m1, m2, m3, m4, m5]) ∧ Hd S1 wx)
  case first =>
    go_region_held3 (Hd S1)
      (first
        | with_reducible exact KP1.out _ _ _ _ _ _ _ _ (by assumption) (by first | (right; simp; done) | (left; omega)) (by omega)
        | with_reducible exact KL1.out _ _ (by assumption) hb
        | with_reducible exact KA1.out _ _ (by assumption)
        | with_reducible exact KS1.out _ _ _ (by omega) (by assumption)
        | with_reducible exact KD1.out _ hS1
        | with_reducible exact KD1.out _ (KA1.out _ _ hS1)
        | with_reducible assumption)
      (first
        | (go_at_call 15; go_fit (num6 fX); rintro e w' ⟨va, rfl, NA, hb⟩; (first | replace NB := NB.later hb | replace NB := NB.drew.later hb | skip); (first | replace NM := NM.later hb | replace NM := NM.drew.later hb | skip))
        | (go_at_call 15; go_fit (num6 fY); rintro e w' ⟨vb, rfl, NB, hb⟩; (first | replace NA := NA.later hb | replace NA := NA.drew.later hb | skip); (first | replace NM := NM.later hb | replace NM := NM.drew.later hb | skip))
        | (go_at_call 15; go_fit (num6 fM); rintro e w' ⟨vm, rfl, NM, hb⟩; (first | replace NA := NA.later hb | replace NA := NA.drew.later hb | skip); (first | replace NB := NB.later hb | replace NB := NB.drew.later hb | skip))
        | (go_at_call 25; go_fit (rexp_any _ _ _ _ _ _ _ NA NB NM (num_30 _ rfl fX) (num_40 _ rfl fY) (mod_pos HM.out) (v6_bound _ rfl fM).2); rintro e w' ⟨vr, rfl, NR, hb⟩))
    all_goals
      go_wp2_with fail
      go_meet
      exact ⟨NR, by with_reducible assumption⟩
  case rest =>
    obtain ⟨NR, hc⟩ := hcut
    go_wp2_with fail
    refine (exp6 fX fY HM.out).mono ?_
    rintro e w4 ⟨z0, z1, z2, z3, z4, z5, rfl, fZ, hz, hb⟩
    replace NR := NR.later hb
    replace hc := KL1.out _ _ hc hb
    have HZ : Hid _ := hz
    clear hz hb
    have q1 := eql_same z0 z1 z2 z3 z4 z5
    go_wp2_with fail
    refine (to6_is NR fZ HZ.out).mono ?_
    rintro e w5 ⟨rfl, hb⟩
    replace hc := KL1.out _ _ hc hb
    clear hb
    go_wp2_with fail
    go_ret
    exact ⟨rfl, KB1.out _ hc⟩
end Go.Proofs.Ytpenapcgpplghaa
