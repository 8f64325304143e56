/- The law ModpReduces answers true: Montgomery's reduction of any number. -/
import Derived.Test.YtpenapcgpplghaaRows
import Derived.Test.YtpenapcgpplghaaMLaw
import Derived.Test.YtpenapcgpplghaaHeld
import Derived.Test.YtpenapcgpplghaaMTo
import Derived.Test.YtpenapcgpplghaaRRest
import Derived.Test.YtpenapcgpplghaaROf12
import Derived.Deep.RegionHeld3
import Derived.Deep.DeepCutAuto
import Derived.Deep.DeepFit
namespace Go.Proofs.Ytpenapcgpplghaa
open Go.RowKit

theorem of12z {p0 p1 p2 p3 p4 p5 p6 p7 p8 p9 p10 p11 : Int} {w : World} (fP : fits [p0, p1, p2, p3, p4, p5, p6, p7, p8, p9, p10, p11]) :
    Calls Try.prog 18 #[.agg #[.int .u64 p0, .int .u64 p1, .int .u64 p2, .int .u64 p3, .int .u64 p4, .int .u64 p5, .int .u64 p6, .int .u64 p7, .int .u64 p8, .int .u64 p9, .int .u64 p10, .int .u64 p11]] w fun e w' => ∃ v', e = .returned v' ∧ NumIs w' v' (v64 [p0, p1, p2, p3, p4, p5, p6, p7, p8, p9, p10, p11]) ∧ Below w.heap.size w w' :=
  of12_any [p0, p1, p2, p3, p4, p5, p6, p7, p8, p9, p10, p11] w rfl fP

theorem size_768 : (Try.prog.info? 41).map (·.size) = some 12 := by kernel_rfl

theorem rule12 {S : World → Prop} {b : Nat} {p0 p1 p2 p3 p4 p5 p6 p7 p8 p9 p10 p11 : Int} (h : ∀ wx, S wx → Blk wx b (us [p0, p1, p2, p3, p4, p5, p6, p7, p8, p9, p10, p11])) : ((∀ wx, S wx → wx.cell? ⟨b, 0, none⟩ = some (.int .u64 p0)) ∧ (∀ wx, S wx → wx.cell? ⟨b, 1, none⟩ = some (.int .u64 p1)) ∧ (∀ wx, S wx → wx.cell? ⟨b, 2, none⟩ = some (.int .u64 p2)) ∧ (∀ wx, S wx → wx.cell? ⟨b, 3, none⟩ = some (.int .u64 p3)) ∧ (∀ wx, S wx → wx.cell? ⟨b, 4, none⟩ = some (.int .u64 p4)) ∧ (∀ wx, S wx → wx.cell? ⟨b, 5, none⟩ = some (.int .u64 p5)) ∧ (∀ wx, S wx → wx.cell? ⟨b, 6, none⟩ = some (.int .u64 p6)) ∧ (∀ wx, S wx → wx.cell? ⟨b, 7, none⟩ = some (.int .u64 p7)) ∧ (∀ wx, S wx → wx.cell? ⟨b, 8, none⟩ = some (.int .u64 p8)) ∧ (∀ wx, S wx → wx.cell? ⟨b, 9, none⟩ = some (.int .u64 p9)) ∧ (∀ wx, S wx → wx.cell? ⟨b, 10, none⟩ = some (.int .u64 p10)) ∧ (∀ wx, S wx → wx.cell? ⟨b, 11, none⟩ = some (.int .u64 p11))) ∧ (∀ wx, S wx → b < wx.heap.size) :=
  ⟨⟨fun w s => (h w s).cell 0 _ rfl, fun w s => (h w s).cell 1 _ rfl, fun w s => (h w s).cell 2 _ rfl, fun w s => (h w s).cell 3 _ rfl, fun w s => (h w s).cell 4 _ rfl, fun w s => (h w s).cell 5 _ rfl, fun w s => (h w s).cell 6 _ rfl, fun w s => (h w s).cell 7 _ rfl, fun w s => (h w s).cell 8 _ rfl, fun w s => (h w s).cell 9 _ rfl, fun w s => (h w s).cell 10 _ rfl, fun w s => (h w s).cell 11 _ rfl⟩, fun w s => (h w s).lt⟩

theorem twelve_30 (X : List Int) (lX : X.length = 12) (fX : fits X) : v64 X < 4294967296 ^ 30 := by
  have b := (v64_bound X fX).2
  rw [lX, show (18446744073709551616 : Int) = 4294967296 ^ 2 by decide, ← Int.pow_mul] at b
  have : (4294967296 : Int) ^ (2 * 12) < 4294967296 ^ 30 := by decide
  omega

theorem shift_30 (X : List Int) (lX : X.length = 6) (fX : fits X) : v64 X * 18446744073709551616 ^ 6 < 4294967296 ^ 30 := by
  have b := v6_bound X lX fX
  rw [show (18446744073709551616 : Int) = 4294967296 ^ 2 by decide, ← Int.pow_mul] at b ⊢
  have h1 : v64 X * 4294967296 ^ (2 * 6) ≤ 4294967296 ^ (2 * 6) * 4294967296 ^ (2 * 6) := Int.mul_le_mul_of_nonneg_right (by omega) (by decide)
  have : (4294967296 : Int) ^ (2 * 6) * 4294967296 ^ (2 * 6) < 4294967296 ^ 30 := by decide
  omega

theorem top_num6 (w : World) : Calls Try.prog 12 #[] w fun e w' => ∃ v', e = .returned v' ∧ NumIs w' v' (18446744073709551616 ^ 6) ∧ Below w.heap.size w w' := top_any w

set_option maxRecDepth 100000 in
set_option maxHeartbeats 8000000 in
theorem law_modpReduces (p0 p1 p2 p3 p4 p5 p6 p7 p8 p9 p10 p11 k0 m1 m2 m3 m4 k5 : Int) (w : World) (fP : fits [p0, p1, p2, p3, p4, p5, p6, p7, p8, p9, p10, p11]) (fK : fits [k0, m1, m2, m3, m4, k5]) :
    Calls Try.prog 4 #[.agg #[.int .u64 p0, .int .u64 p1, .int .u64 p2, .int .u64 p3, .int .u64 p4, .int .u64 p5, .int .u64 p6, .int .u64 p7, .int .u64 p8, .int .u64 p9, .int .u64 p10, .int .u64 p11], .agg #[.int .u64 k0, .int .u64 m1, .int .u64 m2, .int .u64 m3, .int .u64 m4, .int .u64 k5]] w fun e w' => e = .returned (.bool true) ∧ Below w.heap.size w w' := by
  have B0 := (Blk.new w (us [p0, p1, p2, p3, p4, p5, p6, p7, p8, p9, p10, p11]) 41 w.heap.size rfl).alloc (.cells (us [k0, m1, m2, m3, m4, k5]).toArray 24)
  have B1 := Blk.new (w.alloc (.cells (us [p0, p1, p2, p3, p4, p5, p6, p7, p8, p9, p10, p11]).toArray 41)) (us [k0, m1, m2, m3, m4, k5]) 24 (w.heap.size + 1) (by simp)
  have bel : Below w.heap.size w ((w.alloc (.cells (us [p0, p1, p2, p3, p4, p5, p6, p7, p8, p9, p10, p11]).toArray 41)).alloc (.cells (us [k0, m1, m2, m3, m4, k5]).toArray 24)) := ((Below.refl _ _).alloc (Nat.le_refl _) _).alloc (by simp) _
  have q2 := iface_nil
  go_enter Try.func4, Try.ntmps4
  go_wp2_with fail
  simp only [us, List.map_cons, List.map_nil] at B0 B1 bel
  generalize (w.alloc (Obj.cells #[.int .u64 p0, .int .u64 p1, .int .u64 p2, .int .u64 p3, .int .u64 p4, .int .u64 p5, .int .u64 p6, .int .u64 p7, .int .u64 p8, .int .u64 p9, .int .u64 p10, .int .u64 p11] 41)).alloc (Obj.cells #[.int .u64 k0, .int .u64 m1, .int .u64 m2, .int .u64 m3, .int .u64 m4, .int .u64 k5] 24) = W at *
  refine (up_any _).mono ?_
  rintro e w1 ⟨rfl, hb⟩
  replace B0 := B0.later hb
  replace B1 := B1.later hb
  replace bel := below_step bel hb
  clear hb
  obtain ⟨e0, e1, e2, e3, e4, e5⟩ := B1.cells6
  go_wp2_with fail
  refine (modulus6 fK).mono ?_
  rintro e w2 ⟨m0, m5, rfl, fM, ho, hh, hb⟩
  clear e0 e1 e2 e3 e4 e5
  replace B0 := B0.later hb
  replace B1 := B1.later hb
  replace bel := below_step bel hb
  clear hb
  have ltm := B1.lt
  have e0 := B1.cell 0 _ rfl; have f0 := B1.frozen 0; have e1 := B1.cell 1 _ rfl; have f1 := B1.frozen 1; have e2 := B1.cell 2 _ rfl; have f2 := B1.frozen 2; have e3 := B1.cell 3 _ rfl; have f3 := B1.frozen 3; have e4 := B1.cell 4 _ rfl; have f4 := B1.frozen 4; have e5 := B1.cell 5 _ rfl; have f5 := B1.frozen 5
  go_wp2_with fail
  refine (new_ok fM ho hh).mono ?_
  rintro e w3 ⟨i, t0, t1, t2, t3, t4, t5, rfl, hm, hb⟩
  have HM : Hid _ := hm
  clear hm ho hh e0 e1 e2 e3 e4 e5 f0 f1 f2 f3 f4 f5
  replace B0 := (blk_far6 B0 (by omega)).later hb
  replace B1 : Blk w3 (w.heap.size + 1) (us [m0, m1, m2, m3, m4, m5]) := (blk_put6 (x0 := k0) (x1 := m1) (x2 := m2) (x3 := m3) (x4 := m4) (x5 := k5) B1).later hb
  replace bel := below_step (below_put6 bel (by omega)) hb
  clear hb ltm
  have ltc := B1.lt
  replace B0 := B0.alloc (.cells (us [m0, m1, m2, m3, m4, m5, i, t0, t1, t2, t3, t4, t5]).toArray 27)
  replace B1 := B1.alloc (.cells (us [m0, m1, m2, m3, m4, m5, i, t0, t1, t2, t3, t4, t5]).toArray 27)
  have B2 := Blk.new w3 (us [m0, m1, m2, m3, m4, m5, i, t0, t1, t2, t3, t4, t5]) 27 w3.heap.size rfl
  replace bel := below_alloc (o := .cells (us [m0, m1, m2, m3, m4, m5, i, t0, t1, t2, t3, t4, t5]).toArray 27) bel
  go_upto_region 4 with fail
  simp only [us, List.map_cons, List.map_nil] at B0 B1 B2 bel
  generalize w3.alloc (Obj.cells #[.int .u64 m0, .int .u64 m1, .int .u64 m2, .int .u64 m3, .int .u64 m4, .int .u64 m5, .int .u64 i, .int .u64 t0, .int .u64 t1, .int .u64 t2, .int .u64 t3, .int .u64 t4, .int .u64 t5] 27) = W3 at *
  obtain ⟨bx, hbx⟩ : ∃ b, b = w3.heap.size := ⟨_, rfl⟩
  rw [← hbx] at B2 ltc ⊢
  clear hbx
  obtain ⟨S1, hS1, KL1, KA1, KD1, KS1, KP1, KN1, KB1, KM1, KW1⟩ := held_mk (w0 := w) (W := W3) [(w.heap.size, [p0, p1, p2, p3, p4, p5, p6, p7, p8, p9, p10, p11]), (w.heap.size + 1, [m0, m1, m2, m3, m4, m5]), (bx, [m0, m1, m2, m3, m4, m5, i, t0, t1, t2, t3, t4, t5])] [] (by
    intro b X h
    simp only [List.mem_cons, List.not_mem_nil, or_false, Prod.mk.injEq] at h
    rcases h with ⟨rfl, rfl⟩ | ⟨rfl, rfl⟩ | ⟨rfl, rfl⟩
    · exact B0
    · exact B1
    · exact B2) (by
    intro b h
    exact absurd h (by simp)) (by
    intro b X h
    simp) bel
  obtain ⟨⟨c1a0, c1a1, c1a2, c1a3, c1a4, c1a5, c1a6, c1a7, c1a8, c1a9, c1a10, c1a11⟩, c1a12⟩ := rule12 (S := Hd S1) (b := w.heap.size) (p0 := p0) (p1 := p1) (p2 := p2) (p3 := p3) (p4 := p4) (p5 := p5) (p6 := p6) (p7 := p7) (p8 := p8) (p9 := p9) (p10 := p10) (p11 := p11) (fun wx h => KM1.out wx _ _ h (by simp))
  obtain ⟨c1b0, c1b1, c1b2, c1b3, c1b4, c1b5, c1b6⟩ := rule6 (S := Hd S1) (b := w.heap.size + 1) (x0 := m0) (x1 := m1) (x2 := m2) (x3 := m3) (x4 := m4) (x5 := m5) (fun wx h => KM1.out wx _ _ h (by simp))
  obtain ⟨c1c0, c1c1, c1c2, c1c3, c1c4, c1c5, c1c6, c1c7, c1c8, c1c9, c1c10, c1c11, c1c12, c1c13⟩ := rule13 (S := Hd S1) (b := bx) (m0 := m0) (m1 := m1) (m2 := m2) (m3 := m3) (m4 := m4) (m5 := m5) (i := i) (t0 := t0) (t1 := t1) (t2 := t2) (t3 := t3) (t4 := t4) (t5 := t5) (fun wx h => KM1.out wx _ _ h (by simp))
  clear B0 B1 B2 bel
  go_wp2_with fail
  refine (reduce12 fP HM.out).mono ?_
  rintro e w4 ⟨z0, z1, z2, z3, z4, z5, rfl, fZ, hlt, hz, hb⟩
  have HLT : Hid _ := hlt
  have HZ : Hid _ := hz
  have hc := KL1.out _ _ hS1 hb
  clear hb hlt hz
  go_wp2_with fail
  refine (num6 fZ).mono ?_
  rintro e w5 ⟨va, rfl, NA, hb⟩
  clear hS1
  have hS1 := KL1.out _ _ hc hb
  clear hb hc
  have NA0 := NA
  clear NA0
  go_upto_region 5 with fail
  go_cut [9] (fun p wx => NumIs wx p ((v64 [z0, z1, z2, z3, z4, z5] * 18446744073709551616 ^ 6) % v64 [m0, m1, m2, m3, m4, m5]) ∧ NumIs wx va (v64 [z0, z1, z2, z3, z4, z5]) ∧ Hd S1 wx)
  case first =>
    go_region_held3 (Hd S1)
      (first
        | with_reducible exact KP1.out _ _ _ _ _ _ _ _ (by assumption) (by first | (right; simp; done) | (left; omega)) (by omega)
        | with_reducible exact KL1.out _ _ (by assumption) hb
        | with_reducible exact KA1.out _ _ (by assumption)
        | with_reducible exact KS1.out _ _ _ (by omega) (by assumption)
        | with_reducible exact KD1.out _ hS1
        | with_reducible exact KD1.out _ (KA1.out _ _ hS1)
        | with_reducible assumption)
      (first
        | (go_at_call 15; go_fit (num6 fM); rintro e w' ⟨vm, rfl, NM, hb⟩; (first | replace NA := NA.later hb | replace NA := NA.drew.later hb | skip); (first | replace NT := NT.later hb | replace NT := NT.drew.later hb | skip); (first | replace NS := NS.later hb | replace NS := NS.drew.later hb | skip))
        | (go_at_call 12; refine (top_num6 _).mono ?_; rintro e w' ⟨vt, rfl, NT, hb⟩; (first | replace NA := NA.later hb | replace NA := NA.drew.later hb | skip); (first | replace NM := NM.later hb | replace NM := NM.drew.later hb | skip))
        | (go_at_call 11; go_fit (rmul_any _ _ _ _ _ NA NT (num_30 _ rfl fZ) R_lt); rintro e w' ⟨vs, rfl, NS, hb⟩; (first | replace NA := NA.later hb | replace NA := NA.drew.later hb | skip); (first | replace NM := NM.later hb | replace NM := NM.drew.later hb | skip))
        | (go_at_call 14; go_fit (rrest_any _ _ _ _ _ NS NM (shift_30 _ rfl fZ) (mod_pos HM.out) (v6_bound _ rfl fM).2); rintro e w' ⟨vr, rfl, NR, hb⟩; (first | replace NA := NA.later hb | replace NA := NA.drew.later hb | skip)))
    all_goals
      go_wp2_with fail
      go_meet
      exact ⟨NR, by assumption, by with_reducible assumption⟩
  case rest =>
    obtain ⟨N9, NA, hS1⟩ := hcut
    have hu := Try.underlying41
    have hi := size_768
    go_upto_region 6 with fail
    go_cut [10] (fun p wx => NumIs wx p (v64 [p0, p1, p2, p3, p4, p5, p6, p7, p8, p9, p10, p11] % v64 [m0, m1, m2, m3, m4, m5]) ∧ NumIs wx va (v64 [z0, z1, z2, z3, z4, z5]) ∧ NumIs wx u9 ((v64 [z0, z1, z2, z3, z4, z5] * 18446744073709551616 ^ 6) % v64 [m0, m1, m2, m3, m4, m5]) ∧ Hd S1 wx)
    case first =>
      go_region_held3 (fun wx => wx.rangeAt w.heap.size 0 [.int .u64 p0, .int .u64 p1, .int .u64 p2, .int .u64 p3, .int .u64 p4, .int .u64 p5, .int .u64 p6, .int .u64 p7, .int .u64 p8, .int .u64 p9, .int .u64 p10, .int .u64 p11] ∧ Hd S1 wx)
        (first
          | (go_split_ands; with_reducible exact ⟨range_later (by assumption) hb, KL1.out _ _ (by assumption) hb⟩)
          | exact ⟨range_drew (range_blk (KM1.out _ _ [p0, p1, p2, p3, p4, p5, p6, p7, p8, p9, p10, p11] hS1 (by simp))), KD1.out _ hS1⟩)
        (first
          | (go_at_call 15; go_fit (num6 fM); rintro e w' ⟨vm, rfl, NM, hb⟩; (first | replace NA := NA.later hb | replace NA := NA.drew.later hb | skip); (first | replace NT := NT.later hb | replace NT := NT.drew.later hb | skip); (first | replace N9 := N9.later hb | replace N9 := N9.drew.later hb | skip))
          | (go_at_call 18; go_fit (of12z fP); rintro e w' ⟨vt, rfl, NT, hb⟩; (first | replace NA := NA.later hb | replace NA := NA.drew.later hb | skip); (first | replace NM := NM.later hb | replace NM := NM.drew.later hb | skip); (first | replace N9 := N9.later hb | replace N9 := N9.drew.later hb | skip))
          | (go_at_call 14; go_fit (rrest_any _ _ _ _ _ NT NM (twelve_30 _ rfl fP) (mod_pos HM.out) (v6_bound _ rfl fM).2); rintro e w' ⟨vr, rfl, NR, hb⟩; (first | replace NA := NA.later hb | replace NA := NA.drew.later hb | skip); (first | replace N9 := N9.later hb | replace N9 := N9.drew.later hb | skip)))
      all_goals go_split_ands
      all_goals
        go_wp2_with fail
        go_meet
        exact ⟨NR, NA, N9, by with_reducible assumption⟩
    case rest =>
      obtain ⟨N10, NA, N9, hc⟩ := hcut
      have e9 : Hid ((v64 [z0, z1, z2, z3, z4, z5] * 18446744073709551616 ^ 6) % v64 [m0, m1, m2, m3, m4, m5] = v64 [p0, p1, p2, p3, p4, p5, p6, p7, p8, p9, p10, p11] % v64 [m0, m1, m2, m3, m4, m5]) := by show _ = _; rw [Int.mul_comm]; exact HZ.out
      rw [e9.out] at N9
      clear hu hi
      go_wp2_with fail
      refine (num6 fM).mono ?_
      rintro e w6 ⟨vm, rfl, NM, hb⟩
      replace hc := KL1.out _ _ hc hb
      replace NA := NA.later hb
      replace N9 := N9.later hb
      replace N10 := N10.later hb
      clear hb
      go_wp2_with fail
      refine (cmp_any _ _ _ _ _ NA NM).mono ?_
      rintro e w7 ⟨rfl, hb⟩
      rw [← cmpN_lt HLT.out]
      replace hc := KL1.out _ _ hc hb
      replace N9 := N9.later hb
      replace N10 := N10.later hb
      clear hb
      go_wp2_with fail
      refine (cmp_any _ _ _ _ _ N9 N10).mono ?_
      rintro e w8 ⟨rfl, hb⟩
      rw [← cmpN_eq rfl]
      replace hc := KL1.out _ _ hc hb
      clear hb
      go_wp2_with fail
      go_ret
      exact ⟨rfl, KB1.out _ hc⟩
end Go.Proofs.Ytpenapcgpplghaa
