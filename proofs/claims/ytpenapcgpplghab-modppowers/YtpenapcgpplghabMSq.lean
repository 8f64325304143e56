/- modp's squareOfR: 2^768 by a modulus, by doubling. -/
import Derived.Test.YtpenapcgpplghabRows
import Derived.Test.YtpenapcgpplghabMNum
import Derived.Test.YtpenapcgpplghabMOff
namespace Go.Proofs.Ytpenapcgpplghab
open Go.RowKit

theorem sq_start (M S : List Int) (k : Int) (lM : M.length = 6) (lS : S.length = 6) (fM : fits M) (fS : fits S) (k0 : 0 ≤ k) (k1 : k ≤ 1) (hb : 18446744073709551616 ^ 6 ≤ 2 * v64 M) (ho : v64 M % 2 = 1)
    (h : v64 S - k * 18446744073709551616 ^ 6 = v64 [0, 0, 0, 0, 0, 0] - v64 M) : v64 S = (18446744073709551616 ^ 6 * 2 ^ 0) % v64 M := by
  have bM := v6_bound M lM fM
  have bS := v6_bound S lS fS
  rw [← dbl_start _ hb ho bM.2]
  have e : v64 [0, 0, 0, 0, 0, 0] = 0 := by simp [v64, pv]
  rw [e] at h
  generalize (18446744073709551616 : Int) ^ 6 = R at *
  generalize v64 M = X at *
  generalize v64 S = Y at *
  have hk : k = 0 ∨ k = 1 := by omega
  rcases hk with rfl | rfl <;> omega

set_option maxRecDepth 100000 in
set_option maxHeartbeats 1000000 in
theorem sq_any {m0 m1 m2 m3 m4 m5 : Int} {w : World} (fM : fits [m0, m1, m2, m3, m4, m5]) (hM : 18446744073709551616 ^ 6 ≤ 2 * v64 [m0, m1, m2, m3, m4, m5]) (ho : v64 [m0, m1, m2, m3, m4, m5] % 2 = 1) :
    Calls Try.prog 17 #[.agg #[.int .u64 m0, .int .u64 m1, .int .u64 m2, .int .u64 m3, .int .u64 m4, .int .u64 m5]] w fun e w' => ∃ z0 z1 z2 z3 z4 z5 : Int, e = .returned (.agg #[.int .u64 z0, .int .u64 z1, .int .u64 z2, .int .u64 z3, .int .u64 z4, .int .u64 z5]) ∧ fits [z0, z1, z2, z3, z4, z5] ∧ v64 [z0, z1, z2, z3, z4, z5] = (18446744073709551616 ^ 6 * 18446744073709551616 ^ 6) % v64 [m0, m1, m2, m3, m4, m5] ∧ Below w.heap.size w w' := by
  have B0 := (Blk.new w (us [m0, m1, m2, m3, m4, m5]) 24 w.heap.size rfl).alloc (.cells (us [0, 0, 0, 0, 0, 0]).toArray 24)
  have B1 := Blk.new (w.alloc (.cells (us [m0, m1, m2, m3, m4, m5]).toArray 24)) (us [0, 0, 0, 0, 0, 0]) 24 (w.heap.size + 1) (by simp)
  have bel : Below w.heap.size w ((w.alloc (.cells (us [m0, m1, m2, m3, m4, m5]).toArray 24)).alloc (.cells (us [0, 0, 0, 0, 0, 0]).toArray 24)) := ((Below.refl _ _).alloc (Nat.le_refl _) _).alloc (by simp) _
  have fz : fits [0, 0, 0, 0, 0, 0] := fits_zero 6
  have HM : Hid _ := hM
  have HO : Hid _ := ho
  have pos : Hid (0 < v64 [m0, m1, m2, m3, m4, m5]) := by
    have := v6_bound [m0, m1, m2, m3, m4, m5] rfl fM
    show _ < _
    generalize v64 [m0, m1, m2, m3, m4, m5] = X at *
    omega
  clear hM ho
  go_enter Try.func17, Try.ntmps17
  go_wp2_with fail
  simp only [us, List.map_cons, List.map_nil] at B0 B1 bel
  generalize (w.alloc (Obj.cells #[.int .u64 m0, .int .u64 m1, .int .u64 m2, .int .u64 m3, .int .u64 m4, .int .u64 m5] 24)).alloc (Obj.cells #[.int .u64 0, .int .u64 0, .int .u64 0, .int .u64 0, .int .u64 0, .int .u64 0] 24) = W at *
  have lt1 := B1.lt
  refine (sub6 fz fM).mono ?_
  rintro e w1 ⟨s0, s1, s2, s3, s4, s5, k, rfl, fS, k0, k1, hs, hb⟩
  have H0 : Hid _ := sq_start [m0, m1, m2, m3, m4, m5] [s0, s1, s2, s3, s4, s5] k rfl rfl fM fS k0 k1 HM.out HO.out hs
  replace B0 := (B0.later hb).alloc (.cells (us [s0, s1, s2, s3, s4, s5]).toArray 24)
  replace B1 := (B1.later hb).alloc (.cells (us [s0, s1, s2, s3, s4, s5]).toArray 24)
  have B2 := Blk.new w1 (us [s0, s1, s2, s3, s4, s5]) 24 w1.heap.size rfl
  have lt2 := hb.size
  replace bel := (bel.trans (hb.mono (by omega))).alloc (by omega) (.cells (us [s0, s1, s2, s3, s4, s5]).toArray 24)
  have ltb : w.heap.size + 1 < w1.heap.size := by omega
  clear hs hb lt1 k0 k1
  obtain ⟨b, hbb⟩ : ∃ b, b = w1.heap.size := ⟨_, rfl⟩
  rw [← hbb] at ltb
  rw [← hbb] at B2
  go_wp2_with fail
  rw [← hbb]
  simp only [us, List.map_cons, List.map_nil] at B0 B1 B2 bel
  generalize w1.alloc (Obj.cells #[.int .u64 s0, .int .u64 s1, .int .u64 s2, .int .u64 s3, .int .u64 s4, .int .u64 s5] 24) = W1 at *
  clear hbb lt2
  go_loopw [11] (fun i wr => ∃ (k : Nat) (p0 p1 p2 p3 p4 p5 : Int), k ≤ 384 ∧ i = .int .i64 k ∧ fits [p0, p1, p2, p3, p4, p5] ∧ Hid (v64 [p0, p1, p2, p3, p4, p5] = (18446744073709551616 ^ 6 * 2 ^ k) % v64 [m0, m1, m2, m3, m4, m5]) ∧ Blk wr w.heap.size (us [m0, m1, m2, m3, m4, m5]) ∧ Blk wr (w.heap.size + 1) (us [0, 0, 0, 0, 0, 0]) ∧ Blk wr b (us [p0, p1, p2, p3, p4, p5]) ∧ Below w.heap.size w wr)
    (fun i _ => 384 - (intOf i).toNat)
  case atStart => exact ⟨0, s0, s1, s2, s3, s4, s5, by omega, rfl, fS, H0, B0, B1, B2, bel⟩
  case round =>
    clear B0 B1 B2 bel H0
    obtain ⟨k, p0, p1, p2, p3, p4, p5, hk, rfl, fP, HP, B0, B1, B2, bel⟩ := hrel
    by_cases hlt : k < 384
    · have g1 : (k : Int) < 384 := by omega
      have lt0 := B0.lt
      have lt2 := B2.lt
      obtain ⟨c0, c1, c2, c3, c4, c5⟩ := B0.cells6
      obtain ⟨d0, d1, d2, d3, d4, d5⟩ := B2.cells6
      have hP : v64 [p0, p1, p2, p3, p4, p5] < v64 [m0, m1, m2, m3, m4, m5] := by
        rw [HP.out]; exact Int.emod_lt_of_pos _ pos.out
      have HQ : Hid _ := hP
      clear hP
      go_wp2_with fail
      refine (addRests6 fP fP fM HQ.out HQ.out).mono ?_
      rintro e w2 ⟨z0, z1, z2, z3, z4, z5, rfl, fZ, hz, hb⟩
      rw [dbl_step _ _ _ k HP.out] at hz
      have HZ : Hid _ := hz
      replace B0 := B0.later hb
      replace B1 := B1.later hb
      replace B2 := B2.later hb
      replace bel := bel.trans (hb.mono (by omega))
      clear hz hb c0 c1 c2 c3 c4 c5 d0 d1 d2 d3 d4 d5 lt0 lt2
      have lt2 := B2.lt
      have c0 := B2.cell 0 _ rfl; have f0 := B2.frozen 0; have c1 := B2.cell 1 _ rfl; have f1 := B2.frozen 1; have c2 := B2.cell 2 _ rfl; have f2 := B2.frozen 2; have c3 := B2.cell 3 _ rfl; have f3 := B2.frozen 3; have c4 := B2.cell 4 _ rfl; have f4 := B2.frozen 4; have c5 := B2.cell 5 _ rfl; have f5 := B2.frozen 5
      go_wp2_with fail
      go_roundw
      case rel => exact ⟨k + 1, z0, z1, z2, z3, z4, z5, by omega, by go_num, fZ, HZ, blk_far6 B0 (by omega), blk_far6 B1 (by omega), blk_put6 B2, below_put6 bel (by omega)⟩
      case measure => simp [intOf]; omega
    · have g1 : (384 : Int) ≤ (k : Int) := by omega
      have hk6 : k = 384 := by omega
      rw [hk6, r_pow] at HP
      obtain ⟨d0, d1, d2, d3, d4, d5⟩ := B2.cells6
      have c0 := B1.cell 0 _ rfl; have f0 := B1.frozen 0; have c1 := B1.cell 1 _ rfl; have f1 := B1.frozen 1; have c2 := B1.cell 2 _ rfl; have f2 := B1.frozen 2; have c3 := B1.cell 3 _ rfl; have f3 := B1.frozen 3; have c4 := B1.cell 4 _ rfl; have f4 := B1.frozen 4; have c5 := B1.cell 5 _ rfl; have f5 := B1.frozen 5
      go_wp2_with fail
      exact bodyPost_ret (v := .agg #[.int .u64 p0, .int .u64 p1, .int .u64 p2, .int .u64 p3, .int .u64 p4, .int .u64 p5]) (by simp [results, Try.results17, go_sem, c0, c1, c2, c3, c4, c5]) rfl ⟨p0, p1, p2, p3, p4, p5, rfl, fP, HP.out, below_put6 bel (by omega)⟩
end Go.Proofs.Ytpenapcgpplghab
