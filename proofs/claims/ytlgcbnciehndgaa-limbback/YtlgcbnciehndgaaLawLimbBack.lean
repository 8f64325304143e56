/- The law LimbBack. -/
import Derived.Test.YtlgcbnciehndgaaRows
import Derived.Test.YtlgcbnciehndgaaOne
import Derived.Test.YtlgcbnciehndgaaLAdd
import Derived.Test.YtlgcbnciehndgaaLSub
import Derived.Test.YtlgcbnciehndgaaEq
namespace Go.Proofs.Ytlgcbnciehndgaa
open Go.RowKit

theorem info_u64 : (Try.prog.info? 22).map (fun i => (i.zero, i.size, i.bytes)) = some (some (.int .u64 0), 1, 8) := by kernel_rfl

theorem back_num (A B S T : List Int) (n k : Int) (lA : A.length = 6) (lT : T.length = 6) (fA : fits A) (fT : fits T) (n0 : 0 ≤ n) (n1 : n ≤ 1) (k0 : 0 ≤ k) (k1 : k ≤ 1)
    (hs : v64 S + n * 18446744073709551616 ^ 6 = v64 A + v64 B) (ht : v64 T - k * 18446744073709551616 ^ 6 = v64 S - v64 B) : n = k ∧ T = A := by
  have bA := v64_bound A fA
  have bT := v64_bound T fT
  rw [lA] at bA
  rw [lT] at bT
  generalize (18446744073709551616 : Int) ^ 6 = R at *
  have hn : n = 0 ∨ n = 1 := by omega
  have hk : k = 0 ∨ k = 1 := by omega
  have hnk : n = k := by rcases hn with rfl | rfl <;> rcases hk with rfl | rfl <;> omega
  subst hnk
  exact ⟨rfl, v64_inj T A (by omega) fT fA (by omega)⟩

theorem two_num (R : List Int) (m : Int) (lR : R.length = 6) (fR : fits R) (m0 : 0 ≤ m) (m1 : m ≤ 1) (hr : v64 R + m * 18446744073709551616 ^ 6 = v64 [1, 0, 0, 0, 0, 0] + v64 [1, 0, 0, 0, 0, 0]) : R = [2, 0, 0, 0, 0, 0] := by
  have bR := v64_bound R fR
  have e1 : v64 [1, 0, 0, 0, 0, 0] = 1 := by simp [v64, pv]
  have e2 : v64 [2, 0, 0, 0, 0, 0] = 2 := by simp [v64, pv]
  have f2 : fits [2, 0, 0, 0, 0, 0] := by
    have := fits_set (fits_zero 6) 0 2 (by decide) (by decide)
    exact this
  rw [e1] at hr
  have hm : m = 0 ∨ m = 1 := by omega
  have : m = 0 := by rcases hm with rfl | rfl <;> omega
  subst this
  exact v64_inj R _ lR fR f2 (by omega)

set_option maxRecDepth 100000 in
set_option maxHeartbeats 1000000 in
theorem law_limbBack (x0 x1 x2 x3 x4 x5 y0 y1 y2 y3 y4 y5 : Int) (w : World) (hx : fits [x0, x1, x2, x3, x4, x5]) (hy : fits [y0, y1, y2, y3, y4, y5]) :
    Calls Try.prog 5 #[.agg #[.int .u64 x0, .int .u64 x1, .int .u64 x2, .int .u64 x3, .int .u64 x4, .int .u64 x5], .agg #[.int .u64 y0, .int .u64 y1, .int .u64 y2, .int .u64 y3, .int .u64 y4, .int .u64 y5]] w fun e w' => e = .returned (.bool true) ∧ Below w.heap.size w w' := by
  have B0 := (Blk.new w (us [x0, x1, x2, x3, x4, x5]) 24 w.heap.size rfl).alloc (.cells (us [y0, y1, y2, y3, y4, y5]).toArray 24)
  have B1 := Blk.new (w.alloc (.cells (us [x0, x1, x2, x3, x4, x5]).toArray 24)) (us [y0, y1, y2, y3, y4, y5]) 24 (w.heap.size + 1) (by simp)
  have bel : Below w.heap.size w ((w.alloc (.cells (us [x0, x1, x2, x3, x4, x5]).toArray 24)).alloc (.cells (us [y0, y1, y2, y3, y4, y5]).toArray 24)) := ((Below.refl _ _).alloc (Nat.le_refl _) _).alloc (by simp) _
  go_enter Try.func5, Try.ntmps5
  go_wp2_with fail
  simp only [us, List.map_cons, List.map_nil] at B0 B1 bel
  generalize (w.alloc (Obj.cells #[.int .u64 x0, .int .u64 x1, .int .u64 x2, .int .u64 x3, .int .u64 x4, .int .u64 x5] 24)).alloc (Obj.cells #[.int .u64 y0, .int .u64 y1, .int .u64 y2, .int .u64 y3, .int .u64 y4, .int .u64 y5] 24) = W at *
  have z1 := B1.lt
  refine (one_any _).mono ?_
  rintro e w1 ⟨rfl, hb⟩
  replace B0 := B0.later hb
  replace B1 := B1.later hb
  replace bel := bel.trans (hb.mono (by omega))
  clear hb z1
  have z1 := B1.lt
  go_wp2_with fail
  refine (one_any _).mono ?_
  rintro e w2 ⟨rfl, hb⟩
  replace B0 := B0.later hb
  replace B1 := B1.later hb
  replace bel := bel.trans (hb.mono (by omega))
  clear hb z1
  have z1 := B1.lt
  go_wp2_with fail
  refine (add6 fits_one fits_one).mono ?_
  rintro e w3 ⟨r0, r1, r2, r3, r4, r5, m, rfl, fR, m0, m1, hr, hb⟩
  replace B0 := B0.later hb
  replace B1 := B1.later hb
  replace bel := bel.trans (hb.mono (by omega))
  clear hb z1
  have z0 := B0.lt
  have z1 := B1.lt
  obtain ⟨c0, c1, c2, c3, c4, c5⟩ := B0.cells6
  obtain ⟨d0, d1, d2, d3, d4, d5⟩ := B1.cells6
  go_wp2_with fail
  refine (add6 hx hy).mono ?_
  rintro e w4 ⟨s0, s1, s2, s3, s4, s5, n, rfl, fS, n0, n1, hs, hb⟩
  clear c0 c1 c2 c3 c4 c5 d0 d1 d2 d3 d4 d5
  have B2 := (Blk.new w3 (us [r0, r1, r2, r3, r4, r5]) 24 w3.heap.size rfl).later hb
  replace B0 := (B0.alloc _).later hb
  replace B1 := (B1.alloc _).later hb
  replace bel := (bel.alloc (by omega) _).trans (hb.mono (by simp <;> omega))
  clear hb z0 z1
  have z0 := B0.lt
  have z1 := B1.lt
  obtain ⟨d0, d1, d2, d3, d4, d5⟩ := B1.cells6
  go_wp2_with fail
  refine (sub6 fS hy).mono ?_
  rintro e w5 ⟨t0, t1, t2, t3, t4, t5, k, rfl, fT, k0, k1, ht, hb⟩
  clear d0 d1 d2 d3 d4 d5
  replace B0 := (B0.alloc _).later hb
  replace B2 := (B2.alloc _).later hb
  replace bel := (bel.alloc (by omega) _).trans (hb.mono (by simp <;> omega))
  clear hb z0 z1 B1
  have z0 := B0.lt
  have z2 := B2.lt
  obtain ⟨c0, c1, c2, c3, c4, c5⟩ := B0.cells6
  obtain ⟨d0, _, _, _, _, _⟩ := B2.cells6
  obtain ⟨hk, hT⟩ := back_num [x0, x1, x2, x3, x4, x5] [y0, y1, y2, y3, y4, y5] [s0, s1, s2, s3, s4, s5] [t0, t1, t2, t3, t4, t5] n k rfl rfl hx fT n0 n1 k0 k1 hs ht
  have hR := two_num [r0, r1, r2, r3, r4, r5] m rfl fR m0 m1 hr
  simp only [List.cons.injEq, and_true] at hT hR
  obtain ⟨rfl, rfl, rfl, rfl, rfl, rfl⟩ := hT
  obtain ⟨rfl, -⟩ := hR
  subst hk
  have heq : ∀ w : World, (Op.equalIn 10000 24 (.agg #[.int .u64 t0, .int .u64 t1, .int .u64 t2, .int .u64 t3, .int .u64 t4, .int .u64 t5]) (.agg #[.int .u64 t0, .int .u64 t1, .int .u64 t2, .int .u64 t3, .int .u64 t4, .int .u64 t5])).run Try.prog w = .ok true w := fun w => by
    obtain ⟨i0, hi, _, _, _⟩ := info_parts info_u64
    have h := run_eql_us w Try.underlying24 hi (by kernel_rfl) Try.underlying22 (by kernel_rfl) [t0, t1, t2, t3, t4, t5] [t0, t1, t2, t3, t4, t5] rfl rfl
    rw [decide_eq_true rfl] at h
    exact h
  go_wp2_with fail
  go_ret
  exact ⟨rfl, bel.alloc (by omega) _⟩
end Go.Proofs.Ytlgcbnciehndgaa
