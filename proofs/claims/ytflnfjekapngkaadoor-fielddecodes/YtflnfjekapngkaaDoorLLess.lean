/- limb.Less: whether a number is below another one. -/
import Derived.Test.YtflnfjekapngkaaDoorRows
import Derived.Test.YtflnfjekapngkaaDoorLSub
namespace Go.Proofs.YtflnfjekapngkaaDoor
open Go.RowKit

def lessN (A B : List Int) : Int := if v64 A < v64 B then 1 else 0

theorem less_num (A B S : List Int) (n : Int) (lS : S.length = 6) (fS : fits S) (n0 : 0 ≤ n) (n1 : n ≤ 1)
    (h : v64 S - n * 18446744073709551616 ^ 6 = v64 A - v64 B) : n = lessN A B := by
  have bS := v64_bound S fS
  rw [lS] at bS
  unfold lessN
  generalize (18446744073709551616 : Int) ^ 6 = R at *
  have hn : n = 0 ∨ n = 1 := by omega
  rcases hn with rfl | rfl
  · rw [if_neg (by omega)]
  · rw [if_pos (by omega)]

set_option maxRecDepth 100000 in
set_option maxHeartbeats 400000 in
theorem less6 {x0 x1 x2 x3 x4 x5 y0 y1 y2 y3 y4 y5 : Int} {w : World} (hx : fits [x0, x1, x2, x3, x4, x5]) (hy : fits [y0, y1, y2, y3, y4, y5]) :
    Calls Tryd.prog 49 #[.agg #[.int .u64 x0, .int .u64 x1, .int .u64 x2, .int .u64 x3, .int .u64 x4, .int .u64 x5], .agg #[.int .u64 y0, .int .u64 y1, .int .u64 y2, .int .u64 y3, .int .u64 y4, .int .u64 y5]] w fun e w' => e = .returned (.int .u64 (lessN [x0, x1, x2, x3, x4, x5] [y0, y1, y2, y3, y4, y5])) ∧ Below w.heap.size w w' := by
  have bel : Below w.heap.size w ((w.alloc (.cells #[.int .u64 x0, .int .u64 x1, .int .u64 x2, .int .u64 x3, .int .u64 x4, .int .u64 x5] 24)).alloc (.cells #[.int .u64 y0, .int .u64 y1, .int .u64 y2, .int .u64 y3, .int .u64 y4, .int .u64 y5] 24)) := ((Below.refl _ _).alloc (Nat.le_refl _) _).alloc (by simp) _
  go_enter Tryd.func49, Tryd.ntmps49
  go_wp2_with fail
  refine (sub6 hx hy).mono ?_
  rintro e w1 ⟨s0, s1, s2, s3, s4, s5, n, rfl, fS, n0, n1, hv, hb⟩
  have hn : Hid _ := less_num [x0, x1, x2, x3, x4, x5] [y0, y1, y2, y3, y4, y5] [s0, s1, s2, s3, s4, s5] n rfl fS n0 n1 hv
  have bel1 := bel.trans (hb.mono (by simp; omega))
  clear bel hb hv
  have hz := bel1.size
  go_wp2_with fail
  go_ret
  exact ⟨ret_int hn.out, bel1.alloc hz _⟩
end Go.Proofs.YtflnfjekapngkaaDoor
