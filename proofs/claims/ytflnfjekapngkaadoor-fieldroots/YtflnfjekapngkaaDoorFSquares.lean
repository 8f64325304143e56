/- field.squares: a power squared n times. -/
import Derived.Test.YtflnfjekapngkaaDoorRows
import Derived.Test.YtflnfjekapngkaaDoorFMulR
import Derived.Test.YtflnfjekapngkaaDoorFPow
import Derived.Deep.RegionHeld3
import Derived.Deep.DeepCutAuto
import Derived.Deep.DeepFit
namespace Go.Proofs.YtflnfjekapngkaaDoor
open Go.RowKit

set_option maxRecDepth 100000 in
set_option maxHeartbeats 2000000 in
theorem fsquares6 {x0 x1 x2 x3 x4 x5 : Int} {w : World} (G : Gls w) {a n : Int} {ex : Nat} (n0 : 0 ≤ n) (n1 : n < 1048576) (fX : fits [x0, x1, x2, x3, x4, x5]) (hm : Mo a (ex) (v64 [x0, x1, x2, x3, x4, x5])) :
    Calls Tryd.prog 42 #[.agg #[.int .u64 x0, .int .u64 x1, .int .u64 x2, .int .u64 x3, .int .u64 x4, .int .u64 x5], .int .i64 n] w fun e w' => ∃ z0 z1 z2 z3 z4 z5 : Int, e = .returned (.agg #[.int .u64 z0, .int .u64 z1, .int .u64 z2, .int .u64 z3, .int .u64 z4, .int .u64 z5]) ∧ fits [z0, z1, z2, z3, z4, z5] ∧ Mo a (ex * 2 ^ n.toNat) (v64 [z0, z1, z2, z3, z4, z5]) ∧ Below w.heap.size w w' := by
  have B0 := (Blk.new w (us [x0, x1, x2, x3, x4, x5]) 24 (w.heap.size) rfl).alloc (.cells (us [0, 0, 0, 0, 0, 0]).toArray 24)
  have B1 := Blk.new (w.alloc (.cells (us [x0, x1, x2, x3, x4, x5]).toArray 24)) (us [0, 0, 0, 0, 0, 0]) 24 (w.heap.size + 1) (by simp)
  have bel : Below w.heap.size w ((w.alloc (.cells (us [x0, x1, x2, x3, x4, x5]).toArray 24)).alloc (.cells (us [0, 0, 0, 0, 0, 0]).toArray 24)) := ((Below.refl _ _).alloc (Nat.le_refl _) _).alloc (by simp) _
  go_enter Tryd.func42, Tryd.ntmps42
  go_wp2_with fail
  simp only [us, List.map_cons, List.map_nil] at B0 B1 bel
  generalize (w.alloc (Obj.cells #[.int .u64 x0, .int .u64 x1, .int .u64 x2, .int .u64 x3, .int .u64 x4, .int .u64 x5] 24)).alloc (Obj.cells #[.int .u64 0, .int .u64 0, .int .u64 0, .int .u64 0, .int .u64 0, .int .u64 0] 24) = W at *
  have HM : Hid (Mo a (ex) (v64 [x0, x1, x2, x3, x4, x5])) := hm
  clear hm
  go_loopw [6] (fun t wx => ∃ (k : Nat) (y0 y1 y2 y3 y4 y5 : Int), (k : Int) ≤ n ∧ t = .int .i64 k ∧ fits [y0, y1, y2, y3, y4, y5] ∧ Hid (Mo a (ex * 2 ^ k) (v64 [y0, y1, y2, y3, y4, y5])) ∧ Blk wx (w.heap.size) (us [y0, y1, y2, y3, y4, y5]) ∧ Wr6 wx (w.heap.size + 1) ∧ Below w.heap.size w wx) (fun t _ => (n - intOf t).toNat)
  case atStart => exact ⟨0, x0, x1, x2, x3, x4, x5, by omega, rfl, fX, (show Mo a (ex * 2 ^ 0) _ by simpa using HM.out), B0, Wr6.of B1, bel⟩
  case round =>
    obtain ⟨k, y0, y1, y2, y3, y4, y5, hk, rfl, fY, HY, BY, WY, bel2⟩ := hrel
    clear B0 B1 bel HM
    have lt0 := BY.lt
    have lt1 := WY.lt
    by_cases hlt : (k : Int) < n
    · have c0 := BY.cell 0 _ rfl; have q0 := BY.frozen 0; have c1 := BY.cell 1 _ rfl; have q1 := BY.frozen 1; have c2 := BY.cell 2 _ rfl; have q2 := BY.frozen 2; have c3 := BY.cell 3 _ rfl; have q3 := BY.frozen 3; have c4 := BY.cell 4 _ rfl; have q4 := BY.frozen 4; have c5 := BY.cell 5 _ rfl; have q5 := BY.frozen 5
      go_wp2_with fail
      refine (fmulR6 (G.below bel2) fY fY).mono ?_
      rintro e w' ⟨z0, z1, z2, z3, z4, z5, rfl, fZ, hz, he, hb⟩
      have HZ : Hid (Mo a (ex * 2 ^ (k + 1)) (v64 [z0, z1, z2, z3, z4, z5])) := mo_sq (mo_mul HY.out HY.out (v6_bound _ rfl fZ).1 hz he)
      clear hz he HY c0 q0 c1 q1 c2 q2 c3 q3 c4 q4 c5 q5
      replace BY := BY.later hb
      replace WY := WY.later hb
      replace bel2 := below_step bel2 hb
      clear hb
      have c0 := BY.cell 0 _ rfl; have q0 := BY.frozen 0; have c1 := BY.cell 1 _ rfl; have q1 := BY.frozen 1; have c2 := BY.cell 2 _ rfl; have q2 := BY.frozen 2; have c3 := BY.cell 3 _ rfl; have q3 := BY.frozen 3; have c4 := BY.cell 4 _ rfl; have q4 := BY.frozen 4; have c5 := BY.cell 5 _ rfl; have q5 := BY.frozen 5
      go_wp2_with fail
      go_roundw
      case rel => exact ⟨k + 1, z0, z1, z2, z3, z4, z5, by omega, by go_num, fZ, HZ, blk_put6 BY, WY.far6 (by omega), below_put6 bel2 (by omega)⟩
      case measure => simp [intOf]; omega
    · have hkn : (k : Int) = n := by omega
      subst hkn
      have c0 := BY.cell 0 _ rfl; have q0 := BY.frozen 0; have c1 := BY.cell 1 _ rfl; have q1 := BY.frozen 1; have c2 := BY.cell 2 _ rfl; have q2 := BY.frozen 2; have c3 := BY.cell 3 _ rfl; have q3 := BY.frozen 3; have c4 := BY.cell 4 _ rfl; have q4 := BY.frozen 4; have c5 := BY.cell 5 _ rfl; have q5 := BY.frozen 5
      obtain ⟨g0, g1, g2, g3, g4, g5, ⟨h0, h1, h2, h3, h4, h5⟩, ⟨f0, f1, f2, f3, f4, f5⟩⟩ := WY.cells
      go_wp2_with fail
      exact bodyPost_ret (v := .agg #[.int .u64 y0, .int .u64 y1, .int .u64 y2, .int .u64 y3, .int .u64 y4, .int .u64 y5]) (by simp [results, Tryd.results42, go_sem, h0, h1, h2, h3, h4, h5]) rfl ⟨y0, y1, y2, y3, y4, y5, rfl, fY, by simpa using HY.out, below_put6 bel2 (by omega)⟩
end Go.Proofs.YtflnfjekapngkaaDoor
