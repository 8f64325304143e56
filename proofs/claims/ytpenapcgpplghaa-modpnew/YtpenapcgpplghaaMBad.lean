/- modp.New of what can be no modulus. -/
import Derived.Test.YtpenapcgpplghaaRows
import Derived.Test.YtpenapcgpplghaaMNew
import Derived.Test.YtpenapcgpplghaaEq
namespace Go.Proofs.Ytpenapcgpplghaa
open Go.RowKit

theorem iface_one : ∀ w : World, (binOp .eql 29 (.iface 32 (.int .i64 1)) (.iface 32 (.int .i64 1))).run Try.prog w = .ok (.bool true) w := fun _ => by kernel_rfl

theorem eql_mod0 : ∀ w : World, (Op.equalIn 10000 27 (.agg #[.int .u64 0, .int .u64 0, .int .u64 0, .int .u64 0, .int .u64 0, .int .u64 0, .int .u64 0, .int .u64 0, .int .u64 0, .int .u64 0, .int .u64 0, .int .u64 0, .int .u64 0]) (.agg #[.int .u64 0, .int .u64 0, .int .u64 0, .int .u64 0, .int .u64 0, .int .u64 0, .int .u64 0, .int .u64 0, .int .u64 0, .int .u64 0, .int .u64 0, .int .u64 0, .int .u64 0])).run Try.prog w = .ok true w := fun _ => by kernel_rfl

set_option maxRecDepth 100000 in
set_option maxHeartbeats 2000000 in
theorem new_bad {m0 m1 m2 m3 m4 m5 : Int} {w : World} (fM : fits [m0, m1, m2, m3, m4, m5]) (h : m0 % 2 = 0 ∨ m5 < 9223372036854775808) :
    Calls Try.prog 10 #[.agg #[.int .u64 m0, .int .u64 m1, .int .u64 m2, .int .u64 m3, .int .u64 m4, .int .u64 m5]] w fun e w' => e = .returned (.tuple #[.agg #[.int .u64 0, .int .u64 0, .int .u64 0, .int .u64 0, .int .u64 0, .int .u64 0, .int .u64 0, .int .u64 0, .int .u64 0, .int .u64 0, .int .u64 0, .int .u64 0, .int .u64 0], .iface 32 (.int .i64 1)]) ∧ Below w.heap.size w w' := by
  have B0 := (Blk.new w (us [m0, m1, m2, m3, m4, m5]) 24 w.heap.size rfl).alloc (.cells (us [0, 0, 0, 0, 0, 0, 0, 0, 0, 0, 0, 0, 0]).toArray 27)
  have B1 := Blk.new (w.alloc (.cells (us [m0, m1, m2, m3, m4, m5]).toArray 24)) (us [0, 0, 0, 0, 0, 0, 0, 0, 0, 0, 0, 0, 0]) 27 (w.heap.size + 1) (by simp)
  have bel : Below w.heap.size w ((w.alloc (.cells (us [m0, m1, m2, m3, m4, m5]).toArray 24)).alloc (.cells (us [0, 0, 0, 0, 0, 0, 0, 0, 0, 0, 0, 0, 0]).toArray 27)) := ((Below.refl _ _).alloc (Nat.le_refl _) _).alloc (by simp) _
  have H : Hid _ := h
  clear h
  go_enter Try.func10, Try.ntmps10
  go_wp2_with fail
  simp only [us, List.map_cons, List.map_nil] at B0 B1 bel
  generalize (w.alloc (Obj.cells #[.int .u64 m0, .int .u64 m1, .int .u64 m2, .int .u64 m3, .int .u64 m4, .int .u64 m5] 24)).alloc (Obj.cells #[.int .u64 0, .int .u64 0, .int .u64 0, .int .u64 0, .int .u64 0, .int .u64 0, .int .u64 0, .int .u64 0, .int .u64 0, .int .u64 0, .int .u64 0, .int .u64 0, .int .u64 0] 27) = W at *
  have lt1 := B1.lt
  refine (bit6 fM).mono ?_
  rintro e w1 ⟨rfl, hb⟩
  replace B0 := B0.later hb
  replace B1 := B1.later hb
  replace bel := bel.trans (hb.mono (by omega))
  clear hb lt1
  have lt1 := B1.lt
  by_cases h0 : m0 % 2 = 0
  · rw [bit_low0 m0 m1 m2 m3 m4 m5 h0]
    have z0 := B1.cell 0 _ rfl; have f0 := B1.frozen 0; have z1 := B1.cell 1 _ rfl; have f1 := B1.frozen 1; have z2 := B1.cell 2 _ rfl; have f2 := B1.frozen 2; have z3 := B1.cell 3 _ rfl; have f3 := B1.frozen 3; have z4 := B1.cell 4 _ rfl; have f4 := B1.frozen 4; have z5 := B1.cell 5 _ rfl; have f5 := B1.frozen 5; have z6 := B1.cell 6 _ rfl; have f6 := B1.frozen 6; have z7 := B1.cell 7 _ rfl; have f7 := B1.frozen 7; have z8 := B1.cell 8 _ rfl; have f8 := B1.frozen 8; have z9 := B1.cell 9 _ rfl; have f9 := B1.frozen 9; have z10 := B1.cell 10 _ rfl; have f10 := B1.frozen 10; have z11 := B1.cell 11 _ rfl; have f11 := B1.frozen 11; have z12 := B1.cell 12 _ rfl; have f12 := B1.frozen 12
    clear h0
    go_wp2_with fail
    exact bodyPost_ret (v := .tuple #[.agg #[.int .u64 0, .int .u64 0, .int .u64 0, .int .u64 0, .int .u64 0, .int .u64 0, .int .u64 0, .int .u64 0, .int .u64 0, .int .u64 0, .int .u64 0, .int .u64 0, .int .u64 0], .iface 32 (.int .i64 1)]) (by simp [results, Try.results10, go_sem, z0, z1, z2, z3, z4, z5, z6, z7, z8, z9, z10, z11, z12]) rfl ⟨rfl, below_put13 bel (by omega)⟩
  · have q0 := bit_low m0 m1 m2 m3 m4 m5 (by omega)
    have q1 := bit_high0 m0 m1 m2 m3 m4 m5 fM (by rcases H.out with h | h <;> omega)
    have Q1 : Hid _ := q1
    rw [q0]
    clear h0 q0 q1
    obtain ⟨c0, c1, c2, c3, c4, c5⟩ := B0.cells6
    go_wp2_with fail
    refine (bit6 fM).mono ?_
    rintro e w2 ⟨rfl, hb⟩
    rw [Q1.out]
    replace B1 := B1.later hb
    replace bel := bel.trans (hb.mono (by omega))
    clear hb lt1 c0 c1 c2 c3 c4 c5 B0
    have z0 := B1.cell 0 _ rfl; have f0 := B1.frozen 0; have z1 := B1.cell 1 _ rfl; have f1 := B1.frozen 1; have z2 := B1.cell 2 _ rfl; have f2 := B1.frozen 2; have z3 := B1.cell 3 _ rfl; have f3 := B1.frozen 3; have z4 := B1.cell 4 _ rfl; have f4 := B1.frozen 4; have z5 := B1.cell 5 _ rfl; have f5 := B1.frozen 5; have z6 := B1.cell 6 _ rfl; have f6 := B1.frozen 6; have z7 := B1.cell 7 _ rfl; have f7 := B1.frozen 7; have z8 := B1.cell 8 _ rfl; have f8 := B1.frozen 8; have z9 := B1.cell 9 _ rfl; have f9 := B1.frozen 9; have z10 := B1.cell 10 _ rfl; have f10 := B1.frozen 10; have z11 := B1.cell 11 _ rfl; have f11 := B1.frozen 11; have z12 := B1.cell 12 _ rfl; have f12 := B1.frozen 12
    have lt1 := B1.lt
    go_wp2_with fail
    exact bodyPost_ret (v := .tuple #[.agg #[.int .u64 0, .int .u64 0, .int .u64 0, .int .u64 0, .int .u64 0, .int .u64 0, .int .u64 0, .int .u64 0, .int .u64 0, .int .u64 0, .int .u64 0, .int .u64 0, .int .u64 0], .iface 32 (.int .i64 1)]) (by simp [results, Try.results10, go_sem, z0, z1, z2, z3, z4, z5, z6, z7, z8, z9, z10, z11, z12]) rfl ⟨rfl, below_put13 bel (by omega)⟩
end Go.Proofs.Ytpenapcgpplghaa
