/- The law's own helpers: a modulus of any number, and the document's example. -/
import Derived.Test.YtpenapcgpplghabRows
import Derived.Test.YtpenapcgpplghabMNew
import Derived.Test.YtpenapcgpplghabMMul
import Derived.Test.YtpenapcgpplghabEq
import Derived.Laws.BitsAllLaws
namespace Go.Proofs.Ytpenapcgpplghab
open Go.RowKit

theorem or_low (a : Int) (h0 : 0 ≤ a) (h1 : a < 18446744073709551616) : (0 ≤ bits .or .u64 a 1 ∧ bits .or .u64 a 1 < 18446744073709551616) ∧ bits .or .u64 a 1 % 2 = 1 := by
  rw [u64_or a 1 h0 h1 (by decide) (by decide), show (1 : Int).toNat = 1 from rfl]
  have b := Nat.or_lt_two_pow (n := 64) (x := a.toNat) (y := 1) (by omega) (by omega)
  have e : (a.toNat ||| 1) % 2 = 1 := by
    have := Nat.or_mod_two_pow (a := a.toNat) (b := 1) (n := 1)
    rw [show 2 ^ 1 = 2 from rfl] at this
    rw [this]
    have h : a.toNat % 2 = 0 ∨ a.toNat % 2 = 1 := by omega
    rcases h with h | h <;> rw [h] <;> decide
  generalize a.toNat ||| 1 = z at *
  omega

theorem or_high (a : Int) (h0 : 0 ≤ a) (h1 : a < 18446744073709551616) : (0 ≤ bits .or .u64 a 9223372036854775808 ∧ bits .or .u64 a 9223372036854775808 < 18446744073709551616) ∧ 9223372036854775808 ≤ bits .or .u64 a 9223372036854775808 := by
  rw [u64_or a 9223372036854775808 h0 h1 (by decide) (by decide), show (9223372036854775808 : Int).toNat = 9223372036854775808 from rfl]
  have b := Nat.or_lt_two_pow (n := 64) (x := a.toNat) (y := 9223372036854775808) (by omega) (by omega)
  have e : 9223372036854775808 ≤ a.toNat ||| 9223372036854775808 := Nat.right_le_or
  generalize a.toNat ||| 9223372036854775808 = z at *
  omega

theorem fits_put {x0 x1 x2 x3 x4 x5 a b : Int} (h : fits [x0, x1, x2, x3, x4, x5]) (ha : 0 ≤ a ∧ a < 18446744073709551616) (hb : 0 ≤ b ∧ b < 18446744073709551616) : fits [a, x1, x2, x3, x4, b] := by
  have h' := fits_set (fits_set h 0 a ha.1 ha.2) 5 b hb.1 hb.2
  exact h'

set_option maxRecDepth 100000 in
set_option maxHeartbeats 400000 in
theorem modulus6 {x0 x1 x2 x3 x4 x5 : Int} {w : World} (fX : fits [x0, x1, x2, x3, x4, x5]) :
    Calls Try.prog 7 #[.agg #[.int .u64 x0, .int .u64 x1, .int .u64 x2, .int .u64 x3, .int .u64 x4, .int .u64 x5]] w fun e w' => ∃ a b : Int, e = .returned (.agg #[.int .u64 a, .int .u64 x1, .int .u64 x2, .int .u64 x3, .int .u64 x4, .int .u64 b]) ∧ fits [a, x1, x2, x3, x4, b] ∧ a % 2 = 1 ∧ 9223372036854775808 ≤ b ∧ Below w.heap.size w w' := by
  obtain ⟨a0, a1⟩ := or_low x0 (fX 0).1 (fX 0).2
  obtain ⟨b0, b1⟩ := or_high x5 (fX 5).1 (fX 5).2
  have fZ := fits_put fX a0 b0
  have HA : Hid _ := a1
  have HB : Hid _ := b1
  clear a0 a1 b0 b1
  have bel : Below w.heap.size w ((w.alloc (.cells (us [bits .or .u64 x0 1, x1, x2, x3, x4, bits .or .u64 x5 9223372036854775808]).toArray 24)).alloc (.cells (us [bits .or .u64 x0 1, x1, x2, x3, x4, bits .or .u64 x5 9223372036854775808]).toArray 24)) := ((Below.refl _ _).alloc (Nat.le_refl _) _).alloc (by simp) _
  go_enter Try.func7, Try.ntmps7
  go_wp2
  exact bodyPost_ret (v := .agg #[.int .u64 (bits .or .u64 x0 1), .int .u64 x1, .int .u64 x2, .int .u64 x3, .int .u64 x4, .int .u64 (bits .or .u64 x5 9223372036854775808)]) (by simp [results, Try.results7, go_sem]) rfl ⟨_, _, rfl, fZ, HA.out, HB.out, bel⟩

theorem info_u64 : (Try.prog.info? 22).map (fun i => (i.zero, i.size, i.bytes)) = some (some (.int .u64 0), 1, 8) := by kernel_rfl

theorem eql_same (x0 x1 x2 x3 x4 x5 : Int) : ∀ w : World, (Op.equalIn 10000 24 (.agg #[.int .u64 x0, .int .u64 x1, .int .u64 x2, .int .u64 x3, .int .u64 x4, .int .u64 x5]) (.agg #[.int .u64 x0, .int .u64 x1, .int .u64 x2, .int .u64 x3, .int .u64 x4, .int .u64 x5])).run Try.prog w = .ok true w := fun w => by
  cases hi : Try.prog.info? 22 with
  | none => have := info_u64; rw [hi] at this; simp at this
  | some i =>
    have := run_eql_us (P := Try.prog) w (t := 24) (e := 22) (n := 6) Try.underlying24 hi (by kernel_rfl) Try.underlying22 (by kernel_rfl) [x0, x1, x2, x3, x4, x5] [x0, x1, x2, x3, x4, x5] rfl rfl
    simpa using this

theorem iface_nil : ∀ w : World, (binOp .eql 29 .nilIface .nilIface).run Try.prog w = .ok (.bool true) w := fun _ => by kernel_rfl

theorem fits6 {x0 x1 x2 x3 x4 x5 : Int} (h : (0 ≤ x0 ∧ x0 < 18446744073709551616) ∧ (0 ≤ x1 ∧ x1 < 18446744073709551616) ∧ (0 ≤ x2 ∧ x2 < 18446744073709551616) ∧ (0 ≤ x3 ∧ x3 < 18446744073709551616) ∧ (0 ≤ x4 ∧ x4 < 18446744073709551616) ∧ (0 ≤ x5 ∧ x5 < 18446744073709551616)) : fits [x0, x1, x2, x3, x4, x5] := by
  obtain ⟨h0, h1, h2, h3, h4, h5⟩ := h
  intro j
  match j with
  | 0 => exact h0
  | 1 => exact h1
  | 2 => exact h2
  | 3 => exact h3
  | 4 => exact h4
  | 5 => exact h5
  | _ + 6 => exact ⟨by simp, by simp⟩

theorem up_num {z0 z1 z2 z3 z4 z5 : Int} (fZ : fits [z0, z1, z2, z3, z4, z5]) (h : v64 [z0, z1, z2, z3, z4, z5] = (v64 [0, 0, 0, 0, 0, 9223372036854775808] * v64 [2, 0, 0, 0, 0, 0]) % v64 [18446744073709551615, 18446744073709551615, 18446744073709551615, 18446744073709551615, 18446744073709551615, 18446744073709551615]) : [z0, z1, z2, z3, z4, z5] = [1, 0, 0, 0, 0, 0] := by
  refine v64_inj _ _ rfl fZ fits_one ?_
  rw [h]
  decide

set_option maxRecDepth 100000 in
set_option maxHeartbeats 1000000 in
theorem up_any (w : World) : Calls Try.prog 5 #[] w fun e w' => e = .returned (.bool true) ∧ Below w.heap.size w w' := by
  have f1 : fits [18446744073709551615, 18446744073709551615, 18446744073709551615, 18446744073709551615, 18446744073709551615, 18446744073709551615] := fits6 (by decide)
  have f2 : fits [0, 0, 0, 0, 0, 9223372036854775808] := fits6 (by decide)
  have f3 : fits [2, 0, 0, 0, 0, 0] := fits6 (by decide)
  have q1 := eql_same 1 0 0 0 0 0
  have q2 := iface_nil
  go_enter Try.func5, Try.ntmps5
  go_wp2_with fail
  refine (new_ok f1 (by decide) (by decide)).mono ?_
  rintro e w1 ⟨i, t0, t1, t2, t3, t4, t5, rfl, hm, hb⟩
  have HM : Hid _ := hm
  clear hm
  go_wp2_with fail
  refine (mul6 f2 f3 HM.out).mono ?_
  rintro e w2 ⟨z0, z1, z2, z3, z4, z5, rfl, fZ, hz, hb2⟩
  have e1 := up_num fZ hz
  simp only [List.cons.injEq, and_true] at e1
  obtain ⟨rfl, rfl, rfl, rfl, rfl, rfl⟩ := e1
  have hbel : Below w.heap.size w w2 := below_step (below_alloc hb) hb2
  clear hz hb hb2
  go_wp2
  go_ret
  exact ⟨rfl, hbel⟩
end Go.Proofs.Ytpenapcgpplghab
