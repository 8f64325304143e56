/- A told point in a block of its own; a number's bits. -/
import Derived.Test.YtdikjabghhhhfaaDoorRows
import Derived.Test.YtdikjabghhhhfaaDoorLPick6
import Derived.Test.YtdikjabghhhhfaaDoorLAdd6
import Derived.Deep.WholeRow
import Derived.Deep.RegionHeld3
import Derived.Deep.DeepCutAuto
import Derived.Deep.DeepFit
namespace Go.Proofs.YtdikjabghhhhfaaDoor
open Go.RowKit

/-- a told point in a block of its own -/
def OutP (w : World) (b : Nat) (Q : Pt) : Prop := ∃ (s0 s1 s2 s3 s4 s5 t0 t1 t2 t3 t4 t5 : Int) (k : Bool), Blk w b [.int .u64 s0, .int .u64 s1, .int .u64 s2, .int .u64 s3, .int .u64 s4, .int .u64 s5, .int .u64 t0, .int .u64 t1, .int .u64 t2, .int .u64 t3, .int .u64 t4, .int .u64 t5, .bool k] ∧ Told Q [s0, s1, s2, s3, s4, s5] [t0, t1, t2, t3, t4, t5] k
theorem bit_num {a0 a1 a2 a3 a4 a5 i c : Int} {w : World} (fA : fits [a0, a1, a2, a3, a4, a5]) (hc : bitN [a0, a1, a2, a3, a4, a5] i = c) :
    Calls Tryd.prog 43 #[.agg #[.int .u64 a0, .int .u64 a1, .int .u64 a2, .int .u64 a3, .int .u64 a4, .int .u64 a5], .int .i64 i] w fun e w' => e = .returned (.int .u64 c) ∧ Below w.heap.size w w' := by
  subst hc; exact bit6 fA

theorem nat_384 {a0 a1 a2 a3 a4 a5 : Int} (fA : fits [a0, a1, a2, a3, a4, a5]) : (v64 [a0, a1, a2, a3, a4, a5]).toNat < 2 ^ (384 - 0) := by
  have h := v6_bound _ rfl fA
  have e : (18446744073709551616 : Int) ^ 6 = ((2 ^ 384 : Nat) : Int) := by decide +kernel
  rw [show 384 - 0 = 384 from rfl]
  omega

theorem told_GC : Told GG [4203087948775033527, 6125724927633205612, 6482722621138151992, 7934563412932533144, 10282218360005504372, 12288012358878168375] [8809917716911230559, 747793036959711645, 16850834916486723776, 17938995913990739068, 6745997240412855337, 3897828414440483951] false := ⟨fits6 (by decide), fits6 (by decide), .inr ⟨by show some (GX, GY) = _; rw [show v64 [4203087948775033527, 6125724927633205612, 6482722621138151992, 7934563412932533144, 10282218360005504372, 12288012358878168375] = GX by decide +kernel, show v64 [8809917716911230559, 747793036959711645, 16850834916486723776, 17938995913990739068, 6745997240412855337, 3897828414440483951] = GY by decide +kernel], rfl⟩⟩
end Go.Proofs.YtdikjabghhhhfaaDoor
