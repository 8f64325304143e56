/- The law's num, and the reference's To6 where the answer is known. -/
import Derived.Test.YtpgidlnpcjbfhabDoorRows
import Derived.Test.YtpgidlnpcjbfhabDoorRefA
import Derived.Test.YtpgidlnpcjbfhabDoorMath
namespace Go.Proofs.YtpgidlnpcjbfhabDoor
open Go.RowKit

theorem to6_is {v : Value} {N : Int} {w : World} {s0 s1 s2 s3 s4 s5 : Int} (h : NumIs w v N) (fS : fits [s0, s1, s2, s3, s4, s5]) (hS : v64 [s0, s1, s2, s3, s4, s5] = N) :
    Calls Tryd.prog 17 #[v] w fun e w' => e = .returned (.agg #[.int .u64 s0, .int .u64 s1, .int .u64 s2, .int .u64 s3, .int .u64 s4, .int .u64 s5]) ∧ Below w.heap.size w w' := by
  refine (to6_any v N w h).mono ?_
  rintro e w' ⟨T, rfl, lT, fT, hT, hb⟩
  have b := v6_bound [s0, s1, s2, s3, s4, s5] rfl fS
  have e : T = [s0, s1, s2, s3, s4, s5] := v64_inj _ _ (by rw [lT]; rfl) fT fS (by rw [hT, ← hS, Int.emod_eq_of_lt b.1 b.2])
  rw [e]
  exact ⟨rfl, hb⟩

theorem num_30 (X : List Int) (lX : X.length = 6) (fX : fits X) : v64 X < 4294967296 ^ 30 := by
  have b := (v6_bound X lX fX).2
  rw [show (18446744073709551616 : Int) = 4294967296 ^ 2 by decide, ← Int.pow_mul] at b
  have : (4294967296 : Int) ^ (2 * 6) < 4294967296 ^ 30 := by decide
  omega

theorem sum_30 (X Y : List Int) (lX : X.length = 6) (lY : Y.length = 6) (fX : fits X) (fY : fits Y) : v64 X + v64 Y < 4294967296 ^ 30 := by
  have b := (v6_bound X lX fX).2
  have c := (v6_bound Y lY fY).2
  rw [show (18446744073709551616 : Int) = 4294967296 ^ 2 by decide, ← Int.pow_mul] at b c
  have : (4294967296 : Int) ^ (2 * 6) + 4294967296 ^ (2 * 6) < 4294967296 ^ 30 := by decide
  omega

theorem prod_30 (X Y : List Int) (lX : X.length = 6) (lY : Y.length = 6) (fX : fits X) (fY : fits Y) : v64 X * v64 Y < 4294967296 ^ 30 := by
  have b := v6_bound X lX fX
  have c := v6_bound Y lY fY
  rw [show (18446744073709551616 : Int) = 4294967296 ^ 2 by decide, ← Int.pow_mul] at b c
  have h1 : v64 X * v64 Y ≤ 4294967296 ^ (2 * 6) * 4294967296 ^ (2 * 6) := Int.mul_le_mul (by omega) (by omega) c.1 (by omega)
  have : (4294967296 : Int) ^ (2 * 6) * 4294967296 ^ (2 * 6) < 4294967296 ^ 30 := by decide
  omega

theorem mod_pos {M T : List Int} {i : Int} (h : IsMod M i T) : 0 < v64 M := by
  have h0 := (v6_bound M h.lM h.fM).1
  have h1 := h.odd
  omega
end Go.Proofs.YtpgidlnpcjbfhabDoor
