/- Products as lanes go are products of bytes. Plain facts. -/
import Derived.Test.YtlamngilmkaliaaAeLane
namespace Go.Proofs.Ytlamngilmkaliaa
open Go.RowKit

def pEq (i : Nat) : Bool := (List.range 32).all fun x => (List.range 256).all fun y => pL (32 * i + x) y == prdN (32 * i + x) y
theorem pEq_0 : pEq 0 = true := by decide +kernel
theorem pEq_1 : pEq 1 = true := by decide +kernel
theorem pEq_2 : pEq 2 = true := by decide +kernel
theorem pEq_3 : pEq 3 = true := by decide +kernel
theorem pEq_4 : pEq 4 = true := by decide +kernel
theorem pEq_5 : pEq 5 = true := by decide +kernel
theorem pEq_6 : pEq 6 = true := by decide +kernel
theorem pEq_7 : pEq 7 = true := by decide +kernel
theorem pEq_all : ∀ i, i < 8 → pEq i = true
  | 0, _ => pEq_0
  | 1, _ => pEq_1
  | 2, _ => pEq_2
  | 3, _ => pEq_3
  | 4, _ => pEq_4
  | 5, _ => pEq_5
  | 6, _ => pEq_6
  | 7, _ => pEq_7
theorem pL_prd {x y : Nat} (hx : x < 256) (hy : y < 256) : pL x y = prdN x y := by
  have h := List.all_eq_true.1 (pEq_all (x / 32) (by omega)) (x % 32) (List.mem_range.2 (by omega))
  have := List.all_eq_true.1 h y (List.mem_range.2 hy)
  rw [show 32 * (x / 32) + x % 32 = x by omega] at this
  simpa using this
end Go.Proofs.Ytlamngilmkaliaa
