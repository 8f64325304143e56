/- Products of bytes go either way round. -/
import Derived.Test.YtlamngilmkaliaaAeNum
namespace Go.Proofs.Ytlamngilmkaliaa
theorem prd_c0 : ((List.range 16).all fun x => (List.range 256).all fun y => prdN (16 * 0 + x) y == prdN y (16 * 0 + x)) = true := by decide +kernel
theorem prd_c1 : ((List.range 16).all fun x => (List.range 256).all fun y => prdN (16 * 1 + x) y == prdN y (16 * 1 + x)) = true := by decide +kernel
theorem prd_c2 : ((List.range 16).all fun x => (List.range 256).all fun y => prdN (16 * 2 + x) y == prdN y (16 * 2 + x)) = true := by decide +kernel
theorem prd_c3 : ((List.range 16).all fun x => (List.range 256).all fun y => prdN (16 * 3 + x) y == prdN y (16 * 3 + x)) = true := by decide +kernel
theorem prd_c4 : ((List.range 16).all fun x => (List.range 256).all fun y => prdN (16 * 4 + x) y == prdN y (16 * 4 + x)) = true := by decide +kernel
theorem prd_c5 : ((List.range 16).all fun x => (List.range 256).all fun y => prdN (16 * 5 + x) y == prdN y (16 * 5 + x)) = true := by decide +kernel
theorem prd_c6 : ((List.range 16).all fun x => (List.range 256).all fun y => prdN (16 * 6 + x) y == prdN y (16 * 6 + x)) = true := by decide +kernel
theorem prd_c7 : ((List.range 16).all fun x => (List.range 256).all fun y => prdN (16 * 7 + x) y == prdN y (16 * 7 + x)) = true := by decide +kernel
theorem prd_c8 : ((List.range 16).all fun x => (List.range 256).all fun y => prdN (16 * 8 + x) y == prdN y (16 * 8 + x)) = true := by decide +kernel
theorem prd_c9 : ((List.range 16).all fun x => (List.range 256).all fun y => prdN (16 * 9 + x) y == prdN y (16 * 9 + x)) = true := by decide +kernel
theorem prd_c10 : ((List.range 16).all fun x => (List.range 256).all fun y => prdN (16 * 10 + x) y == prdN y (16 * 10 + x)) = true := by decide +kernel
theorem prd_c11 : ((List.range 16).all fun x => (List.range 256).all fun y => prdN (16 * 11 + x) y == prdN y (16 * 11 + x)) = true := by decide +kernel
theorem prd_c12 : ((List.range 16).all fun x => (List.range 256).all fun y => prdN (16 * 12 + x) y == prdN y (16 * 12 + x)) = true := by decide +kernel
theorem prd_c13 : ((List.range 16).all fun x => (List.range 256).all fun y => prdN (16 * 13 + x) y == prdN y (16 * 13 + x)) = true := by decide +kernel
theorem prd_c14 : ((List.range 16).all fun x => (List.range 256).all fun y => prdN (16 * 14 + x) y == prdN y (16 * 14 + x)) = true := by decide +kernel
theorem prd_c15 : ((List.range 16).all fun x => (List.range 256).all fun y => prdN (16 * 15 + x) y == prdN y (16 * 15 + x)) = true := by decide +kernel
theorem prd_all {k : Nat} (h : ((List.range 16).all fun x => (List.range 256).all fun y => prdN (16 * k + x) y == prdN y (16 * k + x)) = true) {x y : Nat} (hk : x / 16 = k) (hy : y < 256) : prdN x y = prdN y x := by
  have a := List.all_eq_true.1 h (x % 16) (List.mem_range.2 (by omega))
  have b := List.all_eq_true.1 a y (List.mem_range.2 hy)
  have e : 16 * k + x % 16 = x := by omega
  rw [e] at b
  simpa using b
theorem prd_comm {x y : Nat} (hx : x < 256) (hy : y < 256) : prdN x y = prdN y x := by
  have : x / 16 = 0 ∨ x / 16 = 1 ∨ x / 16 = 2 ∨ x / 16 = 3 ∨ x / 16 = 4 ∨ x / 16 = 5 ∨ x / 16 = 6 ∨ x / 16 = 7 ∨ x / 16 = 8 ∨ x / 16 = 9 ∨ x / 16 = 10 ∨ x / 16 = 11 ∨ x / 16 = 12 ∨ x / 16 = 13 ∨ x / 16 = 14 ∨ x / 16 = 15 := by omega
  rcases this with h | h | h | h | h | h | h | h | h | h | h | h | h | h | h | h
  · exact prd_all (k := 0) prd_c0 h hy
  · exact prd_all (k := 1) prd_c1 h hy
  · exact prd_all (k := 2) prd_c2 h hy
  · exact prd_all (k := 3) prd_c3 h hy
  · exact prd_all (k := 4) prd_c4 h hy
  · exact prd_all (k := 5) prd_c5 h hy
  · exact prd_all (k := 6) prd_c6 h hy
  · exact prd_all (k := 7) prd_c7 h hy
  · exact prd_all (k := 8) prd_c8 h hy
  · exact prd_all (k := 9) prd_c9 h hy
  · exact prd_all (k := 10) prd_c10 h hy
  · exact prd_all (k := 11) prd_c11 h hy
  · exact prd_all (k := 12) prd_c12 h hy
  · exact prd_all (k := 13) prd_c13 h hy
  · exact prd_all (k := 14) prd_c14 h hy
  · exact prd_all (k := 15) prd_c15 h hy
end Go.Proofs.Ytlamngilmkaliaa
