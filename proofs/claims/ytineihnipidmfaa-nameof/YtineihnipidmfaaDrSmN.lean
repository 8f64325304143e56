/- Light elements are small: plain facts. -/
import Derived.Test.YtineihnipidmfaaDrTG
namespace Go.Proofs.Ytineihnipidmfaa
open Go.RowKit

mutual
theorem litT_len : ∀ (T : Tl) (n : Int) (d : Nat), 0 ≤ litT T n d → 5 * litT T n d + ((bytesT T).length : Int) ≤ 5 * n ∧ litT T n d + (szT T : Int) ≤ n
  | .mk c t m b ks, n, d, h => by
    rw [litT] at h ⊢
    split at h
    · omega
    · rename_i hc
      rw [if_neg hc]
      have := litL_len ks (n - 1 - b.length) (d - 1) h
      have l4 := lenB_len (b ++ bytesL ks).length
      rw [bytesT_len, szT]
      rw [List.length_append] at l4 ⊢
      omega
theorem litL_len : ∀ (ks : List Tl) (n : Int) (d : Nat), 0 ≤ litL ks n d → 5 * litL ks n d + ((bytesL ks).length : Int) ≤ 5 * n ∧ litL ks n d + (szL ks : Int) ≤ n
  | [], n, d, _ => by rw [litL, bytesL, szL]; simp
  | k :: ks, n, d, h => by
    rw [litL] at h ⊢
    split at h
    · omega
    · rename_i hc
      rw [if_neg hc]
      have h1 := litT_len k n d (by omega)
      have h2 := litL_len ks (litT k n d) d h
      rw [bytesL, List.length_append, szL]
      omega
end
end Go.Proofs.Ytineihnipidmfaa
