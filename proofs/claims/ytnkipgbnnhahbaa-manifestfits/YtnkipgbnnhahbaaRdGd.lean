/- Elements that are good. -/
import Derived.Test.YtnkipgbnnhahbaaDrWrN
import Derived.Test.YtnkipgbnnhahbaaDrPar
import Derived.Test.YtnkipgbnnhahbaaRows
import Derived.Deep.WholeRow
import Derived.Deep.RegionHeld3
import Derived.Deep.DeepCutAuto
import Derived.Deep.DeepFit
namespace Go.Proofs.Ytnkipgbnnhahbaa
open Go.RowKit
/-- an element that was read, or lies in one -/
def GdT (T : Tl) : Prop := fineT T = true ∧ depT T ≤ 16 ∧ (bytesT T).length ≤ 1048576 ∧ WfT T
theorem GdT.of {B : List Int} {T : Tl} (b : byt B) (h : parseP B = .ok T) : GdT T := by
  obtain ⟨e, h1, h2, h3, h4⟩ := parse_ok b h
  exact ⟨h1, h2, by rw [e]; exact h4, h3⟩
theorem bytesL_get8 : ∀ {ks : List Tl} {i : Nat} {k : Tl}, ks[i]? = some k → (bytesT k).length ≤ (bytesL ks).length
  | [], i, k, h => by simp at h
  | x :: xs, 0, k, h => by
    simp at h
    subst h
    rw [bytesL, List.length_append]
    omega
  | x :: xs, i + 1, k, h => by
    rw [List.getElem?_cons_succ] at h
    have := bytesL_get8 h
    rw [bytesL, List.length_append]
    omega
theorem fineL_get8 : ∀ {ks : List Tl} {i : Nat} {k : Tl}, fineL ks = true → ks[i]? = some k → fineT k = true
  | [], i, k, _, h => by simp at h
  | x :: xs, 0, k, f, h => by
    simp at h
    subst h
    rw [fineL, Bool.and_eq_true] at f
    exact f.1
  | x :: xs, i + 1, k, f, h => by
    rw [List.getElem?_cons_succ] at h
    rw [fineL, Bool.and_eq_true] at f
    exact fineL_get8 f.2 h
theorem depL_get8 : ∀ {ks : List Tl} {i : Nat} {k : Tl}, ks[i]? = some k → depT k ≤ depL ks
  | [], i, k, h => by simp at h
  | x :: xs, 0, k, h => by
    simp at h
    subst h
    rw [depL]
    omega
  | x :: xs, i + 1, k, h => by
    rw [List.getElem?_cons_succ] at h
    have := depL_get8 h
    rw [depL]
    omega
theorem GdT.kid {c t : Int} {m : Bool} {b : List Int} {ks : List Tl} {i : Nat} {k : Tl} (h : GdT (.mk c t m b ks)) (hk : ks[i]? = some k) : GdT k := by
  obtain ⟨h1, h2, h3, h4⟩ := h
  rw [fineT, Bool.and_eq_true] at h1
  rw [depT] at h2
  rw [bytesT_len] at h3
  rw [WfT] at h4
  have := depL_get8 hk
  have := bytesL_get8 hk
  exact ⟨fineL_get8 h1.2 hk, by omega, by rw [List.length_append] at h3; omega, h4.2.2.2.get hk⟩
theorem GdT.body {c t : Int} {m : Bool} {b : List Int} {ks : List Tl} (h : GdT (.mk c t m b ks)) : b.length ≤ 1048576 := by
  have h3 := h.2.2.1
  rw [bytesT_len, List.length_append] at h3
  omega
theorem GdT.wf {T : Tl} (h : GdT T) : WfT T := h.2.2.2
theorem GdT.wr {T : Tl} (h : GdT T) : wrN T = 0 := by
  unfold wrN
  rw [if_pos h.1, if_neg (by have := h.2.1; omega), if_neg (by have := h.2.2.1; omega)]
mutual
theorem sz2_le : ∀ T : Tl, 2 * szT T ≤ (bytesT T).length
  | .mk c t m b ks => by
    have hz := sz2L_le ks
    have hp := lenB_pos (b ++ bytesL ks).length
    rw [szT, bytesT_len, List.length_append]
    rw [List.length_append] at hp
    omega
theorem sz2L_le : ∀ ks : List Tl, 2 * szL ks ≤ (bytesL ks).length
  | [] => by rw [szL]; omega
  | k :: ks => by
    have h1 := sz2_le k
    have h2 := sz2L_le ks
    rw [szL, bytesL, List.length_append]
    omega
end
theorem GdT.sz {T : Tl} (h : GdT T) : szT T ≤ 1000000 := by
  have := sz2_le T
  have := h.2.2.1
  omega
end Go.Proofs.Ytnkipgbnnhahbaa
