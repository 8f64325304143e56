/- Elements out of cells; plain facts. -/
import Derived.Test.YtnkipgbnnhahbaaDrTree
import Derived.Test.YtnkipgbnnhahbaaTakeRow
import Derived.Test.YtnkipgbnnhahbaaRows
import Derived.Deep.WholeRow
import Derived.Deep.RegionHeld3
import Derived.Deep.DeepCutAuto
import Derived.Deep.DeepFit
namespace Go.Proofs.Ytnkipgbnnhahbaa
open Go.RowKit
theorem size_tlv : (Try.prog.info? 42).map (·.size) = some 5 := by kernel_rfl
/-- an element out of the cells where it lies -/
theorem tlv_load {w : World} {g o : Nat} {cs : List Value} (h : CsAt w g o cs) (l : cs.length = 5) : (loadVar 42 ⟨g, o, none⟩).run Try.prog w = .ok (.agg cs.toArray) w :=
  load_cells (n := 5) (fun j v hv => h.2 j v hv) l Try.underlying42 rfl size_tlv
theorem get_kid {ks : List Tl} {i : Nat} (h : i < ks.length) : ∃ k, ks[i]? = some k := ⟨ks[i], List.getElem?_eq_getElem h⟩
theorem fine1_bad {c t : Int} {m : Bool} {b : List Int} {ks : List Tl} (h : c < 0 ∨ 3 < c ∨ t < 0 ∨ 30 < t ∨ (m = true ∧ 0 < b.length) ∨ (m = false ∧ 0 < ks.length)) : fine1 c t m b ks = false := by
  unfold fine1
  rcases h with h | h | h | h | ⟨h1, h2⟩ | ⟨h1, h2⟩
  · rw [decide_eq_false (show ¬ 0 ≤ c by omega)]; simp
  · rw [decide_eq_false (show ¬ c ≤ 3 by omega)]; simp
  · rw [decide_eq_false (show ¬ 0 ≤ t by omega)]; simp
  · rw [decide_eq_false (show ¬ t ≤ 30 by omega)]; simp
  · rw [h1, decide_eq_true h2]; simp
  · rw [h1, decide_eq_true h2]; simp
theorem fine1_good {c t : Int} {m : Bool} {b : List Int} {ks : List Tl} (h1 : 0 ≤ c ∧ c ≤ 3) (h2 : 0 ≤ t ∧ t ≤ 30) (h3 : m = true → b.length = 0) (h4 : m = false → ks.length = 0) : fine1 c t m b ks = true := by
  unfold fine1
  rw [decide_eq_true h1.1, decide_eq_true h1.2, decide_eq_true h2.1, decide_eq_true h2.2]
  cases m with
  | true => rw [decide_eq_false (show ¬ 0 < b.length by have := h3 rfl; omega)]; rfl
  | false => rw [decide_eq_false (show ¬ 0 < ks.length by have := h4 rfl; omega)]; rfl
mutual
theorem depT_sz : ∀ T : Tl, depT T ≤ szT T
  | .mk _ _ _ _ ks => by
    have := depL_szL ks
    rw [depT, szT]
    omega
theorem depL_szL : ∀ ks : List Tl, depL ks ≤ szL ks
  | [] => by rw [depL]; omega
  | k :: ks => by
    have := depT_sz k
    have := depL_szL ks
    rw [depL, szL]
    omega
end
theorem below_stepD {a w w' : World} (h : Below a.heap.size a w) (hb : Below w.heap.size w w') : Below a.heap.size a w' := h.trans (hb.mono h.size)
end Go.Proofs.Ytnkipgbnnhahbaa
