/- Rows of cells: numbers, points and signatures loaded and stored whole. (Plain part.) -/
import Derived.Test.YtnkipgbnnhahbaaEdU0
import Derived.Test.YtnkipgbnnhahbaaWpRow
import Derived.Test.YtnkipgbnnhahbaaRows
import Derived.Deep.WholeRow
import Derived.Deep.RegionHeld3
import Derived.Deep.DeepCutAuto
import Derived.Deep.DeepFit
namespace Go.Proofs.Ytnkipgbnnhahbaa
open Go.RowKit
theorem app_at {xs ys zs : List Value} {n : Nat} (h : xs.length = n) : ∀ j v, ys[j]? = some v → (xs ++ ys ++ zs)[n + j]? = some v := fun j v hv => by
  have hj := (List.getElem?_eq_some_iff.1 hv).1
  rw [List.append_assoc, List.getElem?_append_right (by omega), show n + j - xs.length = j by omega, List.getElem?_append_left hj]
  exact hv
theorem app_at0 {xs ys : List Value} : ∀ j v, xs[j]? = some v → (xs ++ ys)[0 + j]? = some v := fun j v hv => by
  have hj := (List.getElem?_eq_some_iff.1 hv).1
  rw [Nat.zero_add, List.getElem?_append_left hj]
  exact hv
theorem app_at2 {xs ys : List Value} {n : Nat} (h : xs.length = n) : ∀ j v, ys[j]? = some v → (xs ++ ys)[n + j]? = some v := fun j v hv => by
  rw [List.getElem?_append_right (by omega), show n + j - xs.length = j by omega]
  exact hv
theorem OneR.app {xs ys : List Value} (h : OneR xs) (k : OneR ys) : OneR (xs ++ ys) := by
  unfold OneR at *
  rw [Array.all_eq_true_iff_forall_mem] at *
  intro u hu
  simp only [List.mem_toArray, List.mem_append] at hu
  rcases hu with hu | hu
  · exact h u (by simpa using hu)
  · exact k u (by simpa using hu)
/-- a block that is written whole -/
theorem Blk.put {w : World} {g : Nat} {X ys : List Value} (B : Blk w g X) : Blk (w.setRow g ys.toArray) g ys := by
  obtain ⟨t, h⟩ := B
  exact ⟨t, setRow_heap _ _ _ _ _ _ h⟩
theorem sig_zero : ([.int .u64 0, .int .u64 0, .int .u64 0, .int .u64 0, .int .u64 0, .int .u64 0, .int .u64 0, .int .u64 0, .int .u64 0, .int .u64 0, .int .u64 0, .int .u64 0] : List Value) = [.int .u64 0, .int .u64 0, .int .u64 0, .int .u64 0, .int .u64 0, .int .u64 0] ++ [.int .u64 0, .int .u64 0, .int .u64 0, .int .u64 0, .int .u64 0, .int .u64 0] := rfl
end Go.Proofs.Ytnkipgbnnhahbaa
