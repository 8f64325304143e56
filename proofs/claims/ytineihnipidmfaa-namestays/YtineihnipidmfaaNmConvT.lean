/- A text as bytes. -/
import Derived.Test.YtineihnipidmfaaRows
import Derived.Test.YtineihnipidmfaaNmSpec
import Derived.Test.YtineihnipidmfaaRowN
import Derived.Lib.ConvBytes
import Derived.Laws.AppendOwn
import Derived.Deep.WholeRow
import Derived.Deep.RegionHeld3
import Derived.Deep.DeepCutAuto
import Derived.Deep.DeepFit
namespace Go.Proofs.Ytineihnipidmfaa
open Go.RowKit

theorem str_sizeN (A : List Int) : (strOfNums A).size = A.length := by simp [strOfNums, ByteArray.size]
theorem str_getN {A : List Int} (h : byt A) {j : Nat} (hj : j < A.length) : (((strOfNums A).data.toList.getD j 0).toNat : Int) = A.getD j 0 := by
  have h0 := h j
  have e : (strOfNums A).data.toList = A.map fun n => UInt8.ofNat n.toNat := by simp [strOfNums]
  rw [e, List.getD_eq_getElem?_getD, List.getElem?_map, List.getElem?_eq_getElem hj]
  rw [List.getD_eq_getElem?_getD, List.getElem?_eq_getElem hj] at h0 ⊢
  simp only [Option.map_some, Option.getD_some] at h0 ⊢
  rw [UInt8.toNat_ofNat_of_lt' (by have : UInt8.size = 256 := rfl; omega)]
  omega
/-- a text's bytes, in a row of their own -/
theorem conv_text {bs : List Int} (b : byt bs) (hl : bs.length ≤ maxLen) (w : World) : ∃ cap w', (convert 9 25 (.string (strOfNums bs))).run Try.prog w = .ok (.slice (some ⟨w.heap.size, 0, none⟩) bs.length cap) w' ∧ Bs w' (.slice (some ⟨w.heap.size, 0, none⟩) bs.length cap) bs ∧ Below w.heap.size w w' := by
  have hc := Lib.run_convert_string_bytes (P := Try.prog) w 9 25 5 (strOfNums bs) Try.underlying9 Try.underlying25 Try.underlying5
  rw [str_sizeN] at hc
  refine ⟨_, _, hc, ⟨_, _, rfl, grownCap_le_maxLen _ _ _ _ hl, grownCap_ge _ _ _ _, fun _ => ⟨w.heap.size, 0, rfl, by rw [Lib.bytesWorld_size]; omega, fun j hj => ?_⟩⟩, ?_⟩
  · rw [Nat.zero_add, Lib.bytesWorld_cell _ _ _ _ (by rw [str_sizeN]; exact hj), str_getN b hj]
  · exact ⟨rfl, rfl, rfl, by rw [Lib.bytesWorld_size]; omega, fun j hj => Lib.bytesWorld_at_old _ _ _ j hj⟩
end Go.Proofs.Ytineihnipidmfaa
