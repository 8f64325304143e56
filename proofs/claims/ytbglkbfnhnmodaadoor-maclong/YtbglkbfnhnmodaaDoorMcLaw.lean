/- The laws of layer 8: what they share. -/
import Derived.Test.YtbglkbfnhnmodaaDoorRows
import Derived.Test.YtbglkbfnhnmodaaDoorMcExp
import Derived.Test.YtbglkbfnhnmodaaDoorMcCode
import Derived.Test.YtbglkbfnhnmodaaDoorSLaw1
import Derived.Deep.WholeRow
import Derived.Deep.RegionHeld3
import Derived.Deep.DeepCutAuto
import Derived.Deep.DeepFit
namespace Go.Proofs.YtbglkbfnhnmodaaDoor
open Go.RowKit

theorem con_cut {v : Value} {B : List Int} {m : Int} {n : Nat} {w : World} (hm : m = (n : Int)) (h : Bs w v B) :
    Calls Tryd.prog 7 #[v, .int .i64 m] w fun e w' => ∃ v' : Value, e = .returned v' ∧ Bs w v' (B.take n) ∧ w' = w := by
  subst hm
  have h0 := h
  obtain ⟨ao, cap, rfl, c1, c2, c3⟩ := h
  clear c3
  unfold maxLen at c1
  by_cases hl : n < B.length
  · have g1 : (n : Int) < ((B.length : Nat) : Int) := by omega
    have g2 : (0 : Int) ≤ (n : Int) := by omega
    have g3 : n ≤ cap := by omega
    go_enter Tryd.func7, Tryd.ntmps7
    go_wp2_with fail
    go_ret
    exact ⟨_, rfl, bs_upto h0 rfl (by omega), rfl⟩
  · have g1 : ¬ (n : Int) < ((B.length : Nat) : Int) := by omega
    have HT : Hid (B.take n = B) := List.take_of_length_le (by omega)
    go_enter Tryd.func7, Tryd.ntmps7
    go_wp2_with fail
    go_ret
    exact ⟨_, rfl, by rw [HT.out]; exact h0, rfl⟩
theorem r7_MadeT {t0 t1 t2 t3 t4 t5 t6 t7 : Int} {w : World} (ht : HS = [t0, t1, t2, t3, t4, t5, t6, t7]) :
    Calls Tryd.prog 9 #[] w fun e w' => ∃ kb kc : Nat, e = .returned (.agg #[.slice (some ⟨kb, 0, none⟩) 80 kc, .int .u64 t0, .int .u64 t1, .int .u64 t2, .int .u64 t3, .int .u64 t4, .int .u64 t5, .int .u64 t6, .int .u64 t7]) ∧ KAt w' kb ∧ Below w.heap.size w w' := by
  unfold HS at ht
  simp only [List.cons.injEq] at ht
  obtain ⟨rfl, rfl, rfl, rfl, rfl, rfl, rfl, rfl, _⟩ := ht
  exact r7_MadeL
theorem byt_cutN {B : List Int} (h : byt B) (n : Nat) : byt (B.take n) := byt_upto h
theorem below_un {w w' : World} (h : Below w.heap.size w.drew w') : Below w.heap.size w w' := ⟨h.os, h.tape, h.output, h.size, h.block⟩

end Go.Proofs.YtbglkbfnhnmodaaDoor
