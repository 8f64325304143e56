/- The laws of layer 13: what they share, but for errors' numbers. -/
import Derived.Test.YteejcokpkginbabRows
import Derived.Test.YteejcokpkginbabSConv
import Derived.Test.YteejcokpkginbabFrom
import Derived.Lib.SlBytesConst
import Derived.Deep.WholeRow
import Derived.Deep.RegionHeld3
import Derived.Deep.DeepCutAuto
import Derived.Deep.DeepFit
namespace Go.Proofs.Yteejcokpkginbab
open Go.RowKit

theorem nil_eq13 : ∀ w : World, (binOp .eql 24 .nilIface .nilIface).run Try.prog w = .ok (.bool true) w := fun _ => by kernel_rfl
theorem nil_ne13 : ∀ w : World, (binOp .neq 24 .nilIface .nilIface).run Try.prog w = .ok (.bool false) w := fun _ => by kernel_rfl
theorem bs_list (w : World) (X : List Int) (n : Nat) (hn : X.length = n) (hm : n ≤ maxLen) : Bs (w.alloc (.cells (u8s X).toArray 5)) (.slice (some ⟨w.heap.size, 0, none⟩) n n) X := by
  have B := Blk.new w (u8s X) 5 w.heap.size rfl
  exact ⟨_, n, by rw [hn], hm, by omega, fun _ => ⟨w.heap.size, 0, rfl, B.lt, fun j hj => by rw [Nat.zero_add]; exact B.cell j _ (u8s_get X j hj)⟩⟩
theorem bs_zero (w : World) (ao : Option Addr) (cap : Nat) (h : cap ≤ maxLen) : Bs w (.slice ao 0 cap) [] := ⟨ao, cap, rfl, h, Nat.zero_le _, fun h => absurd h (by decide)⟩
theorem bs_const (w : World) (X : List Int) (n : Nat) (hn : X.length = n) (hm : n ≤ maxLen) (fr : Nat × Nat) : Bs (w.alloc (.cells (u8s X).toArray 5 fr)) (.slice (some ⟨w.heap.size, 0, none⟩) n n) X := by
  refine ⟨_, n, by rw [hn], hm, by omega, fun _ => ⟨w.heap.size, 0, rfl, by simp, fun j hj => ?_⟩⟩
  have h : (w.alloc (.cells (u8s X).toArray 5 fr)).heap[w.heap.size]? = some (.cells (u8s X).toArray 5 fr) := by
    show (w.heap.push _)[w.heap.size]? = _
    simp
  have e := u8s_get X j hj
  rw [Nat.zero_add]
  simp only [World.cell?, h, Option.isSome_none, Bool.false_eq_true, if_false]
  simpa using e
theorem conv_zero (w : World) (ao : Option Addr) (cap : Nat) : (convert 22 9 (.slice ao 0 cap)).run Try.prog w = .ok (.string (strOfNums [])) w := by
  cases ao <;> kernel_rfl
end Go.Proofs.Yteejcokpkginbab
