/- The laws of layer 10: what they share. -/
import Derived.Test.YtpfmoakapdfdaaaRows
import Derived.Test.YtpfmoakapdfdaaaGhCode
import Derived.Test.YtpfmoakapdfdaaaEqB
import Derived.Test.YtpfmoakapdfdaaaShape
import Derived.Test.YtpfmoakapdfdaaaTakeRow
import Derived.Test.YtpfmoakapdfdaaaApBs
import Derived.Laws.CopyOwn
import Derived.Deep.WholeRow
import Derived.Deep.RegionHeld3
import Derived.Deep.DeepCutAuto
import Derived.Deep.DeepFit
namespace Go.Proofs.Ytpfmoakapdfdaaa
open Go.RowKit

theorem eql_same16 {S : List Int} {F : List Value} (hF : u8s S = F) (l : F.length = 16) : ∀ w : World, (Op.equalIn 10000 22 (.agg F.toArray) (.agg F.toArray)).run Try.prog w = .ok true w := by
  subst hF
  rw [List.length_map] at l
  intro w
  rw [eql_16 l l w, decide_eq_true rfl]
theorem one_len : oneB.length = 16 := rfl
theorem one_byt : byt oneB := byt_of _ (fun j hj => by
  have a : ∀ j : Fin 16, 0 ≤ oneB.getD j.1 0 ∧ oneB.getD j.1 0 < 256 := by decide
  exact a ⟨j, hj⟩)
theorem mul_one1 : mulB oneB oneB = oneB := mulB_one one_len one_byt
set_option maxRecDepth 100000 in
theorem con_one {w : World} :
    Calls Try.prog 9 #[] w fun e w' => e = .returned (.agg (u8s oneB).toArray) ∧ Below w.heap.size w w' := by
  have bel : Below w.heap.size w (w.alloc (.cells #[.int .u8 128, .int .u8 0, .int .u8 0, .int .u8 0, .int .u8 0, .int .u8 0, .int .u8 0, .int .u8 0, .int .u8 0, .int .u8 0, .int .u8 0, .int .u8 0, .int .u8 0, .int .u8 0, .int .u8 0, .int .u8 0] 22)) := (Below.refl _ _).alloc (Nat.le_refl _) _
  go_enter Try.func9, Try.ntmps9
  go_wp2_with (first
    | (refine wpList_store_row rfl 22 _ _ rfl w.heap.size #[.int .u8 128, .int .u8 0, .int .u8 0, .int .u8 0, .int .u8 0, .int .u8 0, .int .u8 0, .int .u8 0, .int .u8 0, .int .u8 0, .int .u8 0, .int .u8 0, .int .u8 0, .int .u8 0, .int .u8 0, .int .u8 0] rfl rfl 22 #[.int .u8 0, .int .u8 0, .int .u8 0, .int .u8 0, .int .u8 0, .int .u8 0, .int .u8 0, .int .u8 0, .int .u8 0, .int .u8 0, .int .u8 0, .int .u8 0, .int .u8 0, .int .u8 0, .int .u8 0, .int .u8 0] (heap_alloc_last _ _) size_16 rfl rfl ?_; rw [World.setRow_alloc_new])
    | fail)
  exact bodyPost_ret (results_cell_row Try.results9 _ _ w.heap.size 22 #[.int .u8 128, .int .u8 0, .int .u8 0, .int .u8 0, .int .u8 0, .int .u8 0, .int .u8 0, .int .u8 0, .int .u8 0, .int .u8 0, .int .u8 0, .int .u8 0, .int .u8 0, .int .u8 0, .int .u8 0, .int .u8 0] (0, 0) _ rfl (heap_alloc_last _ _) Try.underlying22 rfl size_16) rfl ⟨rfl, bel⟩
theorem con_oneL {O1 : List Value} {w : World} (h : u8s oneB = O1) :
    Calls Try.prog 9 #[] w fun e w' => e = .returned (.agg O1.toArray) ∧ Below w.heap.size w w' := by
  subst h
  exact con_one
theorem con_MulL {A B : List Int} {F G K : List Value} {w : World} (hF : u8s A = F) (hG : u8s B = G) (hK : u8s (mulB A B) = K) (lA : A.length = 16) (bA : byt A) (lB : B.length = 16) (bB : byt B) :
    Calls Try.prog 8 #[.agg F.toArray, .agg G.toArray] w fun e w' => e = .returned (.agg K.toArray) ∧ Below w.heap.size w w' := by
  subst hF hG hK
  exact con_Mul lA bA lB bB
theorem con_Mul1 {O1 : List Value} {w : World} (h : u8s oneB = O1) :
    Calls Try.prog 8 #[.agg O1.toArray, .agg O1.toArray] w fun e w' => e = .returned (.agg O1.toArray) ∧ Below w.heap.size w w' := con_MulL h h (by rw [mul_one1]; exact h) one_len one_byt one_len one_byt
end Go.Proofs.Ytpfmoakapdfdaaa
