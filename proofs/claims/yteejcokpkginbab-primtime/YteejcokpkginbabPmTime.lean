/- The document's Time of layer 13, whatever the tag. -/
import Derived.Test.YteejcokpkginbabRows
import Derived.Test.YteejcokpkginbabPmTimeA
import Derived.Test.YteejcokpkginbabPmTimeB
namespace Go.Proofs.Yteejcokpkginbab
open Go.RowKit

set_option linter.unusedSimpArgs false in
set_option maxRecDepth 100000 in
set_option maxHeartbeats 1000000 in
theorem r13_Time {tag : Int} {v : Value} {B : List Int} {w : World} (hv : Bs w v B) (b : byt B) (hl : B.length ≤ 140737488355327) :
    Calls Try.prog 16 #[.int .i64 tag, v] w fun e w' => (∀ n, timeP tag B = .ok n → e = .returned (.tuple #[.int .i64 n, .int .i64 0]) ∧ Below w.heap.size w w') ∧ (∀ c, timeP tag B = .error c → e = .returned (.tuple #[.int .i64 0, .int .i64 (c : Int)]) ∧ Below w.heap.size w w') := by
  by_cases c1 : tag = 23
  · subst c1
    rw [show timeP 23 B = timeF 2 B by unfold timeP; rw [if_pos rfl]]
    exact r13_Time23 hv b hl
  by_cases c2 : tag = 24
  · subst c2
    rw [show timeP 24 B = timeF 4 B by unfold timeP; rw [if_neg (by decide), if_pos rfl]]
    exact r13_Time24 hv b hl
  have H : Hid (timeP tag B = .error 1) := by show _ = _; unfold timeP; rw [if_neg c1, if_neg c2]
  clear hv b
  have j1 : (tag == 23) = false := by simpa using c1
  have j2 : (tag == 24) = false := by simpa using c2
  have l1 : (tag != 23) = true := by rw [bne, j1]; rfl
  have l2 : (tag != 24) = true := by rw [bne, j2]; rfl
  go_enter Try.func16, Try.ntmps16
  go_wp2_with fail
  refine bodyPost_ret (results_tmp2 rfl _ _ _) rfl ?_
  exact ⟨fun n h => (by rw [H.out] at h; cases h), fun c h => (by rw [H.out] at h; cases h; exact ⟨rfl, Below.refl _ _⟩)⟩
end Go.Proofs.Yteejcokpkginbab
