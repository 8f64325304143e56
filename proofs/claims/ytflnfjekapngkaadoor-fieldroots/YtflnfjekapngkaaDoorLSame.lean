/- limb.Same: 1, if the two numbers are the same, else 0. -/
import Derived.Test.YtflnfjekapngkaaDoorRows
import Derived.Test.YtflnfjekapngkaaDoorBase
import Derived.Deep.QuietTactic
import Derived.BigQuiet
namespace Go.Proofs.YtflnfjekapngkaaDoor
open Go.RowKit

theorem or_zero (n m : Int) (h0 : 0 ≤ n) (h1 : n < 18446744073709551616) (h2 : 0 ≤ m) (h3 : m < 18446744073709551616) :
    0 ≤ bits .or .u64 n m ∧ bits .or .u64 n m < 18446744073709551616 ∧ (bits .or .u64 n m = 0 ↔ n = 0 ∧ m = 0) := by
  rw [u64_or n m h0 h1 h2 h3]
  have hn : n.toNat < 2 ^ 64 := by omega
  have hm : m.toNat < 2 ^ 64 := by omega
  have hlt := Nat.or_lt_two_pow hn hm
  refine ⟨by omega, by omega, ?_⟩
  constructor
  · intro h
    have h' : n.toNat ||| m.toNat = 0 := by omega
    rw [Nat.or_eq_zero_iff] at h'
    omega
  · rintro ⟨rfl, rfl⟩
    rfl

theorem xor_zero (n m : Int) (h0 : 0 ≤ n) (h1 : n < 18446744073709551616) (h2 : 0 ≤ m) (h3 : m < 18446744073709551616) :
    0 ≤ bits .xor .u64 n m ∧ bits .xor .u64 n m < 18446744073709551616 ∧ (bits .xor .u64 n m = 0 ↔ n = m) := by
  rw [u64_xor n m h0 h1 h2 h3]
  have hn : n.toNat < 2 ^ 64 := by omega
  have hm : m.toNat < 2 ^ 64 := by omega
  have hlt := Nat.xor_lt_two_pow hn hm
  refine ⟨by omega, by omega, ?_⟩
  constructor
  · intro h
    have h' : n.toNat ^^^ m.toNat = 0 := by omega
    have h'' : n.toNat = m.toNat := by
      have := congrArg (· ^^^ m.toNat) h'
      simpa [Nat.xor_assoc] using this
    omega
  · rintro rfl
    simp

/-- the loop's step on what is the same so far -/
theorem same_step (n a b : Int) (h0 : 0 ≤ n) (h1 : n < 18446744073709551616) (ha : 0 ≤ a ∧ a < 18446744073709551616) (hb : 0 ≤ b ∧ b < 18446744073709551616) (A B : List Int) (k : Nat)
    (hiff : n = 0 ↔ ∀ j, j < k → A.getD j 0 = B.getD j 0) (hA : A.getD k 0 = a) (hB : B.getD k 0 = b) :
    0 ≤ bits .or .u64 n (bits .xor .u64 a b) ∧ bits .or .u64 n (bits .xor .u64 a b) < 18446744073709551616 ∧ (bits .or .u64 n (bits .xor .u64 a b) = 0 ↔ ∀ j, j < k + 1 → A.getD j 0 = B.getD j 0) := by
  have hx := xor_zero a b ha.1 ha.2 hb.1 hb.2
  have ho := or_zero n (bits .xor .u64 a b) h0 h1 hx.1 hx.2.1
  refine ⟨ho.1, ho.2.1, ?_⟩
  rw [ho.2.2, hx.2.2, hiff]
  constructor
  · rintro ⟨h, h'⟩ j hj
    by_cases hjk : j = k
    · subst hjk; rw [hA, hB, h']
    · exact h j (by omega)
  · intro h
    exact ⟨fun j hj => h j (by omega), by rw [← hA, ← hB]; exact h k (by omega)⟩

/-- what the last row makes of it -/
theorem same_end (n : Int) (h0 : 0 ≤ n) (h1 : n < 18446744073709551616) :
    bits .xor .u64 1 (bits .or .u64 n (IntKind.u64.wrap (-n)) / 9223372036854775808) = if n = 0 then 1 else 0 := by
  by_cases hz : n = 0
  · subst hz; rfl
  · rw [if_neg hz]
    have e : IntKind.u64.wrap (-n) = 18446744073709551616 - n := by rw [IntKind.wrap_u64]; omega
    rw [e, u64_or n _ h0 h1 (by omega) (by omega)]
    have hl := Nat.left_le_or (n := n.toNat) (m := (18446744073709551616 - n).toNat)
    have hr := Nat.right_le_or (n := n.toNat) (m := (18446744073709551616 - n).toNat)
    have hlt := Nat.or_lt_two_pow (n := 64) (show n.toNat < 2 ^ 64 by omega) (show (18446744073709551616 - n).toNat < 2 ^ 64 by omega)
    generalize n.toNat ||| (18446744073709551616 - n).toNat = m at *
    have : (m : Int) / 9223372036854775808 = 1 := by omega
    rw [this]
    rfl

def sameN (A B : List Int) : Int := if A = B then 1 else 0

theorem same_all (A B : List Int) (lA : A.length = 6) (lB : B.length = 6) (n : Int) (h0 : 0 ≤ n) (h1 : n < 18446744073709551616) (k : Nat) (hk : k = 6) (hiff : n = 0 ↔ ∀ j, j < k → A.getD j 0 = B.getD j 0) :
    bits .xor .u64 1 (bits .or .u64 n (IntKind.u64.wrap (-n)) / 9223372036854775808) = sameN A B := by
  rw [same_end n h0 h1, sameN]
  have : n = 0 ↔ A = B := by
    rw [hiff]
    constructor
    · intro h
      apply List.ext_getElem (by omega)
      intro i h1 h2
      have := h i (by omega)
      simpa [List.getD_eq_getElem?_getD, h1, h2] using this
    · rintro rfl _ _; rfl
  simp only [this]

set_option maxRecDepth 100000 in
set_option maxHeartbeats 400000 in
theorem same_any (A B : List Int) (w : World) (lA : A.length = 6) (lB : B.length = 6) (hx : fits A) (hy : fits B) :
    Calls Tryd.prog 43 #[.agg (us A).toArray, .agg (us B).toArray] w fun e w' => e = .returned (.int .u64 (sameN A B)) ∧ Below w.heap.size w w' := by
  have b0 := (Blk.new w (us A) 24 w.heap.size rfl).alloc (.cells (us B).toArray 24)
  have b1 := Blk.new (w.alloc (.cells (us A).toArray 24)) (us B) 24 (w.heap.size + 1) (by simp)
  have hbel : Below w.heap.size w ((w.alloc (.cells (us A).toArray 24)).alloc (.cells (us B).toArray 24)) := ((Below.refl _ _).alloc (Nat.le_refl _) _).alloc (by simp) _
  go_enter Tryd.func43, Tryd.ntmps43
  go_wp2
  go_loopw [5, 7] (fun o i wr => ∃ (k : Nat) (n : Int), k ≤ 6 ∧ i = .int .i64 k ∧ o = .int .u64 n ∧ 0 ≤ n ∧ n < 18446744073709551616 ∧ (n = 0 ↔ ∀ j, j < k → A.getD j 0 = B.getD j 0) ∧ Blk wr w.heap.size (us A) ∧ Blk wr (w.heap.size + 1) (us B) ∧ Below w.heap.size w wr)
    (fun _ i _ => 6 - (intOf i).toNat)
  case atStart => exact ⟨0, 0, by omega, rfl, rfl, by omega, by omega, by simp, b0, b1, hbel⟩
  case round =>
    obtain ⟨k, n, hk, rfl, rfl, hn0, hn1, hiff, hSA, hSB, hbel⟩ := hrel
    clear b0 b1
    by_cases hlt : k < 6
    · obtain ⟨a, hA⟩ : ∃ a, A.getD k 0 = a := ⟨_, rfl⟩
      obtain ⟨b, hB⟩ : ∃ b, B.getD k 0 = b := ⟨_, rfl⟩
      have ha := hSA.cell k _ (us_get A k (by omega))
      have hb := hSB.cell k _ (us_get B k (by omega))
      rw [hA] at ha
      rw [hB] at hb
      have hs : Hid _ := same_step n a b hn0 hn1 (hA ▸ hx k) (hB ▸ hy k) A B k hiff hA hB
      clear hiff hA hB
      have h1 : (k : Int) < 6 := by omega
      go_wp2
      go_quiet (fail)
      go_wp2
      go_roundw
      case rel => exact ⟨k + 1, _, by omega, by go_num, rfl, hs.out.1, hs.out.2.1, hs.out.2.2, hSA.drewN _, hSB.drewN _, below_dN hbel _⟩
      case measure => simp [intOf]; omega
    · have h6 : (6 : Int) ≤ (k : Int) := by omega
      go_wp2
      go_ret
      exact ⟨ret_int (same_all A B lA lB n hn0 hn1 k (by omega) hiff), hbel⟩
end Go.Proofs.YtflnfjekapngkaaDoor
