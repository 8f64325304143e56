/- The program's Same: whether bytes are the same. -/
import Derived.Test.YtogbmekgmjmonaaRows
import Derived.Test.YtogbmekgmjmonaaFrom
import Derived.Laws.BitsAllLaws
import Derived.BigQuiet
import Derived.Deep.QuietTactic
import Derived.Deep.RegionHeld3
import Derived.Deep.DeepCutAuto
import Derived.Deep.DeepFit
namespace Go.Proofs.Ytogbmekgmjmonaa
open Go.RowKit

/-- a byte that is 0 as long as the bytes so far are the same -/
def Alike (u : Int) (A B : List Int) (i : Nat) : Prop := 0 ≤ u ∧ u < 256 ∧ (u = 0 ↔ ∀ j, j < i → A.getD j 0 = B.getD j 0)
theorem Alike.step {u : Int} {A B : List Int} {i : Nat} (h : Alike u A B i) (ba : byt A) (bb : byt B) : Alike (bits .or .u8 u (bits .xor .u8 (A.getD i 0) (B.getD i 0))) A B (i + 1) := by
  obtain ⟨h0, h1, h2⟩ := h
  have a0 := ba i
  have b0 := bb i
  have hi : (∀ j, j < i + 1 → A.getD j 0 = B.getD j 0) ↔ (∀ j, j < i → A.getD j 0 = B.getD j 0) ∧ A.getD i 0 = B.getD i 0 := by
    constructor
    · intro h
      exact ⟨fun j hj => h j (by omega), h i (by omega)⟩
    · rintro ⟨h, h'⟩ j hj
      by_cases hjk : j = i
      · subst hjk; exact h'
      · exact h j (by omega)
  obtain ⟨n, rfl⟩ := Int.eq_ofNat_of_zero_le h0
  generalize A.getD i 0 = a at *
  generalize B.getD i 0 = b at *
  obtain ⟨x, rfl⟩ := Int.eq_ofNat_of_zero_le a0.1
  obtain ⟨y, rfl⟩ := Int.eq_ofNat_of_zero_le b0.1
  have hx : x ^^^ y < 2 ^ 8 := Nat.xor_lt_two_pow (by omega) (by omega)
  have ho : n ||| (x ^^^ y) < 2 ^ 8 := Nat.or_lt_two_pow (by omega) hx
  rw [u8_xor_nat x y (by omega) (by omega), u8_or_nat n (x ^^^ y) (by omega) (by omega)]
  refine ⟨by omega, by omega, ?_⟩
  rw [hi, ← h2]
  have e1 : x ^^^ y = 0 ↔ x = y := by
    constructor
    · intro h
      have := congrArg (· ^^^ y) h
      simpa [Nat.xor_assoc] using this
    · rintro rfl
      simp
  have e2 := Nat.or_eq_zero_iff (n := n) (m := x ^^^ y)
  rw [e1] at e2
  omega
theorem Alike.all {u : Int} {A B : List Int} (h : Alike u A B A.length) (l : A.length = B.length) : decide (u = 0) = decide (A = B) := by
  by_cases e : A = B
  · rw [decide_eq_true e, decide_eq_true]
    subst e
    exact h.2.2.2 (fun _ _ => rfl)
  · rw [decide_eq_false e, decide_eq_false]
    intro h0
    apply e
    have k := h.2.2.1 h0
    apply List.ext_getElem l
    intro j h1 h2
    have := k j h1
    simpa [List.getD_eq_getElem?_getD, h1, h2] using this
theorem ne_len {A B : List Int} (h : ¬ A.length = B.length) : decide (A = B) = false := decide_eq_false (fun e => h (by rw [e]))

set_option linter.unusedSimpArgs false in
set_option maxRecDepth 100000 in
set_option maxHeartbeats 2000000 in
theorem same_eq {av bv : Value} {A B : List Int} {w : World} (ha : Bs w av A) (ba : byt A) (hb : Bs w bv B) (bb : byt B) (hl : A.length = B.length) :
    Calls Try.prog 22 #[av, bv] w fun e w' => e = .returned (.bool (decide (A = B))) ∧ Below w.heap.size w w' := by
  have HA : Hid (byt A) := ba
  have HB : Hid (byt B) := bb
  have HL : Hid (A.length = B.length) := hl
  obtain ⟨ao, ca, rfl, a1, a2, a3⟩ := ha
  obtain ⟨bo, cb, rfl, b1, b2, b3⟩ := hb
  rw [← hl] at b2 b3 ⊢
  have HA3 : Hid _ := a3
  have HB3 : Hid _ := b3
  clear a3 b3 ba bb hl
  unfold maxLen at a1 b1
  obtain ⟨n, hn⟩ : ∃ n, A.length = n := ⟨_, rfl⟩
  have HN : Hid (A.length = n) := hn
  rw [hn] at a2 b2 ⊢
  clear hn
  go_enter Try.func22, Try.ntmps22
  go_wp2_with fail
  go_loopw [5, 14] (fun uv iv wx => ∃ (i : Nat) (u : Int), i ≤ n ∧ iv = .int .i64 i ∧ uv = .int .u8 u ∧ Hid (Alike u A B i) ∧ Below w.heap.size w wx) (fun _ iv _ => n - (intOf iv).toNat)
  case atStart => exact ⟨0, 0, by omega, rfl, rfl, ⟨by decide, by decide, by simp⟩, Below.refl _ _⟩
  case round =>
    obtain ⟨i, u, hi, rfl, rfl, HK, bel⟩ := hrel
    by_cases hil : i < n
    · obtain ⟨pa, oa, rfl, pl, pc⟩ := HA3.out (by have := HN.out; omega)
      obtain ⟨pb, ob, rfl, ql, qc⟩ := HB3.out (by have := HN.out; omega)
      have c1 := (bel.cell (p := ⟨pa, oa + i, none⟩) pl).trans (pc i (by have := HN.out; omega))
      have c2 := (bel.cell (p := ⟨pb, ob + i, none⟩) ql).trans (qc i (by have := HN.out; omega))
      have HS : Hid _ := HK.out.step HA.out HB.out
      obtain ⟨x, hx⟩ : ∃ x, A.getD i 0 = x := ⟨_, rfl⟩
      obtain ⟨y, hy⟩ : ∃ y, B.getD i 0 = y := ⟨_, rfl⟩
      rw [hx] at c1 HS
      rw [hy] at c2 HS
      clear hx hy pc qc HA3 HB3
      have g1 : (i : Int) < (n : Int) := by omega
      have g2 : (0 : Int) ≤ (i : Int) := by omega
      have gi : IntKind.i64.wrap ((i : Int) + 1) = (i : Int) + 1 := by rw [IntKind.wrap_i64]; omega
      have l1 := Nat.lt_of_lt_of_le pl bel.size
      have l2 := Nat.lt_of_lt_of_le ql bel.size
      go_upto_region 7 with fail
      go_quiet (fail)
      all_goals go_wp2_with fail
      all_goals go_roundw
      case rel => exact ⟨i + 1, _, by omega, by go_num, rfl, HS, below_dN bel _⟩
      case measure => simp [intOf]; omega
    · have HI : Hid (i = n) := by show i = n; omega
      have g1 : (n : Int) ≤ (i : Int) := by omega
      go_wp2_with fail
      go_ret
      refine ⟨?_, bel⟩
      have hk := HK.out
      rw [HI.out, ← HN.out] at hk
      rw [← hk.all HL.out]
      rfl
set_option maxHeartbeats 1000000 in
theorem same_ne {av bv : Value} {A B : List Int} {w : World} (ha : Bs w av A) (hb : Bs w bv B) (hl : ¬ A.length = B.length) :
    Calls Try.prog 22 #[av, bv] w fun e w' => e = .returned (.bool (decide (A = B))) ∧ Below w.heap.size w w' := by
  obtain ⟨ao, ca, rfl, a1, a2, a3⟩ := ha
  obtain ⟨bo, cb, rfl, b1, b2, b3⟩ := hb
  clear a3 b3
  unfold maxLen at a1 b1
  rw [ne_len hl]
  have g1 : ¬ ((A.length : Nat) : Int) = ((B.length : Nat) : Int) := by omega
  go_enter Try.func22, Try.ntmps22
  go_wp2_with fail
  go_ret
  exact ⟨rfl, Below.refl _ _⟩
theorem con_Same {av bv : Value} {A B : List Int} {w : World} (ha : Bs w av A) (ba : byt A) (hb : Bs w bv B) (bb : byt B) :
    Calls Try.prog 22 #[av, bv] w fun e w' => e = .returned (.bool (decide (A = B))) ∧ Below w.heap.size w w' := by
  by_cases hl : A.length = B.length
  · exact same_eq ha ba hb bb hl
  · exact same_ne ha hb hl
end Go.Proofs.Ytogbmekgmjmonaa
