/- Bits of words, in whichever way a choice, a majority or a rotation is written. Plain facts. -/
import Derived.Test.YtbglkbfnhnmodaaDoorSNum
namespace Go.Proofs.YtbglkbfnhnmodaaDoor
open Go.RowKit

def w64 (x : Int) : Prop := 0 ≤ x ∧ x < 18446744073709551616
theorem w64_nat {x : Int} (h : w64 x) : ∃ n : Nat, x = (n : Int) ∧ n < 18446744073709551616 := ⟨x.toNat, by have := h.1; omega, by have := h.2; omega⟩
theorem lt_and {a b : Nat} (ha : a < 18446744073709551616) : a &&& b < 18446744073709551616 := Nat.lt_of_le_of_lt Nat.and_le_left ha
theorem lt_or {a b : Nat} (ha : a < 18446744073709551616) (hb : b < 18446744073709551616) : a ||| b < 18446744073709551616 := Nat.or_lt_two_pow (n := 64) ha hb
theorem lt_xor {a b : Nat} (ha : a < 18446744073709551616) (hb : b < 18446744073709551616) : a ^^^ b < 18446744073709551616 := Nat.xor_lt_two_pow (n := 64) ha hb
theorem max_nat : IntKind.u64.max = ((18446744073709551615 : Nat) : Int) := by decide
theorem all_bit (i : Nat) : (18446744073709551615 : Nat).testBit i = decide (i < 64) := Nat.testBit_two_pow_sub_one 64 i
theorem hi_bit {a i : Nat} (ha : a < 18446744073709551616) (hi : ¬ i < 64) : a.testBit i = false := Nat.testBit_lt_two_pow (Nat.lt_of_lt_of_le ha (Nat.pow_le_pow_right (n := 2) (by decide) (show 64 ≤ i by omega)))

/-- a choice, as the document writes it -/
def chN (e f g : Int) : Int := bits .xor .u64 (bits .and .u64 e f) (bits .and .u64 (bits .xor .u64 IntKind.u64.max e) g)
/-- a majority, as the document writes it -/
def majN (a b c : Int) : Int := bits .xor .u64 (bits .xor .u64 (bits .and .u64 a b) (bits .and .u64 a c)) (bits .and .u64 b c)

theorem ch_nat {e f g : Nat} (he : e < 18446744073709551616) (hf : f < 18446744073709551616) (hg : g < 18446744073709551616) : chN e f g = (((e &&& f) ^^^ ((18446744073709551615 ^^^ e) &&& g) : Nat) : Int) := by
  unfold chN
  rw [max_nat, u64_xor_nat _ _ (by decide) he, u64_and_nat _ _ he hf, u64_and_nat _ _ (lt_xor (by decide) he) hg, u64_xor_nat _ _ (lt_and he) (lt_and (lt_xor (by decide) he))]
theorem maj_nat {a b c : Nat} (ha : a < 18446744073709551616) (hb : b < 18446744073709551616) (hc : c < 18446744073709551616) : majN a b c = ((((a &&& b) ^^^ (a &&& c)) ^^^ (b &&& c) : Nat) : Int) := by
  unfold majN
  rw [u64_and_nat _ _ ha hb, u64_and_nat _ _ ha hc, u64_and_nat _ _ hb hc, u64_xor_nat _ _ (lt_and ha) (lt_and ha), u64_xor_nat _ _ (lt_xor (lt_and ha) (lt_and ha)) (lt_and hb)]

/-- g ^ (e & (f ^ g)) -/
theorem ch_xor {e f g : Int} (qe : w64 e) (qf : w64 f) (qg : w64 g) : bits .xor .u64 g (bits .and .u64 e (bits .xor .u64 f g)) = chN e f g := by
  obtain ⟨e, rfl, he⟩ := w64_nat qe
  obtain ⟨f, rfl, hf⟩ := w64_nat qf
  obtain ⟨g, rfl, hg⟩ := w64_nat qg
  rw [ch_nat he hf hg, u64_xor_nat _ _ hf hg, u64_and_nat _ _ he (lt_xor hf hg), u64_xor_nat _ _ hg (lt_and he)]
  congr 1
  apply Nat.eq_of_testBit_eq
  intro i
  simp only [Nat.testBit_xor, Nat.testBit_and, all_bit]
  by_cases hi : i < 64
  · simp only [hi, decide_true]
    cases e.testBit i <;> cases f.testBit i <;> cases g.testBit i <;> rfl
  · simp [hi_bit he hi, hi_bit hg hi]
/-- (e & f) | (^e & g) -/
theorem ch_or {e f g : Int} (qe : w64 e) (qf : w64 f) (qg : w64 g) : bits .or .u64 (bits .and .u64 e f) (bits .and .u64 (bits .xor .u64 IntKind.u64.max e) g) = chN e f g := by
  obtain ⟨e, rfl, he⟩ := w64_nat qe
  obtain ⟨f, rfl, hf⟩ := w64_nat qf
  obtain ⟨g, rfl, hg⟩ := w64_nat qg
  rw [ch_nat he hf hg, max_nat, u64_xor_nat _ _ (by decide) he, u64_and_nat _ _ he hf, u64_and_nat _ _ (lt_xor (by decide) he) hg, u64_or_nat _ _ (lt_and he) (lt_and (lt_xor (by decide) he))]
  congr 1
  apply Nat.eq_of_testBit_eq
  intro i
  simp only [Nat.testBit_xor, Nat.testBit_and, Nat.testBit_or, all_bit]
  by_cases hi : i < 64
  · simp only [hi, decide_true]
    cases e.testBit i <;> cases f.testBit i <;> cases g.testBit i <;> rfl
  · simp [hi_bit he hi, hi_bit hg hi]
/-- a & b | a & c | b & c -/
theorem maj_or {a b c : Int} (qa : w64 a) (qb : w64 b) (qc : w64 c) : bits .or .u64 (bits .or .u64 (bits .and .u64 a b) (bits .and .u64 a c)) (bits .and .u64 b c) = majN a b c := by
  obtain ⟨a, rfl, ha⟩ := w64_nat qa
  obtain ⟨b, rfl, hb⟩ := w64_nat qb
  obtain ⟨c, rfl, hc⟩ := w64_nat qc
  rw [maj_nat ha hb hc, u64_and_nat _ _ ha hb, u64_and_nat _ _ ha hc, u64_and_nat _ _ hb hc, u64_or_nat _ _ (lt_and ha) (lt_and ha), u64_or_nat _ _ (lt_or (lt_and ha) (lt_and ha)) (lt_and hb)]
  congr 1
  apply Nat.eq_of_testBit_eq
  intro i
  simp only [Nat.testBit_xor, Nat.testBit_and, Nat.testBit_or]
  cases a.testBit i <;> cases b.testBit i <;> cases c.testBit i <;> rfl
/-- a & b | c & (a | b) -/
theorem maj_or2 {a b c : Int} (qa : w64 a) (qb : w64 b) (qc : w64 c) : bits .or .u64 (bits .and .u64 a b) (bits .and .u64 c (bits .or .u64 a b)) = majN a b c := by
  obtain ⟨a, rfl, ha⟩ := w64_nat qa
  obtain ⟨b, rfl, hb⟩ := w64_nat qb
  obtain ⟨c, rfl, hc⟩ := w64_nat qc
  rw [maj_nat ha hb hc, u64_and_nat _ _ ha hb, u64_or_nat _ _ ha hb, u64_and_nat _ _ hc (lt_or ha hb), u64_or_nat _ _ (lt_and ha) (lt_and hc)]
  congr 1
  apply Nat.eq_of_testBit_eq
  intro i
  simp only [Nat.testBit_xor, Nat.testBit_and, Nat.testBit_or]
  cases a.testBit i <;> cases b.testBit i <;> cases c.testBit i <;> rfl
/-- a & (b | c) | b & c -/
theorem maj_or3 {a b c : Int} (qa : w64 a) (qb : w64 b) (qc : w64 c) : bits .or .u64 (bits .and .u64 a (bits .or .u64 b c)) (bits .and .u64 b c) = majN a b c := by
  obtain ⟨a, rfl, ha⟩ := w64_nat qa
  obtain ⟨b, rfl, hb⟩ := w64_nat qb
  obtain ⟨c, rfl, hc⟩ := w64_nat qc
  rw [maj_nat ha hb hc, u64_or_nat _ _ hb hc, u64_and_nat _ _ ha (lt_or hb hc), u64_and_nat _ _ hb hc, u64_or_nat _ _ (lt_and ha) (lt_and hb)]
  congr 1
  apply Nat.eq_of_testBit_eq
  intro i
  simp only [Nat.testBit_xor, Nat.testBit_and, Nat.testBit_or]
  cases a.testBit i <;> cases b.testBit i <;> cases c.testBit i <;> rfl
theorem or_swap {a b : Int} (qa : w64 a) (qb : w64 b) : bits .or .u64 a b = bits .or .u64 b a := by
  obtain ⟨a, rfl, ha⟩ := w64_nat qa
  obtain ⟨b, rfl, hb⟩ := w64_nat qb
  rw [u64_or_nat _ _ ha hb, u64_or_nat _ _ hb ha, Nat.or_comm]
/-- shifted left first, as rotations to the left are written -/
theorem ror_swap {x : Int} {n : Nat} (hx : w64 x) : bits .or .u64 (IntKind.u64.wrap (x * 2 ^ (64 - n))) (x / 2 ^ n) = ror x n := by
  unfold ror
  refine or_swap ?_ ⟨Int.ediv_nonneg hx.1 (Int.le_of_lt (Int.pow_pos (by decide))), Int.lt_of_le_of_lt (Int.ediv_le_self _ hx.1) hx.2⟩
  rw [IntKind.wrap_u64]
  unfold w64
  omega
end Go.Proofs.YtbglkbfnhnmodaaDoor
