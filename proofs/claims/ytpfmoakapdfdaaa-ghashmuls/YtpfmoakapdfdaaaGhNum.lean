/- The field of blocks as numbers: bit i is x^i; sums are xor. Plain facts: products go either way round, in any order, and spread over sums. -/
import Derived.Test.YtpfmoakapdfdaaaBase
namespace Go.Proofs.Ytpfmoakapdfdaaa

/-- times x -/
def tN2 (v : Nat) : Nat := (v <<< 1) % 2 ^ 128 ^^^ (if v.testBit 127 then 135 else 0)
theorem tN2_lt (v : Nat) : tN2 v < 2 ^ 128 := by
  unfold tN2
  apply Nat.xor_lt_two_pow
  · exact Nat.mod_lt _ (by decide)
  · split <;> decide
theorem xor_if (p q : Bool) (c : Nat) : (if (p ^^ q) then c else 0) = (if p then c else 0) ^^^ (if q then c else 0) := by
  cases p <;> cases q <;> simp
theorem shl_mod_xor (u v : Nat) : ((u ^^^ v) <<< 1) % 2 ^ 128 = ((u <<< 1) % 2 ^ 128) ^^^ ((v <<< 1) % 2 ^ 128) := by
  apply Nat.eq_of_testBit_eq
  intro i
  simp only [Nat.testBit_mod_two_pow, Nat.testBit_xor, Nat.testBit_shiftLeft]
  by_cases h : i < 128 <;> by_cases k : 1 ≤ i <;> simp [h, k]
theorem xor4_swap (a b c d : Nat) : (a ^^^ b) ^^^ (c ^^^ d) = (a ^^^ c) ^^^ (b ^^^ d) := by
  apply Nat.eq_of_testBit_eq
  intro i
  simp only [Nat.testBit_xor]
  cases a.testBit i <;> cases b.testBit i <;> cases c.testBit i <;> cases d.testBit i <;> rfl
theorem tN2_xor (u v : Nat) : tN2 (u ^^^ v) = tN2 u ^^^ tN2 v := by
  unfold tN2
  rw [shl_mod_xor, Nat.testBit_xor, xor_if, xor4_swap]
theorem tN2_0 : tN2 0 = 0 := by decide
/-- times x^k -/
def ttN : Nat → Nat → Nat
  | 0, v => v
  | k + 1, v => tN2 (ttN k v)
theorem ttN_xor : ∀ (k u v : Nat), ttN k (u ^^^ v) = ttN k u ^^^ ttN k v
  | 0, _, _ => rfl
  | k + 1, u, v => by rw [ttN, ttN_xor k, tN2_xor]; rfl
theorem ttN_0 : ∀ k, ttN k 0 = 0
  | 0 => rfl
  | k + 1 => by rw [ttN, ttN_0 k, tN2_0]
theorem ttN_add : ∀ (j k v : Nat), ttN (j + k) v = ttN j (ttN k v)
  | 0, k, v => by rw [Nat.zero_add]; rfl
  | j + 1, k, v => by rw [show j + 1 + k = (j + k) + 1 by omega, ttN, ttN_add j]; rfl
theorem ttN_lt {v : Nat} (h : v < 2 ^ 128) : ∀ k, ttN k v < 2 ^ 128
  | 0 => h
  | _ + 1 => tN2_lt _
theorem tN2_pow {i : Nat} (h : i < 127) : tN2 (2 ^ i) = 2 ^ (i + 1) := by
  unfold tN2
  have e : (2 ^ i).testBit 127 = false := by rw [Nat.testBit_two_pow]; simp; omega
  rw [e, Nat.shiftLeft_eq, ← Nat.pow_add_one, Nat.mod_eq_of_lt (Nat.pow_lt_pow_right (by decide) (by omega))]
  simp
/-- x^k -/
theorem ttN_one : ∀ {k : Nat}, k < 128 → ttN k 1 = 2 ^ k
  | 0, _ => rfl
  | k + 1, h => by rw [ttN, ttN_one (by omega), tN2_pow (by omega)]
/-- x^128 -/
theorem ttN_128 : ttN 128 1 = 135 := by
  rw [ttN, ttN_one (by decide)]
  decide +kernel
theorem ttN_fold (m : Nat) : ttN (m + 128) 1 = ttN (m + 7) 1 ^^^ ttN (m + 2) 1 ^^^ ttN (m + 1) 1 ^^^ ttN m 1 := by
  rw [ttN_add, ttN_128, ttN_add m 7, ttN_add m 2, ttN_add m 1, ttN_one (k := 7) (by decide), ttN_one (k := 2) (by decide), ttN_one (k := 1) (by decide), ← ttN_xor, ← ttN_xor, ← ttN_xor]
  rfl
/-- a sum of n -/
def xsN (f : Nat → Nat) : Nat → Nat
  | 0 => 0
  | n + 1 => xsN f n ^^^ f n
theorem xsN_congr {f g : Nat → Nat} : ∀ {n : Nat}, (∀ i, i < n → f i = g i) → xsN f n = xsN g n
  | 0, _ => rfl
  | n + 1, h => by rw [xsN, xsN, xsN_congr (fun i hi => h i (by omega)), h n (by omega)]
theorem xsN_xor (f g : Nat → Nat) : ∀ n, xsN (fun i => f i ^^^ g i) n = xsN f n ^^^ xsN g n
  | 0 => by simp [xsN]
  | n + 1 => by rw [xsN, xsN, xsN, xsN_xor f g n, xor4_swap]
theorem xsN_zero : ∀ n, xsN (fun _ => 0) n = 0
  | 0 => rfl
  | n + 1 => by rw [xsN, xsN_zero n]; rfl
theorem xsN_tt (k : Nat) (f : Nat → Nat) : ∀ n, ttN k (xsN f n) = xsN (fun i => ttN k (f i)) n
  | 0 => ttN_0 k
  | n + 1 => by rw [xsN, ttN_xor, xsN_tt k f n]; rfl
theorem xsN_lt {f : Nat → Nat} (h : ∀ i, f i < 2 ^ 128) : ∀ n, xsN f n < 2 ^ 128
  | 0 => Nat.two_pow_pos 128
  | n + 1 => Nat.xor_lt_two_pow (xsN_lt h n) (h n)
/-- one if the bit is set -/
def atN (a k c : Nat) : Nat := if a.testBit k then c else 0
theorem atN_xor (a b k c : Nat) : atN (a ^^^ b) k c = atN a k c ^^^ atN b k c := by
  unfold atN
  rw [Nat.testBit_xor, xor_if]
theorem atN_xor2 (a k c d : Nat) : atN a k (c ^^^ d) = atN a k c ^^^ atN a k d := by
  unfold atN
  cases a.testBit k <;> simp
theorem atN_tt (j a k c : Nat) : ttN j (atN a k c) = atN a k (ttN j c) := by
  unfold atN
  cases a.testBit k <;> simp [ttN_0]
theorem atN_lt {a k c : Nat} (h : c < 2 ^ 128) : atN a k c < 2 ^ 128 := by
  unfold atN
  split
  · exact h
  · decide
/-- a number is the sum of its bits -/
theorem bits_sum (a : Nat) : ∀ n, xsN (fun i => atN a i (2 ^ i)) n = a % 2 ^ n
  | 0 => by rw [Nat.pow_zero, Nat.mod_one]; rfl
  | n + 1 => by
    rw [xsN, bits_sum a n]
    apply Nat.eq_of_testBit_eq
    intro i
    unfold atN
    rw [Nat.testBit_xor, Nat.testBit_mod_two_pow, Nat.testBit_mod_two_pow]
    by_cases h : i < n
    · have e : ((if a.testBit n then 2 ^ n else 0) : Nat).testBit i = false := by
        split
        · rw [Nat.testBit_two_pow]; simp; omega
        · exact Nat.zero_testBit i
      rw [e]
      simp [h, show i < n + 1 by omega]
    · by_cases k : i = n
      · subst k
        have e : ((if a.testBit i then 2 ^ i else 0) : Nat).testBit i = a.testBit i := by
          cases hh : a.testBit i
          · simp
          · simp [Nat.testBit_two_pow_self]
        rw [e]
        simp
      · have e : ((if a.testBit n then 2 ^ n else 0) : Nat).testBit i = false := by
          split
          · rw [Nat.testBit_two_pow]; simp; omega
          · exact Nat.zero_testBit i
        rw [e]
        simp [h, show ¬ i < n + 1 by omega]
theorem bits_all {a : Nat} (h : a < 2 ^ 128) : xsN (fun i => atN a i (2 ^ i)) 128 = a := by
  rw [bits_sum, Nat.mod_eq_of_lt h]
/-- a product -/
def mulN2 (a b : Nat) : Nat := xsN (fun i => atN a i (ttN i b)) 128
theorem mulN2_lt {a b : Nat} (h : b < 2 ^ 128) : mulN2 a b < 2 ^ 128 := xsN_lt (fun i => atN_lt (ttN_lt h i)) 128
theorem mulN2_xor (a b c : Nat) : mulN2 (a ^^^ b) c = mulN2 a c ^^^ mulN2 b c := by
  unfold mulN2
  rw [← xsN_xor]
  exact xsN_congr (fun i _ => atN_xor a b i _)
theorem mulN2_xor2 (a b c : Nat) : mulN2 a (b ^^^ c) = mulN2 a b ^^^ mulN2 a c := by
  unfold mulN2
  rw [← xsN_xor]
  exact xsN_congr (fun i _ => by rw [ttN_xor, atN_xor2])
theorem mulN2_tt (j a b : Nat) : mulN2 a (ttN j b) = ttN j (mulN2 a b) := by
  unfold mulN2
  rw [xsN_tt]
  exact xsN_congr (fun i _ => by rw [atN_tt, ← ttN_add, ← ttN_add, Nat.add_comm])
theorem mulN2_one {a : Nat} (h : a < 2 ^ 128) : mulN2 a 1 = a := by
  unfold mulN2
  rw [xsN_congr (g := fun i => atN a i (2 ^ i)) (fun i hi => by rw [ttN_one hi])]
  exact bits_all h
theorem mulN2_zero (a : Nat) : mulN2 a 0 = 0 := by
  unfold mulN2
  rw [xsN_congr (g := fun _ => 0) (fun i _ => by rw [ttN_0]; unfold atN; simp)]
  exact xsN_zero 128
theorem mulN2_sum (a : Nat) (f : Nat → Nat) : ∀ n, mulN2 a (xsN f n) = xsN (fun i => mulN2 a (f i)) n
  | 0 => mulN2_zero a
  | n + 1 => by rw [xsN, mulN2_xor2, mulN2_sum a f n]; rfl
theorem mulN2_at (a b k c : Nat) : mulN2 a (atN b k c) = atN b k (mulN2 a c) := by
  unfold atN
  cases b.testBit k <;> simp [mulN2_zero]
/-- either way round -/
theorem mulN2_comm {a b : Nat} (ha : a < 2 ^ 128) (hb : b < 2 ^ 128) : mulN2 a b = mulN2 b a := by
  conv => lhs; rw [← bits_all hb]
  rw [mulN2_sum]
  show _ = xsN (fun i => atN b i (ttN i a)) 128
  refine xsN_congr (fun i hi => ?_)
  rw [mulN2_at, ← ttN_one hi, mulN2_tt, mulN2_one ha]
/-- in any order -/
theorem mulN2_assoc {a b c : Nat} (hb : b < 2 ^ 128) (hc : c < 2 ^ 128) : mulN2 (mulN2 a b) c = mulN2 a (mulN2 b c) := by
  rw [mulN2_comm (mulN2_lt hb) hc]
  conv => lhs; arg 2; unfold mulN2
  rw [mulN2_sum]
  show _ = xsN (fun i => atN a i (ttN i (mulN2 b c))) 128
  refine xsN_congr (fun i _ => ?_)
  rw [mulN2_at, mulN2_tt, mulN2_comm hc hb]
end Go.Proofs.Ytpfmoakapdfdaaa
