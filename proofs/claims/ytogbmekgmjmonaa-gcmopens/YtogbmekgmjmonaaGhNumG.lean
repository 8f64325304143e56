/- The field of blocks as numbers: bit i is x^i; sums are xor. Plain facts: products go either way round, in any order, and spread over sums. Blocks of 16 bytes as numbers: the highest bit of the first byte is x^0. Plain facts. Sums of blocks: bytes filled, their sum by a block, lengths in eight bytes. Plain facts. Rows of whole numbers that stand for a block by their parities. Plain facts. GCM's numbers: counters' blocks, the row, hidden bytes, tags. Plain facts. Bytes in a block of their own; parts of bytes. -/
import Derived.Test.YtogbmekgmjmonaaBase
import Derived.Test.YtogbmekgmjmonaaAeNumG
import Derived.Test.YtogbmekgmjmonaaFrom
import Derived.Deep.OwnRows
import Derived.Laws.BytesArg
import Derived.Lib.Strings
namespace Go.Proofs.Ytogbmekgmjmonaa

/-- times x -/
def tN2 (v : Nat) : Nat := (v <<< 1) % 2 ^ 128 ^^^ (if v.testBit 127 then 135 else 0)
theorem tN2_lt (v : Nat) : tN2 v < 2 ^ 128 := by
  unfold tN2
  apply Nat.xor_lt_two_pow
  · exact Nat.mod_lt _ (by decide)
  · split <;> decide
theorem xor_if (p q : Bool) (c : Nat) : (if (p ^^ q) then c else 0) = (if p then c else 0) ^^^ (if q then c else 0) := by
  cases p <;> cases q <;> simp
theorem shl_mod_xor (u v : Nat) : ((u ^^^ v) <<< 1) % 2 ^ 128 = ((u <<< 1) % 2 ^ 128) ^^^ ((v <<< 1) % 2 ^ 128) := by
  apply Nat.eq_of_testBit_eq
  intro i
  simp only [Nat.testBit_mod_two_pow, Nat.testBit_xor, Nat.testBit_shiftLeft]
  by_cases h : i < 128 <;> by_cases k : 1 ≤ i <;> simp [h, k]
theorem xor4_swap (a b c d : Nat) : (a ^^^ b) ^^^ (c ^^^ d) = (a ^^^ c) ^^^ (b ^^^ d) := by
  apply Nat.eq_of_testBit_eq
  intro i
  simp only [Nat.testBit_xor]
  cases a.testBit i <;> cases b.testBit i <;> cases c.testBit i <;> cases d.testBit i <;> rfl
theorem tN2_xor (u v : Nat) : tN2 (u ^^^ v) = tN2 u ^^^ tN2 v := by
  unfold tN2
  rw [shl_mod_xor, Nat.testBit_xor, xor_if, xor4_swap]
theorem tN2_0 : tN2 0 = 0 := by decide
/-- times x^k -/
def ttN : Nat → Nat → Nat
  | 0, v => v
  | k + 1, v => tN2 (ttN k v)
theorem ttN_xor : ∀ (k u v : Nat), ttN k (u ^^^ v) = ttN k u ^^^ ttN k v
  | 0, _, _ => rfl
  | k + 1, u, v => by rw [ttN, ttN_xor k, tN2_xor]; rfl
theorem ttN_0 : ∀ k, ttN k 0 = 0
  | 0 => rfl
  | k + 1 => by rw [ttN, ttN_0 k, tN2_0]
theorem ttN_add : ∀ (j k v : Nat), ttN (j + k) v = ttN j (ttN k v)
  | 0, k, v => by rw [Nat.zero_add]; rfl
  | j + 1, k, v => by rw [show j + 1 + k = (j + k) + 1 by omega, ttN, ttN_add j]; rfl
theorem ttN_lt {v : Nat} (h : v < 2 ^ 128) : ∀ k, ttN k v < 2 ^ 128
  | 0 => h
  | _ + 1 => tN2_lt _
theorem tN2_pow {i : Nat} (h : i < 127) : tN2 (2 ^ i) = 2 ^ (i + 1) := by
  unfold tN2
  have e : (2 ^ i).testBit 127 = false := by rw [Nat.testBit_two_pow]; simp; omega
  rw [e, Nat.shiftLeft_eq, ← Nat.pow_add_one, Nat.mod_eq_of_lt (Nat.pow_lt_pow_right (by decide) (by omega))]
  simp
/-- x^k -/
theorem ttN_one : ∀ {k : Nat}, k < 128 → ttN k 1 = 2 ^ k
  | 0, _ => rfl
  | k + 1, h => by rw [ttN, ttN_one (by omega), tN2_pow (by omega)]
/-- x^128 -/
theorem ttN_128 : ttN 128 1 = 135 := by
  rw [ttN, ttN_one (by decide)]
  decide +kernel
theorem ttN_fold (m : Nat) : ttN (m + 128) 1 = ttN (m + 7) 1 ^^^ ttN (m + 2) 1 ^^^ ttN (m + 1) 1 ^^^ ttN m 1 := by
  rw [ttN_add, ttN_128, ttN_add m 7, ttN_add m 2, ttN_add m 1, ttN_one (k := 7) (by decide), ttN_one (k := 2) (by decide), ttN_one (k := 1) (by decide), ← ttN_xor, ← ttN_xor, ← ttN_xor]
  rfl
/-- a sum of n -/
def xsN (f : Nat → Nat) : Nat → Nat
  | 0 => 0
  | n + 1 => xsN f n ^^^ f n
theorem xsN_congr {f g : Nat → Nat} : ∀ {n : Nat}, (∀ i, i < n → f i = g i) → xsN f n = xsN g n
  | 0, _ => rfl
  | n + 1, h => by rw [xsN, xsN, xsN_congr (fun i hi => h i (by omega)), h n (by omega)]
theorem xsN_xor (f g : Nat → Nat) : ∀ n, xsN (fun i => f i ^^^ g i) n = xsN f n ^^^ xsN g n
  | 0 => by simp [xsN]
  | n + 1 => by rw [xsN, xsN, xsN, xsN_xor f g n, xor4_swap]
theorem xsN_zero : ∀ n, xsN (fun _ => 0) n = 0
  | 0 => rfl
  | n + 1 => by rw [xsN, xsN_zero n]; rfl
theorem xsN_tt (k : Nat) (f : Nat → Nat) : ∀ n, ttN k (xsN f n) = xsN (fun i => ttN k (f i)) n
  | 0 => ttN_0 k
  | n + 1 => by rw [xsN, ttN_xor, xsN_tt k f n]; rfl
theorem xsN_lt {f : Nat → Nat} (h : ∀ i, f i < 2 ^ 128) : ∀ n, xsN f n < 2 ^ 128
  | 0 => Nat.two_pow_pos 128
  | n + 1 => Nat.xor_lt_two_pow (xsN_lt h n) (h n)
/-- one if the bit is set -/
def atN (a k c : Nat) : Nat := if a.testBit k then c else 0
theorem atN_xor (a b k c : Nat) : atN (a ^^^ b) k c = atN a k c ^^^ atN b k c := by
  unfold atN
  rw [Nat.testBit_xor, xor_if]
theorem atN_xor2 (a k c d : Nat) : atN a k (c ^^^ d) = atN a k c ^^^ atN a k d := by
  unfold atN
  cases a.testBit k <;> simp
theorem atN_tt (j a k c : Nat) : ttN j (atN a k c) = atN a k (ttN j c) := by
  unfold atN
  cases a.testBit k <;> simp [ttN_0]
theorem atN_lt {a k c : Nat} (h : c < 2 ^ 128) : atN a k c < 2 ^ 128 := by
  unfold atN
  split
  · exact h
  · decide
/-- a number is the sum of its bits -/
theorem bits_sum (a : Nat) : ∀ n, xsN (fun i => atN a i (2 ^ i)) n = a % 2 ^ n
  | 0 => by rw [Nat.pow_zero, Nat.mod_one]; rfl
  | n + 1 => by
    rw [xsN, bits_sum a n]
    apply Nat.eq_of_testBit_eq
    intro i
    unfold atN
    rw [Nat.testBit_xor, Nat.testBit_mod_two_pow, Nat.testBit_mod_two_pow]
    by_cases h : i < n
    · have e : ((if a.testBit n then 2 ^ n else 0) : Nat).testBit i = false := by
        split
        · rw [Nat.testBit_two_pow]; simp; omega
        · exact Nat.zero_testBit i
      rw [e]
      simp [h, show i < n + 1 by omega]
    · by_cases k : i = n
      · subst k
        have e : ((if a.testBit i then 2 ^ i else 0) : Nat).testBit i = a.testBit i := by
          cases hh : a.testBit i
          · simp
          · simp [Nat.testBit_two_pow_self]
        rw [e]
        simp
      · have e : ((if a.testBit n then 2 ^ n else 0) : Nat).testBit i = false := by
          split
          · rw [Nat.testBit_two_pow]; simp; omega
          · exact Nat.zero_testBit i
        rw [e]
        simp [h, show ¬ i < n + 1 by omega]
theorem bits_all {a : Nat} (h : a < 2 ^ 128) : xsN (fun i => atN a i (2 ^ i)) 128 = a := by
  rw [bits_sum, Nat.mod_eq_of_lt h]
/-- a product -/
def mulN2 (a b : Nat) : Nat := xsN (fun i => atN a i (ttN i b)) 128
theorem mulN2_lt {a b : Nat} (h : b < 2 ^ 128) : mulN2 a b < 2 ^ 128 := xsN_lt (fun i => atN_lt (ttN_lt h i)) 128
theorem mulN2_xor (a b c : Nat) : mulN2 (a ^^^ b) c = mulN2 a c ^^^ mulN2 b c := by
  unfold mulN2
  rw [← xsN_xor]
  exact xsN_congr (fun i _ => atN_xor a b i _)
theorem mulN2_xor2 (a b c : Nat) : mulN2 a (b ^^^ c) = mulN2 a b ^^^ mulN2 a c := by
  unfold mulN2
  rw [← xsN_xor]
  exact xsN_congr (fun i _ => by rw [ttN_xor, atN_xor2])
theorem mulN2_tt (j a b : Nat) : mulN2 a (ttN j b) = ttN j (mulN2 a b) := by
  unfold mulN2
  rw [xsN_tt]
  exact xsN_congr (fun i _ => by rw [atN_tt, ← ttN_add, ← ttN_add, Nat.add_comm])
theorem mulN2_one {a : Nat} (h : a < 2 ^ 128) : mulN2 a 1 = a := by
  unfold mulN2
  rw [xsN_congr (g := fun i => atN a i (2 ^ i)) (fun i hi => by rw [ttN_one hi])]
  exact bits_all h
theorem mulN2_zero (a : Nat) : mulN2 a 0 = 0 := by
  unfold mulN2
  rw [xsN_congr (g := fun _ => 0) (fun i _ => by rw [ttN_0]; unfold atN; simp)]
  exact xsN_zero 128
theorem mulN2_sum (a : Nat) (f : Nat → Nat) : ∀ n, mulN2 a (xsN f n) = xsN (fun i => mulN2 a (f i)) n
  | 0 => mulN2_zero a
  | n + 1 => by rw [xsN, mulN2_xor2, mulN2_sum a f n]; rfl
theorem mulN2_at (a b k c : Nat) : mulN2 a (atN b k c) = atN b k (mulN2 a c) := by
  unfold atN
  cases b.testBit k <;> simp [mulN2_zero]
/-- either way round -/
theorem mulN2_comm {a b : Nat} (ha : a < 2 ^ 128) (hb : b < 2 ^ 128) : mulN2 a b = mulN2 b a := by
  conv => lhs; rw [← bits_all hb]
  rw [mulN2_sum]
  show _ = xsN (fun i => atN b i (ttN i a)) 128
  refine xsN_congr (fun i hi => ?_)
  rw [mulN2_at, ← ttN_one hi, mulN2_tt, mulN2_one ha]
/-- in any order -/
theorem mulN2_assoc {a b c : Nat} (hb : b < 2 ^ 128) (hc : c < 2 ^ 128) : mulN2 (mulN2 a b) c = mulN2 a (mulN2 b c) := by
  rw [mulN2_comm (mulN2_lt hb) hc]
  conv => lhs; arg 2; unfold mulN2
  rw [mulN2_sum]
  show _ = xsN (fun i => atN a i (ttN i (mulN2 b c))) 128
  refine xsN_congr (fun i _ => ?_)
  rw [mulN2_at, mulN2_tt, mulN2_comm hc hb]
end Go.Proofs.Ytogbmekgmjmonaa

namespace Go.Proofs.Ytogbmekgmjmonaa

/-- the coefficient of x^i -/
def cbB (S : List Int) (i : Nat) : Bool := (S.getD (i / 8) 0).toNat.testBit (7 - i % 8)
def blkN (S : List Int) : Nat := xsN (fun i => if cbB S i then 2 ^ i else 0) 128
theorem xs_bit (f : Nat → Bool) (i : Nat) : ∀ n, (xsN (fun i => if f i then 2 ^ i else 0) n).testBit i = (decide (i < n) && f i)
  | 0 => by simp [xsN]
  | n + 1 => by
    rw [xsN, Nat.testBit_xor, xs_bit f i n]
    by_cases e : i = n
    · subst e
      cases f i <;> simp [Nat.testBit_two_pow_self]
    · have h : ((if f n then 2 ^ n else 0) : Nat).testBit i = false := by
        split
        · rw [Nat.testBit_two_pow]; simp; omega
        · exact Nat.zero_testBit i
      rw [h]
      by_cases k : i < n
      · simp [k, show i < n + 1 by omega]
      · simp [k, show ¬ i < n + 1 by omega]
theorem blkN_bit (S : List Int) (i : Nat) : (blkN S).testBit i = (decide (i < 128) && cbB S i) := xs_bit _ i 128
theorem blkN_lt (S : List Int) : blkN S < 2 ^ 128 := by
  apply Nat.lt_pow_two_of_testBit
  intro i hi
  rw [blkN_bit]
  simp; omega
theorem num_ext {u v : Nat} (hu : u < 2 ^ 128) (hv : v < 2 ^ 128) (h : ∀ i, i < 128 → u.testBit i = v.testBit i) : u = v := by
  apply Nat.eq_of_testBit_eq
  intro i
  by_cases k : i < 128
  · exact h i k
  · rw [Nat.testBit_lt_two_pow (Nat.lt_of_lt_of_le hu (Nat.pow_le_pow_right (by decide) (by omega))), Nat.testBit_lt_two_pow (Nat.lt_of_lt_of_le hv (Nat.pow_le_pow_right (by decide) (by omega)))]
/-- a byte of eight bits, the highest first -/
def byte8 (f : Nat → Bool) : Nat := (f 0).toNat * 128 + (f 1).toNat * 64 + (f 2).toNat * 32 + (f 3).toNat * 16 + (f 4).toNat * 8 + (f 5).toNat * 4 + (f 6).toNat * 2 + (f 7).toNat
theorem byte8_lt (f : Nat → Bool) : byte8 f < 256 := by
  unfold byte8
  have t : ∀ b : Bool, b.toNat ≤ 1 := fun b => by cases b <;> decide
  have h0 := t (f 0); have h1 := t (f 1); have h2 := t (f 2); have h3 := t (f 3); have h4 := t (f 4); have h5 := t (f 5); have h6 := t (f 6); have h7 := t (f 7)
  omega
theorem byte8_all : ∀ b0 b1 b2 b3 b4 b5 b6 b7 : Bool, ∀ r : Fin 8, (b0.toNat * 128 + b1.toNat * 64 + b2.toNat * 32 + b3.toNat * 16 + b4.toNat * 8 + b5.toNat * 4 + b6.toNat * 2 + b7.toNat).testBit (7 - r.1) = [b0, b1, b2, b3, b4, b5, b6, b7].getD r.1 false := by decide +kernel
theorem byte8_bit (f : Nat → Bool) {r : Nat} (h : r < 8) : (byte8 f).testBit (7 - r) = f r := by
  have e := byte8_all (f 0) (f 1) (f 2) (f 3) (f 4) (f 5) (f 6) (f 7) ⟨r, h⟩
  have k : [f 0, f 1, f 2, f 3, f 4, f 5, f 6, f 7].getD r false = f r := by
    match r, h with
    | 0, _ => rfl
    | 1, _ => rfl
    | 2, _ => rfl
    | 3, _ => rfl
    | 4, _ => rfl
    | 5, _ => rfl
    | 6, _ => rfl
    | 7, _ => rfl
  rw [← k]
  exact e
/-- a number's block -/
def ofN (v : Nat) : List Int := (List.range 16).map fun j => ((byte8 (fun r => v.testBit (8 * j + r)) : Nat) : Int)
theorem ofN_len (v : Nat) : (ofN v).length = 16 := by simp [ofN]
theorem ofN_get (v : Nat) {j : Nat} (h : j < 16) : (ofN v).getD j 0 = ((byte8 (fun r => v.testBit (8 * j + r)) : Nat) : Int) := by
  simp [ofN, List.getD_eq_getElem?_getD, h]
theorem ofN_byt (v : Nat) : byt (ofN v) := byt_of _ (fun j hj => by
  rw [ofN_len] at hj
  rw [ofN_get v hj]
  have := byte8_lt (fun r => v.testBit (8 * j + r))
  omega)
theorem cb_ofN (v : Nat) {i : Nat} (h : i < 128) : cbB (ofN v) i = v.testBit i := by
  unfold cbB
  rw [ofN_get v (show i / 8 < 16 by omega), Int.toNat_natCast, byte8_bit _ (show i % 8 < 8 by omega), show 8 * (i / 8) + i % 8 = i by omega]
theorem blk_ofN {v : Nat} (h : v < 2 ^ 128) : blkN (ofN v) = v :=
  num_ext (blkN_lt _) h (fun i hi => by rw [blkN_bit, cb_ofN v hi]; simp [hi])
theorem blk_ext {A B : List Int} (la : A.length = 16) (lb : B.length = 16) (ba : byt A) (bb : byt B) (h : blkN A = blkN B) : A = B := by
  apply List.ext_getElem (by omega)
  intro j h1 h2
  have ga : A[j] = A.getD j 0 := by simp [List.getD_eq_getElem?_getD, h1]
  have gb : B[j] = B.getD j 0 := by simp [List.getD_eq_getElem?_getD, h2]
  rw [ga, gb]
  have a0 := ba j
  have b0 := bb j
  have e : (A.getD j 0).toNat = (B.getD j 0).toNat := by
    apply Nat.eq_of_testBit_eq
    intro k
    by_cases hk : k < 8
    · have q := congrArg (fun v => v.testBit (8 * j + (7 - k))) h
      simp only [blkN_bit, cbB] at q
      rw [show (8 * j + (7 - k)) / 8 = j by omega, show 7 - (8 * j + (7 - k)) % 8 = k by omega] at q
      simpa [show 8 * j + (7 - k) < 128 by omega] using q
    · have pw : 2 ^ 8 ≤ 2 ^ k := Nat.pow_le_pow_right (by decide) (by omega)
      rw [Nat.testBit_lt_two_pow (by omega), Nat.testBit_lt_two_pow (by omega)]
  omega
theorem of_blkN {S : List Int} (l : S.length = 16) (b : byt S) : ofN (blkN S) = S :=
  blk_ext (ofN_len _) l (ofN_byt _) b (blk_ofN (blkN_lt S))
/-- a sum -/
theorem blk_xor {A B : List Int} (ba : byt A) (bb : byt B) : blkN (xkN A B) = blkN A ^^^ blkN B := by
  refine num_ext (blkN_lt _) (Nat.xor_lt_two_pow (blkN_lt A) (blkN_lt B)) (fun i hi => ?_)
  rw [Nat.testBit_xor, blkN_bit, blkN_bit, blkN_bit]
  simp only [hi, decide_true, Bool.true_and]
  unfold cbB
  have e : (xkN A B).getD (i / 8) 0 = bits .xor .u8 (A.getD (i / 8) 0) (B.getD (i / 8) 0) := by
    have hj : i / 8 < 16 := by omega
    simp [xkN, xkZ, List.getD_eq_getElem?_getD, hj]
  rw [e]
  have a0 := ba (i / 8)
  have b0 := bb (i / 8)
  obtain ⟨x, hx⟩ := Int.eq_ofNat_of_zero_le a0.1
  obtain ⟨y, hy⟩ := Int.eq_ofNat_of_zero_le b0.1
  rw [hx, hy, u8_xor_nat x y (by omega) (by omega), Int.toNat_natCast, Int.toNat_natCast, Int.toNat_natCast, Nat.testBit_xor]
/-- the product of blocks -/
def mulB (A B : List Int) : List Int := ofN (mulN2 (blkN A) (blkN B))
theorem mulB_len (A B : List Int) : (mulB A B).length = 16 := ofN_len _
theorem mulB_byt (A B : List Int) : byt (mulB A B) := ofN_byt _
theorem blk_mulB (A B : List Int) : blkN (mulB A B) = mulN2 (blkN A) (blkN B) := blk_ofN (mulN2_lt (blkN_lt B))
theorem mulB_comm (A B : List Int) : mulB A B = mulB B A := by
  unfold mulB
  rw [mulN2_comm (blkN_lt A) (blkN_lt B)]
theorem mulB_assoc (A B C : List Int) : mulB (mulB A B) C = mulB A (mulB B C) := by
  show ofN _ = ofN _
  rw [blk_mulB, blk_mulB, mulN2_assoc (blkN_lt B) (blkN_lt C)]
theorem xk_len (A B : List Int) : (xkN A B).length = 16 := xkZ_len A B 16
theorem mulB_spread {A B C : List Int} (bb : byt B) (bc : byt C) : mulB A (xkN B C) = xkN (mulB A B) (mulB A C) := by
  refine blk_ext (mulB_len _ _) (xk_len _ _) (mulB_byt _ _) (xkN_byt (mulB_byt _ _) (mulB_byt _ _)) ?_
  rw [blk_mulB, blk_xor bb bc, blk_xor (mulB_byt _ _) (mulB_byt _ _), blk_mulB, blk_mulB, mulN2_xor2]
def oneB : List Int := [128, 0, 0, 0, 0, 0, 0, 0, 0, 0, 0, 0, 0, 0, 0, 0]
theorem blk_oneB : blkN oneB = 1 := by decide +kernel
theorem mulB_one {A : List Int} (l : A.length = 16) (b : byt A) : mulB A oneB = A := by
  unfold mulB
  rw [blk_oneB, mulN2_one (blkN_lt A), of_blkN l b]
end Go.Proofs.Ytogbmekgmjmonaa

namespace Go.Proofs.Ytogbmekgmjmonaa

def padK (n : Nat) : Nat := (16 - n % 16) % 16
/-- with noughts behind -/
def filF (B : List Int) : List Int := B ++ List.replicate (padK B.length) 0
theorem filF_len (B : List Int) : (filF B).length = 16 * ((B.length + 15) / 16) := by
  rw [filF, List.length_append, List.length_replicate]
  unfold padK
  omega
theorem pad_iff {n k : Nat} (h : k ≤ padK n) : (n + k) % 16 = 0 ↔ k = padK n := by
  unfold padK at *
  omega
theorem byt_zeros (n : Nat) : byt (List.replicate n 0) := fun j => by
  rw [List.getD_eq_getElem?_getD, List.getElem?_replicate]
  split <;> decide
theorem byt_two {A B : List Int} (ha : byt A) (hb : byt B) : byt (A ++ B) := fun j => by
  rw [List.getD_eq_getElem?_getD, List.getElem?_append]
  split
  · rw [← List.getD_eq_getElem?_getD]; exact ha j
  · rw [← List.getD_eq_getElem?_getD]; exact hb _
theorem filF_byt {B : List Int} (h : byt B) : byt (filF B) := byt_two h (byt_zeros _)
theorem fill_next (B : List Int) (k : Nat) : (B ++ List.replicate k 0) ++ [0] = B ++ List.replicate (k + 1) 0 := by
  rw [List.append_assoc, List.replicate_succ']
/-- the q-th block -/
def bkQ (C : List Int) (q : Nat) : List Int := (C.drop (16 * q)).take 16
theorem bkQ_get {C : List Int} {q j : Nat} (h : j < 16) : (bkQ C q).getD j 0 = C.getD (16 * q + j) 0 := by
  unfold bkQ
  rw [List.getD_eq_getElem?_getD, List.getElem?_take, if_pos h, List.getElem?_drop, ← List.getD_eq_getElem?_getD]
theorem bkQ_byt {C : List Int} (h : byt C) (q : Nat) : byt (bkQ C q) := fun j => by
  by_cases k : j < 16
  · rw [bkQ_get k]; exact h _
  · unfold bkQ
    rw [List.getD_eq_getElem?_getD, List.getElem?_take, if_neg k]
    exact ⟨by decide, by decide⟩
/-- the sum of the first q blocks -/
def hashQ (H C : List Int) : Nat → List Int
  | 0 => List.replicate 16 0
  | q + 1 => mulB (xkN (hashQ H C q) (bkQ C q)) H
theorem hashQ_len (H C : List Int) : ∀ q, (hashQ H C q).length = 16
  | 0 => List.length_replicate
  | _ + 1 => mulB_len _ _
theorem hashQ_byt (H C : List Int) : ∀ q, byt (hashQ H C q)
  | 0 => byt_zeros 16
  | _ + 1 => mulB_byt _ _
def hashB (H B : List Int) : List Int := hashQ H (filF B) ((filF B).length / 16)
theorem hashB_len (H B : List Int) : (hashB H B).length = 16 := hashQ_len _ _ _
theorem hashB_byt (H B : List Int) : byt (hashB H B) := hashQ_byt _ _ _
/-- how many bits, in eight bytes -/
def lenN (n : Nat) : List Int := (List.range 8).map fun j => ((8 * n / 256 ^ (7 - j) % 256 : Nat) : Int)
theorem lenN_len (n : Nat) : (lenN n).length = 8 := by simp [lenN]
theorem lenN_byt (n : Nat) : byt (lenN n) := byt_of _ (fun j hj => by
  rw [lenN_len] at hj
  have e : (lenN n).getD j 0 = ((8 * n / 256 ^ (7 - j) % 256 : Nat) : Int) := by simp [lenN, List.getD_eq_getElem?_getD, hj]
  rw [e]
  have := Nat.mod_lt (8 * n / 256 ^ (7 - j)) (show 0 < 256 by decide)
  omega)
/-- the last t of them -/
def lenZ (n t : Nat) : List Int := (List.range 8).map fun j => if 8 - t ≤ j then ((8 * n / 256 ^ (7 - j) % 256 : Nat) : Int) else 0
theorem lenZ_len (n t : Nat) : (lenZ n t).length = 8 := by simp [lenZ]
theorem lenZ_0 (n : Nat) : lenZ n 0 = List.replicate 8 0 := by
  unfold lenZ
  rw [List.map_congr_left (g := fun _ => (0 : Int)) (fun j hj => by rw [if_neg (by have := List.mem_range.1 hj; omega)])]
  rfl
theorem lenZ_8 (n : Nat) : lenZ n 8 = lenN n := by
  unfold lenZ lenN
  exact List.map_congr_left (fun j _ => by rw [if_pos (by omega)])
theorem lenZ_set {n t : Nat} (h : t < 8) : (lenZ n t).set (7 - t) ((8 * n / 256 ^ t % 256 : Nat) : Int) = lenZ n (t + 1) := by
  apply List.ext_getElem?
  intro j
  by_cases hj : j < 8
  · by_cases e : 7 - t = j
    · rw [e, List.getElem?_set_self (by rw [lenZ_len]; exact hj)]
      simp only [lenZ, List.getElem?_map, List.getElem?_range hj, Option.map_some, Option.some.injEq]
      rw [if_pos (by omega), show 7 - j = t by omega]
    · rw [List.getElem?_set_ne e]
      simp only [lenZ, List.getElem?_map, List.getElem?_range hj, Option.map_some, Option.some.injEq]
      by_cases l : 8 - t ≤ j
      · rw [if_pos l, if_pos (by omega)]
      · rw [if_neg l, if_neg (by omega)]
  · rw [List.getElem?_eq_none (by rw [List.length_set, lenZ_len]; omega), List.getElem?_eq_none (by rw [lenZ_len]; omega)]
def wholeB (H A B : List Int) : List Int := hashB H (filF A ++ filF B ++ lenN A.length ++ lenN B.length)
/-- sums of bytes go by parts -/
theorem xk_zero : xkN (List.replicate 16 0) (List.replicate 16 0) = List.replicate 16 0 := by decide +kernel
theorem xk_get {A B : List Int} {j : Nat} (h : j < 16) : (xkN A B).getD j 0 = bits .xor .u8 (A.getD j 0) (B.getD j 0) := by
  simp [xkN, xkZ, List.getD_eq_getElem?_getD, h]
theorem byt_eq {A B : List Int} (la : A.length = 16) (lb : B.length = 16) (h : ∀ j, j < 16 → A.getD j 0 = B.getD j 0) : A = B := by
  apply List.ext_getElem (by omega)
  intro j h1 h2
  have := h j (by omega)
  simpa [List.getD_eq_getElem?_getD, h1, h2] using this
theorem blk_cong {A B : List Int} (h : ∀ j, j < 16 → A.getD j 0 = B.getD j 0) : blkN A = blkN B := by
  refine num_ext (blkN_lt _) (blkN_lt _) (fun i hi => ?_)
  rw [blkN_bit, blkN_bit]
  unfold cbB
  rw [h (i / 8) (by omega)]
/-- the sum of bytes that are xor of others is xor of their sums, block by block -/
theorem hashQ_xor {H C D E : List Int} (bC : byt C) (bD : byt D) (h : ∀ j, E.getD j 0 = bits .xor .u8 (C.getD j 0) (D.getD j 0)) (bE : byt E) : ∀ q, hashQ H E q = xkN (hashQ H C q) (hashQ H D q)
  | 0 => xk_zero.symm
  | q + 1 => by
    have ih := hashQ_xor bC bD h bE q (H := H)
    refine blk_ext (hashQ_len _ _ _) (xk_len _ _) (hashQ_byt _ _ _) (xkN_byt (hashQ_byt _ _ _) (hashQ_byt _ _ _)) ?_
    rw [blk_xor (hashQ_byt _ _ _) (hashQ_byt _ _ _)]
    rw [show hashQ H E (q + 1) = mulB (xkN (hashQ H E q) (bkQ E q)) H from rfl, show hashQ H C (q + 1) = mulB (xkN (hashQ H C q) (bkQ C q)) H from rfl, show hashQ H D (q + 1) = mulB (xkN (hashQ H D q) (bkQ D q)) H from rfl]
    rw [blk_mulB, blk_mulB, blk_mulB, ← mulN2_xor]
    refine congrArg (fun v => mulN2 v (blkN H)) ?_
    rw [blk_xor (hashQ_byt _ _ _) (bkQ_byt bE q), blk_xor (hashQ_byt _ _ _) (bkQ_byt bC q), blk_xor (hashQ_byt _ _ _) (bkQ_byt bD q), ih, blk_xor (hashQ_byt _ _ _) (hashQ_byt _ _ _)]
    have e : blkN (bkQ E q) = blkN (bkQ C q) ^^^ blkN (bkQ D q) := by
      rw [← blk_xor (bkQ_byt bC q) (bkQ_byt bD q)]
      exact blk_cong (fun j hj => by rw [xk_get hj, bkQ_get hj, bkQ_get hj, bkQ_get hj, h])
    rw [e, xor4_swap]
end Go.Proofs.Ytogbmekgmjmonaa

namespace Go.Proofs.Ytogbmekgmjmonaa

theorem xs_upd {f g : Nat → Nat} {m : Nat} : ∀ {n : Nat}, m < n → (∀ i, i ≠ m → g i = f i) → xsN g n = xsN f n ^^^ (f m ^^^ g m)
  | 0, h, _ => absurd h (by omega)
  | n + 1, h, k => by
    rw [xsN, xsN]
    by_cases e : m = n
    · subst e
      rw [xsN_congr (f := g) (g := f) (fun i hi => k i (by omega))]
      apply Nat.eq_of_testBit_eq
      intro i
      simp only [Nat.testBit_xor]
      cases (xsN f m).testBit i <;> cases (f m).testBit i <;> cases (g m).testBit i <;> rfl
    · rw [xs_upd (show m < n by omega) k, k n (fun h => e h.symm)]
      apply Nat.eq_of_testBit_eq
      intro i
      simp only [Nat.testBit_xor]
      cases (xsN f n).testBit i <;> cases (f m).testBit i <;> cases (g m).testBit i <;> cases (f n).testBit i <;> rfl
def oddN (x : Int) (c : Nat) : Nat := if x % 2 = 1 then c else 0
theorem oddN_add (x y : Int) (c : Nat) : oddN x c ^^^ oddN (x + y) c = oddN y c := by
  unfold oddN
  by_cases hx : x % 2 = 1 <;> by_cases hy : y % 2 = 1
  · rw [if_pos hx, if_pos hy, if_neg (by omega)]; simp
  · rw [if_pos hx, if_neg hy, if_pos (by omega)]; simp
  · rw [if_neg hx, if_pos hy, if_pos (by omega)]; simp
  · rw [if_neg hx, if_neg hy, if_neg (by omega)]; simp
/-- what the first n numbers stand for -/
def valN (X : List Int) (n : Nat) : Nat := xsN (fun m => oddN (X.getD m 0) (ttN m 1)) n
theorem getD_set_i (X : List Int) (m i : Nat) (y : Int) (h : m < X.length) : (X.set m y).getD i 0 = if i = m then y else X.getD i 0 := by
  rw [List.getD_eq_getElem?_getD, List.getD_eq_getElem?_getD]
  by_cases e : i = m
  · subst e
    rw [if_pos rfl, List.getElem?_set_self h]
    rfl
  · rw [if_neg e, List.getElem?_set_ne (fun h => e h.symm)]
/-- one number made greater -/
def bump (X : List Int) (m : Nat) (c : Int) : List Int := X.set m (X.getD m 0 + c)
theorem bump_len (X : List Int) (m : Nat) (c : Int) : (bump X m c).length = X.length := List.length_set
theorem bump_get {X : List Int} {m : Nat} (c : Int) (i : Nat) (h : m < X.length) : (bump X m c).getD i 0 = if i = m then X.getD m 0 + c else X.getD i 0 := getD_set_i X m i _ h
theorem val_bump {X : List Int} {m n : Nat} (c : Int) (hm : m < n) (hl : m < X.length) : valN (bump X m c) n = valN X n ^^^ oddN c (ttN m 1) := by
  unfold valN bump
  rw [xs_upd (f := fun m => oddN (X.getD m 0) (ttN m 1)) (g := fun i => oddN ((X.set m (X.getD m 0 + c)).getD i 0) (ttN i 1)) hm (fun i hi => by simp only [getD_set_i X m i _ hl, if_neg hi])]
  simp only [getD_set_i X m m _ hl, if_true]
  rw [oddN_add]
/-- each of them at most b -/
def upTo (X : List Int) (b : Int) : Prop := ∀ m, 0 ≤ X.getD m 0 ∧ X.getD m 0 ≤ b
theorem upTo.bump {X : List Int} {b c d : Int} {m : Nat} (h : upTo X b) (hl : m < X.length) (c0 : 0 ≤ c) (c1 : b + c ≤ d) : upTo (bump X m c) d := by
  intro i
  rw [bump_get c i hl]
  have h1 := h m
  have h2 := h i
  split <;> omega
theorem upTo.mono {X : List Int} {b d : Int} (h : upTo X b) (k : b ≤ d) : upTo X d := fun m => by have := h m; omega
theorem upTo_zero : upTo (List.replicate 256 0) 0 := fun m => by
  have e : (List.replicate 256 (0 : Int)).getD m 0 = 0 := by
    rw [List.getD_eq_getElem?_getD, List.getElem?_replicate]
    split <;> rfl
  rw [e]
  exact ⟨by decide, by decide⟩
theorem val_zero : ∀ n, valN (List.replicate 256 0) n = 0 := fun n => by
  unfold valN
  rw [xsN_congr (g := fun _ => 0) (fun i _ => ?_)]
  · exact xsN_zero n
  · have e : (List.replicate 256 (0 : Int)).getD i 0 = 0 := by
      rw [List.getD_eq_getElem?_getD, List.getElem?_replicate]
      split <;> rfl
    rw [e]
    rfl
/-- a block's coefficients -/
def pol1 (S : List Int) (i : Nat) : Int := if cbB S i then 1 else 0
def polL (S : List Int) (n : Nat) : List Int := (List.range n).map (pol1 S)
theorem polL_len (S : List Int) (n : Nat) : (polL S n).length = n := by simp [polL]
theorem polL_get {S : List Int} {n i : Nat} (h : i < n) : (polL S n).getD i 0 = pol1 S i := by
  simp [polL, List.getD_eq_getElem?_getD, h]
theorem polL_next (S : List Int) (n : Nat) : polL S n ++ [pol1 S n] = polL S (n + 1) := by
  rw [polL, polL, List.range_succ, List.map_append]
  rfl
theorem pol1_bit (S : List Int) (i : Nat) : pol1 S i = 0 ∨ pol1 S i = 1 := by
  unfold pol1
  split
  · exact .inr rfl
  · exact .inl rfl
theorem odd_pol {A B : List Int} {i k : Nat} (hi : i < 128) (hk : k < 128) (c : Nat) : oddN (pol1 A i * pol1 B k) c = atN (blkN A) i (atN (blkN B) k c) := by
  unfold oddN pol1 atN
  rw [blkN_bit, blkN_bit]
  simp only [hi, hk, decide_true, Bool.true_and]
  cases cbB A i <;> cases cbB B k <;> simp
/-- a product so far: i whole numbers, and k of the next -/
def accM (a b i k : Nat) : Nat := xsN (fun j => atN a j (ttN j b)) i ^^^ atN a i (xsN (fun j => atN b j (ttN (i + j) 1)) k)
theorem accM_0 (a b : Nat) : accM a b 0 0 = 0 := by
  unfold accM atN
  simp [xsN]
theorem accM_step (a b i k : Nat) : accM a b i (k + 1) = accM a b i k ^^^ atN a i (atN b k (ttN (i + k) 1)) := by
  unfold accM
  rw [xsN, atN_xor2, Nat.xor_assoc]
theorem accM_row {a b : Nat} (hb : b < 2 ^ 128) (i : Nat) : accM a b i 128 = accM a b (i + 1) 0 := by
  unfold accM
  have e : xsN (fun j => atN b j (ttN (i + j) 1)) 128 = ttN i b := by
    conv => rhs; rw [← bits_all hb]
    rw [xsN_tt]
    exact xsN_congr (fun j hj => by rw [atN_tt, ttN_add, ttN_one hj])
  rw [e, xsN, xsN]
  have z : atN a (i + 1) 0 = 0 := by unfold atN; simp
  rw [z, Nat.xor_zero]
theorem accM_all (a b : Nat) : accM a b 128 0 = mulN2 a b := by
  unfold accM
  have z : atN a 128 0 = 0 := by unfold atN; simp
  rw [xsN, z, Nat.xor_zero]
  rfl
/-- what is above x^127 is put below -/
theorem val_fold {X : List Int} {m : Nat} {n : Int} (l : X.length = 256) (h : m < 128) (hn : X.getD (m + 128) 0 % 2 = n) : valN (bump (bump (bump (bump X (m + 7) n) (m + 2) n) (m + 1) n) m n) (m + 128) = valN X (m + 129) := by
  have hx : valN X (m + 129) = valN X (m + 128) ^^^ oddN n (ttN (m + 128) 1) := by
    show valN X (m + 128) ^^^ oddN _ _ = _
    unfold oddN
    by_cases k : X.getD (m + 128) 0 % 2 = 1
    · rw [if_pos k, if_pos (by omega)]
    · rw [if_neg k, if_neg (by omega)]
  have hf : oddN n (ttN (m + 128) 1) = oddN n (ttN (m + 7) 1) ^^^ oddN n (ttN (m + 2) 1) ^^^ oddN n (ttN (m + 1) 1) ^^^ oddN n (ttN m 1) := by
    unfold oddN
    by_cases k : n % 2 = 1
    · rw [if_pos k, if_pos k, if_pos k, if_pos k, if_pos k, ttN_fold]
    · rw [if_neg k, if_neg k, if_neg k, if_neg k, if_neg k]; rfl
  rw [val_bump n (by omega) (by rw [bump_len, bump_len, bump_len]; omega), val_bump n (by omega) (by rw [bump_len, bump_len]; omega), val_bump n (by omega) (by rw [bump_len]; omega), val_bump n (by omega) (by omega), hx, hf]
  simp only [Nat.xor_assoc]
/-- the parities of the first 128 are the block's -/
theorem val_bit (X : List Int) {i : Nat} (h : i < 128) : (valN X 128).testBit i = decide (X.getD i 0 % 2 = 1) := by
  have e : valN X 128 = xsN (fun m => if (decide (X.getD m 0 % 2 = 1)) then 2 ^ m else 0) 128 := xsN_congr (fun m hm => by
    unfold oddN
    rw [ttN_one hm]
    by_cases k : X.getD m 0 % 2 = 1
    · rw [if_pos k, decide_eq_true k, if_pos rfl]
    · rw [if_neg k, decide_eq_false k, if_neg (by decide)])
  rw [e, xs_bit]
  simp [h]
theorem val_lt (X : List Int) : valN X 128 < 2 ^ 128 := xsN_lt (fun i => by
  unfold oddN
  split
  · exact ttN_lt (by decide) i
  · exact Nat.two_pow_pos 128) 128
theorem byte8_congr {f g : Nat → Bool} (h : ∀ r, r < 8 → g r = f r) : byte8 g = byte8 f := by
  unfold byte8
  rw [h 0 (by decide), h 1 (by decide), h 2 (by decide), h 3 (by decide), h 4 (by decide), h 5 (by decide), h 6 (by decide), h 7 (by decide)]
theorem byte8_add {f g : Nat → Bool} {r : Nat} (hr : r < 8) (h : ∀ j, j < 8 → j ≠ r → g j = f j) (hf : f r = false) : byte8 g = byte8 f + (g r).toNat * 2 ^ (7 - r) := by
  unfold byte8
  match r, hr with
  | 0, _ => rw [h 1 (by decide) (by decide), h 2 (by decide) (by decide), h 3 (by decide) (by decide), h 4 (by decide) (by decide), h 5 (by decide) (by decide), h 6 (by decide) (by decide), h 7 (by decide) (by decide), hf]; simp; omega
  | 1, _ => rw [h 0 (by decide) (by decide), h 2 (by decide) (by decide), h 3 (by decide) (by decide), h 4 (by decide) (by decide), h 5 (by decide) (by decide), h 6 (by decide) (by decide), h 7 (by decide) (by decide), hf]; simp; omega
  | 2, _ => rw [h 0 (by decide) (by decide), h 1 (by decide) (by decide), h 3 (by decide) (by decide), h 4 (by decide) (by decide), h 5 (by decide) (by decide), h 6 (by decide) (by decide), h 7 (by decide) (by decide), hf]; simp; omega
  | 3, _ => rw [h 0 (by decide) (by decide), h 1 (by decide) (by decide), h 2 (by decide) (by decide), h 4 (by decide) (by decide), h 5 (by decide) (by decide), h 6 (by decide) (by decide), h 7 (by decide) (by decide), hf]; simp; omega
  | 4, _ => rw [h 0 (by decide) (by decide), h 1 (by decide) (by decide), h 2 (by decide) (by decide), h 3 (by decide) (by decide), h 5 (by decide) (by decide), h 6 (by decide) (by decide), h 7 (by decide) (by decide), hf]; simp; omega
  | 5, _ => rw [h 0 (by decide) (by decide), h 1 (by decide) (by decide), h 2 (by decide) (by decide), h 3 (by decide) (by decide), h 4 (by decide) (by decide), h 6 (by decide) (by decide), h 7 (by decide) (by decide), hf]; simp; omega
  | 6, _ => rw [h 0 (by decide) (by decide), h 1 (by decide) (by decide), h 2 (by decide) (by decide), h 3 (by decide) (by decide), h 4 (by decide) (by decide), h 5 (by decide) (by decide), h 7 (by decide) (by decide), hf]; simp; omega
  | 7, _ => rw [h 0 (by decide) (by decide), h 1 (by decide) (by decide), h 2 (by decide) (by decide), h 3 (by decide) (by decide), h 4 (by decide) (by decide), h 5 (by decide) (by decide), h 6 (by decide) (by decide), hf]; simp
/-- a number's block, of its first i bits -/
def outP (V i : Nat) : List Int := (List.range 16).map fun j => ((byte8 (fun r => decide (8 * j + r < i) && V.testBit (8 * j + r)) : Nat) : Int)
theorem outP_len (V i : Nat) : (outP V i).length = 16 := by simp [outP]
theorem outP_get (V i : Nat) {j : Nat} (h : j < 16) : (outP V i).getD j 0 = ((byte8 (fun r => decide (8 * j + r < i) && V.testBit (8 * j + r)) : Nat) : Int) := by
  simp [outP, List.getD_eq_getElem?_getD, h]
theorem outP_0 (V : Nat) : outP V 0 = List.replicate 16 0 := by
  unfold outP
  have e : ∀ j, byte8 (fun r => decide (8 * j + r < 0) && V.testBit (8 * j + r)) = 0 := fun j => by
    rw [byte8_congr (f := fun _ => false) (fun r _ => by simp)]
    rfl
  simp only [e]
  rfl
theorem outP_128 (V : Nat) : outP V 128 = ofN V := by
  unfold outP ofN
  apply List.map_congr_left
  intro j hj
  have := List.mem_range.1 hj
  rw [byte8_congr (fun r hr => by rw [decide_eq_true (show 8 * j + r < 128 by omega), Bool.true_and])]
theorem outP_set {V i : Nat} (_ : i < 128) : (outP V i).set (i / 8) ((outP V i).getD (i / 8) 0 + (((V.testBit i).toNat * 2 ^ (7 - i % 8) : Nat) : Int)) = outP V (i + 1) := by
  apply List.ext_getElem?
  intro j
  by_cases hj : j < 16
  · by_cases e : i / 8 = j
    · rw [e, List.getElem?_set_self (by rw [outP_len]; exact hj), outP_get V i hj]
      simp only [outP, List.getElem?_map, List.getElem?_range hj, Option.map_some, Option.some.injEq]
      have k := byte8_add (f := fun r => decide (8 * j + r < i) && V.testBit (8 * j + r)) (g := fun r => decide (8 * j + r < i + 1) && V.testBit (8 * j + r)) (r := i % 8) (by omega) (fun q hq hn => by
        by_cases l : 8 * j + q < i
        · rw [decide_eq_true l, decide_eq_true (by omega)]
        · rw [decide_eq_false l, decide_eq_false (by omega)]) (by rw [decide_eq_false (by omega)]; rfl)
      rw [k]
      simp only [show 8 * j + i % 8 = i by omega, show i < i + 1 by omega, decide_true, Bool.true_and]
      omega
    · rw [List.getElem?_set_ne e]
      simp only [outP, List.getElem?_map, List.getElem?_range hj, Option.map_some, Option.some.injEq]
      rw [byte8_congr (f := fun r => decide (8 * j + r < i + 1) && V.testBit (8 * j + r)) (g := fun r => decide (8 * j + r < i) && V.testBit (8 * j + r)) (fun r hr => by
        by_cases l : 8 * j + r < i
        · rw [decide_eq_true l, decide_eq_true (by omega)]
        · rw [decide_eq_false l, decide_eq_false (by omega)])]
  · rw [List.getElem?_eq_none (by rw [List.length_set, outP_len]; omega), List.getElem?_eq_none (by rw [outP_len]; omega)]
theorem outP_room {V i : Nat} (h : i < 128) : (outP V i).getD (i / 8) 0 + (((V.testBit i).toNat * 2 ^ (7 - i % 8) : Nat) : Int) < 256 := by
  have e := outP_set (V := V) h
  have k : (outP V (i + 1)).getD (i / 8) 0 = (outP V i).getD (i / 8) 0 + (((V.testBit i).toNat * 2 ^ (7 - i % 8) : Nat) : Int) := by
    rw [← e, getD_set_i _ _ _ _ (by rw [outP_len]; omega), if_pos rfl]
  rw [← k, outP_get V (i + 1) (by omega)]
  have := byte8_lt (fun r => decide (8 * (i / 8) + r < i + 1) && V.testBit (8 * (i / 8) + r))
  omega
end Go.Proofs.Ytogbmekgmjmonaa

namespace Go.Proofs.Ytogbmekgmjmonaa
open Go.RowKit

/-- the counter's block n of a nonce -/
def ctrN (N : List Int) (n : Nat) : List Int := (List.range 16).map fun j => if j < 12 then N.getD j 0 else ((n / 256 ^ (15 - j) % 256 : Nat) : Int)
theorem ctrN_len (N : List Int) (n : Nat) : (ctrN N n).length = 16 := by simp [ctrN]
theorem ctrN_byt {N : List Int} (h : byt N) (n : Nat) : byt (ctrN N n) := byt_map fun j _ => by
  split
  · exact h j
  · have : n / 256 ^ (15 - j) % 256 < 256 := Nat.mod_lt _ (by decide)
    omega
/-- the code of the counter's block n -/
def rowN (K N : List Int) (n : Nat) : List Int := encN K (ctrN N n) 15
theorem rowN_len (K N : List Int) (n : Nat) : (rowN K N n).length = 16 := encN_len (ctrN_len N n) 15
theorem rowN_byt {K N : List Int} (k : byt K) (h : byt N) (n : Nat) : byt (rowN K N n) := encN_byt (ctrN_byt h n) k 15
/-- the row's byte i -/
def rwb (K N : List Int) (i : Nat) : Int := (rowN K N (2 + i / 16)).getD (i % 16) 0
/-- bytes hidden: the first k -/
def hidZ (K N B : List Int) (k : Nat) : List Int := (List.range k).map fun i => bits .xor .u8 (B.getD i 0) (rwb K N i)
def hidN (K N B : List Int) : List Int := hidZ K N B B.length
theorem hidZ_len (K N B : List Int) (k : Nat) : (hidZ K N B k).length = k := by simp [hidZ]
theorem hidN_len (K N B : List Int) : (hidN K N B).length = B.length := hidZ_len _ _ _ _
theorem hidN_get {K N B : List Int} {i : Nat} (h : i < B.length) : (hidN K N B).getD i 0 = bits .xor .u8 (B.getD i 0) (rwb K N i) := by
  simp [hidN, hidZ, List.getD_eq_getElem?_getD, h]
theorem rwb_byte {K N : List Int} (k : byt K) (h : byt N) (i : Nat) : 0 ≤ rwb K N i ∧ rwb K N i < 256 := rowN_byt k h _ _
theorem hidN_byt {K N B : List Int} (k : byt K) (h : byt N) (b : byt B) : byt (hidN K N B) := byt_of _ (fun j hj => by
  rw [hidN_len] at hj
  rw [hidN_get hj]
  exact xorb_byte (b j) (rwb_byte k h j))
theorem xor_twice {x y : Int} (hx : 0 ≤ x ∧ x < 256) (hy : 0 ≤ y ∧ y < 256) : bits .xor .u8 (bits .xor .u8 x y) y = x := by
  obtain ⟨a, rfl⟩ := Int.eq_ofNat_of_zero_le hx.1
  obtain ⟨b, rfl⟩ := Int.eq_ofNat_of_zero_le hy.1
  have l := Nat.xor_lt_two_pow (x := a) (y := b) (n := 8) (by omega) (by omega)
  rw [u8_xor_nat _ _ (by omega) (by omega), u8_xor_nat _ _ l (by omega), Nat.xor_assoc, Nat.xor_self, Nat.xor_zero]
theorem xor_same {x y : Int} (hx : 0 ≤ x ∧ x < 256) (hy : 0 ≤ y ∧ y < 256) : bits .xor .u8 x y = x ↔ y = 0 := by
  obtain ⟨a, rfl⟩ := Int.eq_ofNat_of_zero_le hx.1
  obtain ⟨b, rfl⟩ := Int.eq_ofNat_of_zero_le hy.1
  rw [u8_xor_nat _ _ (by omega) (by omega)]
  constructor
  · intro h
    have h : a ^^^ b = a := by omega
    have e : a ^^^ (a ^^^ b) = a ^^^ a := by rw [h]
    rw [← Nat.xor_assoc, Nat.xor_self, Nat.zero_xor] at e
    omega
  · intro h
    have h : b = 0 := by omega
    rw [h, Nat.xor_zero]
/-- what was hidden is told -/
theorem hid_back {K N B : List Int} (k : byt K) (h : byt N) (b : byt B) : hidN K N (hidN K N B) = B := by
  apply List.ext_getElem?
  intro i
  by_cases hi : i < B.length
  · have h1 := hidN_get (K := K) (N := N) (B := hidN K N B) (i := i) (by rw [hidN_len]; exact hi)
    rw [hidN_get hi, xor_twice (b i) (rwb_byte k h i)] at h1
    rw [List.getD_eq_getElem?_getD, List.getD_eq_getElem?_getD, List.getElem?_eq_getElem (by rw [hidN_len, hidN_len]; exact hi), List.getElem?_eq_getElem hi, Option.getD_some, Option.getD_some] at h1
    rw [List.getElem?_eq_getElem (by rw [hidN_len, hidN_len]; exact hi), List.getElem?_eq_getElem hi, h1]
  · rw [List.getElem?_eq_none (by rw [hidN_len, hidN_len]; omega), List.getElem?_eq_none (by omega)]
/-- the tag of hidden bytes -/
def tagN (K N A H : List Int) : List Int := xkN (wholeB (encN K (List.replicate 16 0) 15) A H) (rowN K N 1)
theorem tagN_len (K N A H : List Int) : (tagN K N A H).length = 16 := xk_len _ _
theorem tagN_byt {K N A H : List Int} (k : byt K) (h : byt N) : byt (tagN K N A H) := xkN_byt (hashB_byt _ _) (rowN_byt k h 1)
def sealN (K N A B : List Int) : List Int := hidN K N B ++ tagN K N A (hidN K N B)
theorem sealN_len (K N A B : List Int) : (sealN K N A B).length = B.length + 16 := by rw [sealN, List.length_append, hidN_len, tagN_len]
theorem sealN_byt {K N A B : List Int} (k : byt K) (h : byt N) (b : byt B) : byt (sealN K N A B) := byt_two (hidN_byt k h b) (tagN_byt k h)
theorem seal_take (K N A B : List Int) : (sealN K N A B).take B.length = hidN K N B := by
  rw [sealN, List.take_append_of_le_length (by rw [hidN_len]; exact Nat.le_refl _), List.take_of_length_le (by rw [hidN_len]; exact Nat.le_refl _)]
theorem seal_drop (K N A B : List Int) : (sealN K N A B).drop B.length = tagN K N A (hidN K N B) := by
  rw [sealN, List.drop_append_of_le_length (by rw [hidN_len]; exact Nat.le_refl _), List.drop_of_length_le (by rw [hidN_len]; exact Nat.le_refl _), List.nil_append]
/-- with a byte of the tag turned -/
theorem turn_take {S : List Int} {n i : Nat} {x : Int} (h : n ≤ i) : (S.set i x).take n = S.take n := by
  rw [List.take_set]
  exact List.set_eq_of_length_le (by rw [List.length_take]; omega)
theorem turn_same {S : List Int} {n i : Nat} {x : Int} (h : n ≤ i) (hi : i < S.length) : (S.set i x).drop n = S.drop n ↔ x = S.getD i 0 := by
  constructor
  · intro e
    have e2 : ((S.set i x).drop n)[i - n]? = (S.drop n)[i - n]? := by rw [e]
    rw [List.getElem?_drop, List.getElem?_drop, show n + (i - n) = i by omega, List.getElem?_set_self hi, List.getElem?_eq_getElem hi] at e2
    rw [List.getD_eq_getElem?_getD, List.getElem?_eq_getElem hi]
    simpa using e2
  · intro e
    rw [e, List.getD_eq_getElem?_getD, List.getElem?_eq_getElem hi, Option.getD_some, List.set_getElem_self]
end Go.Proofs.Ytogbmekgmjmonaa

namespace Go.Proofs.Ytogbmekgmjmonaa
open Go.RowKit

/-- bytes in a block that was not there before -/
def FreshB (w w' : World) (v : Value) (X : List Int) : Prop := ∃ g o cap cur, v = .slice (some ⟨g, o, none⟩) X.length cap ∧ X.length ≤ cap ∧ cap ≤ maxLen ∧ w.heap.size ≤ g ∧ Blk w' g cur ∧ ∀ j, j < X.length → cur[o + j]? = some (.int .u8 (X.getD j 0))
theorem FreshB.bs {w w' : World} {v : Value} {X : List Int} (h : FreshB w w' v X) : Bs w' v X := by
  obtain ⟨g, o, cap, cur, rfl, h1, h2, h3, h4, h5⟩ := h
  exact ⟨_, cap, rfl, h2, h1, fun _ => ⟨g, o, rfl, h4.lt, fun j hj => h4.cell _ _ (h5 j hj)⟩⟩
theorem FreshB.of_own {w w' : World} {e : TypeId} {v : Value} {n : Nat} {X : List Int} (h : w'.ownsRow w.heap.size e 1 v n (u8s X)) (h0 : 0 < n) : FreshB w w' v X := by
  obtain ⟨hl, h⟩ := h
  have hn : X.length = n := by simpa using hl
  rcases h with ⟨h1, h2⟩ | ⟨g, cap, cur, h1, h2, h3, h4, h5, h6, h7⟩
  · omega
  · refine ⟨g, 0, cap, cur.toList, by rw [hn]; exact h1, by omega, h5, h2, ⟨e, by simpa using h3⟩, fun j hj => ?_⟩
    have e1 : (cur.toList.take (n * 1))[j]? = some (.int .u8 (X.getD j 0)) := by rw [h7]; exact u8s_get X j hj
    rw [List.getElem?_take, if_pos (by omega)] at e1
    rw [Nat.zero_add]
    exact e1
theorem bs_none (w : World) : Bs w (.slice none 0 0) [] := ⟨none, 0, rfl, by decide, Nat.le_refl _, fun h => absurd h (by decide)⟩
theorem bs_uptoC {w : World} {ao : Option Addr} {n r cap : Nat} {B : List Int} (h : Bs w (.slice ao n cap) B) (hn : B.length = n) (hr : r ≤ n) : Bs w (.slice ao r cap) (B.take r) := by
  obtain ⟨a, c, e, h1, h2, h3⟩ := h
  obtain ⟨rfl, _, rfl⟩ : ao = a ∧ n = B.length ∧ cap = c := by simpa using e
  have el : (B.take r).length = r := by rw [List.length_take]; omega
  refine ⟨ao, cap, by rw [el], h1, by rw [el]; omega, fun h0 => ?_⟩
  rw [el] at h0
  obtain ⟨b, o, rfl, k1, k2⟩ := h3 (by omega)
  refine ⟨b, o, rfl, k1, fun j hj => ?_⟩
  rw [el] at hj
  rw [k2 j (by omega), List.getD_eq_getElem?_getD, List.getD_eq_getElem?_getD, List.getElem?_take, if_pos hj]
theorem byt_takeC {B : List Int} (h : byt B) (r : Nat) : byt (B.take r) := by
  intro j
  rw [List.getD_eq_getElem?_getD, List.getElem?_take]
  split
  · rw [← List.getD_eq_getElem?_getD]; exact h j
  · exact ⟨by decide, by decide⟩
theorem byt_dropC {B : List Int} (h : byt B) (r : Nat) : byt (B.drop r) := by
  intro j
  rw [List.getD_eq_getElem?_getD, List.getElem?_drop, ← List.getD_eq_getElem?_getD]
  exact h _
theorem bs_dropC {w : World} {b o n r cap : Nat} {B : List Int} (h : Bs w (.slice (some ⟨b, o, none⟩) n cap) B) (hn : B.length = n) (hr : r < n) : Bs w (.slice (some ⟨b, o + r, none⟩) (n - r) (cap - r)) (B.drop r) := by
  obtain ⟨a, c, e, h1, h2, h3⟩ := h
  obtain ⟨rfl, _, rfl⟩ : some ⟨b, o, none⟩ = a ∧ n = B.length ∧ cap = c := by simpa using e
  have el : (B.drop r).length = n - r := by rw [List.length_drop]; omega
  obtain ⟨b', o', e', k1, k2⟩ := h3 (by omega)
  simp only [Option.some.injEq, Addr.mk.injEq] at e'
  obtain ⟨rfl, rfl, -⟩ := e'
  refine ⟨_, cap - r, by rw [el], by omega, by rw [el]; omega, fun _ => ⟨b, o + r, rfl, k1, fun j hj => ?_⟩⟩
  rw [el] at hj
  rw [Nat.add_assoc, k2 (r + j) (by omega), List.getD_eq_getElem?_getD, List.getD_eq_getElem?_getD, List.getElem?_drop]
theorem str_oneC : ∀ {A B : List Int}, byt A → byt B → (A.map fun n => UInt8.ofNat n.toNat) = (B.map fun n => UInt8.ofNat n.toNat) → A = B
  | [], [], _, _, _ => rfl
  | [], _ :: _, _, _, h => by simp at h
  | _ :: _, [], _, _, h => by simp at h
  | a :: A, b :: B, ha, hb, h => by
    simp only [List.map_cons, List.cons.injEq] at h
    have a0 : 0 ≤ a ∧ a < 256 := ha 0
    have b0 : 0 ≤ b ∧ b < 256 := hb 0
    have e := congrArg UInt8.toNat h.1
    rw [UInt8.toNat_ofNat_of_lt' (show a.toNat < 256 by omega), UInt8.toNat_ofNat_of_lt' (show b.toNat < 256 by omega)] at e
    have t := str_oneC (fun j => ha (j + 1)) (fun j => hb (j + 1)) h.2
    rw [t, show a = b by omega]
theorem str_eqC {A B : List Int} (ha : byt A) (hb : byt B) : ((strOfNums A).toList == (strOfNums B).toList) = decide (A = B) := by
  have e : ∀ X : List Int, (strOfNums X).toList = X.map fun n => UInt8.ofNat n.toNat := fun X => by
    rw [Lib.toList_data]
    rfl
  rw [e, e]
  by_cases h : A = B
  · subst h
    simp
  · rw [decide_eq_false h]
    apply beq_eq_false_iff_ne.2
    intro e
    exact h (str_oneC ha hb e)
/-- a block's type -/
def TyB (w : World) (g : Nat) (t : TypeId) : Prop := ∃ cs : Array Value, w.heap[g]? = some (.cells cs t)
theorem TyB.new (w : World) (cs : Array Value) (t : TypeId) (g : Nat) (hg : g = w.heap.size) : TyB (w.alloc (.cells cs t)) g t := by
  subst hg
  exact ⟨cs, by show (w.heap.push _)[w.heap.size]? = _; simp⟩
theorem TyB.lt {w : World} {g : Nat} {t : TypeId} (h : TyB w g t) : g < w.heap.size := by
  obtain ⟨cs, h⟩ := h
  exact (Array.getElem?_eq_some_iff.1 h).1
theorem TyB.alloc {w : World} {g : Nat} {t : TypeId} (h : TyB w g t) (o : Obj) : TyB (w.alloc o) g t := by
  have hl := h.lt
  obtain ⟨cs, h⟩ := h
  exact ⟨cs, by rw [Below.heap_alloc _ _ _ hl]; exact h⟩
theorem TyB.later {w w' : World} {g : Nat} {t : TypeId} (h : TyB w g t) (hb : Below w.heap.size w w') : TyB w' g t := by
  have hl := h.lt
  obtain ⟨cs, h⟩ := h
  exact ⟨cs, by rw [hb.block g hl]; exact h⟩
theorem TyB.drew {w : World} {g : Nat} {t : TypeId} (h : TyB w g t) : TyB w.drew g t := h
theorem TyB.row {w : World} {g c : Nat} {t : TypeId} {cs : Array Value} (h : TyB w g t) (hc : g ≠ c) : TyB (w.setRow c cs) g t := by
  obtain ⟨ds, h⟩ := h
  exact ⟨ds, by rw [setRow_other _ _ _ _ hc]; exact h⟩
theorem TyB.set {w : World} {g : Nat} {t : TypeId} (h : TyB w g t) (k : Nat) (v : Value) : TyB (w.setCell ⟨g, k, none⟩ v) g t := by
  obtain ⟨cs, h⟩ := h
  exact ⟨cs.setIfInBounds k v, by simp [World.setCell, Array.getElem?_modify, h]⟩
/-- a block known whole as a row of one's own -/
theorem own_blk {w : World} {base g : Nat} {e : TypeId} {X : List Int} {n : Nat} (T : TyB w g e) (B : Blk w g (u8s X)) (hb : base ≤ g) (hn : X.length = n) (hm : n ≤ maxLen) : w.ownsRow base e 1 (.slice (some ⟨g, 0, none⟩) n n) n (u8s X) := by
  subst hn
  obtain ⟨cs, h1⟩ := T
  obtain ⟨t, h2⟩ := B
  rw [h1] at h2
  simp only [Option.some.injEq, Obj.cells.injEq] at h2
  obtain ⟨rfl, rfl, -⟩ := h2
  refine ⟨by simp, .inr ⟨g, X.length, (u8s X).toArray, rfl, hb, h1, Nat.le_refl _, hm, ?_⟩⟩
  simp
  exact List.take_of_length_le (by simp [u8s])
end Go.Proofs.Ytogbmekgmjmonaa
