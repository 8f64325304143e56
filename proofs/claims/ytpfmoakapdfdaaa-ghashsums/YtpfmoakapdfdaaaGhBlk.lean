/- Blocks of 16 bytes as numbers: the highest bit of the first byte is x^0. Plain facts. -/
import Derived.Test.YtpfmoakapdfdaaaGhNum
import Derived.Test.YtpfmoakapdfdaaaAeEncN
namespace Go.Proofs.Ytpfmoakapdfdaaa

/-- the coefficient of x^i -/
def cbB (S : List Int) (i : Nat) : Bool := (S.getD (i / 8) 0).toNat.testBit (7 - i % 8)
def blkN (S : List Int) : Nat := xsN (fun i => if cbB S i then 2 ^ i else 0) 128
theorem xs_bit (f : Nat → Bool) (i : Nat) : ∀ n, (xsN (fun i => if f i then 2 ^ i else 0) n).testBit i = (decide (i < n) && f i)
  | 0 => by simp [xsN]
  | n + 1 => by
    rw [xsN, Nat.testBit_xor, xs_bit f i n]
    by_cases e : i = n
    · subst e
      cases f i <;> simp [Nat.testBit_two_pow_self]
    · have h : ((if f n then 2 ^ n else 0) : Nat).testBit i = false := by
        split
        · rw [Nat.testBit_two_pow]; simp; omega
        · exact Nat.zero_testBit i
      rw [h]
      by_cases k : i < n
      · simp [k, show i < n + 1 by omega]
      · simp [k, show ¬ i < n + 1 by omega]
theorem blkN_bit (S : List Int) (i : Nat) : (blkN S).testBit i = (decide (i < 128) && cbB S i) := xs_bit _ i 128
theorem blkN_lt (S : List Int) : blkN S < 2 ^ 128 := by
  apply Nat.lt_pow_two_of_testBit
  intro i hi
  rw [blkN_bit]
  simp; omega
theorem num_ext {u v : Nat} (hu : u < 2 ^ 128) (hv : v < 2 ^ 128) (h : ∀ i, i < 128 → u.testBit i = v.testBit i) : u = v := by
  apply Nat.eq_of_testBit_eq
  intro i
  by_cases k : i < 128
  · exact h i k
  · rw [Nat.testBit_lt_two_pow (Nat.lt_of_lt_of_le hu (Nat.pow_le_pow_right (by decide) (by omega))), Nat.testBit_lt_two_pow (Nat.lt_of_lt_of_le hv (Nat.pow_le_pow_right (by decide) (by omega)))]
/-- a byte of eight bits, the highest first -/
def byte8 (f : Nat → Bool) : Nat := (f 0).toNat * 128 + (f 1).toNat * 64 + (f 2).toNat * 32 + (f 3).toNat * 16 + (f 4).toNat * 8 + (f 5).toNat * 4 + (f 6).toNat * 2 + (f 7).toNat
theorem byte8_lt (f : Nat → Bool) : byte8 f < 256 := by
  unfold byte8
  have t : ∀ b : Bool, b.toNat ≤ 1 := fun b => by cases b <;> decide
  have h0 := t (f 0); have h1 := t (f 1); have h2 := t (f 2); have h3 := t (f 3); have h4 := t (f 4); have h5 := t (f 5); have h6 := t (f 6); have h7 := t (f 7)
  omega
theorem byte8_all : ∀ b0 b1 b2 b3 b4 b5 b6 b7 : Bool, ∀ r : Fin 8, (b0.toNat * 128 + b1.toNat * 64 + b2.toNat * 32 + b3.toNat * 16 + b4.toNat * 8 + b5.toNat * 4 + b6.toNat * 2 + b7.toNat).testBit (7 - r.1) = [b0, b1, b2, b3, b4, b5, b6, b7].getD r.1 false := by decide +kernel
theorem byte8_bit (f : Nat → Bool) {r : Nat} (h : r < 8) : (byte8 f).testBit (7 - r) = f r := by
  have e := byte8_all (f 0) (f 1) (f 2) (f 3) (f 4) (f 5) (f 6) (f 7) ⟨r, h⟩
  have k : [f 0, f 1, f 2, f 3, f 4, f 5, f 6, f 7].getD r false = f r := by
    match r, h with
    | 0, _ => rfl
    | 1, _ => rfl
    | 2, _ => rfl
    | 3, _ => rfl
    | 4, _ => rfl
    | 5, _ => rfl
    | 6, _ => rfl
    | 7, _ => rfl
  rw [← k]
  exact e
/-- a number's block -/
def ofN (v : Nat) : List Int := (List.range 16).map fun j => ((byte8 (fun r => v.testBit (8 * j + r)) : Nat) : Int)
theorem ofN_len (v : Nat) : (ofN v).length = 16 := by simp [ofN]
theorem ofN_get (v : Nat) {j : Nat} (h : j < 16) : (ofN v).getD j 0 = ((byte8 (fun r => v.testBit (8 * j + r)) : Nat) : Int) := by
  simp [ofN, List.getD_eq_getElem?_getD, h]
theorem ofN_byt (v : Nat) : byt (ofN v) := byt_of _ (fun j hj => by
  rw [ofN_len] at hj
  rw [ofN_get v hj]
  have := byte8_lt (fun r => v.testBit (8 * j + r))
  omega)
theorem cb_ofN (v : Nat) {i : Nat} (h : i < 128) : cbB (ofN v) i = v.testBit i := by
  unfold cbB
  rw [ofN_get v (show i / 8 < 16 by omega), Int.toNat_natCast, byte8_bit _ (show i % 8 < 8 by omega), show 8 * (i / 8) + i % 8 = i by omega]
theorem blk_ofN {v : Nat} (h : v < 2 ^ 128) : blkN (ofN v) = v :=
  num_ext (blkN_lt _) h (fun i hi => by rw [blkN_bit, cb_ofN v hi]; simp [hi])
theorem blk_ext {A B : List Int} (la : A.length = 16) (lb : B.length = 16) (ba : byt A) (bb : byt B) (h : blkN A = blkN B) : A = B := by
  apply List.ext_getElem (by omega)
  intro j h1 h2
  have ga : A[j] = A.getD j 0 := by simp [List.getD_eq_getElem?_getD, h1]
  have gb : B[j] = B.getD j 0 := by simp [List.getD_eq_getElem?_getD, h2]
  rw [ga, gb]
  have a0 := ba j
  have b0 := bb j
  have e : (A.getD j 0).toNat = (B.getD j 0).toNat := by
    apply Nat.eq_of_testBit_eq
    intro k
    by_cases hk : k < 8
    · have q := congrArg (fun v => v.testBit (8 * j + (7 - k))) h
      simp only [blkN_bit, cbB] at q
      rw [show (8 * j + (7 - k)) / 8 = j by omega, show 7 - (8 * j + (7 - k)) % 8 = k by omega] at q
      simpa [show 8 * j + (7 - k) < 128 by omega] using q
    · have pw : 2 ^ 8 ≤ 2 ^ k := Nat.pow_le_pow_right (by decide) (by omega)
      rw [Nat.testBit_lt_two_pow (by omega), Nat.testBit_lt_two_pow (by omega)]
  omega
theorem of_blkN {S : List Int} (l : S.length = 16) (b : byt S) : ofN (blkN S) = S :=
  blk_ext (ofN_len _) l (ofN_byt _) b (blk_ofN (blkN_lt S))
/-- a sum -/
theorem blk_xor {A B : List Int} (ba : byt A) (bb : byt B) : blkN (xkN A B) = blkN A ^^^ blkN B := by
  refine num_ext (blkN_lt _) (Nat.xor_lt_two_pow (blkN_lt A) (blkN_lt B)) (fun i hi => ?_)
  rw [Nat.testBit_xor, blkN_bit, blkN_bit, blkN_bit]
  simp only [hi, decide_true, Bool.true_and]
  unfold cbB
  have e : (xkN A B).getD (i / 8) 0 = bits .xor .u8 (A.getD (i / 8) 0) (B.getD (i / 8) 0) := by
    have hj : i / 8 < 16 := by omega
    simp [xkN, xkZ, List.getD_eq_getElem?_getD, hj]
  rw [e]
  have a0 := ba (i / 8)
  have b0 := bb (i / 8)
  obtain ⟨x, hx⟩ := Int.eq_ofNat_of_zero_le a0.1
  obtain ⟨y, hy⟩ := Int.eq_ofNat_of_zero_le b0.1
  rw [hx, hy, u8_xor_nat x y (by omega) (by omega), Int.toNat_natCast, Int.toNat_natCast, Int.toNat_natCast, Nat.testBit_xor]
/-- the product of blocks -/
def mulB (A B : List Int) : List Int := ofN (mulN2 (blkN A) (blkN B))
theorem mulB_len (A B : List Int) : (mulB A B).length = 16 := ofN_len _
theorem mulB_byt (A B : List Int) : byt (mulB A B) := ofN_byt _
theorem blk_mulB (A B : List Int) : blkN (mulB A B) = mulN2 (blkN A) (blkN B) := blk_ofN (mulN2_lt (blkN_lt B))
theorem mulB_comm (A B : List Int) : mulB A B = mulB B A := by
  unfold mulB
  rw [mulN2_comm (blkN_lt A) (blkN_lt B)]
theorem mulB_assoc (A B C : List Int) : mulB (mulB A B) C = mulB A (mulB B C) := by
  show ofN _ = ofN _
  rw [blk_mulB, blk_mulB, mulN2_assoc (blkN_lt B) (blkN_lt C)]
theorem xk_len (A B : List Int) : (xkN A B).length = 16 := xkZ_len A B 16
theorem mulB_spread {A B C : List Int} (bb : byt B) (bc : byt C) : mulB A (xkN B C) = xkN (mulB A B) (mulB A C) := by
  refine blk_ext (mulB_len _ _) (xk_len _ _) (mulB_byt _ _) (xkN_byt (mulB_byt _ _) (mulB_byt _ _)) ?_
  rw [blk_mulB, blk_xor bb bc, blk_xor (mulB_byt _ _) (mulB_byt _ _), blk_mulB, blk_mulB, mulN2_xor2]
def oneB : List Int := [128, 0, 0, 0, 0, 0, 0, 0, 0, 0, 0, 0, 0, 0, 0, 0]
theorem blk_oneB : blkN oneB = 1 := by decide +kernel
theorem mulB_one {A : List Int} (l : A.length = 16) (b : byt A) : mulB A oneB = A := by
  unfold mulB
  rw [blk_oneB, mulN2_one (blkN_lt A), of_blkN l b]
end Go.Proofs.Ytpfmoakapdfdaaa
