/- Sums of blocks: bytes filled, their sum by a block, lengths in eight bytes. Plain facts. -/
import Derived.Test.YtpfmoakapdfdaaaGhBlk
namespace Go.Proofs.Ytpfmoakapdfdaaa

def padK (n : Nat) : Nat := (16 - n % 16) % 16
/-- with noughts behind -/
def filF (B : List Int) : List Int := B ++ List.replicate (padK B.length) 0
theorem filF_len (B : List Int) : (filF B).length = 16 * ((B.length + 15) / 16) := by
  rw [filF, List.length_append, List.length_replicate]
  unfold padK
  omega
theorem pad_iff {n k : Nat} (h : k ≤ padK n) : (n + k) % 16 = 0 ↔ k = padK n := by
  unfold padK at *
  omega
theorem byt_zeros (n : Nat) : byt (List.replicate n 0) := fun j => by
  rw [List.getD_eq_getElem?_getD, List.getElem?_replicate]
  split <;> decide
theorem byt_two {A B : List Int} (ha : byt A) (hb : byt B) : byt (A ++ B) := fun j => by
  rw [List.getD_eq_getElem?_getD, List.getElem?_append]
  split
  · rw [← List.getD_eq_getElem?_getD]; exact ha j
  · rw [← List.getD_eq_getElem?_getD]; exact hb _
theorem filF_byt {B : List Int} (h : byt B) : byt (filF B) := byt_two h (byt_zeros _)
theorem fill_next (B : List Int) (k : Nat) : (B ++ List.replicate k 0) ++ [0] = B ++ List.replicate (k + 1) 0 := by
  rw [List.append_assoc, List.replicate_succ']
/-- the q-th block -/
def bkQ (C : List Int) (q : Nat) : List Int := (C.drop (16 * q)).take 16
theorem bkQ_get {C : List Int} {q j : Nat} (h : j < 16) : (bkQ C q).getD j 0 = C.getD (16 * q + j) 0 := by
  unfold bkQ
  rw [List.getD_eq_getElem?_getD, List.getElem?_take, if_pos h, List.getElem?_drop, ← List.getD_eq_getElem?_getD]
theorem bkQ_byt {C : List Int} (h : byt C) (q : Nat) : byt (bkQ C q) := fun j => by
  by_cases k : j < 16
  · rw [bkQ_get k]; exact h _
  · unfold bkQ
    rw [List.getD_eq_getElem?_getD, List.getElem?_take, if_neg k]
    exact ⟨by decide, by decide⟩
/-- the sum of the first q blocks -/
def hashQ (H C : List Int) : Nat → List Int
  | 0 => List.replicate 16 0
  | q + 1 => mulB (xkN (hashQ H C q) (bkQ C q)) H
theorem hashQ_len (H C : List Int) : ∀ q, (hashQ H C q).length = 16
  | 0 => List.length_replicate
  | _ + 1 => mulB_len _ _
theorem hashQ_byt (H C : List Int) : ∀ q, byt (hashQ H C q)
  | 0 => byt_zeros 16
  | _ + 1 => mulB_byt _ _
def hashB (H B : List Int) : List Int := hashQ H (filF B) ((filF B).length / 16)
theorem hashB_len (H B : List Int) : (hashB H B).length = 16 := hashQ_len _ _ _
theorem hashB_byt (H B : List Int) : byt (hashB H B) := hashQ_byt _ _ _
/-- how many bits, in eight bytes -/
def lenN (n : Nat) : List Int := (List.range 8).map fun j => ((8 * n / 256 ^ (7 - j) % 256 : Nat) : Int)
theorem lenN_len (n : Nat) : (lenN n).length = 8 := by simp [lenN]
theorem lenN_byt (n : Nat) : byt (lenN n) := byt_of _ (fun j hj => by
  rw [lenN_len] at hj
  have e : (lenN n).getD j 0 = ((8 * n / 256 ^ (7 - j) % 256 : Nat) : Int) := by simp [lenN, List.getD_eq_getElem?_getD, hj]
  rw [e]
  have := Nat.mod_lt (8 * n / 256 ^ (7 - j)) (show 0 < 256 by decide)
  omega)
/-- the last t of them -/
def lenZ (n t : Nat) : List Int := (List.range 8).map fun j => if 8 - t ≤ j then ((8 * n / 256 ^ (7 - j) % 256 : Nat) : Int) else 0
theorem lenZ_len (n t : Nat) : (lenZ n t).length = 8 := by simp [lenZ]
theorem lenZ_0 (n : Nat) : lenZ n 0 = List.replicate 8 0 := by
  unfold lenZ
  rw [List.map_congr_left (g := fun _ => (0 : Int)) (fun j hj => by rw [if_neg (by have := List.mem_range.1 hj; omega)])]
  rfl
theorem lenZ_8 (n : Nat) : lenZ n 8 = lenN n := by
  unfold lenZ lenN
  exact List.map_congr_left (fun j _ => by rw [if_pos (by omega)])
theorem lenZ_set {n t : Nat} (h : t < 8) : (lenZ n t).set (7 - t) ((8 * n / 256 ^ t % 256 : Nat) : Int) = lenZ n (t + 1) := by
  apply List.ext_getElem?
  intro j
  by_cases hj : j < 8
  · by_cases e : 7 - t = j
    · rw [e, List.getElem?_set_self (by rw [lenZ_len]; exact hj)]
      simp only [lenZ, List.getElem?_map, List.getElem?_range hj, Option.map_some, Option.some.injEq]
      rw [if_pos (by omega), show 7 - j = t by omega]
    · rw [List.getElem?_set_ne e]
      simp only [lenZ, List.getElem?_map, List.getElem?_range hj, Option.map_some, Option.some.injEq]
      by_cases l : 8 - t ≤ j
      · rw [if_pos l, if_pos (by omega)]
      · rw [if_neg l, if_neg (by omega)]
  · rw [List.getElem?_eq_none (by rw [List.length_set, lenZ_len]; omega), List.getElem?_eq_none (by rw [lenZ_len]; omega)]
def wholeB (H A B : List Int) : List Int := hashB H (filF A ++ filF B ++ lenN A.length ++ lenN B.length)
/-- sums of bytes go by parts -/
theorem xk_zero : xkN (List.replicate 16 0) (List.replicate 16 0) = List.replicate 16 0 := by decide +kernel
theorem xk_get {A B : List Int} {j : Nat} (h : j < 16) : (xkN A B).getD j 0 = bits .xor .u8 (A.getD j 0) (B.getD j 0) := by
  simp [xkN, xkZ, List.getD_eq_getElem?_getD, h]
theorem byt_eq {A B : List Int} (la : A.length = 16) (lb : B.length = 16) (h : ∀ j, j < 16 → A.getD j 0 = B.getD j 0) : A = B := by
  apply List.ext_getElem (by omega)
  intro j h1 h2
  have := h j (by omega)
  simpa [List.getD_eq_getElem?_getD, h1, h2] using this
theorem blk_cong {A B : List Int} (h : ∀ j, j < 16 → A.getD j 0 = B.getD j 0) : blkN A = blkN B := by
  refine num_ext (blkN_lt _) (blkN_lt _) (fun i hi => ?_)
  rw [blkN_bit, blkN_bit]
  unfold cbB
  rw [h (i / 8) (by omega)]
/-- the sum of bytes that are xor of others is xor of their sums, block by block -/
theorem hashQ_xor {H C D E : List Int} (bC : byt C) (bD : byt D) (h : ∀ j, E.getD j 0 = bits .xor .u8 (C.getD j 0) (D.getD j 0)) (bE : byt E) : ∀ q, hashQ H E q = xkN (hashQ H C q) (hashQ H D q)
  | 0 => xk_zero.symm
  | q + 1 => by
    have ih := hashQ_xor bC bD h bE q (H := H)
    refine blk_ext (hashQ_len _ _ _) (xk_len _ _) (hashQ_byt _ _ _) (xkN_byt (hashQ_byt _ _ _) (hashQ_byt _ _ _)) ?_
    rw [blk_xor (hashQ_byt _ _ _) (hashQ_byt _ _ _)]
    rw [show hashQ H E (q + 1) = mulB (xkN (hashQ H E q) (bkQ E q)) H from rfl, show hashQ H C (q + 1) = mulB (xkN (hashQ H C q) (bkQ C q)) H from rfl, show hashQ H D (q + 1) = mulB (xkN (hashQ H D q) (bkQ D q)) H from rfl]
    rw [blk_mulB, blk_mulB, blk_mulB, ← mulN2_xor]
    refine congrArg (fun v => mulN2 v (blkN H)) ?_
    rw [blk_xor (hashQ_byt _ _ _) (bkQ_byt bE q), blk_xor (hashQ_byt _ _ _) (bkQ_byt bC q), blk_xor (hashQ_byt _ _ _) (bkQ_byt bD q), ih, blk_xor (hashQ_byt _ _ _) (hashQ_byt _ _ _)]
    have e : blkN (bkQ E q) = blkN (bkQ C q) ^^^ blkN (bkQ D q) := by
      rw [← blk_xor (bkQ_byt bC q) (bkQ_byt bD q)]
      exact blk_cong (fun j hj => by rw [xk_get hj, bkQ_get hj, bkQ_get hj, bkQ_get hj, h])
    rw [e, xor4_swap]
end Go.Proofs.Ytpfmoakapdfdaaa
