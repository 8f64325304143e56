/- AES's round keys, as numbers. Plain facts. -/
import Derived.Test.YtpfmoakapdfdaaaAeSt
namespace Go.Proofs.Ytpfmoakapdfdaaa
open Go.RowKit

theorem xorb_byte {x c : Int} (x0 : 0 ≤ x ∧ x < 256) (c0 : 0 ≤ c ∧ c < 256) : 0 ≤ bits .xor .u8 x c ∧ bits .xor .u8 x c < 256 := by
  obtain ⟨a, rfl⟩ := Int.eq_ofNat_of_zero_le x0.1
  obtain ⟨b, rfl⟩ := Int.eq_ofNat_of_zero_le c0.1
  rw [u8_xor_nat a b (by omega) (by omega)]
  have := Nat.xor_lt_two_pow (x := a) (y := b) (n := 8) (by omega) (by omega)
  omega
/-- a byte's substitute -/
def sbN (x : Int) : Int := ((subN x.toNat : Nat) : Int)
theorem sbN_byte (x : Int) : 0 ≤ sbN x ∧ sbN x < 256 := by
  have := subN_lt x.toNat
  unfold sbN
  omega
def powN : Nat → Nat
  | 0 => 1
  | n + 1 => prdN (powN n) 2
theorem powN_lt : ∀ n, powN n < 256
  | 0 => by decide
  | _ + 1 => prdN_lt _ _
/-- what is put to the i-th word, from the one before it -/
def tN (P : List Int) (i : Nat) : List Int :=
  if i % 8 = 0 then [bits .xor .u8 (sbN (P.getD 1 0)) ((powN ((i - 1) / 8) : Nat) : Int), sbN (P.getD 2 0), sbN (P.getD 3 0), sbN (P.getD 0 0)]
  else if i % 8 = 4 then [sbN (P.getD 0 0), sbN (P.getD 1 0), sbN (P.getD 2 0), sbN (P.getD 3 0)] else P
def x4N (T Q : List Int) : List Int := (List.range 4).map fun k => bits .xor .u8 (T.getD k 0) (Q.getD k 0)
theorem x4N_len (T Q : List Int) : (x4N T Q).length = 4 := by simp [x4N]
theorem x4N_get {T Q : List Int} {k : Nat} (h : k < 4) : (x4N T Q).getD k 0 = bits .xor .u8 (T.getD k 0) (Q.getD k 0) := by
  simp [x4N, List.getD_eq_getElem?_getD, h]
/-- the first i words -/
def wrdN (K : List Int) : Nat → List (List Int)
  | 0 => []
  | i + 1 => wrdN K i ++ [if i < 8 then (K.drop (4 * i)).take 4 else x4N (tN ((wrdN K i).getD (i - 1) []) i) ((wrdN K i).getD (i - 8) [])]
theorem wrdN_len (K : List Int) : ∀ i, (wrdN K i).length = i
  | 0 => rfl
  | i + 1 => by rw [wrdN, List.length_append, wrdN_len K i]; rfl
/-- the j-th word -/
def WN (K : List Int) (j : Nat) : List Int := (wrdN K (j + 1)).getD j []
theorem wrdN_get (K : List Int) {j : Nat} : ∀ {i : Nat}, j < i → (wrdN K i).getD j [] = WN K j
  | 0, h => absurd h (by omega)
  | i + 1, h => by
    by_cases e : j = i
    · subst e; rfl
    · rw [wrdN, List.getD_eq_getElem?_getD, List.getElem?_append_left (by rw [wrdN_len]; omega), ← List.getD_eq_getElem?_getD]
      exact wrdN_get K (by omega)
theorem WN_lo {K : List Int} {j : Nat} (h : j < 8) : WN K j = (K.drop (4 * j)).take 4 := by
  rw [WN, wrdN, List.getD_eq_getElem?_getD, List.getElem?_append_right (by rw [wrdN_len]; exact Nat.le_refl _), wrdN_len, Nat.sub_self, if_pos h]
  rfl
theorem WN_hi {K : List Int} {j : Nat} (h : 8 ≤ j) : WN K j = x4N (tN (WN K (j - 1)) j) (WN K (j - 8)) := by
  rw [WN, wrdN, List.getD_eq_getElem?_getD, List.getElem?_append_right (by rw [wrdN_len]; exact Nat.le_refl _), wrdN_len, Nat.sub_self, if_neg (by omega), wrdN_get K (show j - 1 < j by omega), wrdN_get K (show j - 8 < j by omega)]
  rfl
theorem WN_len {K : List Int} (l : K.length = 32) (j : Nat) : (WN K j).length = 4 := by
  by_cases h : j < 8
  · rw [WN_lo h, List.length_take, List.length_drop]; omega
  · rw [WN_hi (by omega), x4N_len]
def byteN (X : List Int) : Prop := ∀ k, k < 4 → 0 ≤ X.getD k 0 ∧ X.getD k 0 < 256
theorem tN_byte {P : List Int} (h : byteN P) (i : Nat) : byteN (tN P i) := by
  have p := powN_lt ((i - 1) / 8)
  have q : 0 ≤ ((powN ((i - 1) / 8) : Nat) : Int) ∧ ((powN ((i - 1) / 8) : Nat) : Int) < 256 := by omega
  unfold tN
  split
  · exact four (xorb_byte (sbN_byte _) q) (sbN_byte _) (sbN_byte _) (sbN_byte _)
  · split
    · exact four (sbN_byte _) (sbN_byte _) (sbN_byte _) (sbN_byte _)
    · exact h
theorem WN_byte {K : List Int} (b : ∀ j, 0 ≤ K.getD j 0 ∧ K.getD j 0 < 256) : ∀ j, byteN (WN K j) := by
  intro j
  induction j using Nat.strongRecOn with
  | _ j ih =>
    by_cases h : j < 8
    · intro k hk
      rw [WN_lo h, List.getD_eq_getElem?_getD, List.getElem?_take, if_pos hk, List.getElem?_drop, ← List.getD_eq_getElem?_getD]
      exact b _
    · intro k hk
      rw [WN_hi (by omega), x4N_get hk]
      exact xorb_byte (tN_byte (ih (j - 1) (by omega)) j k hk) (ih (j - 8) (by omega) k hk)
/-- the i-th round key -/
def keyN (K : List Int) (i : Nat) : List Int := (List.range 16).map fun k => (WN K (4 * i + k / 4)).getD (k % 4) 0
theorem keyN_len (K : List Int) (i : Nat) : (keyN K i).length = 16 := by simp [keyN]
theorem keyN_get {K : List Int} {i k : Nat} (h : k < 16) : (keyN K i).getD k 0 = (WN K (4 * i + k / 4)).getD (k % 4) 0 := by
  simp [keyN, List.getD_eq_getElem?_getD, h]
end Go.Proofs.Ytpfmoakapdfdaaa
