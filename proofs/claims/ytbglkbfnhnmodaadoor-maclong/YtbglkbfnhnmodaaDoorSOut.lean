/- The bytes of a digest, one by one: plain facts. -/
import Derived.Test.YtbglkbfnhnmodaaDoorSSum
namespace Go.Proofs.YtbglkbfnhnmodaaDoor
open Go.RowKit

theorem be_get {Z : List Int} {x : Int} (l : Z.length = 8) (b : byt Z) (e : beN Z = x) (j : Nat) (hj : j < 8) : Z.getD j 0 = x / 2 ^ (56 - 8 * j) % 256 := by
  obtain ⟨z0, z1, z2, z3, z4, z5, z6, z7, rfl⟩ := eight l
  have b0 : 0 ≤ z0 ∧ z0 < 256 := b 0
  have b1 : 0 ≤ z1 ∧ z1 < 256 := b 1
  have b2 : 0 ≤ z2 ∧ z2 < 256 := b 2
  have b3 : 0 ≤ z3 ∧ z3 < 256 := b 3
  have b4 : 0 ≤ z4 ∧ z4 < 256 := b 4
  have b5 : 0 ≤ z5 ∧ z5 < 256 := b 5
  have b6 : 0 ≤ z6 ∧ z6 < 256 := b 6
  have b7 : 0 ≤ z7 ∧ z7 < 256 := b 7
  have ex : x = z7 + 256 * (z6 + 256 * (z5 + 256 * (z4 + 256 * (z3 + 256 * (z2 + 256 * (z1 + 256 * z0)))))) := by
    rw [← e]
    show z7 + 256 * (z6 + 256 * (z5 + 256 * (z4 + 256 * (z3 + 256 * (z2 + 256 * (z1 + 256 * (z0 + 256 * 0))))))) = _
    omega
  match j, hj with
  | 0, _ => show z0 = x / 2 ^ 56 % 256; rw [show (2 : Int) ^ 56 = 72057594037927936 from rfl]; omega
  | 1, _ => show z1 = x / 2 ^ 48 % 256; rw [show (2 : Int) ^ 48 = 281474976710656 from rfl]; omega
  | 2, _ => show z2 = x / 2 ^ 40 % 256; rw [show (2 : Int) ^ 40 = 1099511627776 from rfl]; omega
  | 3, _ => show z3 = x / 2 ^ 32 % 256; rw [show (2 : Int) ^ 32 = 4294967296 from rfl]; omega
  | 4, _ => show z4 = x / 2 ^ 24 % 256; rw [show (2 : Int) ^ 24 = 16777216 from rfl]; omega
  | 5, _ => show z5 = x / 2 ^ 16 % 256; rw [show (2 : Int) ^ 16 = 65536 from rfl]; omega
  | 6, _ => show z6 = x / 2 ^ 8 % 256; rw [show (2 : Int) ^ 8 = 256 from rfl]; omega
  | 7, _ => show z7 = x / 2 ^ 0 % 256; rw [show (2 : Int) ^ 0 = 1 from rfl]; omega

theorem OutB.get {H : List Int} : ∀ {m : Nat} {O : List Int}, OutB H m O → ∀ i, i < 8 * m → O.getD i 0 = H.getD (i / 8) 0 / 2 ^ (56 - 8 * (i % 8)) % 256
  | 0, _, _, i, hi => by omega
  | m + 1, O, h, i, hi => by
    obtain ⟨O', Z, rfl, h1, h2, h3, h4⟩ := h
    have l := h1.len
    by_cases k : i < 8 * m
    · rw [List.getD_eq_getElem?_getD, List.getElem?_append_left (by omega), ← List.getD_eq_getElem?_getD]
      exact h1.get i k
    · rw [List.getD_eq_getElem?_getD, List.getElem?_append_right (by omega), ← List.getD_eq_getElem?_getD, l, be_get h2 h3 h4 (i - 8 * m) (by omega), show i / 8 = m by omega, show i % 8 = i - 8 * m by omega]
end Go.Proofs.YtbglkbfnhnmodaaDoor
