/- AES's numbers: doubling is linear; columns mixed four times are as they were; substitutes are one to one. Plain facts. -/
import Derived.Test.YtogbmekgmjmonaaAeNumG
namespace Go.Proofs.Ytogbmekgmjmonaa
open Go.RowKit

/-- twice a byte -/
def dblN (x : Nat) : Nat := if x / 128 % 2 = 1 then (2 * x) ^^^ 283 else 2 * x
theorem prd_two : ∀ x : Fin 256, prdN 2 x.1 = dblN x.1 := by decide +kernel
theorem prd_one : ∀ x : Fin 256, prdN 1 x.1 = x.1 := by decide +kernel
theorem prd_three : ∀ x : Fin 256, prdN 3 x.1 = dblN x.1 ^^^ x.1 := by decide +kernel
theorem dbl_lt : ∀ x : Fin 256, dblN x.1 < 256 := by decide +kernel
theorem dbl_xor_all : ((List.range 256).all fun x => (List.range 256).all fun y => dblN (x ^^^ y) == (dblN x ^^^ dblN y)) = true := by decide +kernel
theorem dbl_xor {x y : Nat} (hx : x < 256) (hy : y < 256) : dblN (x ^^^ y) = dblN x ^^^ dblN y := by
  have h := List.all_eq_true.1 dbl_xor_all x (List.mem_range.2 hx)
  have := List.all_eq_true.1 h y (List.mem_range.2 hy)
  simpa using this
def SBX : List Nat := [99, 124, 119, 123, 242, 107, 111, 197, 48, 1, 103, 43, 254, 215, 171, 118, 202, 130, 201, 125, 250, 89, 71, 240, 173, 212, 162, 175, 156, 164, 114, 192, 183, 253, 147, 38, 54, 63, 247, 204, 52, 165, 229, 241, 113, 216, 49, 21, 4, 199, 35, 195, 24, 150, 5, 154, 7, 18, 128, 226, 235, 39, 178, 117, 9, 131, 44, 26, 27, 110, 90, 160, 82, 59, 214, 179, 41, 227, 47, 132, 83, 209, 0, 237, 32, 252, 177, 91, 106, 203, 190, 57, 74, 76, 88, 207, 208, 239, 170, 251, 67, 77, 51, 133, 69, 249, 2, 127, 80, 60, 159, 168, 81, 163, 64, 143, 146, 157, 56, 245, 188, 182, 218, 33, 16, 255, 243, 210, 205, 12, 19, 236, 95, 151, 68, 23, 196, 167, 126, 61, 100, 93, 25, 115, 96, 129, 79, 220, 34, 42, 144, 136, 70, 238, 184, 20, 222, 94, 11, 219, 224, 50, 58, 10, 73, 6, 36, 92, 194, 211, 172, 98, 145, 149, 228, 121, 231, 200, 55, 109, 141, 213, 78, 169, 108, 86, 244, 234, 101, 122, 174, 8, 186, 120, 37, 46, 28, 166, 180, 198, 232, 221, 116, 31, 75, 189, 139, 138, 112, 62, 181, 102, 72, 3, 246, 14, 97, 53, 87, 185, 134, 193, 29, 158, 225, 248, 152, 17, 105, 217, 142, 148, 155, 30, 135, 233, 206, 85, 40, 223, 140, 161, 137, 13, 191, 230, 66, 104, 65, 153, 45, 15, 176, 84, 187, 22]
/-- the bytes whose substitutes they are -/
def UBX : List Nat := [82, 9, 106, 213, 48, 54, 165, 56, 191, 64, 163, 158, 129, 243, 215, 251, 124, 227, 57, 130, 155, 47, 255, 135, 52, 142, 67, 68, 196, 222, 233, 203, 84, 123, 148, 50, 166, 194, 35, 61, 238, 76, 149, 11, 66, 250, 195, 78, 8, 46, 161, 102, 40, 217, 36, 178, 118, 91, 162, 73, 109, 139, 209, 37, 114, 248, 246, 100, 134, 104, 152, 22, 212, 164, 92, 204, 93, 101, 182, 146, 108, 112, 72, 80, 253, 237, 185, 218, 94, 21, 70, 87, 167, 141, 157, 132, 144, 216, 171, 0, 140, 188, 211, 10, 247, 228, 88, 5, 184, 179, 69, 6, 208, 44, 30, 143, 202, 63, 15, 2, 193, 175, 189, 3, 1, 19, 138, 107, 58, 145, 17, 65, 79, 103, 220, 234, 151, 242, 207, 206, 240, 180, 230, 115, 150, 172, 116, 34, 231, 173, 53, 133, 226, 249, 55, 232, 28, 117, 223, 110, 71, 241, 26, 113, 29, 41, 197, 137, 111, 183, 98, 14, 170, 24, 190, 27, 252, 86, 62, 75, 198, 210, 121, 32, 154, 219, 192, 254, 120, 205, 90, 244, 31, 221, 168, 51, 136, 7, 199, 49, 177, 18, 16, 89, 39, 128, 236, 95, 96, 81, 127, 169, 25, 181, 74, 13, 45, 229, 122, 159, 147, 201, 156, 239, 160, 224, 59, 77, 174, 42, 245, 176, 200, 235, 187, 60, 131, 83, 153, 97, 23, 43, 4, 126, 186, 119, 214, 38, 225, 105, 20, 99, 85, 33, 12, 125]
theorem sbx_is : (List.range 256).map subN = SBX := by decide +kernel
theorem ubx_is : ∀ x : Fin 256, UBX.getD (SBX.getD x.1 0) 0 = x.1 := by decide +kernel
theorem sub_sbx {x : Nat} (h : x < 256) : SBX.getD x 0 = subN x := by
  rw [← sbx_is]
  simp [List.getD_eq_getElem?_getD, h]
theorem sub_back (x : Fin 256) : UBX.getD (subN x.1) 0 = x.1 := by
  rw [← sub_sbx x.2]
  exact ubx_is x
theorem subN_inj {x y : Nat} (hx : x < 256) (hy : y < 256) (h : subN x = subN y) : x = y := by
  have a := sub_back ⟨x, hx⟩
  have b := sub_back ⟨y, hy⟩
  simp only at a b
  rw [← a, ← b, h]
/-- a column's place -/
def colN (a b c d : Nat) : Nat := dblN a ^^^ (dblN b ^^^ b) ^^^ c ^^^ d
theorem colN_lt {a b c d : Nat} (ha : a < 256) (hb : b < 256) (hc : c < 256) (hd : d < 256) : colN a b c d < 256 := by
  have h1 := dbl_lt ⟨a, ha⟩
  have h2 := dbl_lt ⟨b, hb⟩
  unfold colN
  exact Nat.xor_lt_two_pow (n := 8) (Nat.xor_lt_two_pow (n := 8) (Nat.xor_lt_two_pow (n := 8) h1 (Nat.xor_lt_two_pow (n := 8) h2 hb)) hc) hd
/-- twice so -/
theorem col_twice {a b c d : Nat} (ha : a < 256) (hb : b < 256) (hc : c < 256) (hd : d < 256) : colN (colN a b c d) (colN b c d a) (colN c d a b) (colN d a b c) = dblN (dblN a) ^^^ a ^^^ dblN (dblN c) := by
  have da := dbl_lt ⟨a, ha⟩
  have db := dbl_lt ⟨b, hb⟩
  have dc := dbl_lt ⟨c, hc⟩
  have dd := dbl_lt ⟨d, hd⟩
  simp only at da db dc dd
  have lx : ∀ {x y : Nat}, x < 256 → y < 256 → x ^^^ y < 256 := fun hx hy => Nat.xor_lt_two_pow (n := 8) hx hy
  have e1 : dblN (colN a b c d) = dblN (dblN a) ^^^ (dblN (dblN b) ^^^ dblN b) ^^^ dblN c ^^^ dblN d := by
    unfold colN
    rw [dbl_xor (lx (lx da (lx db hb)) hc) hd, dbl_xor (lx da (lx db hb)) hc, dbl_xor da (lx db hb), dbl_xor db hb]
  have e2 : dblN (colN b c d a) = dblN (dblN b) ^^^ (dblN (dblN c) ^^^ dblN c) ^^^ dblN d ^^^ dblN a := by
    unfold colN
    rw [dbl_xor (lx (lx db (lx dc hc)) hd) ha, dbl_xor (lx db (lx dc hc)) hd, dbl_xor db (lx dc hc), dbl_xor dc hc]
  have cu : ∀ p q r s : Nat, colN p q r s = dblN p ^^^ (dblN q ^^^ q) ^^^ r ^^^ s := fun _ _ _ _ => rfl
  rw [cu (colN a b c d), e1, e2, cu b c d a, cu c d a b, cu d a b c]
  generalize dblN (dblN a) = A2
  generalize dblN (dblN b) = B2
  generalize dblN (dblN c) = C2
  generalize dblN a = A1
  generalize dblN b = B1
  generalize dblN c = C1
  generalize dblN d = D1
  apply Nat.eq_of_testBit_eq
  intro i
  simp only [Nat.testBit_xor]
  cases A2.testBit i <;> cases B2.testBit i <;> cases C2.testBit i <;> cases A1.testBit i <;> cases B1.testBit i <;> cases C1.testBit i <;> cases D1.testBit i <;> cases a.testBit i <;> cases b.testBit i <;> cases c.testBit i <;> cases d.testBit i <;> rfl
end Go.Proofs.Ytogbmekgmjmonaa
