/- Codes as numbers. -/
import Derived.Test.YtpfmoakapdfdaaaAeKeyT
namespace Go.Proofs.Ytpfmoakapdfdaaa
open Go.RowKit

def sbZ (X : List Int) (k : Nat) : List Int := (List.range 16).map fun j => if j < k then sbN (X.getD j 0) else X.getD j 0
def sboxN (X : List Int) : List Int := sbZ X 16
def xkZ (X Y : List Int) (k : Nat) : List Int := (List.range 16).map fun j => if j < k then bits .xor .u8 (X.getD j 0) (Y.getD j 0) else X.getD j 0
def xkN (X Y : List Int) : List Int := xkZ X Y 16
theorem sbZ_len (X : List Int) (k : Nat) : (sbZ X k).length = 16 := by simp [sbZ]
theorem xkZ_len (X Y : List Int) (k : Nat) : (xkZ X Y k).length = 16 := by simp [xkZ]
theorem map_self {X : List Int} (l : X.length = 16) : ((List.range 16).map fun j => X.getD j 0) = X := by
  apply List.ext_getElem?
  intro j
  by_cases hj : j < 16
  · rw [List.getElem?_map, List.getElem?_range hj, Option.map_some, List.getD_eq_getElem?_getD, List.getElem?_eq_getElem (by omega)]
    rfl
  · rw [List.getElem?_eq_none (by simp; omega), List.getElem?_eq_none (by omega)]
theorem sbZ_0 {X : List Int} (l : X.length = 16) : sbZ X 0 = X := by
  have e : sbZ X 0 = (List.range 16).map fun j => X.getD j 0 := by unfold sbZ; apply List.map_congr_left; intro j _; rw [if_neg (by omega)]
  rw [e, map_self l]
theorem xkZ_0 {X Y : List Int} (l : X.length = 16) : xkZ X Y 0 = X := by
  have e : xkZ X Y 0 = (List.range 16).map fun j => X.getD j 0 := by unfold xkZ; apply List.map_congr_left; intro j _; rw [if_neg (by omega)]
  rw [e, map_self l]
theorem zset {f g : Nat → Int} {k : Nat} : ((List.range 16).map fun j => if j < k then f j else g j).set k (f k) = (List.range 16).map fun j => if j < k + 1 then f j else g j := by
  apply List.ext_getElem?
  intro j
  by_cases hj : j < 16
  · by_cases e : k = j
    · subst e
      rw [List.getElem?_set_self (by simpa using hj)]
      simp [hj]
    · rw [List.getElem?_set_ne e]
      simp only [List.getElem?_map, List.getElem?_range hj, Option.map_some, Option.some.injEq]
      by_cases l : j < k
      · rw [if_pos l, if_pos (by omega)]
      · rw [if_neg l, if_neg (by omega)]
  · rw [List.getElem?_eq_none (by simp; omega), List.getElem?_eq_none (by simp; omega)]
theorem sbZ_set {X : List Int} {k : Nat} : (sbZ X k).set k (sbN (X.getD k 0)) = sbZ X (k + 1) := zset (f := fun j => sbN (X.getD j 0))
theorem xkZ_set {X Y : List Int} {k : Nat} : (xkZ X Y k).set k (bits .xor .u8 (X.getD k 0) (Y.getD k 0)) = xkZ X Y (k + 1) := zset (f := fun j => bits .xor .u8 (X.getD j 0) (Y.getD j 0))
theorem sbZ_get {X : List Int} {k : Nat} (h : k < 16) : (sbZ X k).getD k 0 = X.getD k 0 := by
  simp [sbZ, List.getD_eq_getElem?_getD, h]
theorem xkZ_get {X Y : List Int} {k : Nat} (h : k < 16) : (xkZ X Y k).getD k 0 = X.getD k 0 := by
  simp [xkZ, List.getD_eq_getElem?_getD, h]
theorem byt_map {f : Nat → Int} (h : ∀ j, j < 16 → 0 ≤ f j ∧ f j < 256) : byt ((List.range 16).map f) := byt_of _ (fun j hj => by
  have hj2 : j < 16 := by simpa using hj
  have e : ((List.range 16).map f).getD j 0 = f j := by simp [List.getD_eq_getElem?_getD, hj2]
  rw [e]
  exact h j hj2)
theorem sboxN_byt (X : List Int) : byt (sboxN X) := byt_map (f := fun j => if j < 16 then sbN (X.getD j 0) else X.getD j 0) fun j hj => by
  simp only [if_pos hj]
  exact sbN_byte _
theorem turnN_byt {X : List Int} (h : byt X) : byt (turnN X) := byt_map fun _ _ => h _
theorem mixN_byt (X : List Int) : byt (mixN X) := byt_map fun j _ => by have := accN_lt X (j / 4) (j % 4) 4; omega
theorem keyN_byt {K : List Int} (b : byt K) (i : Nat) : byt (keyN K i) := byt_map fun k _ => WN_byte b _ _ (by omega)
theorem xkN_byt {X Y : List Int} (h : byt X) (k : byt Y) : byt (xkN X Y) := byt_map (f := fun j => if j < 16 then bits .xor .u8 (X.getD j 0) (Y.getD j 0) else X.getD j 0) fun j hj => by
  simp only [if_pos hj]
  exact xorb_byte (h j) (k j)
/-- a round before its key -/
def preN (X : List Int) (i : Nat) : List Int := if i = 0 then X else if i < 14 then mixN (turnN (sboxN X)) else turnN (sboxN X)
/-- i rounds -/
def encN (K S : List Int) : Nat → List Int
  | 0 => S
  | i + 1 => xkN (preN (encN K S i) i) (keyN K i)
theorem preN_len {X : List Int} (l : X.length = 16) (i : Nat) : (preN X i).length = 16 := by
  unfold preN
  split
  · exact l
  · split
    · exact mixN_len _
    · exact turnN_len _
theorem preN_byt {X : List Int} (h : byt X) (i : Nat) : byt (preN X i) := by
  unfold preN
  split
  · exact h
  · split
    · exact mixN_byt _
    · exact turnN_byt (sboxN_byt _)
theorem encN_len {K S : List Int} (l : S.length = 16) : ∀ i, (encN K S i).length = 16
  | 0 => l
  | _ + 1 => xkZ_len _ _ _
theorem encN_byt {K S : List Int} (h : byt S) (k : byt K) : ∀ i, byt (encN K S i)
  | 0 => h
  | i + 1 => xkN_byt (preN_byt (encN_byt h k i) i) (keyN_byt k i)
end Go.Proofs.Ytpfmoakapdfdaaa
