/- States as rows of 16 bytes: rows turned, columns mixed, as numbers. -/
import Derived.Test.YtpfmoakapdfdaaaRows
import Derived.Test.YtpfmoakapdfdaaaAeNum
import Derived.Test.YtpfmoakapdfdaaaFrom
import Derived.Deep.OwnRows
import Derived.Deep.AppendLies
import Derived.Deep.WholeRow
import Derived.Deep.RegionHeld3
import Derived.Deep.DeepCutAuto
import Derived.Deep.DeepFit
namespace Go.Proofs.Ytpfmoakapdfdaaa
open Go.RowKit

theorem own_geA {w : World} {base : Nat} {e : TypeId} {size : Nat} {v : Value} {n : Nat} {xs : List Value} {j : Nat} (h : w.ownsRow base e size v n xs) (hj : v.ownBlock = some j) : base ≤ j := by
  rcases h.2 with ⟨h1, _⟩ | ⟨g, c, cur, h1, h2, _⟩
  · rw [h1] at hj; simp [Value.ownBlock] at hj
  · rw [h1] at hj; simp [Value.ownBlock] at hj; omega
theorem info_b16 : (Try.prog.info? 5).map (fun i => (i.zero, i.size, i.bytes)) = some (some (.int .u8 0), 1, 1) := by kernel_rfl
theorem zero_16 : Hid (∀ w : World, (zeroValue 22).run Try.prog w = .ok (.agg (u8s (List.replicate 16 0)).toArray) w) := fun w => by kernel_rfl
theorem size_16 : (Try.prog.info? 22).map (·.size) = some 16 := by kernel_rfl
theorem u8_ones (A : List Int) : ((u8s A).toArray).all (·.oneCell') = true := by
  rw [Array.all_eq_true_iff_forall_mem]
  intro v hv
  simp only [u8s, List.mem_toArray, List.mem_map] at hv
  obtain ⟨x, _, rfl⟩ := hv
  rfl
theorem Blk.setb {w : World} {b : Nat} {S : List Int} (h : Blk w b (u8s S)) (k : Nat) (s : Int) : Blk (w.setCell ⟨b, k, none⟩ (.int .u8 s)) b (u8s (S.set k s)) := by
  have e := h.set k (.int .u8 s)
  rwa [show (u8s S).set k (.int .u8 s) = u8s (S.set k s) by simp [u8s, List.map_set]] at e

/-- the first k substitutes -/
def boxN (k : Nat) : List Int := (List.range k).map fun i => ((subN i : Nat) : Int)
theorem boxN_len (k : Nat) : (boxN k).length = k := by simp [boxN]
theorem boxN_next (k : Nat) : u8s (boxN k) ++ [.int .u8 ((subN k : Nat) : Int)] = u8s (boxN (k + 1)) := by
  simp [boxN, u8s, List.range_succ]
theorem boxN_get {k i : Nat} (h : i < k) : (boxN k).getD i 0 = ((subN i : Nat) : Int) := by
  simp [boxN, List.getD_eq_getElem?_getD, h]

/-- rows turned: the first t places, as the document goes -/
def turnZ (S : List Int) (t : Nat) : List Int := (List.range 16).map fun j => if 4 * (j % 4) + j / 4 < t then S.getD (5 * j % 16) 0 else 0
def turnN (S : List Int) : List Int := (List.range 16).map fun j => S.getD (5 * j % 16) 0
theorem turnZ_len (S : List Int) (t : Nat) : (turnZ S t).length = 16 := by simp [turnZ]
theorem turnN_len (S : List Int) : (turnN S).length = 16 := by simp [turnN]
theorem turnZ_0 (S : List Int) : turnZ S 0 = List.replicate 16 0 := by simp [turnZ]; rfl
theorem turnZ_16 (S : List Int) : turnZ S 16 = turnN S := by
  unfold turnZ turnN
  apply List.map_congr_left
  intro j hj
  have := List.mem_range.1 hj
  rw [if_pos (by omega)]
theorem turnZ_set {S : List Int} {r c : Nat} (hr : r < 4) (hc : c < 4) : (turnZ S (4 * r + c)).set (4 * c + r) (S.getD (4 * ((c + r) % 4) + r) 0) = turnZ S (4 * r + (c + 1)) := by
  apply List.ext_getElem?
  intro j
  by_cases hj : j < 16
  · by_cases e : 4 * c + r = j
    · rw [e, List.getElem?_set_self (by rw [turnZ_len]; exact hj)]
      simp only [turnZ, List.getElem?_map, List.getElem?_range hj, Option.map_some, Option.some.injEq]
      rw [if_pos (by omega), show 4 * ((c + r) % 4) + r = 5 * j % 16 by omega]
    · rw [List.getElem?_set_ne e]
      simp only [turnZ, List.getElem?_map, List.getElem?_range hj, Option.map_some, Option.some.injEq]
      by_cases l : 4 * (j % 4) + j / 4 < 4 * r + c
      · rw [if_pos l, if_pos (by omega)]
      · rw [if_neg l, if_neg (by omega)]
  · rw [List.getElem?_eq_none (by simp [turnZ]; omega), List.getElem?_eq_none (by simp [turnZ]; omega)]

/-- what a column is multiplied by -/
def tmN (r k : Nat) : Nat := if (k + 4 - r) % 4 = 0 then 2 else if (k + 4 - r) % 4 = 1 then 3 else 1
theorem tmN_lt (r k : Nat) : tmN r k < 256 := by unfold tmN; split <;> (try split) <;> omega
/-- the first k terms of a place -/
def accN (S : List Int) (c r : Nat) : Nat → Nat
  | 0 => 0
  | k + 1 => accN S c r k ^^^ prdN (tmN r k) (S.getD (4 * c + k) 0).toNat
theorem accN_lt (S : List Int) (c r : Nat) : ∀ k, accN S c r k < 256
  | 0 => by rw [accN]; decide
  | k + 1 => Nat.xor_lt_two_pow (n := 8) (accN_lt S c r k) (prdN_lt _ _)
def mixZ (S : List Int) (t k : Nat) : List Int := (List.range 16).map fun j => if j < t then ((accN S (j / 4) (j % 4) 4 : Nat) : Int) else if j = t then ((accN S (j / 4) (j % 4) k : Nat) : Int) else 0
def mixN (S : List Int) : List Int := (List.range 16).map fun j => ((accN S (j / 4) (j % 4) 4 : Nat) : Int)
theorem mixZ_len (S : List Int) (t k : Nat) : (mixZ S t k).length = 16 := by simp [mixZ]
theorem mixN_len (S : List Int) : (mixN S).length = 16 := by simp [mixN]
theorem mixZ_0 (S : List Int) : mixZ S 0 0 = List.replicate 16 0 := by
  apply List.ext_getElem?
  intro j
  by_cases hj : j < 16
  · simp only [mixZ, List.getElem?_map, List.getElem?_range hj, Option.map_some, List.getElem?_replicate, if_pos hj]
    by_cases e : j = 0
    · subst e; rfl
    · rw [if_neg (by omega), if_neg e]
  · rw [List.getElem?_eq_none (by simp [mixZ]; omega), List.getElem?_eq_none (by simp; omega)]
theorem mixZ_next (S : List Int) (t : Nat) : mixZ S t 4 = mixZ S (t + 1) 0 := by
  unfold mixZ
  apply List.map_congr_left
  intro j _
  by_cases h : j < t
  · rw [if_pos h, if_pos (by omega)]
  · by_cases e : j = t
    · rw [if_neg h, if_pos e, if_pos (by omega)]
    · rw [if_neg h, if_neg e, if_neg (by omega)]
      by_cases e2 : j = t + 1
      · rw [if_pos e2]; rfl
      · rw [if_neg e2]
theorem mixZ_16 (S : List Int) : mixZ S 16 0 = mixN S := by
  unfold mixZ mixN
  apply List.map_congr_left
  intro j hj
  rw [if_pos (List.mem_range.1 hj)]
theorem mixZ_get {S : List Int} {c r k : Nat} (hc : c < 4) (hr : r < 4) : (mixZ S (4 * c + r) k).getD (4 * c + r) 0 = ((accN S c r k : Nat) : Int) := by
  have hj : 4 * c + r < 16 := by omega
  simp only [mixZ, List.getD_eq_getElem?_getD, List.getElem?_map, List.getElem?_range hj, Option.map_some, Option.getD_some]
  rw [if_neg (by omega), if_pos trivial, show (4 * c + r) / 4 = c by omega, show (4 * c + r) % 4 = r by omega]
theorem mixZ_set {S : List Int} {c r k : Nat} (_ : c < 4) (hr : r < 4) : (mixZ S (4 * c + r) k).set (4 * c + r) ((accN S c r (k + 1) : Nat) : Int) = mixZ S (4 * c + r) (k + 1) := by
  apply List.ext_getElem?
  intro j
  by_cases hj : j < 16
  · by_cases e : 4 * c + r = j
    · rw [e, List.getElem?_set_self (by rw [mixZ_len]; exact hj)]
      simp only [mixZ, List.getElem?_map, List.getElem?_range hj, Option.map_some, Option.some.injEq]
      rw [if_neg (by omega), if_pos trivial, show j / 4 = c by omega, show j % 4 = r by omega]
    · rw [List.getElem?_set_ne e]
      simp only [mixZ, List.getElem?_map, List.getElem?_range hj, Option.map_some, Option.some.injEq]
      by_cases l : j < 4 * c + r
      · rw [if_pos l, if_pos l]
      · rw [if_neg l, if_neg l, if_neg (by omega), if_neg (by omega)]
  · rw [List.getElem?_eq_none (by simp [mixZ]; omega), List.getElem?_eq_none (by simp [mixZ]; omega)]
/-- what stays below a block, while that block is written -/
theorem held_below {B g : Nat} {W0 W : World} (h : Below B W0 W) (hg : B ≤ g) :
    ∃ S : World → Prop, Hd S W ∧ Hid (∀ w1, Hd S w1 → Hd S w1.drew) ∧ Hid (∀ w1 j y, Hd S w1 → Hd S (w1.setCell ⟨g, j, none⟩ y)) ∧ Hid (∀ w1, Hd S w1 → Below B W0 w1) :=
  ⟨fun wx => Below B W0 wx, h, fun _ h => h.drew, fun _ _ _ h => h.setCell hg _, fun _ h => h⟩
/-- the document's table of columns -/
def TimesAt (w : World) (b : Nat) : Prop := (∀ r, r < 4 → w.cell? ⟨b + 4, r, none⟩ = some (.slice (some ⟨b + r, 0, none⟩) 4 4)) ∧ ∀ r k, r < 4 → k < 4 → w.cell? ⟨b + r, k, none⟩ = some (.int .u8 ((tmN r k : Nat) : Int))
theorem four {P : Nat → Prop} (h0 : P 0) (h1 : P 1) (h2 : P 2) (h3 : P 3) : ∀ r, r < 4 → P r
  | 0, _ => h0
  | 1, _ => h1
  | 2, _ => h2
  | 3, _ => h3
end Go.Proofs.Ytpfmoakapdfdaaa
