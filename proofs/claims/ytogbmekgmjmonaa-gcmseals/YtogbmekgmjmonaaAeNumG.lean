/- AES's numbers: products of bytes, substitutes, states. Plain facts. States as rows of 16 bytes: rows turned, columns mixed, as numbers. AES's round keys, as numbers. Plain facts. Round keys as they lie. Codes as numbers. -/
import Derived.Test.YtogbmekgmjmonaaBase
import Derived.Laws.BitsAllLaws
import Derived.Test.YtogbmekgmjmonaaRows
import Derived.Test.YtogbmekgmjmonaaFrom
import Derived.Deep.OwnRows
import Derived.Deep.AppendLies
import Derived.Deep.WholeRow
import Derived.Deep.RegionHeld3
import Derived.Deep.DeepCutAuto
import Derived.Deep.DeepFit
import Derived.Test.YtogbmekgmjmonaaApBs
import Derived.Test.YtogbmekgmjmonaaShape
import Derived.Great.BuildSlice
namespace Go.Proofs.Ytogbmekgmjmonaa
open Go.RowKit

theorem i64_xor_nat (a b : Nat) (ha : a < 4611686018427387904) (hb : b < 4611686018427387904) : bits .xor .i64 (a : Int) (b : Int) = ((a ^^^ b : Nat) : Int) := by
  have hx : a ^^^ b < 2 ^ 62 := Nat.xor_lt_two_pow (by omega) (by omega)
  show IntKind.i64.wrap ((BitVec.ofInt 64 (a : Int) ^^^ BitVec.ofInt 64 (b : Int)).toNat : Int) = _
  have e : ∀ x : Nat, x < 4611686018427387904 → (BitVec.ofInt 64 (x : Int)).toNat = x := fun x h => by
    rw [BitVec.ofInt_natCast, BitVec.toNat_ofNat]; exact Nat.mod_eq_of_lt (by omega)
  rw [BitVec.toNat_xor, e a ha, e b hb, IntKind.wrap_i64]
  omega

/-- a product of polynomials: the first k terms -/
def polN (a b : Nat) : Nat → Nat
  | 0 => 0
  | k + 1 => if b / 2 ^ k % 2 = 1 then polN a b k ^^^ (a * 2 ^ k) else polN a b k
/-- the rest: k steps from the highest on -/
def restN (p : Nat) : Nat → Nat
  | 0 => p
  | k + 1 => if restN p k / 2 ^ (14 - k) % 2 = 1 then restN p k ^^^ (283 * 2 ^ (6 - k)) else restN p k
/-- a product of bytes -/
def prdN (a b : Nat) : Nat := restN (polN a b 8) 7 % 256
theorem polN_lt {a b : Nat} (ha : a < 256) : ∀ k, k ≤ 8 → polN a b k < 32768
  | 0, _ => by rw [polN]; decide
  | k + 1, h => by
    have ih := polN_lt (b := b) ha k (by omega)
    rw [polN]
    split
    · have e : a * 2 ^ k < 2 ^ 15 := by
        have : 2 ^ k ≤ 2 ^ 7 := Nat.pow_le_pow_right (by decide) (by omega)
        have := Nat.mul_lt_mul_of_lt_of_le ha this (by decide)
        omega
      exact Nat.xor_lt_two_pow (n := 15) (by omega) e
    · exact ih
theorem restN_lt {p : Nat} (hp : p < 32768) : ∀ k, k ≤ 7 → restN p k < 262144
  | 0, _ => by rw [restN]; omega
  | k + 1, h => by
    have ih := restN_lt hp k (by omega)
    rw [restN]
    split
    · have e : 283 * 2 ^ (6 - k) < 2 ^ 18 := by
        have : 2 ^ (6 - k) ≤ 2 ^ 6 := Nat.pow_le_pow_right (by decide) (by omega)
        omega
      exact Nat.xor_lt_two_pow (n := 18) (by omega) e
    · exact ih
theorem prdN_lt (a b : Nat) : prdN a b < 256 := Nat.mod_lt _ (by decide)
/-- the last of the first k numbers from 1 on whose product with a is 1 -/
def invN (a : Nat) : Nat → Nat
  | 0 => 0
  | k + 1 => if prdN a (k + 1) = 1 then k + 1 else invN a k
theorem invN_lt (a : Nat) : ∀ k, invN a k ≤ k
  | 0 => Nat.le_refl _
  | k + 1 => by
    rw [invN]
    split
    · omega
    · have := invN_lt a k; omega
/-- a bit of the substitute -/
def bitN (v i : Nat) : Nat := (99 / 2 ^ i % 2 + v / 2 ^ i % 2 + v / 2 ^ ((i + 4) % 8) % 2 + v / 2 ^ ((i + 5) % 8) % 2 + v / 2 ^ ((i + 6) % 8) % 2 + v / 2 ^ ((i + 7) % 8) % 2) % 2
def affN (v : Nat) : Nat → Nat
  | 0 => 0
  | k + 1 => affN v k + bitN v k * 2 ^ k
theorem affN_lt (v : Nat) : ∀ k, affN v k < 2 ^ k
  | 0 => by rw [affN]; decide
  | k + 1 => by
    have ih := affN_lt v k
    have : bitN v k ≤ 1 := Nat.le_of_lt_succ (Nat.mod_lt _ (by decide))
    rw [affN, Nat.pow_succ]
    have := Nat.mul_le_mul_right (2 ^ k) this
    omega
/-- a substitute -/
def subN (a : Nat) : Nat := affN (invN a 255) 8
theorem subN_lt (a : Nat) : subN a < 256 := affN_lt _ 8
end Go.Proofs.Ytogbmekgmjmonaa

namespace Go.Proofs.Ytogbmekgmjmonaa
open Go.RowKit

theorem own_geA {w : World} {base : Nat} {e : TypeId} {size : Nat} {v : Value} {n : Nat} {xs : List Value} {j : Nat} (h : w.ownsRow base e size v n xs) (hj : v.ownBlock = some j) : base ≤ j := by
  rcases h.2 with ⟨h1, _⟩ | ⟨g, c, cur, h1, h2, _⟩
  · rw [h1] at hj; simp [Value.ownBlock] at hj
  · rw [h1] at hj; simp [Value.ownBlock] at hj; omega
theorem info_b16 : (Try.prog.info? 5).map (fun i => (i.zero, i.size, i.bytes)) = some (some (.int .u8 0), 1, 1) := by kernel_rfl
theorem zero_16 : Hid (∀ w : World, (zeroValue 42).run Try.prog w = .ok (.agg (u8s (List.replicate 16 0)).toArray) w) := fun w => by kernel_rfl
theorem size_16 : (Try.prog.info? 42).map (·.size) = some 16 := by kernel_rfl
theorem u8_ones (A : List Int) : ((u8s A).toArray).all (·.oneCell') = true := by
  rw [Array.all_eq_true_iff_forall_mem]
  intro v hv
  simp only [u8s, List.mem_toArray, List.mem_map] at hv
  obtain ⟨x, _, rfl⟩ := hv
  rfl
theorem Blk.setb {w : World} {b : Nat} {S : List Int} (h : Blk w b (u8s S)) (k : Nat) (s : Int) : Blk (w.setCell ⟨b, k, none⟩ (.int .u8 s)) b (u8s (S.set k s)) := by
  have e := h.set k (.int .u8 s)
  rwa [show (u8s S).set k (.int .u8 s) = u8s (S.set k s) by simp [u8s, List.map_set]] at e

/-- the first k substitutes -/
def boxN (k : Nat) : List Int := (List.range k).map fun i => ((subN i : Nat) : Int)
theorem boxN_len (k : Nat) : (boxN k).length = k := by simp [boxN]
theorem boxN_next (k : Nat) : u8s (boxN k) ++ [.int .u8 ((subN k : Nat) : Int)] = u8s (boxN (k + 1)) := by
  simp [boxN, u8s, List.range_succ]
theorem boxN_get {k i : Nat} (h : i < k) : (boxN k).getD i 0 = ((subN i : Nat) : Int) := by
  simp [boxN, List.getD_eq_getElem?_getD, h]

/-- rows turned: the first t places, as the document goes -/
def turnZ (S : List Int) (t : Nat) : List Int := (List.range 16).map fun j => if 4 * (j % 4) + j / 4 < t then S.getD (5 * j % 16) 0 else 0
def turnN (S : List Int) : List Int := (List.range 16).map fun j => S.getD (5 * j % 16) 0
theorem turnZ_len (S : List Int) (t : Nat) : (turnZ S t).length = 16 := by simp [turnZ]
theorem turnN_len (S : List Int) : (turnN S).length = 16 := by simp [turnN]
theorem turnZ_0 (S : List Int) : turnZ S 0 = List.replicate 16 0 := by simp [turnZ]; rfl
theorem turnZ_16 (S : List Int) : turnZ S 16 = turnN S := by
  unfold turnZ turnN
  apply List.map_congr_left
  intro j hj
  have := List.mem_range.1 hj
  rw [if_pos (by omega)]
theorem turnZ_set {S : List Int} {r c : Nat} (hr : r < 4) (hc : c < 4) : (turnZ S (4 * r + c)).set (4 * c + r) (S.getD (4 * ((c + r) % 4) + r) 0) = turnZ S (4 * r + (c + 1)) := by
  apply List.ext_getElem?
  intro j
  by_cases hj : j < 16
  · by_cases e : 4 * c + r = j
    · rw [e, List.getElem?_set_self (by rw [turnZ_len]; exact hj)]
      simp only [turnZ, List.getElem?_map, List.getElem?_range hj, Option.map_some, Option.some.injEq]
      rw [if_pos (by omega), show 4 * ((c + r) % 4) + r = 5 * j % 16 by omega]
    · rw [List.getElem?_set_ne e]
      simp only [turnZ, List.getElem?_map, List.getElem?_range hj, Option.map_some, Option.some.injEq]
      by_cases l : 4 * (j % 4) + j / 4 < 4 * r + c
      · rw [if_pos l, if_pos (by omega)]
      · rw [if_neg l, if_neg (by omega)]
  · rw [List.getElem?_eq_none (by simp [turnZ]; omega), List.getElem?_eq_none (by simp [turnZ]; omega)]

/-- what a column is multiplied by -/
def tmN (r k : Nat) : Nat := if (k + 4 - r) % 4 = 0 then 2 else if (k + 4 - r) % 4 = 1 then 3 else 1
theorem tmN_lt (r k : Nat) : tmN r k < 256 := by unfold tmN; split <;> (try split) <;> omega
/-- the first k terms of a place -/
def accN (S : List Int) (c r : Nat) : Nat → Nat
  | 0 => 0
  | k + 1 => accN S c r k ^^^ prdN (tmN r k) (S.getD (4 * c + k) 0).toNat
theorem accN_lt (S : List Int) (c r : Nat) : ∀ k, accN S c r k < 256
  | 0 => by rw [accN]; decide
  | k + 1 => Nat.xor_lt_two_pow (n := 8) (accN_lt S c r k) (prdN_lt _ _)
def mixZ (S : List Int) (t k : Nat) : List Int := (List.range 16).map fun j => if j < t then ((accN S (j / 4) (j % 4) 4 : Nat) : Int) else if j = t then ((accN S (j / 4) (j % 4) k : Nat) : Int) else 0
def mixN (S : List Int) : List Int := (List.range 16).map fun j => ((accN S (j / 4) (j % 4) 4 : Nat) : Int)
theorem mixZ_len (S : List Int) (t k : Nat) : (mixZ S t k).length = 16 := by simp [mixZ]
theorem mixN_len (S : List Int) : (mixN S).length = 16 := by simp [mixN]
theorem mixZ_0 (S : List Int) : mixZ S 0 0 = List.replicate 16 0 := by
  apply List.ext_getElem?
  intro j
  by_cases hj : j < 16
  · simp only [mixZ, List.getElem?_map, List.getElem?_range hj, Option.map_some, List.getElem?_replicate, if_pos hj]
    by_cases e : j = 0
    · subst e; rfl
    · rw [if_neg (by omega), if_neg e]
  · rw [List.getElem?_eq_none (by simp [mixZ]; omega), List.getElem?_eq_none (by simp; omega)]
theorem mixZ_next (S : List Int) (t : Nat) : mixZ S t 4 = mixZ S (t + 1) 0 := by
  unfold mixZ
  apply List.map_congr_left
  intro j _
  by_cases h : j < t
  · rw [if_pos h, if_pos (by omega)]
  · by_cases e : j = t
    · rw [if_neg h, if_pos e, if_pos (by omega)]
    · rw [if_neg h, if_neg e, if_neg (by omega)]
      by_cases e2 : j = t + 1
      · rw [if_pos e2]; rfl
      · rw [if_neg e2]
theorem mixZ_16 (S : List Int) : mixZ S 16 0 = mixN S := by
  unfold mixZ mixN
  apply List.map_congr_left
  intro j hj
  rw [if_pos (List.mem_range.1 hj)]
theorem mixZ_get {S : List Int} {c r k : Nat} (hc : c < 4) (hr : r < 4) : (mixZ S (4 * c + r) k).getD (4 * c + r) 0 = ((accN S c r k : Nat) : Int) := by
  have hj : 4 * c + r < 16 := by omega
  simp only [mixZ, List.getD_eq_getElem?_getD, List.getElem?_map, List.getElem?_range hj, Option.map_some, Option.getD_some]
  rw [if_neg (by omega), if_pos trivial, show (4 * c + r) / 4 = c by omega, show (4 * c + r) % 4 = r by omega]
theorem mixZ_set {S : List Int} {c r k : Nat} (_ : c < 4) (hr : r < 4) : (mixZ S (4 * c + r) k).set (4 * c + r) ((accN S c r (k + 1) : Nat) : Int) = mixZ S (4 * c + r) (k + 1) := by
  apply List.ext_getElem?
  intro j
  by_cases hj : j < 16
  · by_cases e : 4 * c + r = j
    · rw [e, List.getElem?_set_self (by rw [mixZ_len]; exact hj)]
      simp only [mixZ, List.getElem?_map, List.getElem?_range hj, Option.map_some, Option.some.injEq]
      rw [if_neg (by omega), if_pos trivial, show j / 4 = c by omega, show j % 4 = r by omega]
    · rw [List.getElem?_set_ne e]
      simp only [mixZ, List.getElem?_map, List.getElem?_range hj, Option.map_some, Option.some.injEq]
      by_cases l : j < 4 * c + r
      · rw [if_pos l, if_pos l]
      · rw [if_neg l, if_neg l, if_neg (by omega), if_neg (by omega)]
  · rw [List.getElem?_eq_none (by simp [mixZ]; omega), List.getElem?_eq_none (by simp [mixZ]; omega)]
/-- what stays below a block, while that block is written -/
theorem held_below {B g : Nat} {W0 W : World} (h : Below B W0 W) (hg : B ≤ g) :
    ∃ S : World → Prop, Hd S W ∧ Hid (∀ w1, Hd S w1 → Hd S w1.drew) ∧ Hid (∀ w1 j y, Hd S w1 → Hd S (w1.setCell ⟨g, j, none⟩ y)) ∧ Hid (∀ w1, Hd S w1 → Below B W0 w1) :=
  ⟨fun wx => Below B W0 wx, h, fun _ h => h.drew, fun _ _ _ h => h.setCell hg _, fun _ h => h⟩
/-- the document's table of columns -/
def TimesAt (w : World) (b : Nat) : Prop := (∀ r, r < 4 → w.cell? ⟨b + 4, r, none⟩ = some (.slice (some ⟨b + r, 0, none⟩) 4 4)) ∧ ∀ r k, r < 4 → k < 4 → w.cell? ⟨b + r, k, none⟩ = some (.int .u8 ((tmN r k : Nat) : Int))
theorem four {P : Nat → Prop} (h0 : P 0) (h1 : P 1) (h2 : P 2) (h3 : P 3) : ∀ r, r < 4 → P r
  | 0, _ => h0
  | 1, _ => h1
  | 2, _ => h2
  | 3, _ => h3
end Go.Proofs.Ytogbmekgmjmonaa

namespace Go.Proofs.Ytogbmekgmjmonaa
open Go.RowKit

theorem xorb_byte {x c : Int} (x0 : 0 ≤ x ∧ x < 256) (c0 : 0 ≤ c ∧ c < 256) : 0 ≤ bits .xor .u8 x c ∧ bits .xor .u8 x c < 256 := by
  obtain ⟨a, rfl⟩ := Int.eq_ofNat_of_zero_le x0.1
  obtain ⟨b, rfl⟩ := Int.eq_ofNat_of_zero_le c0.1
  rw [u8_xor_nat a b (by omega) (by omega)]
  have := Nat.xor_lt_two_pow (x := a) (y := b) (n := 8) (by omega) (by omega)
  omega
/-- a byte's substitute -/
def sbN (x : Int) : Int := ((subN x.toNat : Nat) : Int)
theorem sbN_byte (x : Int) : 0 ≤ sbN x ∧ sbN x < 256 := by
  have := subN_lt x.toNat
  unfold sbN
  omega
def powN : Nat → Nat
  | 0 => 1
  | n + 1 => prdN (powN n) 2
theorem powN_lt : ∀ n, powN n < 256
  | 0 => by decide
  | _ + 1 => prdN_lt _ _
/-- what is put to the i-th word, from the one before it -/
def tN (P : List Int) (i : Nat) : List Int :=
  if i % 8 = 0 then [bits .xor .u8 (sbN (P.getD 1 0)) ((powN ((i - 1) / 8) : Nat) : Int), sbN (P.getD 2 0), sbN (P.getD 3 0), sbN (P.getD 0 0)]
  else if i % 8 = 4 then [sbN (P.getD 0 0), sbN (P.getD 1 0), sbN (P.getD 2 0), sbN (P.getD 3 0)] else P
def x4N (T Q : List Int) : List Int := (List.range 4).map fun k => bits .xor .u8 (T.getD k 0) (Q.getD k 0)
theorem x4N_len (T Q : List Int) : (x4N T Q).length = 4 := by simp [x4N]
theorem x4N_get {T Q : List Int} {k : Nat} (h : k < 4) : (x4N T Q).getD k 0 = bits .xor .u8 (T.getD k 0) (Q.getD k 0) := by
  simp [x4N, List.getD_eq_getElem?_getD, h]
/-- the first i words -/
def wrdN (K : List Int) : Nat → List (List Int)
  | 0 => []
  | i + 1 => wrdN K i ++ [if i < 8 then (K.drop (4 * i)).take 4 else x4N (tN ((wrdN K i).getD (i - 1) []) i) ((wrdN K i).getD (i - 8) [])]
theorem wrdN_len (K : List Int) : ∀ i, (wrdN K i).length = i
  | 0 => rfl
  | i + 1 => by rw [wrdN, List.length_append, wrdN_len K i]; rfl
/-- the j-th word -/
def WN (K : List Int) (j : Nat) : List Int := (wrdN K (j + 1)).getD j []
theorem wrdN_get (K : List Int) {j : Nat} : ∀ {i : Nat}, j < i → (wrdN K i).getD j [] = WN K j
  | 0, h => absurd h (by omega)
  | i + 1, h => by
    by_cases e : j = i
    · subst e; rfl
    · rw [wrdN, List.getD_eq_getElem?_getD, List.getElem?_append_left (by rw [wrdN_len]; omega), ← List.getD_eq_getElem?_getD]
      exact wrdN_get K (by omega)
theorem WN_lo {K : List Int} {j : Nat} (h : j < 8) : WN K j = (K.drop (4 * j)).take 4 := by
  rw [WN, wrdN, List.getD_eq_getElem?_getD, List.getElem?_append_right (by rw [wrdN_len]; exact Nat.le_refl _), wrdN_len, Nat.sub_self, if_pos h]
  rfl
theorem WN_hi {K : List Int} {j : Nat} (h : 8 ≤ j) : WN K j = x4N (tN (WN K (j - 1)) j) (WN K (j - 8)) := by
  rw [WN, wrdN, List.getD_eq_getElem?_getD, List.getElem?_append_right (by rw [wrdN_len]; exact Nat.le_refl _), wrdN_len, Nat.sub_self, if_neg (by omega), wrdN_get K (show j - 1 < j by omega), wrdN_get K (show j - 8 < j by omega)]
  rfl
theorem WN_len {K : List Int} (l : K.length = 32) (j : Nat) : (WN K j).length = 4 := by
  by_cases h : j < 8
  · rw [WN_lo h, List.length_take, List.length_drop]; omega
  · rw [WN_hi (by omega), x4N_len]
def byteN (X : List Int) : Prop := ∀ k, k < 4 → 0 ≤ X.getD k 0 ∧ X.getD k 0 < 256
theorem tN_byte {P : List Int} (h : byteN P) (i : Nat) : byteN (tN P i) := by
  have p := powN_lt ((i - 1) / 8)
  have q : 0 ≤ ((powN ((i - 1) / 8) : Nat) : Int) ∧ ((powN ((i - 1) / 8) : Nat) : Int) < 256 := by omega
  unfold tN
  split
  · exact four (xorb_byte (sbN_byte _) q) (sbN_byte _) (sbN_byte _) (sbN_byte _)
  · split
    · exact four (sbN_byte _) (sbN_byte _) (sbN_byte _) (sbN_byte _)
    · exact h
theorem WN_byte {K : List Int} (b : ∀ j, 0 ≤ K.getD j 0 ∧ K.getD j 0 < 256) : ∀ j, byteN (WN K j) := by
  intro j
  induction j using Nat.strongRecOn with
  | _ j ih =>
    by_cases h : j < 8
    · intro k hk
      rw [WN_lo h, List.getD_eq_getElem?_getD, List.getElem?_take, if_pos hk, List.getElem?_drop, ← List.getD_eq_getElem?_getD]
      exact b _
    · intro k hk
      rw [WN_hi (by omega), x4N_get hk]
      exact xorb_byte (tN_byte (ih (j - 1) (by omega)) j k hk) (ih (j - 8) (by omega) k hk)
/-- the i-th round key -/
def keyN (K : List Int) (i : Nat) : List Int := (List.range 16).map fun k => (WN K (4 * i + k / 4)).getD (k % 4) 0
theorem keyN_len (K : List Int) (i : Nat) : (keyN K i).length = 16 := by simp [keyN]
theorem keyN_get {K : List Int} {i k : Nat} (h : k < 16) : (keyN K i).getD k 0 = (WN K (4 * i + k / 4)).getD (k % 4) 0 := by
  simp [keyN, List.getD_eq_getElem?_getD, h]
end Go.Proofs.Ytogbmekgmjmonaa

namespace Go.Proofs.Ytogbmekgmjmonaa
open Go.RowKit

theorem info_sl : (Try.prog.info? 22).map (fun i => (i.zero, i.size, i.bytes)) = some (some (.slice none 0 0), 1, 24) := by kernel_rfl
/-- the words lie in a row of slices, none of them in the row itself -/
def WordsAt (w : World) (wv : Value) (i : Nat) (vs : List Value) (K : List Int) : Prop := ∀ j, j < i → ∃ g o c, vs[j]? = some (.slice (some ⟨g, o, none⟩) 4 c) ∧ 4 ≤ c ∧ c ≤ maxLen ∧ g < w.heap.size ∧ (∀ gb, wv.ownBlock = some gb → g ≠ gb) ∧ ∀ k, k < 4 → w.cell? ⟨g, o + k, none⟩ = some (.int .u8 ((WN K j).getD k 0))
theorem WordsAt.later {w w' : World} {wv : Value} {i : Nat} {vs : List Value} {K : List Int} (h : WordsAt w wv i vs K) (hb : Below w.heap.size w w') : WordsAt w' wv i vs K := fun j hj => by
  obtain ⟨g, o, c, h1, h2, h3, h4, h5, h6⟩ := h j hj
  exact ⟨g, o, c, h1, h2, h3, Nat.lt_of_lt_of_le h4 hb.size, h5, fun k hk => cell_later (h6 k hk) hb⟩
theorem WordsAt.step {w w' : World} {wv v' : Value} {i : Nat} {vs : List Value} {K : List Int} (h : WordsAt w wv i vs K) (hl : vs.length = i) (hg : w.grownBy w' wv.ownBlock) (hv : v'.ownBlock = wv.ownBlock ∨ ∃ H, v'.ownBlock = some H ∧ w.heap.size ≤ H) {g o c : Nat} (c1 : 4 ≤ c) (c2 : c ≤ maxLen) (g1 : g < w.heap.size) (g2 : ∀ gb, wv.ownBlock = some gb → g ≠ gb) (hc : ∀ k, k < 4 → w.cell? ⟨g, o + k, none⟩ = some (.int .u8 ((WN K i).getD k 0))) : WordsAt w' v' (i + 1) (vs ++ [.slice (some ⟨g, o, none⟩) 4 c]) K := by
  have key : ∀ g, g < w.heap.size → (∀ gb, wv.ownBlock = some gb → g ≠ gb) → g < w'.heap.size ∧ (∀ gb, v'.ownBlock = some gb → g ≠ gb) ∧ ∀ o y, w.cell? ⟨g, o, none⟩ = some y → w'.cell? ⟨g, o, none⟩ = some y := by
    intro g a1 a2
    refine ⟨Nat.lt_of_lt_of_le a1 hg.size, fun gb hb => ?_, fun o y hy => hg.cell hy (fun e => a2 g e.symm rfl)⟩
    rcases hv with e | ⟨H, e, hH⟩
    · exact a2 gb (by rw [← e]; exact hb)
    · rw [e] at hb
      simp only [Option.some.injEq] at hb
      omega
  intro j hj
  by_cases e : j < i
  · obtain ⟨g', o', c', h1, h2, h3, h4, h5, h6⟩ := h j e
    obtain ⟨k1, k2, k3⟩ := key g' h4 h5
    exact ⟨g', o', c', by rw [List.getElem?_append_left (by omega)]; exact h1, h2, h3, k1, k2, fun k hk => k3 _ _ (h6 k hk)⟩
  · obtain rfl : j = i := by omega
    obtain ⟨k1, k2, k3⟩ := key g g1 g2
    exact ⟨g, o, c, by rw [List.getElem?_append_right (by omega), hl, Nat.sub_self]; rfl, c1, c2, k1, k2, fun k hk => k3 _ _ (hc k hk)⟩
theorem own_rows {w : World} {base : Nat} {e : TypeId} {v : Value} {n : Nat} {xs : List Value} (h : w.ownsRow base e 1 v n xs) (h0 : 0 < n) : ∃ g cap cur, v = .slice (some ⟨g, 0, none⟩) n cap ∧ base ≤ g ∧ Blk w g cur ∧ n ≤ cap ∧ cap ≤ maxLen ∧ ∀ j, j < n → cur[j]? = xs[j]? := by
  obtain ⟨hl, h⟩ := h
  rcases h with ⟨h1, h2⟩ | ⟨g, cap, cur, h1, h2, h3, h4, h5, h6, h7⟩
  · omega
  · refine ⟨g, cap, cur.toList, h1, h2, ⟨e, by simpa using h3⟩, h4, h5, fun j hj => ?_⟩
    rw [← h7, List.getElem?_take, if_pos (by omega)]
/-- what stays below while rows above grow -/
theorem held_row {B : Nat} {W0 W : World} (h : Below B W0 W) :
    ∃ S : World → Prop, Hd S W ∧ Hid (∀ w1, Hd S w1 → Hd S w1.drew) ∧ Hid (∀ w1 o, Hd S w1 → B ≤ w1.heap.size → Hd S (w1.alloc o)) ∧ Hid (∀ w1 w2 row, Hd S w1 → w1.grownBy w2 row → (∀ g, row = some g → B ≤ g) → B ≤ w1.heap.size → Hd S w2) ∧ Hid (∀ w1, Hd S w1 → Below B W0 w1) :=
  ⟨fun wx => Below B W0 wx, h, fun _ h => h.drew, fun _ o h hs => h.alloc hs o, fun _ _ _ h hg hr hs => Below.grown h hg hs hr, fun _ h => h⟩
theorem own_laterA {w w' : World} {base : Nat} {e : TypeId} {v : Value} {n : Nat} {xs : List Value} (h : w.ownsRow base e 1 v n xs) (hb : Below w.heap.size w w') : w'.ownsRow base e 1 v n xs := by
  obtain ⟨hl, h⟩ := h
  rcases h with h | ⟨g, cap, cur, h1, h2, h3, h4⟩
  · exact ⟨hl, .inl h⟩
  · exact ⟨hl, .inr ⟨g, cap, cur, h1, h2, by rw [hb.block g (Array.getElem?_eq_some_iff.1 h3).1]; exact h3, h4⟩⟩
theorem own_underA {w : World} {base : Nat} {e : TypeId} {v : Value} {n : Nat} {xs : List Value} (h : w.ownsRow base e 1 v n xs) {g : Nat} (hg : v.ownBlock = some g) : g < w.heap.size := own_under h hg
theorem info_16 : (Try.prog.info? 42).map (fun i => (i.zero, i.size, i.bytes)) = some (some (.agg (u8s (List.replicate 16 0)).toArray), 16, 16) := by kernel_rfl
theorem info_parts16 {i : Option TypeInfo} {z : Value} {n m : Nat} (h : i.map (fun i => (i.zero, i.size, i.bytes)) = some (some z, n, m)) : ∃ j, i = some j ∧ j.zero = some z ∧ j.size = n ∧ j.bytes = m := by
  obtain ⟨j, hj, e⟩ := Option.map_eq_some_iff.1 h
  simp only [Prod.mk.injEq] at e
  exact ⟨j, hj, e.1, e.2.1, e.2.2⟩
theorem own_ge16 {w : World} {base size : Nat} {e : TypeId} {v : Value} {n : Nat} {xs : List Value} {j : Nat} (h : w.ownsRow base e size v n xs) (hj : v.ownBlock = some j) : base ≤ j := by
  rcases h.2 with ⟨h1, _⟩ | ⟨g, c, cur, h1, h2, _⟩
  · rw [h1] at hj; simp [Value.ownBlock] at hj
  · rw [h1] at hj; simp [Value.ownBlock] at hj; omega
theorem own_part16 {w w' : World} {g base size : Nat} {e : TypeId} {v : Value} {n : Nat} {xs : List Value} (h : w.ownsRow base e size v n xs) (hb : Below g w w') (hg : ∀ x, v.ownBlock = some x → x < g) : w'.ownsRow base e size v n xs := by
  obtain ⟨hl, h⟩ := h
  rcases h with h | ⟨b, cap, cur, h1, h2, h3, h4⟩
  · exact ⟨hl, .inl h⟩
  · exact ⟨hl, .inr ⟨b, cap, cur, h1, h2, by rw [hb.block b (hg b (by rw [h1]; rfl))]; exact h3, h4⟩⟩
theorem own_under16 {w : World} {base size : Nat} {e : TypeId} {v : Value} {n : Nat} {xs : List Value} (h : w.ownsRow base e size v n xs) {g : Nat} (hg : v.ownBlock = some g) : g < w.heap.size := by
  rcases h.2 with ⟨h1, h2⟩ | ⟨g', cap, cur, h1, h2, h3, h4⟩
  · rw [h1] at hg; simp [Value.ownBlock] at hg
  · rw [h1] at hg
    simp only [Value.ownBlock, Option.some.injEq] at hg
    subst hg
    exact (Array.getElem?_eq_some_iff.1 h3).1
/-- a round key: the first k bytes -/
def keyZ (K : List Int) (r k : Nat) : List Int := (List.range 16).map fun j => if j < k then (WN K (4 * r + j / 4)).getD (j % 4) 0 else 0
theorem keyZ_len (K : List Int) (r k : Nat) : (keyZ K r k).length = 16 := by simp [keyZ]
theorem keyZ_0 (K : List Int) (r : Nat) : keyZ K r 0 = List.replicate 16 0 := by simp [keyZ]; rfl
theorem keyZ_16 (K : List Int) (r : Nat) : keyZ K r 16 = keyN K r := by
  unfold keyZ keyN
  apply List.map_congr_left
  intro j hj
  rw [if_pos (List.mem_range.1 hj)]
theorem keyZ_set {K : List Int} {r k : Nat} (_ : k < 16) : (keyZ K r k).set k ((WN K (4 * r + k / 4)).getD (k % 4) 0) = keyZ K r (k + 1) := by
  apply List.ext_getElem?
  intro j
  by_cases hj : j < 16
  · by_cases e : k = j
    · subst e
      rw [List.getElem?_set_self (by rw [keyZ_len]; exact hj)]
      simp [keyZ, hj]
    · rw [List.getElem?_set_ne e]
      simp only [keyZ, List.getElem?_map, List.getElem?_range hj, Option.map_some, Option.some.injEq]
      by_cases l : j < k
      · rw [if_pos l, if_pos (by omega)]
      · rw [if_neg l, if_neg (by omega)]
  · rw [List.getElem?_eq_none (by simp [keyZ]; omega), List.getElem?_eq_none (by simp [keyZ]; omega)]
/-- the first r round keys, one behind the other -/
def allN (K : List Int) : Nat → List Int
  | 0 => []
  | r + 1 => allN K r ++ keyN K r
theorem allN_len (K : List Int) : ∀ r, (allN K r).length = 16 * r
  | 0 => rfl
  | r + 1 => by rw [allN, List.length_append, allN_len K r, keyN_len]; omega
theorem allN_get {K : List Int} {i k : Nat} (hk : k < 16) : ∀ {r : Nat}, i < r → (allN K r).getD (16 * i + k) 0 = (keyN K i).getD k 0
  | 0, h => absurd h (by omega)
  | r + 1, h => by
    by_cases e : i = r
    · subst e
      rw [allN, List.getD_eq_getElem?_getD, List.getElem?_append_right (by rw [allN_len]; omega), allN_len, ← List.getD_eq_getElem?_getD, show 16 * i + k - 16 * i = k by omega]
    · rw [allN, List.getD_eq_getElem?_getD, List.getElem?_append_left (by rw [allN_len]; omega), ← List.getD_eq_getElem?_getD]
      exact allN_get hk (by omega)
theorem sixteen {A : List Int} (h : A.length = 16) : ∃ x0 x1 x2 x3 x4 x5 x6 x7 x8 x9 x10 x11 x12 x13 x14 x15, A = [x0, x1, x2, x3, x4, x5, x6, x7, x8, x9, x10, x11, x12, x13, x14, x15] := by
  match A, h with
  | [x0, x1, x2, x3, x4, x5, x6, x7, x8, x9, x10, x11, x12, x13, x14, x15], _ => exact ⟨x0, x1, x2, x3, x4, x5, x6, x7, x8, x9, x10, x11, x12, x13, x14, x15, rfl⟩
theorem fill_16 {S : List Int} (h : S.length = 16) : Instr.fill (fun i => some (i * 16, 16)) ((Array.range (1 * 16)).map ((Value.agg (u8s (List.replicate 16 0)).toArray).cells[· % (Value.agg (u8s (List.replicate 16 0)).toArray).cells.size]!)) [(0, .agg (u8s S).toArray)] = some (u8s S).toArray := by
  obtain ⟨x0, x1, x2, x3, x4, x5, x6, x7, x8, x9, x10, x11, x12, x13, x14, x15, rfl⟩ := sixteen h
  kernel_rfl
theorem box_at {w : World} {b o : Nat} (h : ∀ j, j < 256 → w.cell? ⟨b, o + j, none⟩ = some (.int .u8 ((boxN 256).getD j 0))) {x : Int} (hx : 0 ≤ x ∧ x < 256) : w.cell? ⟨b, o + x.toNat, none⟩ = some (.int .u8 (sbN x)) := by
  have := h x.toNat (by omega)
  rw [boxN_get (by omega)] at this
  exact this

/-- the round keys as they lie -/
def KeysAt (w : World) (v : Value) (K : List Int) : Prop := ∃ g cap, v = .slice (some ⟨g, 0, none⟩) 15 cap ∧ 15 ≤ cap ∧ cap ≤ maxLen ∧ g < w.heap.size ∧ ∀ i k, i < 15 → k < 16 → w.cell? ⟨g, 16 * i + k, none⟩ = some (.int .u8 ((keyN K i).getD k 0))
theorem keys_at {w : World} {base : Nat} {e : TypeId} {v : Value} {K : List Int} (h : w.ownsRow base e 16 v 15 (u8s (allN K 15))) : KeysAt w v K := by
  obtain ⟨hl, h⟩ := h
  rcases h with ⟨_, h2⟩ | ⟨g, cap, cur, h1, h2, h3, h4, h5, h6, h7⟩
  · exact absurd h2 (by decide)
  · have B : Blk w g cur.toList := ⟨e, by simpa using h3⟩
    refine ⟨g, cap, h1, h4, h5, B.lt, fun i k hi hk => B.cell _ _ ?_⟩
    have e1 : (cur.toList.take (15 * 16))[16 * i + k]? = some (.int .u8 ((keyN K i).getD k 0)) := by
      rw [h7, u8s_get _ _ (by rw [allN_len]; omega), allN_get hk hi]
    rw [List.getElem?_take, if_pos (by omega)] at e1
    exact e1
end Go.Proofs.Ytogbmekgmjmonaa

namespace Go.Proofs.Ytogbmekgmjmonaa
open Go.RowKit

def sbZ (X : List Int) (k : Nat) : List Int := (List.range 16).map fun j => if j < k then sbN (X.getD j 0) else X.getD j 0
def sboxN (X : List Int) : List Int := sbZ X 16
def xkZ (X Y : List Int) (k : Nat) : List Int := (List.range 16).map fun j => if j < k then bits .xor .u8 (X.getD j 0) (Y.getD j 0) else X.getD j 0
def xkN (X Y : List Int) : List Int := xkZ X Y 16
theorem sbZ_len (X : List Int) (k : Nat) : (sbZ X k).length = 16 := by simp [sbZ]
theorem xkZ_len (X Y : List Int) (k : Nat) : (xkZ X Y k).length = 16 := by simp [xkZ]
theorem map_self {X : List Int} (l : X.length = 16) : ((List.range 16).map fun j => X.getD j 0) = X := by
  apply List.ext_getElem?
  intro j
  by_cases hj : j < 16
  · rw [List.getElem?_map, List.getElem?_range hj, Option.map_some, List.getD_eq_getElem?_getD, List.getElem?_eq_getElem (by omega)]
    rfl
  · rw [List.getElem?_eq_none (by simp; omega), List.getElem?_eq_none (by omega)]
theorem sbZ_0 {X : List Int} (l : X.length = 16) : sbZ X 0 = X := by
  have e : sbZ X 0 = (List.range 16).map fun j => X.getD j 0 := by unfold sbZ; apply List.map_congr_left; intro j _; rw [if_neg (by omega)]
  rw [e, map_self l]
theorem xkZ_0 {X Y : List Int} (l : X.length = 16) : xkZ X Y 0 = X := by
  have e : xkZ X Y 0 = (List.range 16).map fun j => X.getD j 0 := by unfold xkZ; apply List.map_congr_left; intro j _; rw [if_neg (by omega)]
  rw [e, map_self l]
theorem zset {f g : Nat → Int} {k : Nat} : ((List.range 16).map fun j => if j < k then f j else g j).set k (f k) = (List.range 16).map fun j => if j < k + 1 then f j else g j := by
  apply List.ext_getElem?
  intro j
  by_cases hj : j < 16
  · by_cases e : k = j
    · subst e
      rw [List.getElem?_set_self (by simpa using hj)]
      simp [hj]
    · rw [List.getElem?_set_ne e]
      simp only [List.getElem?_map, List.getElem?_range hj, Option.map_some, Option.some.injEq]
      by_cases l : j < k
      · rw [if_pos l, if_pos (by omega)]
      · rw [if_neg l, if_neg (by omega)]
  · rw [List.getElem?_eq_none (by simp; omega), List.getElem?_eq_none (by simp; omega)]
theorem sbZ_set {X : List Int} {k : Nat} : (sbZ X k).set k (sbN (X.getD k 0)) = sbZ X (k + 1) := zset (f := fun j => sbN (X.getD j 0))
theorem xkZ_set {X Y : List Int} {k : Nat} : (xkZ X Y k).set k (bits .xor .u8 (X.getD k 0) (Y.getD k 0)) = xkZ X Y (k + 1) := zset (f := fun j => bits .xor .u8 (X.getD j 0) (Y.getD j 0))
theorem sbZ_get {X : List Int} {k : Nat} (h : k < 16) : (sbZ X k).getD k 0 = X.getD k 0 := by
  simp [sbZ, List.getD_eq_getElem?_getD, h]
theorem xkZ_get {X Y : List Int} {k : Nat} (h : k < 16) : (xkZ X Y k).getD k 0 = X.getD k 0 := by
  simp [xkZ, List.getD_eq_getElem?_getD, h]
theorem byt_map {f : Nat → Int} (h : ∀ j, j < 16 → 0 ≤ f j ∧ f j < 256) : byt ((List.range 16).map f) := byt_of _ (fun j hj => by
  have hj2 : j < 16 := by simpa using hj
  have e : ((List.range 16).map f).getD j 0 = f j := by simp [List.getD_eq_getElem?_getD, hj2]
  rw [e]
  exact h j hj2)
theorem sboxN_byt (X : List Int) : byt (sboxN X) := byt_map (f := fun j => if j < 16 then sbN (X.getD j 0) else X.getD j 0) fun j hj => by
  simp only [if_pos hj]
  exact sbN_byte _
theorem turnN_byt {X : List Int} (h : byt X) : byt (turnN X) := byt_map fun _ _ => h _
theorem mixN_byt (X : List Int) : byt (mixN X) := byt_map fun j _ => by have := accN_lt X (j / 4) (j % 4) 4; omega
theorem keyN_byt {K : List Int} (b : byt K) (i : Nat) : byt (keyN K i) := byt_map fun k _ => WN_byte b _ _ (by omega)
theorem xkN_byt {X Y : List Int} (h : byt X) (k : byt Y) : byt (xkN X Y) := byt_map (f := fun j => if j < 16 then bits .xor .u8 (X.getD j 0) (Y.getD j 0) else X.getD j 0) fun j hj => by
  simp only [if_pos hj]
  exact xorb_byte (h j) (k j)
/-- a round before its key -/
def preN (X : List Int) (i : Nat) : List Int := if i = 0 then X else if i < 14 then mixN (turnN (sboxN X)) else turnN (sboxN X)
/-- i rounds -/
def encN (K S : List Int) : Nat → List Int
  | 0 => S
  | i + 1 => xkN (preN (encN K S i) i) (keyN K i)
theorem preN_len {X : List Int} (l : X.length = 16) (i : Nat) : (preN X i).length = 16 := by
  unfold preN
  split
  · exact l
  · split
    · exact mixN_len _
    · exact turnN_len _
theorem preN_byt {X : List Int} (h : byt X) (i : Nat) : byt (preN X i) := by
  unfold preN
  split
  · exact h
  · split
    · exact mixN_byt _
    · exact turnN_byt (sboxN_byt _)
theorem encN_len {K S : List Int} (l : S.length = 16) : ∀ i, (encN K S i).length = 16
  | 0 => l
  | _ + 1 => xkZ_len _ _ _
theorem encN_byt {K S : List Int} (h : byt S) (k : byt K) : ∀ i, byt (encN K S i)
  | 0 => h
  | i + 1 => xkN_byt (preN_byt (encN_byt h k i) i) (keyN_byt k i)
end Go.Proofs.Ytogbmekgmjmonaa
