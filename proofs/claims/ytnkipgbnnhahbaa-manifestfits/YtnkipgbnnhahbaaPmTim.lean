/- Reading a time, as functions; digits out of digits; a part of bytes. -/
import Derived.Test.YtnkipgbnnhahbaaPmSec
import Derived.Test.YtnkipgbnnhahbaaRows
namespace Go.Proofs.Ytnkipgbnnhahbaa
def allD (l : List Int) : Prop := ∀ x, x ∈ l → 48 ≤ x ∧ x ≤ 57
theorem digV_neg : ∀ (l : List Int) (v : Int), 0 ≤ v → 0 ≤ digV l v → allD l
  | [], _, _, _ => fun x h => by cases h
  | y :: l, v, hv, h => by
    rw [digV] at h
    by_cases c : y < 48 ∨ 57 < y
    · rw [if_pos c] at h; omega
    · rw [if_neg c] at h
      have ih := digV_neg l _ (by omega) h
      intro x hx
      rcases List.mem_cons.1 hx with rfl | hx
      · omega
      · exact ih x hx
theorem digV_two {a b : Int} (ha : 48 ≤ a ∧ a ≤ 57) (hb : 48 ≤ b ∧ b ≤ 57) : digV [a, b] 0 = 10 * (a - 48) + (b - 48) := by
  rw [digV, if_neg (by omega), digV, if_neg (by omega), digV]; omega
theorem digV_four {a b c d : Int} (ha : 48 ≤ a ∧ a ≤ 57) (hb : 48 ≤ b ∧ b ≤ 57) (hc : 48 ≤ c ∧ c ≤ 57) (hd : 48 ≤ d ∧ d ≤ 57) : digV [a, b, c, d] 0 = 1000 * (a - 48) + 100 * (b - 48) + 10 * (c - 48) + (d - 48) := by
  rw [digV, if_neg (by omega), digV, if_neg (by omega), digV, if_neg (by omega), digV, if_neg (by omega), digV]; omega
theorem part_two {B : List Int} {lo : Nat} (h : lo + 2 ≤ B.length) : (B.drop lo).take 2 = [B.getD lo 0, B.getD (lo + 1) 0] := by
  rw [List.drop_eq_getElem_cons (by omega : lo < B.length), List.drop_eq_getElem_cons (by omega : lo + 1 < B.length), List.take_succ_cons, List.take_succ_cons, List.take_zero]
  simp [List.getD_eq_getElem?_getD, (by omega : lo < B.length), (by omega : lo + 1 < B.length)]
theorem get_dig {B : List Int} {k j : Nat} (h : allD (B.take k)) (hj : j < k) (hk : k ≤ B.length) : 48 ≤ B.getD j 0 ∧ B.getD j 0 ≤ 57 := by
  refine h _ ?_
  rw [List.getD_eq_getElem?_getD, List.getElem?_eq_getElem (by omega), Option.getD_some]
  have e : (B.take k)[j]'(by rw [List.length_take]; omega) = B[j]'(by omega) := by simp
  rw [← e]
  exact List.getElem_mem _
/-- two digits of a time: a number below 100 -/
theorem part_dig {B : List Int} {k lo : Nat} (h : allD (B.take k)) (hj : lo + 2 ≤ k) (hk : k ≤ B.length) : 0 ≤ digV ((B.drop lo).take 2) 0 ∧ digV ((B.drop lo).take 2) 0 ≤ 99 := by
  have h1 := get_dig h (by omega : lo < k) hk
  have h2 := get_dig h (by omega : lo + 1 < k) hk
  rw [part_two (by omega), digV_two h1 h2]
  omega
theorem year_dig {B : List Int} {k : Nat} (h : allD (B.take k)) (h4 : 4 ≤ k) (hk : k ≤ B.length) : 0 ≤ digV (B.take 4) 0 ∧ digV (B.take 4) 0 ≤ 9999 := by
  have h0 := get_dig h (by omega : 0 < k) hk
  have h1 := get_dig h (by omega : 1 < k) hk
  have h2 := get_dig h (by omega : 2 < k) hk
  have h3 := get_dig h (by omega : 3 < k) hk
  rcases B with _ | ⟨a, _ | ⟨b, _ | ⟨c, _ | ⟨d, t⟩⟩⟩⟩
  · simp at hk; omega
  · simp at hk; omega
  · simp at hk; omega
  · simp at hk; omega
  · replace h0 : 48 ≤ a ∧ a ≤ 57 := h0
    replace h1 : 48 ≤ b ∧ b ≤ 57 := h1
    replace h2 : 48 ≤ c ∧ c ≤ 57 := h2
    replace h3 : 48 ≤ d ∧ d ≤ 57 := h3
    rw [show (a :: b :: c :: d :: t).take 4 = [a, b, c, d] from rfl, digV_four h0 h1 h2 h3]
    omega
/-- the year that is meant -/
def yearN (n : Nat) (y : Int) : Int := if n = 2 then (if y < 50 then y + 2000 else y + 1900) else y
/-- what the numbers of a time say -/
def timeG (n : Nat) (y m d h i s : Int) : Except Nat Int :=
  if (n = 4 ∧ y < 2050) ∨ m < 1 ∨ 12 < m ∨ d < 1 ∨ 23 < h ∨ 59 < i ∨ 59 < s then .error 3
  else if ((daysN y.toNat m.toNat : Nat) : Int) < d then .error 3
  else .ok (secN y.toNat m.toNat d.toNat + (3600 * h + 60 * i + s))
/-- a time's body, of n digits of the year -/
def timeF (n : Nat) (B : List Int) : Except Nat Int :=
  if ¬ B.length = n + 11 ∨ ¬ B.getD (n + 10) 0 = 90 ∨ digV (B.take (n + 10)) 0 < 0 then .error 7
  else timeG n (yearN n (digV (B.take n) 0)) (digV ((B.drop n).take 2) 0) (digV ((B.drop (n + 2)).take 2) 0) (digV ((B.drop (n + 4)).take 2) 0) (digV ((B.drop (n + 6)).take 2) 0) (digV ((B.drop (n + 8)).take 2) 0)
/-- a time -/
def timeP (tag : Int) (B : List Int) : Except Nat Int :=
  if tag = 23 then timeF 2 B else if tag = 24 then timeF 4 B else .error 1
/-- a part of bytes -/
theorem bs_part {w : World} {g o n cap lo hi m k : Nat} {ad : Option Addr} {B : List Int} (h : Bs w (.slice (some ⟨g, o, none⟩) n cap) B) (hn : B.length = n) (hh : hi ≤ n) (hl : lo ≤ hi) (hm : m = hi - lo) (ha : ad = some ⟨g, o + lo, none⟩) (hk : k = cap - lo) : Bs w (.slice ad m k) ((B.drop lo).take (hi - lo)) := by
  have c := bs_cutM (ad := ad) (m := n - lo) (k := k) h hn (by omega : lo ≤ n) rfl (fun _ => ha) hk
  obtain ⟨a, c0, e, h1, h2, h3⟩ := c
  have el : (B.drop lo).length = n - lo := by rw [List.length_drop, hn]
  have el2 : ((B.drop lo).take (hi - lo)).length = m := by rw [List.length_take, el, hm]; omega
  rw [el] at e h2 h3
  obtain ⟨rfl, rfl⟩ : ad = a ∧ k = c0 := by simpa using e
  refine ⟨ad, k, by rw [el2], h1, by rw [el2]; omega, fun h0 => ?_⟩
  rw [el2] at h0 ⊢
  obtain ⟨b', o', e', k1, k2⟩ := h3 (by omega)
  refine ⟨b', o', e', k1, fun j hj => ?_⟩
  rw [k2 j (by omega), List.getD_eq_getElem?_getD, List.getD_eq_getElem?_getD, List.getElem?_take_of_lt (by omega)]
theorem byt_part {B : List Int} (h : byt B) (lo k : Nat) : byt ((B.drop lo).take k) := fun j => by
  by_cases c : j < k
  · have := byt_dropM h lo j
    rwa [List.getD_eq_getElem?_getD, List.getElem?_take_of_lt c, ← List.getD_eq_getElem?_getD]
  · rw [List.getD_eq_getElem?_getD, List.getElem?_eq_none (by rw [List.length_take]; omega)]
    decide
end Go.Proofs.Ytnkipgbnnhahbaa
