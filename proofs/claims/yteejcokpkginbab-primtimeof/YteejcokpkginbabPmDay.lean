/- The document's digits and days of layer 13. -/
import Derived.Test.YteejcokpkginbabRows
import Derived.Test.YteejcokpkginbabPmCut
import Derived.Test.YteejcokpkginbabBase
import Derived.Deep.OwnRows
import Derived.Deep.AppendLies
import Derived.Deep.WholeRow
import Derived.Deep.RegionHeld3
import Derived.Deep.DeepCutAuto
import Derived.Deep.DeepFit
namespace Go.Proofs.Yteejcokpkginbab
open Go.RowKit

/-- a number of digits -/
def digV : List Int → Int → Int
  | [], v => v
  | x :: xs, v => if x < 48 ∨ 57 < x then -1 else digV xs (10 * v + (x - 48))
theorem digV_next {n : List Int} {i : Nat} (h : i < n.length) (v : Int) : digV (n.drop i) v = if n.getD i 0 < 48 ∨ 57 < n.getD i 0 then -1 else digV (n.drop (i + 1)) (10 * v + (n.getD i 0 - 48)) := by
  rw [List.drop_eq_getElem_cons h, digV]
  have e : n.getD i 0 = n[i] := by simp [List.getD_eq_getElem?_getD, h]
  rw [e]
theorem ten_le {i : Nat} (h : i ≤ 14) : (10 : Int) ^ i ≤ 100000000000000 := by
  have hi : i = 0 ∨ i = 1 ∨ i = 2 ∨ i = 3 ∨ i = 4 ∨ i = 5 ∨ i = 6 ∨ i = 7 ∨ i = 8 ∨ i = 9 ∨ i = 10 ∨ i = 11 ∨ i = 12 ∨ i = 13 ∨ i = 14 := by omega
  rcases hi with rfl | rfl | rfl | rfl | rfl | rfl | rfl | rfl | rfl | rfl | rfl | rfl | rfl | rfl | rfl <;> decide

set_option linter.unusedSimpArgs false in
set_option maxRecDepth 100000 in
set_option maxHeartbeats 1000000 in
theorem r13_digits {v : Value} {B : List Int} {w : World} (hv : Bs w v B) (b : byt B) (hl : B.length ≤ 14) :
    Calls Try.prog 25 #[v] w fun e w' => e = .returned (.int .i64 (digV B 0)) ∧ w' = w := by
  have HB : Hid (byt B) := b
  obtain ⟨ao, cap, rfl, h1, h2, h3⟩ := hv
  obtain ⟨N, hN⟩ : ∃ N, B.length = N := ⟨_, rfl⟩
  have HN : Hid (B.length = N) := hN
  rw [hN] at h2 h3 hl ⊢
  have HC : Hid (∀ j, j < N → ∃ g o, ao = some ⟨g, o, none⟩ ∧ w.cell? ⟨g, o + j, none⟩ = some (.int .u8 (B.getD j 0)) ∧ g < w.heap.size) := fun j hj => by
    obtain ⟨g, o, e1, e2, e3⟩ := h3 (by omega)
    exact ⟨g, o, e1, e3 j hj, e2⟩
  unfold maxLen at h1
  obtain ⟨r, hr⟩ : ∃ r, digV B 0 = r := ⟨_, rfl⟩
  have HR : Hid (digV B 0 = r) := hr
  rw [hr]
  clear b h3 hN hr
  go_enter Try.func25, Try.ntmps25
  go_wp2_with fail
  go_loop [3, 4] (fun vv iv => ∃ (i : Nat) (x : Int), i ≤ N ∧ iv = .int .i64 (i : Int) ∧ vv = .int .i64 x ∧ Hid (0 ≤ x ∧ x < 10 ^ i) ∧ Hid (digV (B.drop i) x = r)) (fun _ iv => N - (intOf iv).toNat)
  case atStart => exact ⟨0, 0, by omega, rfl, rfl, by show _ ∧ _; decide, HR⟩
  case round =>
    obtain ⟨i, x, hi, rfl, rfl, HX, HE⟩ := hrel
    by_cases hil : i < N
    · have k1 : (i : Int) < (N : Int) := by omega
      have k2 : (0 : Int) ≤ (i : Int) := by omega
      have gi : IntKind.i64.wrap ((i : Int) + 1) = (i : Int) + 1 := by rw [IntKind.wrap_i64]; omega
      obtain ⟨g, o, rfl, cy, lg⟩ := HC.out i hil
      have yb := HB.out i
      have HE2 := HE.out
      rw [digV_next (by rw [HN.out]; exact hil)] at HE2
      obtain ⟨y, hy⟩ : ∃ y, B.getD i 0 = y := ⟨_, rfl⟩
      rw [hy] at cy yb HE2
      replace HE2 : Hid _ := HE2
      clear hy
      by_cases d1 : y < 48
      · have H : r = -1 := by rw [← HE2.out, if_pos (.inl d1)]
        subst H
        go_wp2_with fail
        go_ret
        exact ⟨rfl, rfl⟩
      by_cases d2 : 57 < y
      · have H : r = -1 := by rw [← HE2.out, if_pos (.inr d2)]
        subst H
        go_wp2_with fail
        go_ret
        exact ⟨rfl, rfl⟩
      have HE3 : Hid (digV (B.drop (i + 1)) (10 * x + (y - 48)) = r) := by show _ = _; rw [← HE2.out, if_neg (by omega)]
      have HX2 : Hid (0 ≤ 10 * x + (y - 48) ∧ 10 * x + (y - 48) < 10 ^ (i + 1)) := by
        have := HX.out
        show _ ∧ _
        rw [Int.pow_succ]
        omega
      have hx := HX.out
      have ht := ten_le (by omega : i ≤ 14)
      have hx2 : 0 ≤ x ∧ x < 100000000000000 := by omega
      clear hx ht HX HE HE2
      have w1 : IntKind.u8.wrap (y - 48) = y - 48 := by rw [IntKind.wrap_u8]; omega
      have w2 : IntKind.i64.wrap (y - 48) = y - 48 := by rw [IntKind.wrap_i64]; omega
      have w3 : IntKind.i64.wrap (10 * x) = 10 * x := by rw [IntKind.wrap_i64]; omega
      have w4 : IntKind.i64.wrap (10 * x + (y - 48)) = 10 * x + (y - 48) := by rw [IntKind.wrap_i64]; omega
      go_wp2_with fail
      go_round
      case rel => exact ⟨i + 1, 10 * x + (y - 48), by omega, by go_num, rfl, HX2, HE3⟩
      case measure => simp [intOf]; omega
    · have k1 : ¬ (i : Int) < (N : Int) := by omega
      have H : r = x := by
        have := HE.out
        rw [List.drop_of_length_le (by rw [HN.out]; omega), digV] at this
        exact this.symm
      subst H
      go_wp2_with fail
      go_ret
      exact ⟨rfl, rfl⟩

def monN : List Nat := [31, 28, 31, 30, 31, 30, 31, 31, 30, 31, 30, 31]
/-- the days of a month -/
def daysN (y m : Nat) : Nat := if m = 2 ∧ (y % 400 = 0 ∨ (y % 4 = 0 ∧ ¬ y % 100 = 0)) then 29 else monN.getD (m - 1) 0
theorem mon_get {m : Nat} (h1 : 1 ≤ m) (h2 : m ≤ 12) : ([.int .i64 31, .int .i64 28, .int .i64 31, .int .i64 30, .int .i64 31, .int .i64 30, .int .i64 31, .int .i64 31, .int .i64 30, .int .i64 31, .int .i64 30, .int .i64 31] : List Value)[m - 1]? = some (.int .i64 ((monN.getD (m - 1) 0 : Nat) : Int)) := by
  have hi : m = 1 ∨ m = 2 ∨ m = 3 ∨ m = 4 ∨ m = 5 ∨ m = 6 ∨ m = 7 ∨ m = 8 ∨ m = 9 ∨ m = 10 ∨ m = 11 ∨ m = 12 := by omega
  rcases hi with rfl | rfl | rfl | rfl | rfl | rfl | rfl | rfl | rfl | rfl | rfl | rfl <;> rfl
theorem days_le {y m : Nat} : daysN y m ≤ 31 := by
  unfold daysN
  split
  · decide
  · by_cases h : m - 1 < 12
    · have hi : m - 1 = 0 ∨ m - 1 = 1 ∨ m - 1 = 2 ∨ m - 1 = 3 ∨ m - 1 = 4 ∨ m - 1 = 5 ∨ m - 1 = 6 ∨ m - 1 = 7 ∨ m - 1 = 8 ∨ m - 1 = 9 ∨ m - 1 = 10 ∨ m - 1 = 11 := by omega
      rcases hi with e | e | e | e | e | e | e | e | e | e | e | e <;> rw [e] <;> decide
    · have hl : monN.length ≤ m - 1 := by have : monN.length = 12 := rfl; omega
      rw [List.getD_eq_getElem?_getD, List.getElem?_eq_none hl]; decide

set_option linter.unusedSimpArgs false in
set_option maxRecDepth 100000 in
set_option maxHeartbeats 8000000 in
theorem r13_days {y m : Nat} {w : World} (hy : y ≤ 1000000) (h1 : 1 ≤ m) (h2 : m ≤ 12) :
    Calls Try.prog 26 #[.int .i64 (y : Int), .int .i64 (m : Int)] w fun e w' => e = .returned (.int .i64 ((daysN y m : Nat) : Int)) ∧ Below w.heap.size w w' := by
  have t1 : (y : Int).tmod 400 = ((y % 400 : Nat) : Int) := by rw [Int.tmod_eq_emod_of_nonneg (by omega)]; omega
  have t2 : (y : Int).tmod 4 = ((y % 4 : Nat) : Int) := by rw [Int.tmod_eq_emod_of_nonneg (by omega)]; omega
  have t3 : (y : Int).tmod 100 = ((y % 100 : Nat) : Int) := by rw [Int.tmod_eq_emod_of_nonneg (by omega)]; omega
  have HD : Hid (daysN y m = if m = 2 ∧ (y % 400 = 0 ∨ (y % 4 = 0 ∧ ¬ y % 100 = 0)) then 29 else monN.getD (m - 1) 0) := rfl
  obtain ⟨r, hr⟩ : ∃ r, daysN y m = r := ⟨_, rfl⟩
  rw [hr] at HD
  rw [hr]
  have t4 : ((y : Int) % 400) = ((y % 400 : Nat) : Int) := by omega
  have t5 : ((y : Int) % 4) = ((y % 4 : Nat) : Int) := by omega
  have t6 : ((y : Int) % 100) = ((y % 100 : Nat) : Int) := by omega
  obtain ⟨a, ha⟩ : ∃ a, y % 400 = a := ⟨_, rfl⟩
  obtain ⟨b, hb⟩ : ∃ a, y % 4 = a := ⟨_, rfl⟩
  obtain ⟨c, hc⟩ : ∃ a, y % 100 = a := ⟨_, rfl⟩
  rw [ha] at t1 t4 HD
  rw [hb] at t2 t5 HD
  rw [hc] at t3 t6 HD
  have i1 : IntKind.i64.wrap ((m : Int) - 1) = ((m - 1 : Nat) : Int) := by rw [IntKind.wrap_i64]; omega
  have i2 : ((m - 1 : Nat) : Int) < 12 := by omega
  have i3 : (0 : Int) ≤ ((m - 1 : Nat) : Int) := by omega
  have BT := Blk.new w [.int .i64 31, .int .i64 28, .int .i64 31, .int .i64 30, .int .i64 31, .int .i64 30, .int .i64 31, .int .i64 31, .int .i64 30, .int .i64 31, .int .i64 30, .int .i64 31] 3 w.heap.size rfl
  have cm := BT.cell (m - 1) _ (mon_get h1 h2)
  have hbl : Below w.heap.size w (w.alloc (.cells [.int .i64 31, .int .i64 28, .int .i64 31, .int .i64 30, .int .i64 31, .int .i64 30, .int .i64 31, .int .i64 31, .int .i64 30, .int .i64 31, .int .i64 30, .int .i64 31].toArray 3)) := (Below.refl _ _).alloc (Nat.le_refl _) _
  have e1 : (a : Int) = 0 ↔ a = 0 := by omega
  have e2 : (b : Int) = 0 ↔ b = 0 := by omega
  have e3 : (c : Int) = 0 ↔ c = 0 := by omega
  have e4 : (m : Int) = 2 ↔ m = 2 := by omega
  clear ha hb hc hr BT
  by_cases c4 : m = 2
  · subst c4
    by_cases c1 : a = 0
    · have H : r = 29 := by rw [HD.out, if_pos ⟨rfl, .inl c1⟩]
      have k0 := e1.2 c1
      have j0 : ((a : Int) == 0) = true := by rw [k0]; rfl
      have l0 : ((a : Int) != 0) = false := by rw [bne, j0]; rfl
      clear e1 e2 e3 e4 HD
      subst H
      go_enter Try.func26, Try.ntmps26
      go_wp2_with fail
      go_ret
      exact ⟨rfl, hbl⟩
    by_cases c2 : b = 0
    · by_cases c3 : c = 0
      · have H : r = 28 := by rw [HD.out, if_neg (by rintro ⟨_, h | ⟨_, h⟩⟩; exact c1 h; exact h c3)]; rfl
        have k0 := mt e1.1 c1
        have j0 : ((a : Int) == 0) = false := by simpa using k0
        have l0 : ((a : Int) != 0) = true := by rw [bne, j0]; rfl
        have k1 := e2.2 c2
        have j1 : ((b : Int) == 0) = true := by rw [k1]; rfl
        have l1 : ((b : Int) != 0) = false := by rw [bne, j1]; rfl
        have k2 := e3.2 c3
        have j2 : ((c : Int) == 0) = true := by rw [k2]; rfl
        have l2 : ((c : Int) != 0) = false := by rw [bne, j2]; rfl
        clear e1 e2 e3 e4 HD
        subst H
        go_enter Try.func26, Try.ntmps26
        go_wp2_with fail
        go_ret
        exact ⟨rfl, hbl⟩
      · have H : r = 29 := by rw [HD.out, if_pos ⟨rfl, .inr ⟨c2, c3⟩⟩]
        have k0 := mt e1.1 c1
        have j0 : ((a : Int) == 0) = false := by simpa using k0
        have l0 : ((a : Int) != 0) = true := by rw [bne, j0]; rfl
        have k1 := e2.2 c2
        have j1 : ((b : Int) == 0) = true := by rw [k1]; rfl
        have l1 : ((b : Int) != 0) = false := by rw [bne, j1]; rfl
        have k2 := mt e3.1 c3
        have j2 : ((c : Int) == 0) = false := by simpa using k2
        have l2 : ((c : Int) != 0) = true := by rw [bne, j2]; rfl
        clear e1 e2 e3 e4 HD
        subst H
        go_enter Try.func26, Try.ntmps26
        go_wp2_with fail
        go_ret
        exact ⟨rfl, hbl⟩
    · have H : r = 28 := by rw [HD.out, if_neg (by rintro ⟨_, h | ⟨h, _⟩⟩; exact c1 h; exact c2 h)]; rfl
      have k0 := mt e1.1 c1
      have j0 : ((a : Int) == 0) = false := by simpa using k0
      have l0 : ((a : Int) != 0) = true := by rw [bne, j0]; rfl
      have k1 := mt e2.1 c2
      have j1 : ((b : Int) == 0) = false := by simpa using k1
      have l1 : ((b : Int) != 0) = true := by rw [bne, j1]; rfl
      clear e1 e2 e3 e4 HD
      subst H
      go_enter Try.func26, Try.ntmps26
      go_wp2_with fail
      go_ret
      exact ⟨rfl, hbl⟩
  by_cases c1 : a = 0
  · have H : r = monN.getD (m - 1) 0 := by rw [HD.out, if_neg (fun h => c4 h.1)]
    have k0 := mt e4.1 c4
    have k1 := e1.2 c1
    have j1 : ((a : Int) == 0) = true := by rw [k1]; rfl
    have l1 : ((a : Int) != 0) = false := by rw [bne, j1]; rfl
    clear e1 e2 e3 e4 HD
    subst H
    go_enter Try.func26, Try.ntmps26
    go_wp2_with fail
    go_ret
    exact ⟨rfl, hbl⟩
  by_cases c2 : b = 0
  · by_cases c3 : c = 0
    · have H : r = monN.getD (m - 1) 0 := by rw [HD.out, if_neg (fun h => c4 h.1)]
      have k0 := mt e4.1 c4
      have k1 := mt e1.1 c1
      have j1 : ((a : Int) == 0) = false := by simpa using k1
      have l1 : ((a : Int) != 0) = true := by rw [bne, j1]; rfl
      have k2 := e2.2 c2
      have j2 : ((b : Int) == 0) = true := by rw [k2]; rfl
      have l2 : ((b : Int) != 0) = false := by rw [bne, j2]; rfl
      have k3 := e3.2 c3
      have j3 : ((c : Int) == 0) = true := by rw [k3]; rfl
      have l3 : ((c : Int) != 0) = false := by rw [bne, j3]; rfl
      clear e1 e2 e3 e4 HD
      subst H
      go_enter Try.func26, Try.ntmps26
      go_wp2_with fail
      go_ret
      exact ⟨rfl, hbl⟩
    · have H : r = monN.getD (m - 1) 0 := by rw [HD.out, if_neg (fun h => c4 h.1)]
      have k0 := mt e4.1 c4
      have k1 := mt e1.1 c1
      have j1 : ((a : Int) == 0) = false := by simpa using k1
      have l1 : ((a : Int) != 0) = true := by rw [bne, j1]; rfl
      have k2 := e2.2 c2
      have j2 : ((b : Int) == 0) = true := by rw [k2]; rfl
      have l2 : ((b : Int) != 0) = false := by rw [bne, j2]; rfl
      have k3 := mt e3.1 c3
      have j3 : ((c : Int) == 0) = false := by simpa using k3
      have l3 : ((c : Int) != 0) = true := by rw [bne, j3]; rfl
      clear e1 e2 e3 e4 HD
      subst H
      go_enter Try.func26, Try.ntmps26
      go_wp2_with fail
      go_ret
      exact ⟨rfl, hbl⟩
  · have H : r = monN.getD (m - 1) 0 := by rw [HD.out, if_neg (fun h => c4 h.1)]
    have k0 := mt e4.1 c4
    have k1 := mt e1.1 c1
    have j1 : ((a : Int) == 0) = false := by simpa using k1
    have l1 : ((a : Int) != 0) = true := by rw [bne, j1]; rfl
    have k2 := mt e2.1 c2
    have j2 : ((b : Int) == 0) = false := by simpa using k2
    have l2 : ((b : Int) != 0) = true := by rw [bne, j2]; rfl
    clear e1 e2 e3 e4 HD
    subst H
    go_enter Try.func26, Try.ntmps26
    go_wp2_with fail
    go_ret
    exact ⟨rfl, hbl⟩
end Go.Proofs.Yteejcokpkginbab
