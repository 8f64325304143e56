/- Montgomery's reduction: the steps, in numbers alone. -/
import Derived.Test.YtflnfjekapngkaaDoorMMath
namespace Go.Proofs.YtflnfjekapngkaaDoor

theorem pv_put (b : Int) : ∀ (P : List Int) (k : Nat) (s : Int), k < P.length → pv b (P.set k s) = pv b P + (s - P.getD k 0) * b ^ k
  | [], k, s, h => absurd h (by simp)
  | p :: P, 0, s, _ => by simp [pv]; omega
  | p :: P, k + 1, s, h => by
    have ih := pv_put b P k s (by simpa using h)
    rw [List.set_cons_succ, pv, pv, ih, List.getD_cons_succ, Int.pow_succ]
    grind

theorem getD_put_ne (S : List Int) (k j : Nat) (s : Int) (h : k ≠ j) : (S.set k s).getD j 0 = S.getD j 0 := by simp [List.getD_eq_getElem?_getD, h]

/-- a round of the inner loop -/
theorem red_step (P B : List Int) (k m : Nat) (V a b s c : Int) (lP : P.length = 12) (lB : B.length = 6) (hk : k < 6) (hm : m < 6) (hs : P.getD (k + m) 0 = s) (hb : B.getD m 0 = b)
    (h : v64 P + c * 18446744073709551616 ^ (k + m) = V + a * 18446744073709551616 ^ k * v64 (B.take m)) :
    v64 (P.set (k + m) ((a * b + s + c) % 18446744073709551616)) + (a * b + s + c) / 18446744073709551616 * 18446744073709551616 ^ (k + (m + 1)) = V + a * 18446744073709551616 ^ k * v64 (B.take (m + 1)) := by
  have e := Int.mul_ediv_add_emod (a * b + s + c) 18446744073709551616
  simp only [v64] at *
  rw [pv_put _ P _ _ (by omega), hs, pv_take _ B m (by omega), hb, ← Nat.add_assoc, Int.pow_succ]
  rw [Int.pow_add] at *
  generalize (a * b + s + c) / 18446744073709551616 = q at *
  generalize (a * b + s + c) % 18446744073709551616 = r at *
  generalize (18446744073709551616 : Int) ^ k = p at *
  generalize (18446744073709551616 : Int) ^ m = z at *
  generalize pv 18446744073709551616 P = X at *
  generalize pv 18446744073709551616 (B.take m) = Y at *
  have e2 : r = a * b + s + c - 18446744073709551616 * q := by omega
  subst e2
  have e3 : X = V + a * p * Y - c * (p * z) := by omega
  subst e3
  grind

/-- the lowest limb is cleared -/
theorem red_clear (t i m : Int) (h : (i * m) % 18446744073709551616 = 18446744073709551615) : ((t * i % 18446744073709551616) * m + t) % 18446744073709551616 = 0 := by
  have h1 : ((t * i % 18446744073709551616) * m) % 18446744073709551616 = (t * (i * m)) % 18446744073709551616 := by
    rw [Int.mul_emod, Int.emod_emod, ← Int.mul_emod, Int.mul_assoc]
  have h2 : (t * (i * m)) % 18446744073709551616 = (t * 18446744073709551615) % 18446744073709551616 := by
    rw [Int.mul_emod, h, Int.mul_emod t 18446744073709551615]
    rfl
  have h3 := h1.trans h2
  omega

/-- a row's end -/
theorem red_row (P M T : List Int) (k : Nat) (V Q q c s o : Int) (lP : P.length = 12) (lM : M.length = 6) (hk : k < 6) (hs : P.getD (k + 6) 0 = s) (hq0 : 0 ≤ q) (hq1 : q < 18446744073709551616)
    (hQ0 : 0 ≤ Q) (hQ1 : Q < 18446744073709551616 ^ k) (hV : V + o * 18446744073709551616 ^ (k + 6) = v64 T + Q * v64 M) (h : v64 P + c * 18446744073709551616 ^ (k + 6) = V + q * 18446744073709551616 ^ k * v64 (M.take 6)) :
    ∃ Q', 0 ≤ Q' ∧ Q' < 18446744073709551616 ^ (k + 1) ∧ v64 (P.set (k + 6) ((s + c + o) % 18446744073709551616)) + (s + c + o) / 18446744073709551616 * 18446744073709551616 ^ (k + 1 + 6) = v64 T + Q' * v64 M := by
  have e := Int.mul_ediv_add_emod (s + c + o) 18446744073709551616
  rw [List.take_of_length_le (by omega)] at h
  simp only [v64] at *
  rw [pv_put _ P _ _ (by omega), hs, show k + 1 + 6 = k + 6 + 1 by omega, Int.pow_succ (18446744073709551616 : Int) (k + 6), Int.pow_succ (18446744073709551616 : Int) k]
  have hp : (0 : Int) < 18446744073709551616 ^ k := Int.pow_pos (by decide)
  generalize (18446744073709551616 : Int) ^ (k + 6) = z at *
  generalize (18446744073709551616 : Int) ^ k = p at *
  generalize (s + c + o) / 18446744073709551616 = x at *
  generalize (s + c + o) % 18446744073709551616 = r at *
  generalize pv 18446744073709551616 P = X at *
  generalize pv 18446744073709551616 T = Y at *
  generalize pv 18446744073709551616 M = N at *
  have m1 : 0 ≤ q * p := Int.mul_nonneg hq0 (Int.le_of_lt hp)
  have m2 : q * p ≤ 18446744073709551615 * p := Int.mul_le_mul_of_nonneg_right (by omega) (Int.le_of_lt hp)
  refine ⟨Q + q * p, by omega, by omega, ?_⟩
  have e2 : r = s + c + o - 18446744073709551616 * x := by omega
  subst e2
  have e3 : X = V + q * p * N - c * z := by omega
  subst e3
  have e4 : V = Y + Q * N - o * z := by omega
  subst e4
  grind

theorem pv_noughts (b : Int) : ∀ (n : Nat) (P : List Int), (∀ j, j < n → P.getD j 0 = 0) → n ≤ P.length → pv b P = b ^ n * pv b (P.drop n)
  | 0, P, _, _ => by simp
  | n + 1, [], _, h => absurd h (by simp)
  | n + 1, p :: P, h, hl => by
    have h0 : p = 0 := h 0 (by omega)
    rw [pv, pv_noughts b n P (fun j hj => h (j + 1) (by omega)) (by simpa using hl), List.drop_succ_cons, Int.pow_succ, h0]
    grind

theorem fits_drop {P : List Int} (h : fits P) (n : Nat) : fits (P.drop n) := by
  intro j
  have : (P.drop n).getD j 0 = P.getD (n + j) 0 := by simp [List.getD_eq_getElem?_getD]
  rw [this]; exact h _

/-- what is left above R's noughts -/
theorem red_end (P M T : List Int) (Q o : Int) (lP : P.length = 12) (lT : T.length = 12) (fT : fits T) (fM : fits M) (hz : ∀ j, j < 6 → P.getD j 0 = 0) (hQ1 : Q < 18446744073709551616 ^ 6)
    (h : v64 P + o * 18446744073709551616 ^ (6 + 6) = v64 T + Q * v64 M) :
    18446744073709551616 ^ 6 * (v64 (P.drop 6) + o * 18446744073709551616 ^ 6) = v64 T + Q * v64 M ∧ v64 (P.drop 6) + o * 18446744073709551616 ^ 6 < 18446744073709551616 ^ 6 + v64 M := by
  have bT := v64_bound T fT
  rw [lT] at bT
  have bM := (v64_bound M fM).1
  simp only [v64] at *
  rw [pv_noughts _ 6 P hz (by omega)] at h
  rw [show (18446744073709551616 : Int) ^ (6 + 6) = 18446744073709551616 ^ 6 * 18446744073709551616 ^ 6 from Int.pow_add _ 6 6] at h
  rw [show (12 : Nat) = 6 + 6 from rfl, Int.pow_add _ 6 6] at bT
  have hp : (0 : Int) < 18446744073709551616 ^ 6 := Int.pow_pos (by decide)
  generalize (18446744073709551616 : Int) ^ 6 = R at *
  generalize pv 18446744073709551616 (P.drop 6) = X at *
  generalize pv 18446744073709551616 T = Y at *
  generalize pv 18446744073709551616 M = N at *
  have e : R * (X + o * R) = Y + Q * N := by rw [← h]; grind
  refine ⟨e, ?_⟩
  have m1 : Q * N ≤ R * N := Int.mul_le_mul_of_nonneg_right (by omega) bM
  have m2 : R * (X + o * R) < R * (R + N) := by rw [e, Int.mul_add]; omega
  exact Int.lt_of_mul_lt_mul_left m2 (Int.le_of_lt hp)

/-- the answer's rest -/
theorem red_rest {R N Y Q M r : Int} (e : R * N = Y + Q * M) (hr : r = N % M) : (R * r) % M = Y % M := by
  subst hr
  rw [Int.mul_emod, Int.emod_emod, ← Int.mul_emod, e, Int.add_mul_emod_self_right]

/-- what is taken off, in numbers -/
def offN (X M : Int) : Int := if M ≤ X then X - M else X

theorem offN_mod (X M : Int) : offN X M % M = X % M := by
  unfold offN; split
  · exact Int.sub_emod_right X M
  · rfl

theorem offN_rest {X M : Int} (h0 : 0 ≤ X) (h : X < 2 * M) : offN X M = X % M := once_mod X M h0 h

theorem off_num (A S M : List Int) (n k : Int) (lA : A.length = 6) (lM : M.length = 6) (lS : S.length = 6) (fA : fits A) (fM : fits M) (fS : fits S) (hn : n = 0 ∨ n = 1) (k0 : 0 ≤ k) (k1 : k ≤ 1)
    (h : v64 S - k * 18446744073709551616 ^ 6 = v64 A - v64 M) (hb : v64 A + n * 18446744073709551616 ^ 6 < 18446744073709551616 ^ 6 + v64 M) :
    (if n = 1 ∨ k = 0 then v64 S else v64 A) = offN (v64 A + n * 18446744073709551616 ^ 6) (v64 M) := by
  have bA := v6_bound A lA fA
  have bM := v6_bound M lM fM
  have bS := v6_bound S lS fS
  unfold offN
  generalize (18446744073709551616 : Int) ^ 6 = R at *
  generalize v64 A = a at *
  generalize v64 M = m at *
  generalize v64 S = s at *
  have hk : k = 0 ∨ k = 1 := by omega
  rcases hn with rfl | rfl
  · rcases hk with rfl | rfl
    · rw [if_pos (.inr rfl), if_pos (by omega)]; omega
    · rw [if_neg (by omega), if_neg (by omega)]; omega
  · rw [if_pos (.inl rfl), if_pos (by omega)]
    rcases hk with rfl | rfl <;> omega
end Go.Proofs.YtflnfjekapngkaaDoor
