/- What was told of a time is read as it. Plain facts. -/
import Derived.Test.YteejcokpkginbabRows
import Derived.Test.YteejcokpkginbabPmTof
namespace Go.Proofs.Yteejcokpkginbab

theorem dig_two (n : Nat) (h : n < 100) : digV (twoN n) 0 = (n : Int) := by
  unfold twoN
  rw [digV_two (by omega) (by omega)]
  omega
theorem two_byt (n : Nat) (h : n < 100) : byt (twoN n) := fun j => by
  unfold twoN
  match j with
  | 0 => show 0 ≤ ((48 + n / 10 : Nat) : Int) ∧ ((48 + n / 10 : Nat) : Int) < 256; omega
  | 1 => show 0 ≤ ((48 + n % 10 : Nat) : Int) ∧ ((48 + n % 10 : Nat) : Int) < 256; omega
  | j + 2 => exact ⟨by simp, by simp⟩
theorem digV_app : ∀ (A B : List Int) (v : Int), allD A → digV (A ++ B) v = digV B (digV A v)
  | [], B, v, _ => by rw [digV]; rfl
  | a :: A, B, v, h => by
    have ha := h a (List.Mem.head _)
    rw [List.cons_append, digV, if_neg (by omega), digV_app A B _ (fun x hx => h x (List.Mem.tail _ hx)), digV, if_neg (by omega)]
theorem two_all (n : Nat) (h : n < 100) : allD (twoN n) := fun x hx => by
  unfold twoN at hx
  simp only [List.mem_cons, List.not_mem_nil, or_false] at hx
  rcases hx with rfl | rfl <;> omega
theorem allD_app {A B : List Int} (ha : allD A) (hb : allD B) : allD (A ++ B) := fun x hx => by
  rcases List.mem_append.1 hx with h | h
  · exact ha x h
  · exact hb x h
theorem digV_pos : ∀ (A : List Int) (v : Int), allD A → 0 ≤ v → 0 ≤ digV A v
  | [], v, _, hv => by rw [digV]; exact hv
  | a :: A, v, h, hv => by
    have ha := h a (List.Mem.head _)
    rw [digV, if_neg (by omega)]
    exact digV_pos A _ (fun x hx => h x (List.Mem.tail _ hx)) (by omega)
theorem time_parts {y m r : Nat} {t : Int} (h : MonIs t y m) (hr : (t - secN y m 1).toNat = r) : 1 ≤ m ∧ m ≤ 12 ∧ r < 86400 * daysN y m ∧ r < 2678400 ∧ t = secN y m (1 + r / 86400) + (3600 * ((r / 3600 % 24 : Nat) : Int) + 60 * ((r / 60 % 60 : Nat) : Int) + ((r % 60 : Nat) : Int)) := by
  obtain ⟨h1, h2, h3, h4, h5, h6⟩ := h
  have hd := days_le (y := y) (m := m)
  have e : t = secN y m 1 + (r : Int) := by omega
  refine ⟨h3, h4, by omega, by omega, ?_⟩
  have s1 : secN y m (1 + r / 86400) = secN y m 1 + 86400 * ((r / 86400 : Nat) : Int) := by
    rw [sec_year, sec_year]
    generalize msum y (m - 1) = u
    generalize dayY y = v
    omega
  rw [s1, e]
  omega
theorem time_back {t : Int} {y m : Nat} (h : MonIs t y m) : timeP (tagT y) (bodyT y m (t - secN y m 1).toNat) = .ok t := by
  obtain ⟨r, hr⟩ : ∃ r, (t - secN y m 1).toNat = r := ⟨_, rfl⟩
  obtain ⟨m1, m2, r1, r2, et⟩ := time_parts h hr
  obtain ⟨y1, y2, -, -, -, -⟩ := h
  rw [hr]
  have b1 : r / 86400 < 31 := by omega
  have b2 : 1 + r / 86400 ≤ daysN y m := by omega
  have b3 : r / 3600 % 24 < 24 := by omega
  have b4 : r / 60 % 60 < 60 := by omega
  have b5 : r % 60 < 60 := by omega
  have G : ∀ n : Nat, ¬ (n = 4 ∧ (y : Int) < 2050) → timeG n (y : Int) (m : Int) ((1 + r / 86400 : Nat) : Int) ((r / 3600 % 24 : Nat) : Int) ((r / 60 % 60 : Nat) : Int) ((r % 60 : Nat) : Int) = .ok t := fun n hn => by
    unfold timeG
    rw [if_neg (by omega), Int.toNat_natCast, Int.toNat_natCast, Int.toNat_natCast, if_neg (by omega), ← et]
  unfold tagT bodyT timeP
  by_cases c : 2049 < y
  · rw [if_pos c, if_pos c, if_neg (by decide), if_pos rfl]
    unfold timeF
    have q1 := two_all (y / 100) (by omega)
    have q2 := two_all (y % 100) (by omega)
    have q3 := two_all m (by omega)
    have q4 := two_all (1 + r / 86400) (by omega)
    have q5 := two_all (r / 3600 % 24) (by omega)
    have q6 := two_all (r / 60 % 60) (by omega)
    have q7 := two_all (r % 60) (by omega)
    have all := allD_app (allD_app (allD_app (allD_app (allD_app (allD_app q1 q2) q3) q4) q5) q6) q7
    have pos := digV_pos _ 0 all (by omega)
    have ey : digV (twoN (y / 100) ++ twoN (y % 100)) 0 = (y : Int) := by
      rw [digV_app _ _ _ q1, dig_two _ (by omega)]
      unfold twoN
      rw [digV, if_neg (by omega), digV, if_neg (by omega), digV]
      omega
    have e2 := dig_two m (by omega)
    have e3 := dig_two (1 + r / 86400) (by omega)
    have e4 := dig_two (r / 3600 % 24) (by omega)
    have e5 := dig_two (r / 60 % 60) (by omega)
    have e6 := dig_two (r % 60) (by omega)
    rw [if_neg]
    · have g := G 4 (by omega)
      rw [← e2, ← e3, ← e4, ← e5, ← e6] at g
      have yy : yearN 4 (digV (twoN (y / 100) ++ twoN (y % 100)) 0) = (y : Int) := by rw [ey]; rfl
      rw [← yy] at g
      exact g
    · rintro (k | k | k)
      · exact k rfl
      · exact k rfl
      · exact absurd pos (by show ¬ _; exact Int.not_le.2 k)
  · rw [if_neg c, if_neg c, if_pos rfl]
    unfold timeF
    have q2 := two_all (y % 100) (by omega)
    have q3 := two_all m (by omega)
    have q4 := two_all (1 + r / 86400) (by omega)
    have q5 := two_all (r / 3600 % 24) (by omega)
    have q6 := two_all (r / 60 % 60) (by omega)
    have q7 := two_all (r % 60) (by omega)
    have all := allD_app (allD_app (allD_app (allD_app (allD_app q2 q3) q4) q5) q6) q7
    have pos := digV_pos _ 0 all (by omega)
    have e1 := dig_two (y % 100) (by omega)
    have e2 := dig_two m (by omega)
    have e3 := dig_two (1 + r / 86400) (by omega)
    have e4 := dig_two (r / 3600 % 24) (by omega)
    have e5 := dig_two (r / 60 % 60) (by omega)
    have e6 := dig_two (r % 60) (by omega)
    rw [if_neg]
    · have g := G 2 (by omega)
      rw [← e2, ← e3, ← e4, ← e5, ← e6] at g
      have yy : yearN 2 (digV (twoN (y % 100)) 0) = (y : Int) := by
        rw [e1]
        unfold yearN
        rw [if_pos rfl]
        split <;> omega
      rw [← yy] at g
      exact g
    · rintro (k | k | k)
      · exact k rfl
      · exact k rfl
      · exact absurd pos (by show ¬ _; exact Int.not_le.2 k)
theorem body_byt {y m r : Nat} (hy : y ≤ 9999) (hm : m ≤ 12) (hr : r < 2678400) : byt (bodyT y m r) := by
  have A : ∀ {X Y : List Int}, byt X → byt Y → byt (X ++ Y) := fun {X Y} ha hb j => by
    by_cases k : j < X.length
    · have e : (X ++ Y).getD j 0 = X.getD j 0 := by simp [List.getD_eq_getElem?_getD, List.getElem?_append_left k]
      rw [e]; exact ha j
    · have e : (X ++ Y).getD j 0 = Y.getD (j - X.length) 0 := by rw [List.getD_eq_getElem?_getD, List.getD_eq_getElem?_getD, List.getElem?_append_right (by omega)]
      rw [e]; exact hb _
  unfold bodyT
  refine A (A (A (A (A (A (A ?_ (two_byt _ (by omega))) (two_byt _ (by omega))) (two_byt _ (by omega))) (two_byt _ (by omega))) (two_byt _ (by omega))) (two_byt _ (by omega))) ?_
  · split
    · exact two_byt _ (by omega)
    · exact fun j => by simp
  · intro j
    match j with
    | 0 => exact ⟨by decide, by decide⟩
    | j + 1 => exact ⟨by simp, by simp⟩
/-- every time of these years lies in a month -/
theorem yS_ge (t : Int) : ∀ f z, z ≤ yS t f z ∧ yS t f z ≤ z + f
  | 0, z => by rw [yS]; omega
  | f + 1, z => by
    rw [yS]
    split
    · have := yS_ge t f (z + 1); omega
    · omega
theorem yS_in {t : Int} (f : Nat) : ∀ z n, n = z + f + 1 → secN z 1 1 ≤ t → t < secN n 1 1 → secN (yS t f z) 1 1 ≤ t ∧ t < secN (yS t f z + 1) 1 1 := by
  induction f with
  | zero =>
    intro z n e h k
    have e2 : n = z + 1 := by omega
    rw [e2] at k
    rw [yS]
    exact ⟨h, k⟩
  | succ f ih =>
    intro z n e h k
    rw [yS]
    by_cases c : secN (z + 1) 1 1 ≤ t
    · rw [if_pos c]
      have e2 : n = z + 1 + f + 1 := by omega
      exact ih (z + 1) n e2 c k
    · rw [if_neg c]
      exact ⟨h, by omega⟩
theorem mS_in {t : Int} {y : Nat} : ∀ f z, z ≤ 12 → 12 ≤ z + f → secN y z 1 ≤ t → z ≤ mS t y f z ∧ mS t y f z ≤ 12 ∧ secN y (mS t y f z) 1 ≤ t ∧ (mS t y f z = 12 ∨ t < secN y (mS t y f z + 1) 1)
  | 0, z, h, k, s => by rw [mS]; exact ⟨Nat.le_refl _, h, s, .inl (by omega)⟩
  | f + 1, z, h, k, s => by
    rw [mS]
    by_cases c : z < 12 ∧ secN y (z + 1) 1 ≤ t
    · rw [if_pos c]
      have := mS_in f (z + 1) (by omega) (by omega) c.2
      exact ⟨by omega, this.2⟩
    · rw [if_neg c]
      refine ⟨Nat.le_refl _, h, s, ?_⟩
      by_cases e : z = 12
      · exact .inl e
      · exact .inr (by have : ¬ secN y (z + 1) 1 ≤ t := fun k => c ⟨by omega, k⟩; omega)
theorem sec_10001 : 253402300799 < secN 10001 1 1 := by rw [sec_year]; decide
theorem sec_10000T : secN 10000 1 1 = 253402300800 := by rw [sec_year]; decide
theorem mon_any {t : Int} (h1 : -631152000 ≤ t) (h2 : t ≤ 253402300799) : MonIs t (yOf t) (mOf t (yOf t)) := by
  have a := yS_ge t 8050 1950
  have b := yS_in (t := t) 8050 1950 10001 (by omega) (by rw [sec_1950]; exact h1) (by have := sec_10001; omega)
  have y2 : yS t 8050 1950 ≤ 9999 := by
    by_cases e : yS t 8050 1950 = 10000
    · have := b.1
      rw [e, sec_10000T] at this
      omega
    · omega
  have c := mS_in (t := t) (y := yS t 8050 1950) 12 1 (by decide) (by decide) b.1
  exact mon_found (by unfold yOf; omega) (by unfold yOf; exact y2) (by unfold mOf yOf; exact c.1) (by unfold mOf yOf; exact c.2.1) (by unfold mOf yOf; exact c.2.2.1) (by unfold yOf; exact b.2) (by unfold mOf yOf; exact c.2.2.2)
/-- what was told is read as it was -/
theorem timeOf_back {t a : Int} {X : List Int} (h : timeOf t = .ok (a, X)) : timeP a X = .ok t ∧ byt X ∧ X.length ≤ 15 := by
  by_cases c : t < -631152000 ∨ 253402300799 < t
  · unfold timeOf at h; rw [if_pos c] at h; cases h
  have M := mon_any (t := t) (by omega) (by omega)
  rw [timeOf_is M (by omega) (by omega)] at h
  cases h
  obtain ⟨m1, m2, r1, r2, et⟩ := time_parts M rfl
  refine ⟨time_back M, body_byt M.2.1 m2 r2, ?_⟩
  unfold bodyT
  simp only [List.length_append]
  have : ∀ n, (twoN n).length = 2 := fun _ => rfl
  simp only [this, List.length_cons, List.length_nil]
  split
  · simp only [this]; omega
  · simp
end Go.Proofs.Yteejcokpkginbab
