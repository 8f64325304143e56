/- Times go by their bytes. Plain facts. -/
import Derived.Test.YteejcokpkginbabRows
import Derived.Test.YteejcokpkginbabPmTback
import Derived.Test.YteejcokpkginbabPmStr
namespace Go.Proofs.Yteejcokpkginbab
open Go.RowKit

theorem dig_lt : ∀ (A B : List Int) (v u : Int), allD A → allD B → A.length = B.length → v < u → digV A v < digV B u
  | [], [], v, u, _, _, _, h => by rw [digV, digV]; exact h
  | [], _ :: _, _, _, _, _, h, _ => by simp at h
  | _ :: _, [], _, _, _, _, h, _ => by simp at h
  | a :: A, b :: B, v, u, ha, hb, hl, h => by
    have a0 := ha a (List.Mem.head _)
    have b0 := hb b (List.Mem.head _)
    rw [digV, if_neg (by omega), digV, if_neg (by omega)]
    exact dig_lt A B _ _ (fun x hx => ha x (List.Mem.tail _ hx)) (fun x hx => hb x (List.Mem.tail _ hx)) (by simpa using hl) (by omega)
/-- digits go by their number -/
theorem dig_less : ∀ (A B : List Int) (v : Int), allD A → allD B → A.length = B.length → Op.bytesLess (lett A) (lett B) = decide (digV A v < digV B v)
  | [], [], v, _, _, _ => by simp [Op.bytesLess, digV]
  | [], _ :: _, _, _, _, h => by simp at h
  | _ :: _, [], _, _, _, h => by simp at h
  | a :: A, b :: B, v, ha, hb, hl => by
    have a0 := ha a (List.Mem.head _)
    have b0 := hb b (List.Mem.head _)
    have ha' : allD A := fun x hx => ha x (List.Mem.tail _ hx)
    have hb' : allD B := fun x hx => hb x (List.Mem.tail _ hx)
    have hl' : A.length = B.length := by simpa using hl
    have na := lett_num (a := a) (by omega)
    have nb := lett_num (a := b) (by omega)
    show (decide (UInt8.ofNat a.toNat < UInt8.ofNat b.toNat) || (UInt8.ofNat a.toNat == UInt8.ofNat b.toNat && Op.bytesLess (lett A) (lett B))) = _
    rw [digV, if_neg (by omega), digV, if_neg (by omega)]
    by_cases c : a < b
    · have h1 : UInt8.ofNat a.toNat < UInt8.ofNat b.toNat := by rw [UInt8.lt_iff_toNat_lt, na, nb]; omega
      have h2 := dig_lt A B (10 * v + (a - 48)) (10 * v + (b - 48)) ha' hb' hl' (by omega)
      rw [decide_eq_true h1, decide_eq_true h2]
      rfl
    · have h1 : ¬ UInt8.ofNat a.toNat < UInt8.ofNat b.toNat := by rw [UInt8.lt_iff_toNat_lt, na, nb]; omega
      rw [decide_eq_false h1, Bool.false_or]
      by_cases d : a = b
      · subst d
        rw [beq_self_eq_true, Bool.true_and]
        exact dig_less A B _ ha' hb' hl'
      · have h3 : (UInt8.ofNat a.toNat == UInt8.ofNat b.toNat) = false := by
          apply beq_eq_false_iff_ne.2
          intro e
          have := congrArg UInt8.toNat e
          rw [na, nb] at this
          omega
        have h2 := dig_lt B A (10 * v + (b - 48)) (10 * v + (a - 48)) hb' ha' hl'.symm (by omega)
        rw [h3, Bool.false_and, decide_eq_false (by omega)]
theorem dig_same : ∀ (A B : List Int) (v : Int), allD A → allD B → A.length = B.length → (digV A v = digV B v ↔ A = B)
  | [], [], v, _, _, _ => by simp
  | [], _ :: _, _, _, _, h => by simp at h
  | _ :: _, [], _, _, _, h => by simp at h
  | a :: A, b :: B, v, ha, hb, hl => by
    have a0 := ha a (List.Mem.head _)
    have b0 := hb b (List.Mem.head _)
    have ha' : allD A := fun x hx => ha x (List.Mem.tail _ hx)
    have hb' : allD B := fun x hx => hb x (List.Mem.tail _ hx)
    have hl' : A.length = B.length := by simpa using hl
    rw [digV, if_neg (by omega), digV, if_neg (by omega)]
    by_cases d : a = b
    · subst d
      rw [dig_same A B _ ha' hb' hl']
      simp
    · constructor
      · intro e
        by_cases c : a < b
        · have := dig_lt A B (10 * v + (a - 48)) (10 * v + (b - 48)) ha' hb' hl' (by omega); omega
        · have := dig_lt B A (10 * v + (b - 48)) (10 * v + (a - 48)) hb' ha' hl'.symm (by omega); omega
      · intro e
        simp only [List.cons.injEq] at e
        exact absurd e.1 d
theorem less_app : ∀ (X Y : List UInt8) (c : UInt8), X.length = Y.length → Op.bytesLess (X ++ [c]) (Y ++ [c]) = Op.bytesLess X Y
  | [], [], c, _ => by simp [Op.bytesLess]
  | [], _ :: _, _, h => by simp at h
  | _ :: _, [], _, h => by simp at h
  | a :: X, b :: Y, c, h => by
    rw [List.cons_append, List.cons_append, Op.bytesLess, Op.bytesLess, less_app X Y c (by simpa using h)]
/-- days go by year, month and day -/
theorem day_lt {y m d y' m' d' : Nat} (m1 : 1 ≤ m) (m2 : m ≤ 12) (d1 : d ≤ daysN y m) (m3 : 1 ≤ m') (d3 : 1 ≤ d') (h : y < y' ∨ (y = y' ∧ (m < m' ∨ (m = m' ∧ d < d')))) : dayY y + (msum y (m - 1) : Int) + (d : Int) < dayY y' + (msum y' (m' - 1) : Int) + (d' : Int) := by
  have e1 := msum_next (y := y) m1
  rw [Nat.add_sub_cancel] at e1
  rcases h with h | ⟨rfl, h | ⟨rfl, h⟩⟩
  · have k1 := msum_mono (y := y) (show m ≤ 12 by omega)
    rw [msum_12] at k1
    have k2 := dayY_next y
    have k3 := dayY_le (show y + 1 ≤ y' by omega)
    omega
  · have k1 := msum_mono (y := y) (show m ≤ m' - 1 by omega)
    omega
  · omega
/-- what is known of a body that is a time of four digits of the year -/
theorem time4 {A : List Int} {x : Int} (h : timeF 4 A = .ok x) : ∃ y m d hh i s : Nat, A.length = 15 ∧ A = A.take 14 ++ [90] ∧ allD (A.take 14) ∧ y ≤ 9999 ∧ 1 ≤ m ∧ m ≤ 12 ∧ 1 ≤ d ∧ d ≤ daysN y m ∧ d ≤ 31 ∧ hh ≤ 23 ∧ i ≤ 59 ∧ s ≤ 59 ∧ digV (A.take 14) 0 = (((((y * 100 + m) * 100 + d) * 100 + hh) * 100 + i) * 100 + s : Nat) ∧ x = secN y m d + (3600 * (hh : Int) + 60 * (i : Int) + (s : Int)) := by
  unfold timeF at h
  by_cases c : ¬ A.length = 4 + 11 ∨ ¬ A.getD (4 + 10) 0 = 90 ∨ digV (A.take (4 + 10)) 0 < 0
  · rw [if_pos c] at h; cases h
  rw [if_neg c] at h
  have hl : A.length = 15 := by omega
  have hz : A.getD 14 0 = 90 := by have : ¬ ¬ A.getD (4 + 10) 0 = 90 := fun k => c (.inr (.inl k)); exact Classical.not_not.1 this
  have hd : 0 ≤ digV (A.take 14) 0 := by have : ¬ digV (A.take (4 + 10)) 0 < 0 := fun k => c (.inr (.inr k)); exact Int.not_lt.1 this
  have ad := digV_neg _ 0 (by omega) hd
  have yb := year_dig ad (by omega) (by omega)
  have p1 := part_dig (lo := 4) ad (by omega) (by omega)
  have p2 := part_dig (lo := 6) ad (by omega) (by omega)
  have p3 := part_dig (lo := 8) ad (by omega) (by omega)
  have p4 := part_dig (lo := 10) ad (by omega) (by omega)
  have p5 := part_dig (lo := 12) ad (by omega) (by omega)
  obtain ⟨y, hy⟩ := Int.eq_ofNat_of_zero_le yb.1
  obtain ⟨m, hm⟩ := Int.eq_ofNat_of_zero_le p1.1
  obtain ⟨d, hdd⟩ := Int.eq_ofNat_of_zero_le p2.1
  obtain ⟨hh, hhh⟩ := Int.eq_ofNat_of_zero_le p3.1
  obtain ⟨i, hi⟩ := Int.eq_ofNat_of_zero_le p4.1
  obtain ⟨s, hs⟩ := Int.eq_ofNat_of_zero_le p5.1
  have key : digV (A.take 14) 0 = (((((y * 100 + m) * 100 + d) * 100 + hh) * 100 + i) * 100 + s : Nat) := by
    match A, hl with
    | [a0, a1, a2, a3, a4, a5, a6, a7, a8, a9, a10, a11, a12, a13, a14], _ =>
      have q : ∀ z, z ∈ [a0, a1, a2, a3, a4, a5, a6, a7, a8, a9, a10, a11, a12, a13] → 48 ≤ z ∧ z ≤ 57 := ad
      have q0 := q a0 (by simp)
      have q1 := q a1 (by simp)
      have q2 := q a2 (by simp)
      have q3 := q a3 (by simp)
      have q4 := q a4 (by simp)
      have q5 := q a5 (by simp)
      have q6 := q a6 (by simp)
      have q7 := q a7 (by simp)
      have q8 := q a8 (by simp)
      have q9 := q a9 (by simp)
      have q10 := q a10 (by simp)
      have q11 := q a11 (by simp)
      have q12 := q a12 (by simp)
      have q13 := q a13 (by simp)
      replace hy : digV [a0, a1, a2, a3] 0 = (y : Int) := hy
      replace hm : digV [a4, a5] 0 = (m : Int) := hm
      replace hdd : digV [a6, a7] 0 = (d : Int) := hdd
      replace hhh : digV [a8, a9] 0 = (hh : Int) := hhh
      replace hi : digV [a10, a11] 0 = (i : Int) := hi
      replace hs : digV [a12, a13] 0 = (s : Int) := hs
      rw [digV_four q0 q1 q2 q3] at hy
      rw [digV_two q4 q5] at hm
      rw [digV_two q6 q7] at hdd
      rw [digV_two q8 q9] at hhh
      rw [digV_two q10 q11] at hi
      rw [digV_two q12 q13] at hs
      show digV [a0, a1, a2, a3, a4, a5, a6, a7, a8, a9, a10, a11, a12, a13] 0 = _
      rw [digV, if_neg (by omega), digV, if_neg (by omega), digV, if_neg (by omega), digV, if_neg (by omega), digV, if_neg (by omega), digV, if_neg (by omega), digV, if_neg (by omega), digV, if_neg (by omega), digV, if_neg (by omega), digV, if_neg (by omega), digV, if_neg (by omega), digV, if_neg (by omega), digV, if_neg (by omega), digV, if_neg (by omega), digV]
      omega
  have eA : A = A.take 14 ++ [90] := by
    have e := List.take_append_drop 14 A
    have e2 : A.drop 14 = [90] := by
      rw [List.drop_eq_getElem_cons (by omega : 14 < A.length), List.drop_of_length_le (by omega)]
      rw [List.getD_eq_getElem?_getD, List.getElem?_eq_getElem (by omega : 14 < A.length), Option.getD_some] at hz
      rw [hz]
    rw [e2] at e
    exact e.symm
  have g : timeG 4 (y : Int) (m : Int) (d : Int) (hh : Int) (i : Int) (s : Int) = .ok x := by
    rw [← hm, ← hdd, ← hhh, ← hi, ← hs, ← hy]
    exact h
  unfold timeG at g
  by_cases c2 : (4 = 4 ∧ (y : Int) < 2050) ∨ (m : Int) < 1 ∨ 12 < (m : Int) ∨ (d : Int) < 1 ∨ 23 < (hh : Int) ∨ 59 < (i : Int) ∨ 59 < (s : Int)
  · rw [if_pos c2] at g; cases g
  rw [if_neg c2, Int.toNat_natCast, Int.toNat_natCast, Int.toNat_natCast] at g
  by_cases c3 : ((daysN y m : Nat) : Int) < (d : Int)
  · rw [if_pos c3] at g; cases g
  rw [if_neg c3] at g
  cases g
  have dl := days_le (y := y) (m := m)
  exact ⟨y, m, d, hh, i, s, hl, eA, ad, by omega, by omega, by omega, by omega, by omega, by omega, by omega, by omega, by omega, key, rfl⟩
/-- times go by their bytes -/
theorem time_mono {A B : List Int} {x z : Int} (h : timeF 4 A = .ok x) (k : timeF 4 B = .ok z) (l : digV (A.take 14) 0 < digV (B.take 14) 0) : x < z := by
  obtain ⟨y, m, d, hh, i, s, -, -, -, -, m1, m2, d1, d2, d4, h1, i1, s1, ka, xa⟩ := time4 h
  obtain ⟨y', m', d', hh', i', s', -, -, -, -, m3, m4, d3, d5, d6, h3, i3, s3, kb, xb⟩ := time4 k
  rw [ka, kb] at l
  clear ka kb h k
  have sa := sec_year y m d
  have sb := sec_year y' m' d'
  obtain ⟨P, hP⟩ : ∃ P, (y * 100 + m) * 100 + d = P := ⟨_, rfl⟩
  obtain ⟨P', hP'⟩ : ∃ P, (y' * 100 + m') * 100 + d' = P := ⟨_, rfl⟩
  rw [hP, hP'] at l
  by_cases c : P < P'
  · have lex : y < y' ∨ (y = y' ∧ (m < m' ∨ (m = m' ∧ d < d'))) := by omega
    have := day_lt m1 m2 d2 m3 d3 lex
    omega
  · have e : P = P' := by omega
    have ey : y = y' := by omega
    have em : m = m' := by omega
    have ed : d = d' := by omega
    subst ey em ed
    omega
theorem time_order {A B : List Int} {x z : Int} (h : timeF 4 A = .ok x) (k : timeF 4 B = .ok z) : Op.bytesLess (lett A) (lett B) = decide (x < z) ∧ (lett A == lett B) = decide (x = z) := by
  obtain ⟨y, m, d, hh, i, s, l1, e1, a1, -⟩ := time4 h
  obtain ⟨y', m', d', hh', i', s', l2, e2, a2, -⟩ := time4 k
  have ll : (A.take 14).length = (B.take 14).length := by rw [List.length_take, List.length_take, l1, l2]
  have u1 : lett A = lett (A.take 14) ++ [90] := by
    have : lett A = lett (A.take 14 ++ [90]) := congrArg lett e1
    rw [this, lett, List.map_append]
    rfl
  have u2 : lett B = lett (B.take 14) ++ [90] := by
    have : lett B = lett (B.take 14 ++ [90]) := congrArg lett e2
    rw [this, lett, List.map_append]
    rfl
  have s1 := dig_same _ _ 0 a1 a2 ll
  have f1 : digV (A.take 14) 0 < digV (B.take 14) 0 → x < z := time_mono h k
  have f2 : digV (B.take 14) 0 < digV (A.take 14) 0 → z < x := time_mono k h
  have f3 : digV (A.take 14) 0 = digV (B.take 14) 0 → x = z := fun e => by
    have e3 : A = B := by rw [e1, e2, s1.1 e]
    subst e3
    rw [h] at k
    cases k
    rfl
  refine ⟨?_, ?_⟩
  · rw [u1, u2, less_app _ _ _ (by rw [lett, List.length_map, lett, List.length_map]; exact ll), dig_less _ _ 0 a1 a2 ll]
    apply decide_eq_decide.2
    omega
  · by_cases c : digV (A.take 14) 0 = digV (B.take 14) 0
    · have e3 : A = B := by rw [e1, e2, s1.1 c]
      rw [decide_eq_true (f3 c), e3, beq_self_eq_true]
    · rw [decide_eq_false (by omega)]
      apply beq_eq_false_iff_ne.2
      intro e
      rw [u1, u2] at e
      have e4 := (List.append_inj' e rfl).1
      have by1 : ∀ {X : List Int}, allD X → byt X := fun {X} hX j => by
        by_cases hj : j < X.length
        · have := hX (X.getD j 0) (by rw [List.getD_eq_getElem?_getD, List.getElem?_eq_getElem hj]; exact List.getElem_mem _)
          omega
        · rw [List.getD_eq_getElem?_getD, List.getElem?_eq_none (by omega)]; decide
      exact c (s1.2 (lett_one (by1 a1) (by1 a2) e4))
end Go.Proofs.Yteejcokpkginbab
