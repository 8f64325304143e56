/- Identifiers, read and told as the program does it. Plain facts. -/
import Derived.Test.YtineihnipidmfaaPmOidN
namespace Go.Proofs.Ytineihnipidmfaa

/-- whether bytes are numbers, each whole and in as few bytes as can be: one begins, or goes on -/
def okF : List Int → Bool → Bool
  | [], beg => beg
  | x :: xs, beg => if beg = true ∧ x = 128 then false else okF xs (decide (x < 128))
theorem raw_not : ∀ (B l : List Int) (v : Int) (beg : Bool), okF B beg = false → rawP B l v beg = .error 7
  | [], l, v, beg, h => by
    rw [okF] at h
    rw [rawP, if_pos (.inl h)]
  | x :: xs, l, v, beg, h => by
    rw [okF] at h
    rw [rawP]
    by_cases c : beg = true ∧ x = 128
    · rw [if_pos c]
    · rw [if_neg c] at h ⊢
      by_cases d : x < 128
      · rw [decide_eq_true d] at h
        rw [if_pos d]
        exact raw_not xs _ _ _ h
      · rw [decide_eq_false d] at h
        rw [if_neg d]
        exact raw_not xs _ _ _ h
/-- the number that bytes begin with, capped, and how many bytes it has -/
def cutV : List Int → Int → Int × Nat
  | [], v => (v, 0)
  | x :: xs, v => if x < 128 then (min (128 * v + x % 128) 1099511627776, 1) else ((cutV xs (min (128 * v + x % 128) 1099511627776)).1, (cutV xs (min (128 * v + x % 128) 1099511627776)).2 + 1)
theorem cutV_le : ∀ (B : List Int) (v : Int), (cutV B v).2 ≤ B.length
  | [], _ => Nat.le_refl _
  | x :: xs, v => by
    rw [cutV]
    split
    · rw [List.length_cons]; exact Nat.succ_le_succ (Nat.zero_le _)
    · rw [List.length_cons]; exact Nat.succ_le_succ (cutV_le xs _)
theorem cutV_bd : ∀ (B : List Int) (v : Int), (0 ≤ v ∧ v ≤ 1099511627776) → 0 ≤ (cutV B v).1 ∧ (cutV B v).1 ≤ 1099511627776
  | [], _, h => h
  | x :: xs, v, h => by
    rw [cutV]
    split
    · show 0 ≤ min _ _ ∧ min _ _ ≤ _
      omega
    · exact cutV_bd xs _ (by omega)
/-- one number is read after the other -/
theorem raw_cut : ∀ (B l : List Int) (v : Int) (beg : Bool), okF B beg = true → ¬ B = [] → rawP B l v beg = rawP (B.drop (cutV B v).2) (l ++ [(cutV B v).1]) 0 true ∧ okF (B.drop (cutV B v).2) true = true ∧ 0 < (cutV B v).2
  | [], _, _, _, _, h => absurd rfl h
  | x :: xs, l, v, beg, h, _ => by
    rw [okF] at h
    by_cases c : beg = true ∧ x = 128
    · rw [if_pos c] at h; cases h
    · rw [if_neg c] at h
      by_cases d : x < 128
      · rw [decide_eq_true d] at h
        have e : cutV (x :: xs) v = (min (128 * v + x % 128) 1099511627776, 1) := by rw [cutV, if_pos d]
        rw [e]
        refine ⟨?_, h, Nat.one_pos⟩
        rw [rawP, if_neg c, if_pos d]
        rfl
      · rw [decide_eq_false d] at h
        have e : cutV (x :: xs) v = ((cutV xs (min (128 * v + x % 128) 1099511627776)).1, (cutV xs (min (128 * v + x % 128) 1099511627776)).2 + 1) := by rw [cutV, if_neg d]
        have hx : ¬ xs = [] := fun k => by rw [k, okF] at h; cases h
        have ih := raw_cut xs l (min (128 * v + x % 128) 1099511627776) false h hx
        rw [e]
        refine ⟨?_, by rw [List.drop_succ_cons]; exact ih.2.1, Nat.succ_pos _⟩
        rw [rawP, if_neg c, if_neg d, List.drop_succ_cons]
        exact ih.1
theorem drop_consO {B : List Int} {i : Nat} (h : i < B.length) : B.drop i = B.getD i 0 :: B.drop (i + 1) := by
  rw [List.drop_eq_getElem_cons h]
  simp [List.getD_eq_getElem?_getD, h]
theorem okF_next {B : List Int} {i : Nat} {beg : Bool} (h : i < B.length) (hn : ¬ (beg = true ∧ B.getD i 0 = 128)) : okF (B.drop i) beg = okF (B.drop (i + 1)) (decide (B.getD i 0 < 128)) := by
  rw [drop_consO h, okF, if_neg hn]
theorem okF_stop {B : List Int} {i : Nat} (h : i < B.length) (hn : B.getD i 0 = 128) : okF (B.drop i) true = false := by
  rw [drop_consO h, okF, if_pos ⟨rfl, hn⟩]
theorem cutV_next {B : List Int} {i : Nat} {v : Int} (h : i < B.length) (hn : ¬ B.getD i 0 < 128) : cutV (B.drop i) v = ((cutV (B.drop (i + 1)) (min (128 * v + B.getD i 0 % 128) 1099511627776)).1, (cutV (B.drop (i + 1)) (min (128 * v + B.getD i 0 % 128) 1099511627776)).2 + 1) := by
  rw [drop_consO h, cutV, if_neg hn]
theorem cutV_stop {B : List Int} {i : Nat} {v : Int} (h : i < B.length) (hn : B.getD i 0 < 128) : cutV (B.drop i) v = (min (128 * v + B.getD i 0 % 128) 1099511627776, 1) := by
  rw [drop_consO h, cutV, if_pos hn]
/-- a number's bytes, the lowest first -/
def loF : Nat → Nat → List Int
  | 0, _ => []
  | f + 1, u => if u = 0 then [] else ((128 + u % 128 : Nat) : Int) :: loF f (u / 128)
theorem loF_rev : ∀ (f u : Nat) (l : List Int), b7F f u l = (loF f u).reverse ++ l
  | 0, _, l => by rw [b7F, loF]; rfl
  | f + 1, u, l => by
    rw [b7F, loF]
    split
    · rfl
    · rw [loF_rev f (u / 128), List.reverse_cons, List.append_assoc]
      rfl
theorem b7_rev (v : Nat) : b7 v = (((v % 128 : Nat) : Int) :: loF 9 (v / 128)).reverse := by
  unfold b7
  rw [loF_rev, List.reverse_cons]
theorem loF_0 (f : Nat) : loF f 0 = [] := by
  cases f with
  | zero => rfl
  | succ f => rw [loF, if_pos rfl]
theorem loF_next {f u : Nat} (h : 0 < u) : loF (f + 1) u = ((128 + u % 128 : Nat) : Int) :: loF f (u / 128) := by rw [loF, if_neg (by omega)]
theorem raw_all : ∀ (k : Nat) (R L : List Int), R.length ≤ k → okF R true = true → 0 < L.length → ∃ m, rawP R L 0 true = .ok (L ++ m)
  | 0, R, L, hk, _, hL => by
    obtain rfl : R = [] := List.eq_nil_of_length_eq_zero (by omega)
    exact ⟨[], by rw [rawP, if_neg (by rintro (h | h); cases h; omega), List.append_nil]⟩
  | k + 1, R, L, hk, h, hL => by
    by_cases e : R = []
    · subst e
      exact ⟨[], by rw [rawP, if_neg (by rintro (h | h); cases h; omega), List.append_nil]⟩
    · obtain ⟨h1, h2, h3⟩ := raw_cut R L 0 true h e
      obtain ⟨m, hm⟩ := raw_all k (R.drop (cutV R 0).2) (L ++ [(cutV R 0).1]) (by rw [List.length_drop]; omega) h2 (by simp)
      exact ⟨(cutV R 0).1 :: m, by rw [h1, hm, List.append_assoc]; rfl⟩
theorem getD_left {L m : List Int} {j : Nat} (hj : j < L.length) : (L ++ m).getD j 0 = L.getD j 0 := by
  simp [List.getD_eq_getElem?_getD, List.getElem?_append_left hj]
theorem oid_big {B R L : List Int} {j : Nat} (hE : rawP B [] 0 true = rawP R L 0 true) (hk : okF R true = true) (hj : j < L.length) (h : (j = 0 ∧ 4294967375 < L.getD j 0) ∨ (0 < j ∧ 4294967295 < L.getD j 0)) : oidP B = .error 3 := by
  obtain ⟨m, hm⟩ := raw_all R.length R L (Nat.le_refl _) hk (by omega)
  unfold oidP
  rw [hE, hm]
  show oidFin (L ++ m) = _
  unfold oidFin
  rw [if_pos]
  rcases h with ⟨rfl, h⟩ | ⟨h1, h2⟩
  · exact .inl (by rw [getD_left hj]; exact h)
  · exact .inr ⟨j, by rw [List.length_append]; omega, h1, by rw [getD_left hj]; exact h2⟩
/-- values that may be told -/
def GoodL (L : List Int) : Prop := ¬ 4294967375 < L.getD 0 0 ∧ ∀ j, j < L.length → 0 < j → ¬ 4294967295 < L.getD j 0
theorem GoodL.one {x : Int} (h : ¬ 4294967375 < x) : GoodL [x] := ⟨h, fun j h1 h2 => absurd h1 (by show ¬ j < 1; omega)⟩
theorem getD_last {L : List Int} {n : Int} : (L ++ [n]).getD L.length 0 = n := by simp [List.getD_eq_getElem?_getD]
theorem GoodL.add {L : List Int} {n : Int} (h : GoodL L) (h0 : 0 < L.length) (hn : ¬ 4294967295 < n) : GoodL (L ++ [n]) := by
  refine ⟨by rw [getD_left h0]; exact h.1, fun j h1 h2 => ?_⟩
  by_cases k : j < L.length
  · rw [getD_left k]; exact h.2 j k h2
  · rw [List.length_append] at h1
    replace h1 : j < L.length + 1 := h1
    rw [show j = L.length by omega, getD_last]
    exact hn
/-- the numbers that values tell, no more than 17 -/
def arcsL (L : List Int) : List Int := (first2 (L.getD 0 0) ++ L.drop 1).take 17
theorem first2_two (x : Int) : (first2 x).length = 2 := by
  unfold first2
  split
  · rfl
  · split <;> rfl
theorem arcs_len {L : List Int} : (arcsL L).length ≤ 17 := by
  unfold arcsL
  rw [List.length_take]
  omega
theorem arcs_one {x : Int} : arcsL [x] = first2 x := by
  unfold arcsL
  show (first2 x ++ []).take 17 = _
  rw [List.append_nil, List.take_of_length_le (by rw [first2_two]; omega)]
theorem arcs_add {L : List Int} {n : Int} (h0 : 0 < L.length) : arcsL (L ++ [n]) = if (arcsL L).length ≤ 16 then arcsL L ++ [n] else arcsL L := by
  have e : first2 ((L ++ [n]).getD 0 0) ++ (L ++ [n]).drop 1 = (first2 (L.getD 0 0) ++ L.drop 1) ++ [n] := by
    rw [getD_left h0, List.drop_append_of_le_length h0, List.append_assoc]
  unfold arcsL
  rw [e]
  generalize first2 (L.getD 0 0) ++ L.drop 1 = F
  by_cases c : F.length ≤ 16
  · rw [List.take_of_length_le (by rw [List.length_append]; show F.length + 1 ≤ 17; omega), List.take_of_length_le (by omega), if_pos c]
  · rw [if_neg (by rw [List.length_take]; omega), List.take_append_of_le_length (by omega)]
theorem oid_end {B L : List Int} (hE : rawP B [] 0 true = rawP [] L 0 true) (hL : 0 < L.length) (h : GoodL L) : oidP B = if 16 < (arcsL L).length then .error 2 else .ok (arcsL L) := by
  unfold oidP
  rw [hE, rawP, if_neg (by rintro (h | h); cases h; omega)]
  show oidFin L = _
  unfold oidFin
  rw [if_neg (by
    rintro (k | ⟨j, k1, k2, k3⟩)
    · exact h.1 k
    · exact h.2 j k1 k2 k3)]
  unfold arcsL
  generalize first2 (L.getD 0 0) ++ L.drop 1 = F
  by_cases c : 16 < F.length
  · rw [if_pos c, if_pos (by rw [List.length_take]; omega)]
  · rw [if_neg c, if_neg (by rw [List.length_take]; omega), List.take_of_length_le (by omega)]
theorem oid_not {B : List Int} (h : (okF B true && decide (0 < B.length)) = false) : oidP B = .error 7 := by
  unfold oidP
  by_cases c : okF B true = true
  · rw [c, Bool.true_and, decide_eq_false_iff_not] at h
    obtain rfl : B = [] := List.eq_nil_of_length_eq_zero (by omega)
    rfl
  · rw [raw_not B [] 0 true (by simpa using c)]
theorem oid_yes {B : List Int} (h : (okF B true && decide (0 < B.length)) = true) : rawP B [] 0 true = rawP (B.drop (cutV B 0).2) [(cutV B 0).1] 0 true ∧ okF (B.drop (cutV B 0).2) true = true := by
  rw [Bool.and_eq_true, decide_eq_true_iff] at h
  obtain ⟨h1, h2, _⟩ := raw_cut B [] 0 true h.1 (fun k => by rw [k] at h; simp at h)
  exact ⟨h1, h2⟩
theorem cut_next {R L : List Int} (h : okF R true = true) (h0 : 0 < R.length) : rawP R L 0 true = rawP (R.drop (cutV R 0).2) (L ++ [(cutV R 0).1]) 0 true ∧ okF (R.drop (cutV R 0).2) true = true ∧ (R.drop (cutV R 0).2).length < R.length := by
  obtain ⟨h1, h2, h3⟩ := raw_cut R L 0 true h (fun k => by rw [k] at h0; simp at h0)
  exact ⟨h1, h2, by rw [List.length_drop]; omega⟩
theorem first2_is {f r d : Nat} (hr : min (f / 40) 2 = r) (hd : f - 40 * r = d) : first2 (f : Int) = [(r : Int), (d : Int)] := by
  unfold first2
  by_cases c0 : f < 40
  · rw [if_pos (by omega), show r = 0 by omega, show d = f by omega]; rfl
  · by_cases c1 : f < 80
    · rw [if_neg (by omega), if_pos (by omega), show r = 1 by omega]
      congr 2
      omega
    · rw [if_neg (by omega), if_neg (by omega), show r = 2 by omega]
      congr 2
      omega
end Go.Proofs.Ytineihnipidmfaa
