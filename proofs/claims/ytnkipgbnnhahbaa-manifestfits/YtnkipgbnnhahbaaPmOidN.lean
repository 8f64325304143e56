/- Identifiers' bytes, and back. Plain facts. -/
import Derived.Test.YtnkipgbnnhahbaaPmOid
namespace Go.Proofs.Ytnkipgbnnhahbaa
/-- the values that an identifier is told by -/
def valsO (L : List Int) : List Nat := (L.getD 1 0 + 40 * L.getD 0 0).toNat :: (L.drop 2).map Int.toNat
def oidOf (L : List Int) : Except Nat (List Int) :=
  if L.length < 2 ∨ 16 < L.length ∨ 2 < L.getD 0 0 ∨ (L.getD 0 0 < 2 ∧ 39 < L.getD 1 0) then .error 1
  else if ∃ j, j < L.length ∧ 4294967295 < L.getD j 0 then .error 1
  else .ok (b7s (valsO L))
/-- words of 64 bits -/
def wrd (L : List Int) : Prop := ∀ j, 0 ≤ L.getD j 0 ∧ L.getD j 0 < 18446744073709551616
theorem b7s_app : ∀ (A B : List Nat), b7s (A ++ B) = b7s A ++ b7s B
  | [], B => by rw [b7s]; rfl
  | a :: A, B => by rw [List.cons_append, b7s, b7s, b7s_app A B, List.append_assoc]
theorem b7s_next {vs : List Nat} {k : Nat} (h : k < vs.length) : b7s (vs.take (k + 1)) = b7s (vs.take k) ++ b7 (vs.getD k 0) := by
  rw [List.take_add_one, b7s_app]
  congr 1
  rw [List.getElem?_eq_getElem h, List.getD_eq_getElem?_getD, List.getElem?_eq_getElem h]
  simp [b7s]
theorem b7_len (v : Nat) : (b7 v).length ≤ 10 := by
  have := b7F_len 9 (v / 128) [((v % 128 : Nat) : Int)]
  rw [List.length_singleton] at this
  unfold b7
  omega
theorem b7s_len : ∀ vs : List Nat, (b7s vs).length ≤ 10 * vs.length
  | [] => by simp [b7s]
  | v :: vs => by
    have h1 := b7_len v
    have h2 := b7s_len vs
    rw [b7s, List.length_append, List.length_cons]
    omega
theorem byt_appO {A B : List Int} (ha : byt A) (hb : byt B) : byt (A ++ B) := fun j => by
  by_cases k : j < A.length
  · have e : (A ++ B).getD j 0 = A.getD j 0 := by simp [List.getD_eq_getElem?_getD, List.getElem?_append_left k]
    rw [e]; exact ha j
  · have e : (A ++ B).getD j 0 = B.getD (j - A.length) 0 := by rw [List.getD_eq_getElem?_getD, List.getD_eq_getElem?_getD, List.getElem?_append_right (by omega)]
    rw [e]; exact hb _
theorem b7_byt (v : Nat) : byt (b7 v) := b7F_byt 9 _ _ (fun j => by
  cases j with
  | zero => rw [List.getD_cons_zero]; omega
  | succ j => rw [List.getD_cons_succ]; simp)
theorem b7s_byt : ∀ vs : List Nat, byt (b7s vs)
  | [] => fun j => by simp [b7s]
  | v :: vs => by rw [b7s]; exact byt_appO (b7_byt v) (b7s_byt vs)
theorem vals_len {L : List Int} (h : 2 ≤ L.length) : (valsO L).length = L.length - 1 := by
  simp [valsO]
  omega
/-- the value told at the place i of an identifier -/
theorem vals_at {L : List Int} {i : Nat} (h : 0 < i) (hi : i < L.length) : (valsO L).getD (i - 1) 0 = if i = 1 then (L.getD 1 0 + 40 * L.getD 0 0).toNat else (L.getD i 0).toNat := by
  unfold valsO
  by_cases k : i = 1
  · subst k; rfl
  · rw [if_neg k, show i - 1 = (i - 2) + 1 by omega, List.getD_cons_succ, List.getD_eq_getElem?_getD, List.getD_eq_getElem?_getD, List.getElem?_map, List.getElem?_drop, show 2 + (i - 2) = i by omega, List.getElem?_eq_getElem hi]
    rfl
theorem list_two {L : List Int} (h : 2 ≤ L.length) : L = L.getD 0 0 :: L.getD 1 0 :: L.drop 2 := by
  match L, h with
  | a :: b :: L, _ => rfl
/-- what was written is read as it was -/
theorem oid_back {L B : List Int} (w : wrd L) (h : oidOf L = .ok B) : oidP B = .ok L := by
  unfold oidOf at h
  by_cases c : L.length < 2 ∨ 16 < L.length ∨ 2 < L.getD 0 0 ∨ (L.getD 0 0 < 2 ∧ 39 < L.getD 1 0)
  · rw [if_pos c] at h; cases h
  rw [if_neg c] at h
  by_cases d : ∃ j, j < L.length ∧ 4294967295 < L.getD j 0
  · rw [if_pos d] at h; cases h
  rw [if_neg d] at h
  cases h
  have hl : 2 ≤ L.length := by omega
  have w0 := w 0
  have w1 := w 1
  have d0 : ¬ 4294967295 < L.getD 0 0 := fun k => d ⟨0, by omega, k⟩
  have d1 : ¬ 4294967295 < L.getD 1 0 := fun k => d ⟨1, by omega, k⟩
  have hd : ∀ j, j < L.length → ¬ 4294967295 < L.getD j 0 := fun j hj k => d ⟨j, hj, k⟩
  have small : ∀ v, v ∈ valsO L → v ≤ 4294967375 := by
    intro v hv
    unfold valsO at hv
    rcases List.mem_cons.1 hv with e | e
    · omega
    · obtain ⟨x, hx, rfl⟩ := List.mem_map.1 e
      obtain ⟨k, hk, e2⟩ := List.mem_iff_getElem.1 hx
      rw [List.getElem_drop] at e2
      have := hd (2 + k) (by rw [List.length_drop] at hk; omega)
      rw [List.getD_eq_getElem?_getD, List.getElem?_eq_getElem (by rw [List.length_drop] at hk; omega), Option.getD_some, e2] at this
      omega
  have hm : (valsO L).map (fun v : Nat => (v : Int)) = (L.getD 1 0 + 40 * L.getD 0 0) :: L.drop 2 := by
    unfold valsO
    rw [List.map_cons, List.map_map]
    congr 1
    · omega
    · apply List.ext_getElem?
      intro j
      rw [List.getElem?_map]
      by_cases hj : j < (L.drop 2).length
      · have e := w (2 + j)
        rw [List.getElem?_eq_getElem hj, Option.map_some, Option.some.injEq]
        rw [List.length_drop] at hj
        rw [List.getD_eq_getElem?_getD, List.getElem?_eq_getElem (show 2 + j < L.length by omega), Option.getD_some] at e
        simp only [Function.comp, List.getElem_drop]
        omega
      · rw [List.getElem?_eq_none (by omega)]
        rfl
  unfold oidP
  rw [raw_b7s _ _ small, hm, List.nil_append, rawP, if_neg (by simp)]
  show oidFin _ = _
  unfold oidFin
  have f2 : first2 (L.getD 1 0 + 40 * L.getD 0 0) = [L.getD 0 0, L.getD 1 0] := by
    unfold first2
    by_cases k0 : L.getD 0 0 = 0
    · rw [if_pos (by omega), k0]; congr 2; omega
    · by_cases k1 : L.getD 0 0 = 1
      · rw [if_neg (by omega), if_pos (by omega), k1]; congr 2; omega
      · have k2 : L.getD 0 0 = 2 := by omega
        rw [if_neg (by omega), if_neg (by omega), k2]; congr 2; omega
  have g0 : ((L.getD 1 0 + 40 * L.getD 0 0) :: L.drop 2).getD 0 0 = L.getD 1 0 + 40 * L.getD 0 0 := rfl
  have dr : ((L.getD 1 0 + 40 * L.getD 0 0) :: L.drop 2).drop 1 = L.drop 2 := rfl
  have ee : [L.getD 0 0, L.getD 1 0] ++ L.drop 2 = L := (list_two hl).symm
  rw [g0, dr, f2, ee, if_neg, if_neg (by omega)]
  rintro (k | ⟨j, k1, k2, k3⟩)
  · omega
  · have ej : j = (j - 1) + 1 := by omega
    rw [ej, List.getD_cons_succ, List.getD_eq_getElem?_getD, List.getElem?_drop, ← List.getD_eq_getElem?_getD] at k3
    rw [List.length_cons, List.length_drop] at k1
    exact hd _ (by omega) k3
end Go.Proofs.Ytnkipgbnnhahbaa
