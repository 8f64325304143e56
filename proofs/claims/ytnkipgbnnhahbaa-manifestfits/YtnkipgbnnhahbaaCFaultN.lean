/- The bytes of a point: plain facts. -/
import Derived.Test.YtnkipgbnnhahbaaByt
import Derived.Test.YtnkipgbnnhahbaaCPt
namespace Go.Proofs.Ytnkipgbnnhahbaa
open Go.RowKit
theorem drop_getD (bs : List Int) (k j : Nat) : (bs.drop k).getD j 0 = bs.getD (k + j) 0 := by
  simp [List.getD_eq_getElem?_getD, List.getElem?_drop]
theorem take_getD (bs : List Int) (k j : Nat) (h : j < k) : (bs.take k).getD j 0 = bs.getD j 0 := by
  simp [List.getD_eq_getElem?_getD, h]
theorem byt_drop {bs : List Int} (h : byt bs) (k : Nat) : byt (bs.drop k) := fun j => by rw [drop_getD]; exact h _
theorem byt_take {bs : List Int} (h : byt bs) (k : Nat) : byt (bs.take k) := fun j => by
  by_cases hj : j < k
  · rw [take_getD _ _ _ hj]; exact h _
  · rw [List.getD_eq_getElem?_getD, List.getElem?_eq_none (by simp; omega)]; decide
/-- the coordinates that 97 bytes tell -/
def ptX (bs : List Int) : List Int := (bs.drop 1).take 48
def ptY (bs : List Int) : List Int := bs.drop 49
theorem ptX_len {bs : List Int} (h : bs.length = 97) : (ptX bs).length = 48 := by simp [ptX]; omega
theorem ptY_len {bs : List Int} (h : bs.length = 97) : (ptY bs).length = 48 := by simp [ptY]; omega
theorem ptX_byt {bs : List Int} (h : byt bs) : byt (ptX bs) := byt_take (byt_drop h 1) 48
theorem ptY_byt {bs : List Int} (h : byt bs) : byt (ptY bs) := byt_drop h 49
theorem bs97 {w : World} {v : Value} {bs : List Int} (h : Bs w v bs) (hl : bs.length = 97) : ∃ b o cap, v = .slice (some ⟨b, o, none⟩) 97 cap ∧ 97 ≤ cap ∧ cap ≤ maxLen ∧ b < w.heap.size ∧ w.cell? ⟨b, o, none⟩ = some (.int .u8 (bs.getD 0 0)) ∧ Bs w (.slice (some ⟨b, o + 1, none⟩) 48 (cap - 1)) (ptX bs) ∧ Bs w (.slice (some ⟨b, o + 49, none⟩) 48 (cap - 49)) (ptY bs) := by
  obtain ⟨ao, cap, rfl, h2, h3, h4⟩ := h
  obtain ⟨b, o, rfl, h5, h6⟩ := h4 (by omega)
  have c0 := h6 0 (by omega)
  rw [Nat.add_zero] at c0
  refine ⟨b, o, cap, by rw [hl], by omega, h2, h5, c0, ?_, ?_⟩
  · refine ⟨_, cap - 1, by rw [ptX_len hl], by omega, by rw [ptX_len hl]; omega, fun _ => ⟨b, o + 1, rfl, h5, fun j hj => ?_⟩⟩
    rw [ptX_len hl] at hj
    rw [ptX, take_getD _ _ _ hj, drop_getD, ← h6 (1 + j) (by omega), Nat.add_assoc]
  · refine ⟨_, cap - 49, by rw [ptY_len hl], by omega, by rw [ptY_len hl]; omega, fun _ => ⟨b, o + 49, rfl, h5, fun j hj => ?_⟩⟩
    rw [ptY_len hl] at hj
    rw [ptY, drop_getD, ← h6 (49 + j) (by omega), Nat.add_assoc]
theorem be_lt {bs : List Int} (hB : byt bs) (hl : bs.length = 48) : 0 ≤ beN bs ∧ beN bs < 18446744073709551616 ^ 6 := by
  have h := pv256_bound bs.reverse (byt_rev hB)
  rw [List.length_reverse, hl] at h
  exact ⟨h.1, Int.lt_of_lt_of_le h.2 (by decide)⟩
/-- bytes that tell no point, and the error's number -/
def DecBad (bs : List Int) (c : Int) : Prop :=
  (bs.length < 97 ∧ c = 6) ∨ (97 < bs.length ∧ c = 8) ∨ (bs.length = 97 ∧ ¬ bs.getD 0 0 = 4 ∧ c = 7) ∨ (bs.length = 97 ∧ bs.getD 0 0 = 4 ∧ (¬ beN (ptX bs) < PP ∨ ¬ beN (ptY bs) < PP) ∧ c = 3) ∨
  (bs.length = 97 ∧ bs.getD 0 0 = 4 ∧ beN (ptX bs) < PP ∧ beN (ptY bs) < PP ∧ ¬ IsOn false (beN (ptX bs)) (beN (ptY bs)) ∧ c = 4)
/-- bytes that tell a point -/
def DecOk (bs : List Int) : Prop := bs.length = 97 ∧ bs.getD 0 0 = 4 ∧ beN (ptX bs) < PP ∧ beN (ptY bs) < PP ∧ IsOn false (beN (ptX bs)) (beN (ptY bs))
theorem dec_either (bs : List Int) : DecOk bs ∨ ∃ c, DecBad bs c := by
  by_cases h1 : bs.length < 97
  · exact .inr ⟨6, .inl ⟨h1, rfl⟩⟩
  by_cases h2 : 97 < bs.length
  · exact .inr ⟨8, .inr (.inl ⟨h2, rfl⟩)⟩
  have h3 : bs.length = 97 := by omega
  by_cases h4 : bs.getD 0 0 = 4
  · by_cases h5 : beN (ptX bs) < PP
    · by_cases h6 : beN (ptY bs) < PP
      · by_cases h7 : IsOn false (beN (ptX bs)) (beN (ptY bs))
        · exact .inl ⟨h3, h4, h5, h6, h7⟩
        · exact .inr ⟨4, .inr (.inr (.inr (.inr ⟨h3, h4, h5, h6, h7, rfl⟩)))⟩
      · exact .inr ⟨3, .inr (.inr (.inr (.inl ⟨h3, h4, .inr h6, rfl⟩)))⟩
    · exact .inr ⟨3, .inr (.inr (.inr (.inl ⟨h3, h4, .inl h5, rfl⟩)))⟩
  · exact .inr ⟨7, .inr (.inr (.inl ⟨h3, h4, rfl⟩))⟩
theorem dec_range {bs : List Int} {c : Int} (h : DecBad bs c) : 1 ≤ c ∧ c ≤ 21 := by
  rcases h with ⟨_, rfl⟩ | ⟨_, rfl⟩ | ⟨_, _, rfl⟩ | ⟨_, _, _, rfl⟩ | ⟨_, _, _, _, _, rfl⟩ <;> decide
end Go.Proofs.Ytnkipgbnnhahbaa
