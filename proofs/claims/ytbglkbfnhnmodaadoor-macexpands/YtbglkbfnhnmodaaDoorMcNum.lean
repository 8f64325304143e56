/- HMAC's and HKDF's bytes. Plain facts. -/
import Derived.Test.YtbglkbfnhnmodaaDoorSSum
import Derived.Test.YtbglkbfnhnmodaaDoorSOut
namespace Go.Proofs.YtbglkbfnhnmodaaDoor
open Go.RowKit

def xorN (c : Int) (k : List Int) : List Int := k.map fun x => bits .xor .u8 x c
theorem xorN_len (c : Int) (k : List Int) : (xorN c k).length = k.length := List.length_map ..
theorem xor_byte {x c : Int} (x0 : 0 ≤ x) (x1 : x < 256) (c0 : 0 ≤ c) (c1 : c < 256) : 0 ≤ bits .xor .u8 x c ∧ bits .xor .u8 x c < 256 := by
  obtain ⟨a, rfl⟩ := Int.eq_ofNat_of_zero_le x0
  obtain ⟨b, rfl⟩ := Int.eq_ofNat_of_zero_le c0
  rw [u8_xor_nat a b (by omega) (by omega)]
  have := Nat.xor_lt_two_pow (x := a) (y := b) (n := 8) (by omega) (by omega)
  omega
theorem xorN_get (c : Int) (k : List Int) (j : Nat) (h : j < k.length) : (xorN c k).getD j 0 = bits .xor .u8 (k.getD j 0) c := by
  simp [xorN, List.getD_eq_getElem?_getD, h]
theorem xorN_byt {c : Int} {k : List Int} (h : byt k) (c0 : 0 ≤ c) (c1 : c < 256) : byt (xorN c k) := by
  apply byt_of
  intro j hj
  rw [xorN_len] at hj
  rw [xorN_get c k j hj]
  exact xor_byte (h j).1 (h j).2 c0 c1
theorem OutB.byt {H : List Int} : ∀ {m : Nat} {O : List Int}, OutB H m O → byt O
  | 0, O, h => by rw [show O = [] from h]; exact fun j => ⟨by simp, by simp⟩
  | m + 1, O, h => by
    obtain ⟨O', Z, rfl, h1, _, h3, _⟩ := h
    exact byt_app h1.byt h3
theorem SumIs.byt {K H B O : List Int} (h : SumIs K H B O) : byt O := by
  obtain ⟨_, _, h⟩ := h
  exact h.byt
theorem SumIs.ln {K H B O : List Int} (h : SumIs K H B O) : O.length = 48 := by
  obtain ⟨_, _, h⟩ := h
  exact h.len
/-- a key, or its digest -/
def ShortIs (key D : List Int) : Prop := if key.length ≤ 128 then D = key else SumIs KS HS key D
theorem ShortIs.one {key D E : List Int} (h : ShortIs key D) (k : ShortIs key E) : D = E := by
  unfold ShortIs at h k
  split at h
  · rw [h]; rename_i l; rw [if_pos l] at k; exact k.symm
  · rename_i l; rw [if_neg l] at k; exact h.one k
theorem ShortIs.ln {key D : List Int} (h : ShortIs key D) : D.length ≤ 128 := by
  unfold ShortIs at h
  split at h
  · rename_i l; rw [h]; exact l
  · rw [h.ln]; decide
theorem ShortIs.byt {key D : List Int} (h : ShortIs key D) (b : byt key) : byt D := by
  unfold ShortIs at h
  split at h
  · rw [h]; exact b
  · exact h.byt
/-- noughts behind, up to j bytes -/
def fillN (D : List Int) (j : Nat) : List Int := D ++ List.replicate (j - D.length) 0
theorem fillN_len {D : List Int} {j : Nat} (h : D.length ≤ j) : (fillN D j).length = j := by
  rw [fillN, List.length_append, List.length_replicate]; omega
theorem fillN_0 (D : List Int) : fillN D D.length = D := by simp [fillN]
theorem fillN_succ {D : List Int} {j : Nat} (h : D.length ≤ j) : u8s (fillN D j) ++ [.int .u8 0] = u8s (fillN D (j + 1)) := by
  rw [fillN, fillN, show j + 1 - D.length = (j - D.length) + 1 by omega, List.replicate_succ']
  simp [u8s]
theorem fillN_byt {D : List Int} {j : Nat} (h : byt D) : byt (fillN D j) := byt_app h (fun i => by rw [getD_rep]; exact ⟨by decide, by decide⟩)
/-- a digest by a key -/
def HmacIs (key b O : List Int) : Prop := ∃ D I, ShortIs key D ∧ SumIs KS HS (xorN 54 (fillN D 128) ++ b) I ∧ SumIs KS HS (xorN 92 (fillN D 128) ++ I) O
theorem HmacIs.one {key b O Q : List Int} (h : HmacIs key b O) (k : HmacIs key b Q) : O = Q := by
  obtain ⟨D, I, h1, h2, h3⟩ := h
  obtain ⟨E, J, k1, k2, k3⟩ := k
  obtain rfl := h1.one k1
  obtain rfl := h2.one k2
  exact h3.one k3
theorem HmacIs.ln {key b O : List Int} (h : HmacIs key b O) : O.length = 48 := by
  obtain ⟨_, _, _, _, h⟩ := h
  exact h.ln
theorem HmacIs.byt {key b O : List Int} (h : HmacIs key b O) : byt O := by
  obtain ⟨_, _, _, _, h⟩ := h
  exact h.byt
/-- a long key is as its digest -/
theorem HmacIs.long {key D b O : List Int} (h : HmacIs key b O) (hl : 128 < key.length) (hD : SumIs KS HS key D) : HmacIs D b O := by
  obtain ⟨E, I, h1, h2, h3⟩ := h
  unfold ShortIs at h1
  rw [if_neg (by omega)] at h1
  obtain rfl := hD.one h1
  exact ⟨D, I, by unfold ShortIs; rw [if_pos (by rw [hD.ln]; decide)], h2, h3⟩
/-- i digests, the last of them and all of them -/
def ExpIs (prk info : List Int) : Nat → List Int → List Int → Prop
  | 0, last, out => last = [] ∧ out = []
  | i + 1, last, out => ∃ l o, ExpIs prk info i l o ∧ HmacIs prk (l ++ info ++ [((i : Int) + 1) % 256]) last ∧ out = o ++ last
theorem ExpIs.one {prk info : List Int} : ∀ {i : Nat} {l o m p : List Int}, ExpIs prk info i l o → ExpIs prk info i m p → l = m ∧ o = p
  | 0, _, _, _, _, h, k => ⟨by rw [h.1, k.1], by rw [h.2, k.2]⟩
  | i + 1, _, _, _, _, h, k => by
    obtain ⟨l, o, h1, h2, rfl⟩ := h
    obtain ⟨m, p, k1, k2, rfl⟩ := k
    obtain ⟨rfl, rfl⟩ := h1.one k1
    obtain rfl := h2.one k2
    exact ⟨rfl, rfl⟩
theorem ExpIs.ln {prk info : List Int} : ∀ {i : Nat} {l o : List Int}, ExpIs prk info i l o → o.length = 48 * i ∧ l.length ≤ 48
  | 0, _, _, h => by rw [h.1, h.2]; exact ⟨rfl, by decide⟩
  | i + 1, _, _, h => by
    obtain ⟨l, o, h1, h2, rfl⟩ := h
    rw [List.length_append, h1.ln.1, h2.ln]
    omega
theorem ExpIs.byt {prk info : List Int} : ∀ {i : Nat} {l o : List Int}, ExpIs prk info i l o → byt l ∧ byt o
  | 0, _, _, h => by rw [h.1, h.2]; exact ⟨fun j => ⟨by simp, by simp⟩, fun j => ⟨by simp, by simp⟩⟩
  | i + 1, _, _, h => by
    obtain ⟨l, o, h1, h2, rfl⟩ := h
    exact ⟨h2.byt, byt_app h1.byt.2 h2.byt⟩
theorem ExpIs.begins {prk info : List Int} {i : Nat} {l o : List Int} (h : ExpIs prk info i l o) : ∀ {d : Nat} {m p : List Int}, ExpIs prk info (i + d) m p → p.take (48 * i) = o
  | 0, _, _, k => by
    obtain ⟨rfl, rfl⟩ := h.one k
    rw [List.take_of_length_le (by rw [h.ln.1]; exact Nat.le_refl _)]
  | d + 1, _, _, k => by
    obtain ⟨l', o', k1, k2, rfl⟩ := k
    have e := h.begins k1
    rw [List.take_append_of_le_length (by rw [k1.ln.1]; exact Nat.mul_le_mul_left _ (Nat.le_add_right i d))]
    exact e
/-- n bytes made of a key -/
def MadeIs (prk info : List Int) (n : Nat) (X : List Int) : Prop := ∃ i l o, ExpIs prk info i l o ∧ n ≤ 48 * i ∧ X = o.take n
theorem MadeIs.ln {prk info : List Int} {n : Nat} {X : List Int} (h : MadeIs prk info n X) : X.length = n := by
  obtain ⟨i, l, o, h1, h2, rfl⟩ := h
  rw [List.length_take, h1.ln.1]
  omega
theorem MadeIs.byt {prk info : List Int} {n : Nat} {X : List Int} (h : MadeIs prk info n X) : byt X := by
  obtain ⟨i, l, o, h1, h2, rfl⟩ := h
  intro j
  rw [List.getD_eq_getElem?_getD, List.getElem?_take]
  split
  · rw [← List.getD_eq_getElem?_getD]; exact h1.byt.2 j
  · exact ⟨by decide, by decide⟩
theorem MadeIs.begins {prk info : List Int} {n m : Nat} {X Y : List Int} (h : MadeIs prk info n X) (k : MadeIs prk info m Y) (hm : m ≤ n) : X.take m = Y := by
  obtain ⟨i, l, o, h1, h2, rfl⟩ := h
  obtain ⟨i', l', o', k1, k2, rfl⟩ := k
  rw [List.take_take, Nat.min_eq_left hm]
  by_cases e : i ≤ i'
  · obtain ⟨d, rfl⟩ := Nat.exists_eq_add_of_le e
    rw [← h1.begins k1, List.take_take, Nat.min_eq_left (by omega)]
  · obtain ⟨d, rfl⟩ := Nat.exists_eq_add_of_le (show i' ≤ i by omega)
    rw [← k1.begins h1, List.take_take, Nat.min_eq_left (by omega)]
theorem MadeIs.one {prk info : List Int} {n : Nat} {X Y : List Int} (h : MadeIs prk info n X) (k : MadeIs prk info n Y) : X = Y := by
  rw [← h.begins k (Nat.le_refl _), List.take_of_length_le (by rw [h.ln]; exact Nat.le_refl _)]
end Go.Proofs.YtbglkbfnhnmodaaDoor
