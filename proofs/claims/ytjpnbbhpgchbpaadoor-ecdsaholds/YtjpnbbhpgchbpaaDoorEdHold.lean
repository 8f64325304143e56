/- What was signed holds, in the words of the program's answers. Plain facts. -/
import Derived.Test.YtjpnbbhpgchbpaaDoorEdNum
import Derived.Test.YtjpnbbhpgchbpaaDoorEdG
import Derived.Test.YtjpnbbhpgchbpaaDoorOBase
namespace Go.Proofs.YtjpnbbhpgchbpaaDoor

theorem ord_QQ : ((OrdN : Nat) : Int) = QQ := by decide
theorem dvd_rest (A : Int) : QQ ∣ A % QQ - A := ⟨-(A / QQ), by
  have := Int.emod_add_mul_ediv A QQ
  generalize QQ = q at *
  rw [Int.mul_neg]
  omega⟩
theorem rest_bd (A : Int) : 0 ≤ A % QQ ∧ A % QQ < QQ := ⟨Int.emod_nonneg _ (by decide), Int.emod_lt_of_pos _ (by decide)⟩
theorem InvO.bd {x z : Int} (h : InvO x z) : 0 ≤ z ∧ z < QQ := by
  unfold InvO OutO at h
  rw [h]
  exact rest_bd _
/-- it is 1 over it -/
theorem InvO.mul {x z : Int} (hx : isSc x) (h : InvO x z) : QQ ∣ x * z - 1 := by
  have h1 := (oout_inv (by have := hx.1; omega) h).2 (by rw [Int.emod_eq_of_lt (by have := hx.1; omega) hx.2]; have := hx.1; omega)
  have h2 := dvd_rest (x * z)
  rw [h1] at h2
  obtain ⟨c, hc⟩ := h2
  exact ⟨-c, by rw [Int.mul_neg, ← hc]; omega⟩
/-- S times the nonce -/
theorem sig_eq {d k r h i : Int} (hk : isSc k) (hi : InvO k i) : QQ ∣ sigS d r h i * k - (h + r * d) := by
  unfold sigS
  obtain ⟨a, ha⟩ := dvd_rest (r * d)
  generalize r * d % QQ = m1 at *
  obtain ⟨b, hb⟩ := dvd_rest (h + m1)
  generalize (h + m1) % QQ = m2 at *
  obtain ⟨c, hc⟩ := dvd_rest (m2 * i)
  generalize m2 * i % QQ = s at *
  obtain ⟨e, he⟩ := InvO.mul hk hi
  refine ⟨a + b + c * k + m2 * e, ?_⟩
  generalize QQ = q at *
  grind
theorem sigS_bd (d r h i : Int) : 0 ≤ sigS d r h i ∧ sigS d r h i < QQ := rest_bd _
theorem sigR_bd (k : Int) : 0 ≤ sigR k ∧ sigR k < QQ := rest_bd _
theorem xOf_neg : ∀ P : Pt, xOf (cneg P) = xOf P
  | none => rfl
  | some (_, _) => rfl
theorem neg_some {P : Pt} (h : P ≠ none) : cneg P ≠ none := by
  cases P with
  | none => exact absurd rfl h
  | some p => intro e; cases e
theorem base_some {k : Int} (hk : isSc k) : cmul k.toNat GG ≠ none := by
  obtain ⟨i, hi⟩ : ∃ i, InvO k i := ⟨_, rfl⟩
  have h1 := InvO.mul hk hi
  have h2 := hi.bd.1
  have h3 := hk.1
  refine cmul_some (j := i.toNat) ?_
  rw [ord_QQ, Int.toNat_of_nonneg h2, Int.toNat_of_nonneg (by omega), Int.mul_comm]
  exact h1
theorem holds_ok {d k h i ik : Int} (hd : isSc d) (hk : isSc k) (hh : 0 ≤ h) (hik : InvO k ik) (hs : isSc (sigS d (sigR k) h ik)) (hi : InvO (sigS d (sigR k) h ik) i) : holdsP (verP (cmul d.toNat GG) h (sigR k) i) (sigR k) := by
  have e1 := sig_eq (d := d) (r := sigR k) (h := h) hk hik
  have e2 := InvO.mul hs hi
  have b1 := sigR_bd k
  have b2 := hi.bd
  have b3 := hd.1
  have b4 := hk.1
  have b5 := hs.1
  have key : verP (cmul d.toNat GG) h (sigR k) i = cmul k.toNat GG := by
    unfold verP
    have b6 := rest_bd (h * i)
    have b7 := rest_bd (sigR k * i)
    refine sign_holds (d := d.toNat) (k := k.toNat) (e := h.toNat) (r := (sigR k).toNat) (s := (sigS d (sigR k) h ik).toNat) (i := i.toNat) ?_ ?_ ?_ ?_
    · rw [ord_QQ, Int.toNat_of_nonneg (by omega), Int.toNat_of_nonneg (by omega), Int.toNat_of_nonneg hh, Int.toNat_of_nonneg b1.1, Int.toNat_of_nonneg (by omega)]; exact e1
    · rw [ord_QQ, Int.toNat_of_nonneg (by omega), Int.toNat_of_nonneg b2.1]; exact e2
    · rw [ord_QQ, Int.toNat_of_nonneg b6.1, Int.toNat_of_nonneg hh, Int.toNat_of_nonneg b2.1]; exact dvd_rest _
    · rw [ord_QQ, Int.toNat_of_nonneg b7.1, Int.toNat_of_nonneg b1.1, Int.toNat_of_nonneg b2.1]; exact dvd_rest _
  refine ⟨by rw [key]; exact base_some hk, by rw [key]; rfl⟩
theorem holds_other {d k h i ik : Int} (hd : isSc d) (hk : isSc k) (hh : 0 ≤ h) (hik : InvO k ik) (hs : isSc (sigS d (sigR k) h ik)) (hi : InvO (QQ - sigS d (sigR k) h ik) i) : holdsP (verP (cmul d.toNat GG) h (sigR k) i) (sigR k) := by
  have e1 := sig_eq (d := d) (r := sigR k) (h := h) hk hik
  have hs2 : isSc (QQ - sigS d (sigR k) h ik) := ⟨by have := hs.2; omega, by have := hs.1; omega⟩
  have e2 := InvO.mul hs2 hi
  have b1 := sigR_bd k
  have b2 := hi.bd
  have b3 := hd.1
  have b4 := hk.1
  have b5 := hs.1
  have key : verP (cmul d.toNat GG) h (sigR k) i = cneg (cmul k.toNat GG) := by
    unfold verP
    have b6 := rest_bd (h * i)
    have b7 := rest_bd (sigR k * i)
    refine sign_other (d := d.toNat) (k := k.toNat) (e := h.toNat) (r := (sigR k).toNat) (s := (sigS d (sigR k) h ik).toNat) (i := i.toNat) ?_ ?_ ?_ ?_
    · rw [ord_QQ, Int.toNat_of_nonneg (by omega), Int.toNat_of_nonneg (by omega), Int.toNat_of_nonneg hh, Int.toNat_of_nonneg b1.1, Int.toNat_of_nonneg (by omega)]; exact e1
    · rw [ord_QQ, Int.toNat_of_nonneg (by omega), Int.toNat_of_nonneg b2.1]; exact e2
    · rw [ord_QQ, Int.toNat_of_nonneg b6.1, Int.toNat_of_nonneg hh, Int.toNat_of_nonneg b2.1]; exact dvd_rest _
    · rw [ord_QQ, Int.toNat_of_nonneg b7.1, Int.toNat_of_nonneg b1.1, Int.toNat_of_nonneg b2.1]; exact dvd_rest _
  refine ⟨by rw [key]; exact neg_some (base_some hk), by rw [key, xOf_neg]; rfl⟩
end Go.Proofs.YtjpnbbhpgchbpaaDoor
