/- Numbers in elements: plain facts. -/
import Derived.Test.YtjpnbbhpgchbpaaGreatDoorEdFact
namespace Go.Proofs.YtjpnbbhpgchbpaaGreatDoor
open Go.RowKit

theorem numC_good {B n : List Int} (b : byt B) (h : numP B = .ok n) : byt n ∧ n.length ≤ 64 := by
  unfold numP at h
  obtain ⟨R, hR⟩ : ∃ R, (if B.getD 0 0 = 0 then B.drop 1 else B) = R := ⟨_, rfl⟩
  rw [hR] at h
  have hb : byt R := by
    rw [← hR]
    split
    · exact byt_dropM b 1
    · exact b
  by_cases g : B.length = 0 ∨ 127 < B.getD 0 0 ∨ (1 < B.length ∧ B.getD 0 0 = 0 ∧ B.getD 1 0 < 128)
  · rw [if_pos g] at h; cases h
  · rw [if_neg g] at h
    by_cases g2 : 64 < R.length
    · rw [if_pos g2] at h; cases h
    · rw [if_neg g2] at h; cases h; exact ⟨hb, by omega⟩
theorem partC_no {c t : Int} {m : Bool} {b : List Int} {ks : List Tl} (h : ¬ (c = 0 ∧ t = 2 ∧ m = false)) : partP (.mk c t m b ks) = none := by rw [partP, if_neg h]
theorem partC_bad {c t : Int} {m : Bool} {b : List Int} {ks : List Tl} {e : Nat} (h : numP b = .error e) : partP (.mk c t m b ks) = none := by
  rw [partP, h]
  split <;> rfl
theorem partC_ok {b n : List Int} {ks : List Tl} (h : numP b = .ok n) : partP (.mk 0 2 false b ks) = some n := by rw [partP, if_pos ⟨rfl, rfl, rfl⟩, h]
theorem beN_pad (m : Nat) (X : List Int) : beN (List.replicate m 0 ++ X) = beN X := by
  induction m with
  | zero => rfl
  | succ m ih => rw [List.replicate_succ, List.cons_append, beN_zero, ih]
theorem beN_nonneg {X : List Int} (b : byt X) : 0 ≤ beN X := (pv256_bound X.reverse (byt_rev b)).1
theorem beN_ge {x : Int} {X : List Int} (b : byt (x :: X)) (h : x ≠ 0) : 256 ^ X.length ≤ beN (x :: X) := by
  have h0 := b 0
  have hX : byt X := fun j => by have := b (j + 1); simpa using this
  have h1 := beN_nonneg hX
  unfold beN at *
  rw [List.reverse_cons, pv_append, List.length_reverse]
  simp only [pv, List.getD_cons_zero, Int.mul_zero, Int.add_zero] at *
  have h2 : (256 : Int) ^ X.length * 1 ≤ 256 ^ X.length * x := Int.mul_le_mul_of_nonneg_left (by omega) (Int.pow_nonneg (by decide))
  omega
theorem QQ_256 : QQ ≤ (256 : Int) ^ 48 := by decide +kernel
theorem beN_great {x : Int} {X : List Int} (b : byt (x :: X)) (h : x ≠ 0) (hl : 48 ≤ X.length) : QQ ≤ beN (x :: X) := by
  have h1 := beN_ge b h
  have h2 : (256 : Int) ^ 48 ≤ 256 ^ X.length := by
    obtain ⟨k, hk⟩ : ∃ k, X.length = 48 + k := ⟨X.length - 48, by omega⟩
    rw [hk, Int.pow_add]
    have h3 : (1 : Int) ≤ 256 ^ k := by
      clear hk
      induction k with
      | zero => decide
      | succ k ih => rw [Int.pow_succ]; omega
    have h4 : (256 : Int) ^ 48 * 1 ≤ 256 ^ 48 * 256 ^ k := Int.mul_le_mul_of_nonneg_left h3 (Int.pow_nonneg (by decide))
    omega
  have := QQ_256
  omega
/-- a number of more than 48 bytes is not below N -/
theorem num_great {B n : List Int} (b : byt B) (h : numP B = .ok n) (hl : 48 < n.length) : QQ ≤ beN n := by
  have hb := (numC_good b h).1
  unfold numP at h
  by_cases g : B.length = 0 ∨ 127 < B.getD 0 0 ∨ (1 < B.length ∧ B.getD 0 0 = 0 ∧ B.getD 1 0 < 128)
  · rw [if_pos g] at h; cases h
  rw [if_neg g] at h
  by_cases z : B.getD 0 0 = 0
  · simp only [if_pos z] at h
    split at h
    · cases h
    · cases h
      match B, g, z, hl, hb with
      | [], _, _, hl, _ => simp at hl
      | [_], _, _, hl, _ => simp at hl
      | _ :: y :: ys, g, z, hl, hb =>
        simp only [List.drop_succ_cons, List.drop_zero, List.length_cons, List.getD_cons_zero, List.getD_cons_succ] at *
        exact beN_great hb (by omega) (by omega)
  · simp only [if_neg z] at h
    split at h
    · cases h
    · cases h
      match B, g, z, hl, hb with
      | [], _, _, hl, _ => simp at hl
      | y :: ys, g, z, hl, hb =>
        simp only [List.length_cons, List.getD_cons_zero] at *
        exact beN_great hb z (by omega)
theorem byt_pad (m : Nat) {X : List Int} (b : byt X) : byt (List.replicate m 0 ++ X) := by
  induction m with
  | zero => exact b
  | succ m ih => rw [List.replicate_succ, List.cons_append]; exact byt_consP (by decide) ih
theorem sigC_none {c t : Int} {m : Bool} {bb : List Int} {ks : List Tl} (h : ¬ ((c = 0 ∧ t = 16 ∧ m = true) ∧ ks.length = 2)) : sigP (.mk c t m bb ks) = none := by
  match ks, h with
  | [], _ => rfl
  | [_], _ => rfl
  | [a, b], h => rw [sigP, if_neg (fun h' => h ⟨h', rfl⟩)]
  | _ :: _ :: _ :: _, _ => rfl
theorem sigC_some {bb : List Int} {a b : Tl} {x y : List Int} (hx : partP a = some x) (hy : partP b = some y) : sigP (.mk 0 16 true bb [a, b]) = some (x, y) := by
  rw [sigP, if_pos ⟨rfl, rfl, rfl⟩, hx, hy]
theorem sigC_no {bb : List Int} {ks : List Tl} {i : Nat} {k : Tl} (hk : ks[i]? = some k) (h : partP k = none) : sigP (.mk 0 16 true bb ks) = none := by
  match ks, i, hk with
  | [], _, hk => simp at hk
  | [_], _, _ => rfl
  | [a, b], 0, hk =>
    simp at hk
    subst hk
    rw [sigP, if_pos ⟨rfl, rfl, rfl⟩, h]
  | [a, b], 1, hk =>
    simp at hk
    subst hk
    rw [sigP, if_pos ⟨rfl, rfl, rfl⟩, h]
    cases partP a <;> rfl
  | [a, b], i + 2, hk => simp at hk
  | _ :: _ :: _ :: _, _, _ => rfl
theorem kidC_small {c t : Int} {m : Bool} {bb b0 : List Int} {c0 t0 : Int} {m0 : Bool} {l0 ks : List Tl} {i : Nat} (hw : WfT (.mk c t m bb ks)) (hl : (bytesT (.mk c t m bb ks)).length ≤ 1048576) (h2 : ks.length = 2) (hk : ks[i]? = some (.mk c0 t0 m0 b0 l0)) : byt b0 ∧ b0.length ≤ 1048576 := by
  match ks, h2, i, hk with
  | [x, y], _, 0, hk =>
    simp at hk
    subst hk
    simp only [WfT, WfL] at hw
    obtain ⟨_, _, _, ⟨_, _, w0, _⟩, _, _⟩ := hw
    rw [bytesT_len] at hl
    simp only [bytesL, List.length_append, bytesT_len, List.append_nil] at hl
    exact ⟨w0, by omega⟩
  | [x, y], _, 1, hk =>
    simp at hk
    subst hk
    simp only [WfT, WfL] at hw
    obtain ⟨_, _, _, _, ⟨_, _, w0, _⟩, _⟩ := hw
    rw [bytesT_len] at hl
    simp only [bytesL, List.length_append, bytesT_len, List.append_nil] at hl
    exact ⟨w0, by omega⟩
  | [x, y], _, i + 2, hk => simp at hk
end Go.Proofs.YtjpnbbhpgchbpaaGreatDoor
