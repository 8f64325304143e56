/- A signature's bytes. A signature's bytes: what was written is read as it was. Plain facts. Numbers in elements: plain facts. -/
import Derived.Test.YtjpnbbhpgchbpaaGreatDoorRows
import Derived.Test.YtjpnbbhpgchbpaaGreatDoorEdG
import Derived.Test.YtjpnbbhpgchbpaaGreatDoorDrTG
import Derived.Test.YtjpnbbhpgchbpaaGreatDoorPmNG
import Derived.Deep.WholeRow
import Derived.Deep.RegionHeld3
import Derived.Deep.DeepCutAuto
import Derived.Deep.DeepFit
namespace Go.Proofs.YtjpnbbhpgchbpaaGreatDoor
open Go.RowKit

/-- a signature's element, of two numbers' bodies -/
def sigT (x y : List Int) : Tl := .mk 0 16 true [] [.mk 0 2 false x [], .mk 0 2 false y []]
/-- a number in an element -/
def partP : Tl → Option (List Int)
  | .mk c t m b _ => if c = 0 ∧ t = 2 ∧ m = false then (match numP b with | .ok n => some n | .error _ => none) else none
/-- two numbers in a list -/
def sigP : Tl → Option (List Int × List Int)
  | .mk c t m _ [a, b] => if c = 0 ∧ t = 16 ∧ m = true then (match partP a, partP b with | some x, some y => some (x, y) | _, _ => none) else none
  | _ => none
/-- 48 bytes of a number -/
def Is48 (X : List Int) (r : Int) : Prop := X.length = 48 ∧ byt X ∧ beN X = r
end Go.Proofs.YtjpnbbhpgchbpaaGreatDoor

namespace Go.Proofs.YtjpnbbhpgchbpaaGreatDoor
open Go.RowKit

theorem beN_zero (X : List Int) : beN ((0 : Int) :: X) = beN X := by
  unfold beN
  rw [List.reverse_cons, pv_append]
  simp [pv]
theorem beN_less : ∀ X : List Int, beN (lessZ X) = beN X
  | [] => rfl
  | x :: xs => by
    rw [lessZ]
    split
    · rename_i h
      subst h
      rw [beN_less xs, beN_zero]
    · rfl
theorem num48 {X : List Int} (hl : X.length = 48) : ∃ x, numOf X = .ok x ∧ x.length ≤ 49 := by
  have h1 : (lessZ X).length ≤ 48 := by
    rw [lessZ_drop, List.length_drop]
    omega
  unfold numOf
  rw [if_neg (by omega)]
  by_cases c : (lessZ X).length = 0 ∨ 127 < (lessZ X).getD 0 0
  · exact ⟨_, by rw [if_pos c], by rw [List.length_cons]; omega⟩
  · exact ⟨_, by rw [if_neg c], by omega⟩
theorem numOf_byt {X x : List Int} (b : byt X) (h : numOf X = .ok x) : byt x := by
  have hl : byt (lessZ X) := by rw [lessZ_drop]; exact byt_dropM b _
  unfold numOf at h
  split at h
  · cases h
  · split at h
    · cases h
      exact byt_consP (by decide) hl
    · cases h
      exact hl
theorem lenB_small {n : Nat} (h : n < 128) : (lenB n).length = 1 := by
  unfold lenB
  rw [if_pos h]
  rfl
theorem sig_len {x y : List Int} (hx : x.length ≤ 49) (hy : y.length ≤ 49) : (bytesT (sigT x y)).length ≤ 200 := by
  have k1 : (bytesT (.mk 0 2 false x [])).length = x.length + 2 := by
    rw [bytesT_len, bytesL, List.append_nil, lenB_small (by omega)]
    omega
  have k2 : (bytesT (.mk 0 2 false y [])).length = y.length + 2 := by
    rw [bytesT_len, bytesL, List.append_nil, lenB_small (by omega)]
    omega
  unfold sigT
  rw [bytesT_len]
  simp only [bytesL, List.nil_append, List.append_nil, List.length_append, k1, k2]
  rw [lenB_small (by omega)]
  omega
theorem sig_fine (x y : List Int) : fineT (sigT x y) = true := by
  simp [sigT, fineT, fineL, fine1]
theorem sig_dep (x y : List Int) : depT (sigT x y) = 2 := by
  simp [sigT, depT, depL]
theorem sig_sz (x y : List Int) : szT (sigT x y) = 3 := by
  simp [sigT, szT, szL]
theorem sig_wr {x y : List Int} (hx : x.length ≤ 49) (hy : y.length ≤ 49) : wrN (sigT x y) = 0 := by
  have := sig_len hx hy
  unfold wrN
  rw [if_pos (sig_fine x y), if_neg (by rw [sig_dep]; omega), if_neg (by omega)]
theorem sig_wf {x y : List Int} (bx : byt x) (bY : byt y) : WfT (sigT x y) := by
  simp only [sigT, WfT, WfL]
  exact ⟨by omega, by omega, byt_nilP, ⟨by omega, by omega, bx, trivial⟩, ⟨by omega, by omega, bY, trivial⟩, trivial⟩
theorem sig_byt {x y : List Int} (bx : byt x) (bY : byt y) : byt (bytesT (sigT x y)) := bytesT_byt (sig_fine x y) (sig_wf bx bY)
theorem sig_parse {x y : List Int} (hx : x.length ≤ 49) (hy : y.length ≤ 49) : parseP (bytesT (sigT x y)) = .ok (sigT x y) := by
  have hl := sig_len hx hy
  have h := parse_of (T := sigT x y) (Y := []) (sig_fine x y) (by rw [sig_dep]; omega) (by rw [List.append_nil]; omega)
  rw [List.append_nil] at h
  rw [h]
  rfl
theorem sigP_back {X Y x y : List Int} (bX : byt X) (bY : byt Y) (hx : numOf X = .ok x) (hy : numOf Y = .ok y) : sigP (sigT x y) = some (lessZ X, lessZ Y) := by
  have h1 := (num_back bX hx).1
  have h2 := (num_back bY hy).1
  simp only [sigT, sigP, partP, h1, h2]
  simp
/-- a signature's element, as it lies -/
theorem sig_at {w : World} {g : Nat} {xv yv : Value} {x y : List Int} (hx : Bs w xv x) (hy : Bs w yv y) (B : Blk w g [.int .i64 0, .int .i64 2, .bool false, xv, .slice none 0 0, .int .i64 0, .int .i64 2, .bool false, yv, .slice none 0 0]) : TlAt w (sigT x y) [.int .i64 0, .int .i64 16, .bool true, .slice none 0 0, .slice (some ⟨g, 0, none⟩) 2 2] := by
  have z0 : Bs w (.slice none 0 0) [] := ⟨none, 0, rfl, by decide, by decide, fun h => by simp at h⟩
  unfold sigT
  rw [TlAt]
  refine ⟨_, _, _, rfl, z0, by show 2 ≤ 2; omega, by decide, fun _ => ⟨g, 0, rfl, ?_⟩⟩
  rw [KidsAt]
  refine ⟨⟨[.int .i64 0, .int .i64 2, .bool false, xv, .slice none 0 0], ⟨B.lt, fun j v hj => ?_⟩, ?_⟩, ?_⟩
  · rw [Nat.zero_add]
    refine B.cell j v ?_
    match j, hj with
    | 0, h => exact h
    | 1, h => exact h
    | 2, h => exact h
    | 3, h => exact h
    | 4, h => exact h
    | j + 5, h => simp at h
  · rw [TlAt]
    exact ⟨_, _, _, rfl, hx, by decide, by decide, fun h => absurd h (by simp)⟩
  · rw [KidsAt]
    refine ⟨⟨[.int .i64 0, .int .i64 2, .bool false, yv, .slice none 0 0], ⟨B.lt, fun j v hj => ?_⟩, ?_⟩, ?_⟩
    · rw [Nat.zero_add]
      refine B.cell (5 + j) v ?_
      match j, hj with
      | 0, h => exact h
      | 1, h => exact h
      | 2, h => exact h
      | 3, h => exact h
      | 4, h => exact h
      | j + 5, h => simp at h
    · rw [TlAt]
      exact ⟨_, _, _, rfl, hy, by decide, by decide, fun h => absurd h (by simp)⟩
    · rw [KidsAt]; trivial
end Go.Proofs.YtjpnbbhpgchbpaaGreatDoor

namespace Go.Proofs.YtjpnbbhpgchbpaaGreatDoor
open Go.RowKit

theorem numC_good {B n : List Int} (b : byt B) (h : numP B = .ok n) : byt n ∧ n.length ≤ 64 := by
  unfold numP at h
  obtain ⟨R, hR⟩ : ∃ R, (if B.getD 0 0 = 0 then B.drop 1 else B) = R := ⟨_, rfl⟩
  rw [hR] at h
  have hb : byt R := by
    rw [← hR]
    split
    · exact byt_dropM b 1
    · exact b
  by_cases g : B.length = 0 ∨ 127 < B.getD 0 0 ∨ (1 < B.length ∧ B.getD 0 0 = 0 ∧ B.getD 1 0 < 128)
  · rw [if_pos g] at h; cases h
  · rw [if_neg g] at h
    by_cases g2 : 64 < R.length
    · rw [if_pos g2] at h; cases h
    · rw [if_neg g2] at h; cases h; exact ⟨hb, by omega⟩
theorem partC_no {c t : Int} {m : Bool} {b : List Int} {ks : List Tl} (h : ¬ (c = 0 ∧ t = 2 ∧ m = false)) : partP (.mk c t m b ks) = none := by rw [partP, if_neg h]
theorem partC_bad {c t : Int} {m : Bool} {b : List Int} {ks : List Tl} {e : Nat} (h : numP b = .error e) : partP (.mk c t m b ks) = none := by
  rw [partP, h]
  split <;> rfl
theorem partC_ok {b n : List Int} {ks : List Tl} (h : numP b = .ok n) : partP (.mk 0 2 false b ks) = some n := by rw [partP, if_pos ⟨rfl, rfl, rfl⟩, h]
theorem beN_pad (m : Nat) (X : List Int) : beN (List.replicate m 0 ++ X) = beN X := by
  induction m with
  | zero => rfl
  | succ m ih => rw [List.replicate_succ, List.cons_append, beN_zero, ih]
theorem beN_nonneg {X : List Int} (b : byt X) : 0 ≤ beN X := (pv256_bound X.reverse (byt_rev b)).1
theorem beN_ge {x : Int} {X : List Int} (b : byt (x :: X)) (h : x ≠ 0) : 256 ^ X.length ≤ beN (x :: X) := by
  have h0 := b 0
  have hX : byt X := fun j => by have := b (j + 1); simpa using this
  have h1 := beN_nonneg hX
  unfold beN at *
  rw [List.reverse_cons, pv_append, List.length_reverse]
  simp only [pv, List.getD_cons_zero, Int.mul_zero, Int.add_zero] at *
  have h2 : (256 : Int) ^ X.length * 1 ≤ 256 ^ X.length * x := Int.mul_le_mul_of_nonneg_left (by omega) (Int.pow_nonneg (by decide))
  omega
theorem QQ_256 : QQ ≤ (256 : Int) ^ 48 := by decide +kernel
theorem beN_great {x : Int} {X : List Int} (b : byt (x :: X)) (h : x ≠ 0) (hl : 48 ≤ X.length) : QQ ≤ beN (x :: X) := by
  have h1 := beN_ge b h
  have h2 : (256 : Int) ^ 48 ≤ 256 ^ X.length := by
    obtain ⟨k, hk⟩ : ∃ k, X.length = 48 + k := ⟨X.length - 48, by omega⟩
    rw [hk, Int.pow_add]
    have h3 : (1 : Int) ≤ 256 ^ k := by
      clear hk
      induction k with
      | zero => decide
      | succ k ih => rw [Int.pow_succ]; omega
    have h4 : (256 : Int) ^ 48 * 1 ≤ 256 ^ 48 * 256 ^ k := Int.mul_le_mul_of_nonneg_left h3 (Int.pow_nonneg (by decide))
    omega
  have := QQ_256
  omega
/-- a number of more than 48 bytes is not below N -/
theorem num_great {B n : List Int} (b : byt B) (h : numP B = .ok n) (hl : 48 < n.length) : QQ ≤ beN n := by
  have hb := (numC_good b h).1
  unfold numP at h
  by_cases g : B.length = 0 ∨ 127 < B.getD 0 0 ∨ (1 < B.length ∧ B.getD 0 0 = 0 ∧ B.getD 1 0 < 128)
  · rw [if_pos g] at h; cases h
  rw [if_neg g] at h
  by_cases z : B.getD 0 0 = 0
  · simp only [if_pos z] at h
    split at h
    · cases h
    · cases h
      match B, g, z, hl, hb with
      | [], _, _, hl, _ => simp at hl
      | [_], _, _, hl, _ => simp at hl
      | _ :: y :: ys, g, z, hl, hb =>
        simp only [List.drop_succ_cons, List.drop_zero, List.length_cons, List.getD_cons_zero, List.getD_cons_succ] at *
        exact beN_great hb (by omega) (by omega)
  · simp only [if_neg z] at h
    split at h
    · cases h
    · cases h
      match B, g, z, hl, hb with
      | [], _, _, hl, _ => simp at hl
      | y :: ys, g, z, hl, hb =>
        simp only [List.length_cons, List.getD_cons_zero] at *
        exact beN_great hb z (by omega)
theorem byt_pad (m : Nat) {X : List Int} (b : byt X) : byt (List.replicate m 0 ++ X) := by
  induction m with
  | zero => exact b
  | succ m ih => rw [List.replicate_succ, List.cons_append]; exact byt_consP (by decide) ih
theorem sigC_none {c t : Int} {m : Bool} {bb : List Int} {ks : List Tl} (h : ¬ ((c = 0 ∧ t = 16 ∧ m = true) ∧ ks.length = 2)) : sigP (.mk c t m bb ks) = none := by
  match ks, h with
  | [], _ => rfl
  | [_], _ => rfl
  | [a, b], h => rw [sigP, if_neg (fun h' => h ⟨h', rfl⟩)]
  | _ :: _ :: _ :: _, _ => rfl
theorem sigC_some {bb : List Int} {a b : Tl} {x y : List Int} (hx : partP a = some x) (hy : partP b = some y) : sigP (.mk 0 16 true bb [a, b]) = some (x, y) := by
  rw [sigP, if_pos ⟨rfl, rfl, rfl⟩, hx, hy]
theorem sigC_no {bb : List Int} {ks : List Tl} {i : Nat} {k : Tl} (hk : ks[i]? = some k) (h : partP k = none) : sigP (.mk 0 16 true bb ks) = none := by
  match ks, i, hk with
  | [], _, hk => simp at hk
  | [_], _, _ => rfl
  | [a, b], 0, hk =>
    simp at hk
    subst hk
    rw [sigP, if_pos ⟨rfl, rfl, rfl⟩, h]
  | [a, b], 1, hk =>
    simp at hk
    subst hk
    rw [sigP, if_pos ⟨rfl, rfl, rfl⟩, h]
    cases partP a <;> rfl
  | [a, b], i + 2, hk => simp at hk
  | _ :: _ :: _ :: _, _, _ => rfl
theorem kidC_small {c t : Int} {m : Bool} {bb b0 : List Int} {c0 t0 : Int} {m0 : Bool} {l0 ks : List Tl} {i : Nat} (hw : WfT (.mk c t m bb ks)) (hl : (bytesT (.mk c t m bb ks)).length ≤ 1048576) (h2 : ks.length = 2) (hk : ks[i]? = some (.mk c0 t0 m0 b0 l0)) : byt b0 ∧ b0.length ≤ 1048576 := by
  match ks, h2, i, hk with
  | [x, y], _, 0, hk =>
    simp at hk
    subst hk
    simp only [WfT, WfL] at hw
    obtain ⟨_, _, _, ⟨_, _, w0, _⟩, _, _⟩ := hw
    rw [bytesT_len] at hl
    simp only [bytesL, List.length_append, bytesT_len, List.append_nil] at hl
    exact ⟨w0, by omega⟩
  | [x, y], _, 1, hk =>
    simp at hk
    subst hk
    simp only [WfT, WfL] at hw
    obtain ⟨_, _, _, _, ⟨_, _, w0, _⟩, _⟩ := hw
    rw [bytesT_len] at hl
    simp only [bytesL, List.length_append, bytesT_len, List.append_nil] at hl
    exact ⟨w0, by omega⟩
  | [x, y], _, i + 2, hk => simp at hk
end Go.Proofs.YtjpnbbhpgchbpaaGreatDoor
