/- A signature's bytes: what was written is read as it was. Plain facts. -/
import Derived.Test.YtjpnbbhpgchbpaaGreatDoorEdSpec2
import Derived.Test.YtjpnbbhpgchbpaaGreatDoorDrTG
namespace Go.Proofs.YtjpnbbhpgchbpaaGreatDoor
open Go.RowKit

theorem beN_zero (X : List Int) : beN ((0 : Int) :: X) = beN X := by
  unfold beN
  rw [List.reverse_cons, pv_append]
  simp [pv]
theorem beN_less : ∀ X : List Int, beN (lessZ X) = beN X
  | [] => rfl
  | x :: xs => by
    rw [lessZ]
    split
    · rename_i h
      subst h
      rw [beN_less xs, beN_zero]
    · rfl
theorem num48 {X : List Int} (hl : X.length = 48) : ∃ x, numOf X = .ok x ∧ x.length ≤ 49 := by
  have h1 : (lessZ X).length ≤ 48 := by
    rw [lessZ_drop, List.length_drop]
    omega
  unfold numOf
  rw [if_neg (by omega)]
  by_cases c : (lessZ X).length = 0 ∨ 127 < (lessZ X).getD 0 0
  · exact ⟨_, by rw [if_pos c], by rw [List.length_cons]; omega⟩
  · exact ⟨_, by rw [if_neg c], by omega⟩
theorem numOf_byt {X x : List Int} (b : byt X) (h : numOf X = .ok x) : byt x := by
  have hl : byt (lessZ X) := by rw [lessZ_drop]; exact byt_dropM b _
  unfold numOf at h
  split at h
  · cases h
  · split at h
    · cases h
      exact byt_consP (by decide) hl
    · cases h
      exact hl
theorem lenB_small {n : Nat} (h : n < 128) : (lenB n).length = 1 := by
  unfold lenB
  rw [if_pos h]
  rfl
theorem sig_len {x y : List Int} (hx : x.length ≤ 49) (hy : y.length ≤ 49) : (bytesT (sigT x y)).length ≤ 200 := by
  have k1 : (bytesT (.mk 0 2 false x [])).length = x.length + 2 := by
    rw [bytesT_len, bytesL, List.append_nil, lenB_small (by omega)]
    omega
  have k2 : (bytesT (.mk 0 2 false y [])).length = y.length + 2 := by
    rw [bytesT_len, bytesL, List.append_nil, lenB_small (by omega)]
    omega
  unfold sigT
  rw [bytesT_len]
  simp only [bytesL, List.nil_append, List.append_nil, List.length_append, k1, k2]
  rw [lenB_small (by omega)]
  omega
theorem sig_fine (x y : List Int) : fineT (sigT x y) = true := by
  simp [sigT, fineT, fineL, fine1]
theorem sig_dep (x y : List Int) : depT (sigT x y) = 2 := by
  simp [sigT, depT, depL]
theorem sig_sz (x y : List Int) : szT (sigT x y) = 3 := by
  simp [sigT, szT, szL]
theorem sig_wr {x y : List Int} (hx : x.length ≤ 49) (hy : y.length ≤ 49) : wrN (sigT x y) = 0 := by
  have := sig_len hx hy
  unfold wrN
  rw [if_pos (sig_fine x y), if_neg (by rw [sig_dep]; omega), if_neg (by omega)]
theorem sig_wf {x y : List Int} (bx : byt x) (bY : byt y) : WfT (sigT x y) := by
  simp only [sigT, WfT, WfL]
  exact ⟨by omega, by omega, byt_nilP, ⟨by omega, by omega, bx, trivial⟩, ⟨by omega, by omega, bY, trivial⟩, trivial⟩
theorem sig_byt {x y : List Int} (bx : byt x) (bY : byt y) : byt (bytesT (sigT x y)) := bytesT_byt (sig_fine x y) (sig_wf bx bY)
theorem sig_parse {x y : List Int} (hx : x.length ≤ 49) (hy : y.length ≤ 49) : parseP (bytesT (sigT x y)) = .ok (sigT x y) := by
  have hl := sig_len hx hy
  have h := parse_of (T := sigT x y) (Y := []) (sig_fine x y) (by rw [sig_dep]; omega) (by rw [List.append_nil]; omega)
  rw [List.append_nil] at h
  rw [h]
  rfl
theorem sigP_back {X Y x y : List Int} (bX : byt X) (bY : byt Y) (hx : numOf X = .ok x) (hy : numOf Y = .ok y) : sigP (sigT x y) = some (lessZ X, lessZ Y) := by
  have h1 := (num_back bX hx).1
  have h2 := (num_back bY hy).1
  simp only [sigT, sigP, partP, h1, h2]
  simp
/-- a signature's element, as it lies -/
theorem sig_at {w : World} {g : Nat} {xv yv : Value} {x y : List Int} (hx : Bs w xv x) (hy : Bs w yv y) (B : Blk w g [.int .i64 0, .int .i64 2, .bool false, xv, .slice none 0 0, .int .i64 0, .int .i64 2, .bool false, yv, .slice none 0 0]) : TlAt w (sigT x y) [.int .i64 0, .int .i64 16, .bool true, .slice none 0 0, .slice (some ⟨g, 0, none⟩) 2 2] := by
  have z0 : Bs w (.slice none 0 0) [] := ⟨none, 0, rfl, by decide, by decide, fun h => by simp at h⟩
  unfold sigT
  rw [TlAt]
  refine ⟨_, _, _, rfl, z0, by show 2 ≤ 2; omega, by decide, fun _ => ⟨g, 0, rfl, ?_⟩⟩
  rw [KidsAt]
  refine ⟨⟨[.int .i64 0, .int .i64 2, .bool false, xv, .slice none 0 0], ⟨B.lt, fun j v hj => ?_⟩, ?_⟩, ?_⟩
  · rw [Nat.zero_add]
    refine B.cell j v ?_
    match j, hj with
    | 0, h => exact h
    | 1, h => exact h
    | 2, h => exact h
    | 3, h => exact h
    | 4, h => exact h
    | j + 5, h => simp at h
  · rw [TlAt]
    exact ⟨_, _, _, rfl, hx, by decide, by decide, fun h => absurd h (by simp)⟩
  · rw [KidsAt]
    refine ⟨⟨[.int .i64 0, .int .i64 2, .bool false, yv, .slice none 0 0], ⟨B.lt, fun j v hj => ?_⟩, ?_⟩, ?_⟩
    · rw [Nat.zero_add]
      refine B.cell (5 + j) v ?_
      match j, hj with
      | 0, h => exact h
      | 1, h => exact h
      | 2, h => exact h
      | 3, h => exact h
      | 4, h => exact h
      | j + 5, h => simp at h
    · rw [TlAt]
      exact ⟨_, _, _, rfl, hy, by decide, by decide, fun h => absurd h (by simp)⟩
    · rw [KidsAt]; trivial
end Go.Proofs.YtjpnbbhpgchbpaaGreatDoor
