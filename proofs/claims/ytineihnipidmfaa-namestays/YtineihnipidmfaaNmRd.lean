/- Parts in rows; what is read of an element. -/
import Derived.Test.YtineihnipidmfaaRows
import Derived.Test.YtineihnipidmfaaNmSpec
import Derived.Test.YtineihnipidmfaaNmFact
import Derived.Test.YtineihnipidmfaaNmMay
import Derived.Deep.WholeRow
import Derived.Deep.RegionHeld3
import Derived.Deep.DeepCutAuto
import Derived.Deep.DeepFit
namespace Go.Proofs.Ytineihnipidmfaa
open Go.RowKit

/-- parts as cells -/
def ptC : List Pn → List Value
  | [] => []
  | p :: n => .int .i64 p.1 :: .string (strOfNums p.2) :: ptC n
theorem ptC_len : ∀ n : List Pn, (ptC n).length = n.length * 2
  | [] => rfl
  | p :: n => by rw [ptC, List.length_cons, List.length_cons, ptC_len n, List.length_cons]; omega
theorem ptC_app : ∀ n m : List Pn, ptC (n ++ m) = ptC n ++ ptC m
  | [], m => rfl
  | p :: n, m => by rw [List.cons_append, ptC, ptC, ptC_app n m]; rfl
theorem ptC_get : ∀ {n : List Pn} {i : Nat} {p : Pn}, n[i]? = some p → (ptC n)[i * 2]? = some (.int .i64 p.1) ∧ (ptC n)[i * 2 + 1]? = some (.string (strOfNums p.2))
  | [], i, p, h => by simp at h
  | q :: n, 0, p, h => by
    simp at h
    subst h
    exact ⟨rfl, rfl⟩
  | q :: n, i + 1, p, h => by
    rw [List.getElem?_cons_succ] at h
    obtain ⟨h1, h2⟩ := ptC_get h
    rw [ptC, show (i + 1) * 2 = i * 2 + 1 + 1 by omega]
    simp only [List.getElem?_cons_succ]
    exact ⟨h1, h2⟩
theorem NmAt.of_own {w : World} {base : Nat} {e : TypeId} {v : Value} {k : Nat} {n : List Pn} (h : w.ownsRow base e 2 v k (ptC n)) : NmAt w v n := by
  obtain ⟨hl, h⟩ := h
  have hn : n.length = k := by rw [ptC_len] at hl; omega
  rcases h with ⟨h1, h2⟩ | ⟨g, cap, cur, h1, h2, h3, h4, h5, h6, h7⟩
  · exact ⟨none, 0, by rw [h1, hn, h2], by omega, by decide, fun h => by omega⟩
  · refine ⟨_, cap, by rw [hn]; exact h1, by omega, h5, fun _ => ⟨g, 0, rfl, (Array.getElem?_eq_some_iff.1 h3).1, fun i p hp => ?_⟩⟩
    obtain ⟨e1, e2⟩ := ptC_get hp
    have hi := (List.getElem?_eq_some_iff.1 hp).1
    rw [← h7, List.getElem?_take, if_pos (by omega)] at e1 e2
    rw [Nat.zero_add]
    simp only [World.cell?, h3, Option.isSome_none, Bool.false_eq_true, if_false]
    exact ⟨by simpa using e1, by simpa using e2⟩
theorem NmNew.of_own {w w' : World} {base : Nat} {e : TypeId} {v : Value} {k : Nat} {n : List Pn} (h : w'.ownsRow base e 2 v k (ptC n)) (hb : w.heap.size ≤ base) : NmNew w w' v n := fun _ ha =>
  NmAt.of_own (own_agr h ha (fun _ hg => Nat.le_trans hb (own_geK h hg).1))
theorem ofSet_a {c t : Int} {m : Bool} {b : List Int} {ks : List Tl} (h : ¬ (c = 0 ∧ t = 17 ∧ m = true ∧ ks.length = 1)) : ofSet (.mk c t m b ks) = none := by
  unfold ofSet
  split
  · rename_i e
    cases e
    rw [if_neg (fun k => h ⟨k.1, k.2.1, k.2.2.1, rfl⟩)]
  · rfl
theorem ofSet_b {c t c1 t1 : Int} {m m1 : Bool} {b b1 : List Int} {ks : List Tl} (h : ¬ (c1 = 0 ∧ t1 = 16 ∧ m1 = true ∧ ks.length = 2)) : ofSet (.mk c t m b [.mk c1 t1 m1 b1 ks]) = none := by
  unfold ofSet
  split
  · rename_i e
    cases e
    rw [if_neg (fun k => h ⟨k.2.2.2.1, k.2.2.2.2.1, k.2.2.2.2.2.1, rfl⟩)]
  · rfl
theorem ofSet_c {c t c1 t1 c2 t2 c3 t3 : Int} {m m1 m2 m3 : Bool} {b b1 b2 b3 : List Int} {k2 k3 : List Tl} (h : ¬ (c2 = 0 ∧ t2 = 6 ∧ m2 = false ∧ b2.length = 3 ∧ b2.getD 0 0 = 85 ∧ b2.getD 1 0 = 4 ∧ c3 = 0 ∧ t3 = 12 ∧ m3 = false ∧ partN (b2.getD 2 0, b3) = true)) : ofSet (.mk c t m b [.mk c1 t1 m1 b1 [.mk c2 t2 m2 b2 k2, .mk c3 t3 m3 b3 k3]]) = none := by
  unfold ofSet
  split
  · rename_i e
    cases e
    rw [if_neg]
    rintro ⟨-, -, -, -, -, -, h1, h2, h3, h4, h5, h6, h7, h8, h9⟩
    exact h ⟨h1, h2, h3, rfl, h4, h5, h6, h7, h8, h9⟩
  · rfl
theorem two_of {ks : List Tl} (h : ks.length = 2) : ∃ p q, ks = [p, q] := by
  match ks, h with
  | [p, q], _ => exact ⟨p, q, rfl⟩
theorem own_sl {w : World} {base size : Nat} {e : TypeId} {v : Value} {n : Nat} {xs : List Value} (h : w.ownsRow base e size v n xs) : ∃ ao cap, v = .slice ao n cap := by
  rcases h.2 with ⟨h1, h2⟩ | ⟨g, cap, cur, h1, _⟩
  · exact ⟨none, 0, by rw [h1, h2]⟩
  · exact ⟨_, cap, h1⟩
theorem three_of {b : List Int} (h : b.length = 3) : b = [b.getD 0 0, b.getD 1 0, b.getD 2 0] := by
  match b, h with
  | [x, y, z], _ => rfl
theorem ofSet_ok {b b1 b2 b3 : List Int} {k2 k3 : List Tl} (hl : b2.length = 3) (h0 : b2.getD 0 0 = 85) (h1 : b2.getD 1 0 = 4) (h : partN (b2.getD 2 0, b3) = true) : ofSet (.mk 0 17 true b [.mk 0 16 true b1 [.mk 0 6 false b2 k2, .mk 0 12 false b3 k3]]) = some (b2.getD 2 0, b3) := by
  match b2, hl with
  | [x, y, z], _ =>
    have e0 : x = 85 := h0
    have e1 : y = 4 := h1
    subst e0 e1
    have h' : partN (z, b3) = true := h
    unfold ofSet
    dsimp only
    rw [if_pos ⟨rfl, rfl, rfl, rfl, rfl, rfl, rfl, rfl, rfl, rfl, rfl, rfl, rfl, rfl, h'⟩]
    rfl
theorem mapM_bad : ∀ {ks : List Tl} {i : Nat} {k : Tl}, ks[i]? = some k → ofSet k = none → ks.mapM ofSet = none
  | [], i, k, h, _ => by simp at h
  | x :: xs, 0, k, h, e => by
    simp at h
    subst h
    rw [List.mapM_cons, e]
    rfl
  | x :: xs, i + 1, k, h, e => by
    rw [List.getElem?_cons_succ] at h
    rw [List.mapM_cons, mapM_bad h e]
    cases ofSet x <;> rfl
theorem mapM_next {ks : List Tl} {i : Nat} {k : Tl} {n : List Pn} {p : Pn} (h : (ks.take i).mapM ofSet = some n) (hk : ks[i]? = some k) (e : ofSet k = some p) : (ks.take (i + 1)).mapM ofSet = some (n ++ [p]) := by
  rw [List.take_add_one, hk, List.mapM_append, h]
  simp [e]
theorem readN_no {c t : Int} {m : Bool} {b : List Int} {ks : List Tl} (h : ¬ (c = 0 ∧ t = 16 ∧ m = true)) : readN (.mk c t m b ks) = .error 7 := by
  rw [readN, if_neg h]
theorem readN_kid {c t : Int} {m : Bool} {b : List Int} {ks : List Tl} {i : Nat} {k : Tl} (h : ks[i]? = some k) (e : ofSet k = none) : readN (.mk c t m b ks) = .error 7 := by
  rw [readN, mapM_bad h e]
  split <;> rfl
theorem readN_long {b : List Int} {ks : List Tl} {n : List Pn} (h : ks.mapM ofSet = some n) (l : 8 < n.length) : readN (.mk 0 16 true b ks) = .error 2 := by
  rw [readN, h, if_pos ⟨rfl, rfl, rfl⟩]
  simp only
  rw [if_pos l]
theorem readN_ok {b : List Int} {ks : List Tl} {n : List Pn} (h : ks.mapM ofSet = some n) (l : ¬ 8 < n.length) : readN (.mk 0 16 true b ks) = .ok n := by
  rw [readN, h, if_pos ⟨rfl, rfl, rfl⟩]
  simp only
  rw [if_neg l]
theorem kids_le : ∀ ks : List Tl, ks.length ≤ szL ks
  | [] => Nat.zero_le _
  | k :: ks => by
    have h1 := szT_pos k
    have h2 := kids_le ks
    rw [szL, List.length_cons]
    omega
/-- what read tells -/
def ReadR (w : World) (T : Tl) (e : Ending) (w' : World) : Prop :=
  (∀ n, readN T = .ok n → ∃ v, e = .returned (.tuple #[v, .int .i64 0]) ∧ NmNew w w' v n) ∧ (∀ c, readN T = .error c → e = .returned (.tuple #[.slice none 0 0, .int .i64 (c : Int)])) ∧ Below w.heap.size w w'
theorem ReadR.bad {w w' : World} {T : Tl} {c : Nat} (h : readN T = .error c) (hb : Below w.heap.size w w') : ReadR w T (.returned (.tuple #[.slice none 0 0, .int .i64 (c : Int)])) w' :=
  ⟨fun n k => (by rw [h] at k; cases k), fun d k => (by rw [h] at k; cases k; rfl), hb⟩
theorem ReadR.ok {w w' : World} {T : Tl} {n : List Pn} {v : Value} (h : readN T = .ok n) (hn : NmNew w w' v n) (hb : Below w.heap.size w w') : ReadR w T (.returned (.tuple #[v, .int .i64 0])) w' :=
  ⟨fun m k => (by rw [h] at k; cases k; exact ⟨v, rfl, hn⟩), fun d k => (by rw [h] at k; cases k), hb⟩
theorem text_same {B m : List Int} (h : textP B = .ok m) : m = B := by
  unfold textP at h
  split at h
  · cases h
  · split at h
    · cases h
    · split at h
      · cases h
      · cases h; rfl
theorem part_kt (p : Pn) : partN p = (kindN p.1 && textB p.2) := rfl
end Go.Proofs.Ytineihnipidmfaa
