/- An element's bytes. Plain facts. -/
import Derived.Test.YtnkipgbnnhahbaaDrTree
namespace Go.Proofs.Ytnkipgbnnhahbaa
/-- an element's first byte -/
def headB (c t : Int) (m : Bool) : Int := 64 * c + t + (if m then 32 else 0)
/-- a length as it is told -/
def lenB (n : Nat) : List Int :=
  if n < 128 then [(n : Int)] else if n < 256 then [129, (n : Int)] else if n < 65536 then [130, ((n / 256 : Nat) : Int), ((n % 256 : Nat) : Int)] else [131, ((n / 65536 % 256 : Nat) : Int), ((n / 256 % 256 : Nat) : Int), ((n % 256 : Nat) : Int)]
mutual
/-- an element's bytes -/
def bytesT : Tl → List Int
  | .mk c t m b ks => headB c t m :: (lenB (b ++ bytesL ks).length ++ (b ++ bytesL ks))
def bytesL : List Tl → List Int
  | [] => []
  | k :: ks => bytesT k ++ bytesL ks
end
theorem bytesL_app : ∀ (xs ys : List Tl), bytesL (xs ++ ys) = bytesL xs ++ bytesL ys
  | [], ys => by rw [bytesL]; rfl
  | x :: xs, ys => by rw [List.cons_append, bytesL, bytesL, bytesL_app xs ys, List.append_assoc]
theorem bytesL_next {ks : List Tl} {i : Nat} {k : Tl} (h : ks[i]? = some k) : bytesL (ks.take (i + 1)) = bytesL (ks.take i) ++ bytesT k := by
  rw [List.take_add_one, h]
  show bytesL (ks.take i ++ [k]) = _
  rw [bytesL_app, bytesL, bytesL, List.append_nil]
theorem lenB_len (n : Nat) : (lenB n).length ≤ 4 := by
  unfold lenB
  split
  · simp
  split
  · simp
  split <;> simp
theorem bytesL_le {ks : List Tl} : ∀ {i : Nat}, i ≤ ks.length → (bytesL (ks.take i)).length ≤ (bytesL ks).length := fun {i} _ => by
  have e : bytesL ks = bytesL (ks.take i) ++ bytesL (ks.drop i) := by rw [← bytesL_app, List.take_append_drop]
  rw [e, List.length_append]
  omega
theorem bytesL_kid {ks : List Tl} {i : Nat} {k : Tl} (h : ks[i]? = some k) : (bytesL (ks.take i)).length + (bytesT k).length ≤ (bytesL ks).length := by
  have := bytesL_le (ks := ks) (i := i + 1) (by have := (List.getElem?_eq_some_iff.1 h).1; omega)
  rw [bytesL_next h, List.length_append] at this
  exact this
theorem fineL.get : ∀ {ks : List Tl} {i : Nat} {k : Tl}, fineL ks = true → ks[i]? = some k → fineT k = true
  | [], i, k, _, h => by simp at h
  | x :: xs, 0, k, h, e => by
    rw [fineL, Bool.and_eq_true] at h
    simp at e
    subst e
    exact h.1
  | x :: xs, i + 1, k, h, e => by
    rw [fineL, Bool.and_eq_true] at h
    rw [List.getElem?_cons_succ] at e
    exact fineL.get h.2 e
theorem fine1_num {c t : Int} {m : Bool} {b : List Int} {ks : List Tl} (h : fine1 c t m b ks = true) : (0 ≤ c ∧ c ≤ 3) ∧ (0 ≤ t ∧ t ≤ 30) := by
  unfold fine1 at h
  simp only [Bool.and_eq_true, decide_eq_true_eq] at h
  omega
end Go.Proofs.Ytnkipgbnnhahbaa
