/- Multiples of points: plain facts on numbers. -/
import Derived.Test.YtnkipgbnnhahbaaCurve
namespace Go.Proofs.Ytnkipgbnnhahbaa
/-- so many times a point -/
def cmul : Nat → Pt → Pt
  | 0, _ => none
  | n + 1, P => cadd (cmul n P) P
theorem on_cmul {P : Pt} (h : OnC P) : ∀ n, OnC (cmul n P)
  | 0 => trivial
  | n + 1 => on_add (on_cmul h n) h
theorem cadd_none (P : Pt) : cadd P none = P := by cases P <;> rfl
theorem none_cadd (P : Pt) : cadd none P = P := rfl
theorem cmul_one (P : Pt) : cmul 1 P = P := rfl
theorem cmul_add {P : Pt} (h : OnC P) (m : Nat) : ∀ n, cmul (m + n) P = cadd (cmul m P) (cmul n P)
  | 0 => (cadd_none _).symm
  | n + 1 => by
    show cadd (cmul (m + n) P) P = cadd (cmul m P) (cadd (cmul n P) P)
    rw [cmul_add h m n, assoc (on_cmul h m) (on_cmul h n) h]
theorem cmul_none : ∀ n, cmul n none = none
  | 0 => rfl
  | n + 1 => by show cadd (cmul n none) none = none; rw [cmul_none n]; rfl
theorem cmul_mul {P : Pt} (h : OnC P) (n : Nat) : ∀ m, cmul (m * n) P = cmul m (cmul n P)
  | 0 => by rw [Nat.zero_mul]; rfl
  | m + 1 => by
    rw [Nat.succ_mul, cmul_add h, cmul_mul h n m]; rfl
theorem four {P Q R S : Pt} (hP : OnC P) (hQ : OnC Q) (hR : OnC R) (hS : OnC S) : cadd (cadd P Q) (cadd R S) = cadd (cadd P R) (cadd Q S) := by
  rw [assoc hP hQ (on_add hR hS), ← assoc hQ hR hS, add_comm' hQ hR, assoc hR hQ hS, ← assoc hP hR (on_add hQ hS)]
theorem cmul_cadd {P Q : Pt} (hP : OnC P) (hQ : OnC Q) : ∀ n, cmul n (cadd P Q) = cadd (cmul n P) (cmul n Q)
  | 0 => rfl
  | n + 1 => by
    show cadd (cmul n (cadd P Q)) (cadd P Q) = cadd (cadd (cmul n P) P) (cadd (cmul n Q) Q)
    rw [cmul_cadd hP hQ n, four (on_cmul hP n) (on_cmul hQ n) hP hQ]
theorem cneg_cmul {P : Pt} (h : OnC P) : ∀ n, cneg (cmul n P) = cmul n (cneg P)
  | 0 => rfl
  | n + 1 => by
    show cneg (cadd (cmul n P) P) = cadd (cmul n (cneg P)) (cneg P)
    rw [neg_add (on_cmul h n) h, cneg_cmul h n]
theorem cmul_sub {P : Pt} (h : OnC P) {m n : Nat} (hn : n ≤ m) : cmul (m - n) P = cadd (cmul m P) (cneg (cmul n P)) := by
  have e : cmul m P = cadd (cmul (m - n) P) (cmul n P) := by rw [← cmul_add h]; congr 1; omega
  rw [e, cancel (on_cmul h _) (on_cmul h _)]
/-- doubled, and one more by a bit -/
theorem cmul_bit {P : Pt} (h : OnC P) (n : Nat) : cmul (2 * n) P = cadd (cmul n P) (cmul n P) := by
  rw [Nat.two_mul, cmul_add h]
theorem cmul_bit1 {P : Pt} (h : OnC P) (n : Nat) : cmul (2 * n + 1) P = cadd (cadd (cmul n P) (cmul n P)) P := by
  show cadd (cmul (2 * n) P) P = _
  rw [cmul_bit h]
end Go.Proofs.Ytnkipgbnnhahbaa
