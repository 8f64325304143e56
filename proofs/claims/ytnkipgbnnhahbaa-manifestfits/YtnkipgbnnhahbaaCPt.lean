/- Points, as the document's and as limbs: plain facts; the curve's number. -/
import Derived.Test.YtnkipgbnnhahbaaNumL
import Derived.Test.YtnkipgbnnhahbaaNum
import Derived.Test.YtnkipgbnnhahbaaMMath
import Derived.Test.YtnkipgbnnhahbaaHeld2
import Derived.Test.YtnkipgbnnhahbaaCOrder
import Derived.Test.YtnkipgbnnhahbaaRows
import Derived.Deep.WholeRow
import Derived.Deep.RegionHeld3
import Derived.Deep.DeepCutAuto
import Derived.Deep.DeepFit
namespace Go.Proofs.Ytnkipgbnnhahbaa
open Go.RowKit
theorem dig_all {D : List Int} (h : D.all (fun d => decide (0 ≤ d ∧ d < 4294967296)) = true) : dig D := by
  intro j
  by_cases hj : j < D.length
  · have := List.all_eq_true.1 h (D.getD j 0) (by rw [List.getD_eq_getElem?_getD, List.getElem?_eq_getElem hj]; exact List.getElem_mem hj)
    exact of_decide_eq_true this
  · rw [List.getD_eq_getElem?_getD, List.getElem?_eq_none (by omega)]; decide
/-- digits that are written out -/
theorem num_lit (w : World) (t : TypeId) (D : List Int) (n : Nat) (X : Int) (hl : D.length = n) (hn : n ≤ 1000) (hd : D.all (fun d => decide (0 ≤ d ∧ d < 4294967296)) = true) (ht : trd D) (hX : v32 D = X) :
    NumIs (w.alloc (.cells (us D).toArray t)) (.slice (some ⟨w.heap.size, 0, none⟩) n n) X := by
  subst hl
  have B := Blk.new w (us D) t w.heap.size rfl
  exact ⟨D, .inr ⟨w.heap.size, D.length, rfl, Nat.le_refl _, by unfold maxLen; omega, B.lt, fun j hj => B.cell j _ (us_get _ j hj)⟩, dig_all hd, ht, hX⟩
theorem two_dig (w : World) (t : TypeId) : NumIs (w.alloc (.cells #[.int .u64 2] t)) (.slice (some ⟨w.heap.size, 0, none⟩) 1 1) 2 := num_lit w t [2] 1 2 rfl (by decide) (by decide) (fun _ => by decide) rfl
theorem three_dig (w : World) (t : TypeId) : NumIs (w.alloc (.cells #[.int .u64 3] t)) (.slice (some ⟨w.heap.size, 0, none⟩) 1 1) 3 := num_lit w t [3] 1 3 rfl (by decide) (by decide) (fun _ => by decide) rfl
theorem b_dig (w : World) (t : TypeId) : NumIs (w.alloc (.cells (us [3555470063, 713410797, 2318324125, 3327539597, 1343457114, 51644559, 4269883666, 404593774, 3824692505, 2559444331, 3795773412, 3006345127]).toArray t)) (.slice (some ⟨w.heap.size, 0, none⟩) 12 12) BB := num_lit w t _ 12 BB rfl (by decide) (by decide) (fun _ => by decide) (by decide +kernel)
/-- what is told is a point -/
def IsOn (n : Bool) (X Y : Int) : Prop := (n = true ∧ X = 0 ∧ Y = 0) ∨ (n = false ∧ Aff X Y)
theorem v6_zero {x0 x1 x2 x3 x4 x5 : Int} (fX : fits [x0, x1, x2, x3, x4, x5]) : v64 [x0, x1, x2, x3, x4, x5] = 0 ↔ [x0, x1, x2, x3, x4, x5] = [0, 0, 0, 0, 0, 0] :=
  ⟨fun h => v64_inj _ _ rfl fX (fits_zero 6) (by rw [h]; rfl), fun h => by rw [h]; rfl⟩
theorem lo_30 {X : Int} (h : Lo X) : X < 4294967296 ^ 30 := by
  have p30 : PP < 4294967296 ^ 30 := by decide
  have := h.2
  omega
theorem lo_mul {X Y : Int} (hX : Lo X) (hY : Lo Y) : X * Y < 4294967296 ^ 30 := by
  have h1 : X * Y ≤ PP * PP := Int.mul_le_mul (by have := hX.2; omega) (by have := hY.2; omega) hY.1 (by decide)
  have h2 : PP * PP < 4294967296 ^ 30 := by decide
  omega
theorem lo_three : Lo 3 := by unfold Lo; decide
theorem lo_BB : Lo BB := by unfold Lo; decide +kernel
theorem lo_sum {X Y : Int} (hX : Lo X) (hY : Lo Y) : X + Y < 4294967296 ^ 30 := by
  have h2 : PP + PP < 4294967296 ^ 30 := by decide
  have := hX.2; have := hY.2; omega
/-- a point of the document's -/
def PtIs (w : World) (v : Value) : Pt → Prop
  | none => v = .agg #[.bool true, .slice none 0 0, .slice none 0 0]
  | some p => ∃ a m c a' m' c', v = .agg #[.bool false, .slice a m c, .slice a' m' c'] ∧ NumIs w (.slice a m c) p.1 ∧ NumIs w (.slice a' m' c') p.2
theorem PtIs.later {w w' : World} {v : Value} {P : Pt} (h : PtIs w v P) (hb : Below w.heap.size w w') : PtIs w' v P := by
  cases P with
  | none => exact h
  | some p =>
    obtain ⟨a, m, c, a', m', c', e, h1, h2⟩ := h
    exact ⟨a, m, c, a', m', c', e, h1.later hb, h2.later hb⟩
theorem PtIs.drew {w : World} {v : Value} {P : Pt} (h : PtIs w v P) : PtIs w.drew v P := by
  cases P with
  | none => exact h
  | some p =>
    obtain ⟨a, m, c, a', m', c', e, h1, h2⟩ := h
    exact ⟨a, m, c, a', m', c', e, h1.drew, h2.drew⟩
theorem PtIs.alloc {w : World} {v : Value} {P : Pt} (h : PtIs w v P) (o : Obj) : PtIs (w.alloc o) v P := h.later ((Below.refl _ _).alloc (Nat.le_refl _) o)
theorem PtIs.form {w : World} {v : Value} {P : Pt} (h : PtIs w v P) : ∃ (nb : Bool) (a : Option Addr) (n k : Nat) (b : Option Addr) (m l : Nat), v = .agg #[.bool nb, .slice a n k, .slice b m l] := by
  cases P with
  | none => exact ⟨true, none, 0, 0, none, 0, 0, h⟩
  | some p =>
    obtain ⟨a, m, c, a', m', c', e, _⟩ := h
    exact ⟨false, a, m, c, a', m', c', e⟩
theorem below_put3 {B b : Nat} {w w' : World} {u0 u1 u2 : Value} (h : Below B w w') (hb : B ≤ b) : Below B w (((w'.setCell ⟨b, 0, none⟩ u0).setCell ⟨b, 1, none⟩ u1).setCell ⟨b, 2, none⟩ u2) :=
  ((h.setCell hb _).setCell hb _).setCell hb _
theorem gx_dig (w : World) (t : TypeId) (b : Nat) (hb : b = w.heap.size) : NumIs (w.alloc (.cells #[.int .u64 1920338615, .int .u64 978607672, .int .u64 3210029420, .int .u64 1426256477, .int .u64 2186553912, .int .u64 1509376480, .int .u64 2343017368, .int .u64 1847409506, .int .u64 4079005044, .int .u64 2394015518, .int .u64 3196781879, .int .u64 2861025826] t)) (.slice (some ⟨b, 0, none⟩) 12 12) GX := by
  subst hb; exact num_lit w t [1920338615, 978607672, 3210029420, 1426256477, 2186553912, 1509376480, 2343017368, 1847409506, 4079005044, 2394015518, 3196781879, 2861025826] 12 GX rfl (by decide) (by decide) (fun _ => by decide) (by decide +kernel)
theorem gy_dig (w : World) (t : TypeId) (b : Nat) (hb : b = w.heap.size) : NumIs (w.alloc (.cells #[.int .u64 2431258207, .int .u64 2051218812, .int .u64 494829981, .int .u64 174109134, .int .u64 3052452032, .int .u64 3923390739, .int .u64 681186428, .int .u64 4176747965, .int .u64 2459098153, .int .u64 1570674879, .int .u64 2519084143, .int .u64 907533898] t)) (.slice (some ⟨b, 0, none⟩) 12 12) GY := by
  subst hb; exact num_lit w t [2431258207, 2051218812, 494829981, 174109134, 3052452032, 3923390739, 681186428, 4176747965, 2459098153, 1570674879, 2519084143, 907533898] 12 GY rfl (by decide) (by decide) (fun _ => by decide) (by decide +kernel)
/-- the limbs A and B and the bool n tell the point P -/
structure Told (P : Pt) (A B : List Int) (n : Bool) : Prop where
  fA : fits A
  fB : fits B
  is : (P = none ∧ n = true ∧ A = [0, 0, 0, 0, 0, 0] ∧ B = [0, 0, 0, 0, 0, 0]) ∨ (P = some (v64 A, v64 B) ∧ n = false)
theorem told_zero : Told none [0, 0, 0, 0, 0, 0] [0, 0, 0, 0, 0, 0] true := ⟨fits_zero 6, fits_zero 6, .inl ⟨rfl, rfl, rfl, rfl⟩⟩
theorem told_on {A B : List Int} {n : Bool} (fA : fits A) (fB : fits B) (lA : A.length = 6) (lB : B.length = 6) (h : IsOn n (v64 A) (v64 B)) : ∃ P, OnC P ∧ Told P A B n := by
  rcases h with ⟨rfl, hx, hy⟩ | ⟨rfl, h⟩
  · exact ⟨none, trivial, fA, fB, .inl ⟨rfl, rfl, v64_inj _ _ lA fA (fits_zero 6) (by rw [hx]; rfl), v64_inj _ _ lB fB (fits_zero 6) (by rw [hy]; rfl)⟩⟩
  · exact ⟨some (v64 A, v64 B), h, fA, fB, .inr ⟨rfl, rfl⟩⟩
theorem on_told {P : Pt} {A B : List Int} {n : Bool} (h : Told P A B n) (hP : OnC P) : IsOn n (v64 A) (v64 B) := by
  rcases h.is with ⟨rfl, rfl, rfl, rfl⟩ | ⟨rfl, rfl⟩
  · exact .inl ⟨rfl, rfl, rfl⟩
  · exact .inr ⟨rfl, hP⟩
theorem told_one {P : Pt} {A B C D : List Int} {n m : Bool} (h : Told P A B n) (k : Told P C D m) (lA : A.length = 6) (lB : B.length = 6) (lC : C.length = 6) (lD : D.length = 6) : A = C ∧ B = D ∧ n = m := by
  rcases h.is with ⟨rfl, rfl, rfl, rfl⟩ | ⟨rfl, rfl⟩
  · rcases k.is with ⟨_, rfl, rfl, rfl⟩ | ⟨e, _⟩
    · exact ⟨rfl, rfl, rfl⟩
    · exact absurd e (by simp)
  · rcases k.is with ⟨e, _⟩ | ⟨e, rfl⟩
    · exact absurd e (by simp)
    · simp only [Option.some.injEq, Prod.mk.injEq] at e
      exact ⟨v64_inj _ _ (by rw [lA, lC]) h.fA k.fA e.1, v64_inj _ _ (by rw [lB, lD]) h.fB k.fB e.2, rfl⟩
end Go.Proofs.Ytnkipgbnnhahbaa
