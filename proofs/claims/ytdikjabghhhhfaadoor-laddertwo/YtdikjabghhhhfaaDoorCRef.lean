/- Points, as the document's and as limbs: plain facts; the curve's number. The document's To and G. The document's Of. The document's Inv and On. -/
import Derived.Test.YtdikjabghhhhfaaDoorRows
import Derived.Test.YtdikjabghhhhfaaDoorShape
import Derived.Test.YtdikjabghhhhfaaDoorCNum
import Derived.Deep.WholeRow
import Derived.Deep.RegionHeld3
import Derived.Deep.DeepCutAuto
import Derived.Deep.DeepFit
import Derived.Test.YtdikjabghhhhfaaDoorRefA
import Derived.Test.YtdikjabghhhhfaaDoorFLaw
import Derived.Test.YtdikjabghhhhfaaDoorRExp
namespace Go.Proofs.YtdikjabghhhhfaaDoor
open Go.RowKit

theorem dig_all {D : List Int} (h : D.all (fun d => decide (0 ≤ d ∧ d < 4294967296)) = true) : dig D := by
  intro j
  by_cases hj : j < D.length
  · have := List.all_eq_true.1 h (D.getD j 0) (by rw [List.getD_eq_getElem?_getD, List.getElem?_eq_getElem hj]; exact List.getElem_mem hj)
    exact of_decide_eq_true this
  · rw [List.getD_eq_getElem?_getD, List.getElem?_eq_none (by omega)]; decide

/-- digits that are written out -/
theorem num_lit (w : World) (t : TypeId) (D : List Int) (n : Nat) (X : Int) (hl : D.length = n) (hn : n ≤ 1000) (hd : D.all (fun d => decide (0 ≤ d ∧ d < 4294967296)) = true) (ht : trd D) (hX : v32 D = X) :
    NumIs (w.alloc (.cells (us D).toArray t)) (.slice (some ⟨w.heap.size, 0, none⟩) n n) X := by
  subst hl
  have B := Blk.new w (us D) t w.heap.size rfl
  exact ⟨D, .inr ⟨w.heap.size, D.length, rfl, Nat.le_refl _, by unfold maxLen; omega, B.lt, fun j hj => B.cell j _ (us_get _ j hj)⟩, dig_all hd, ht, hX⟩

theorem two_dig (w : World) (t : TypeId) : NumIs (w.alloc (.cells #[.int .u64 2] t)) (.slice (some ⟨w.heap.size, 0, none⟩) 1 1) 2 := num_lit w t [2] 1 2 rfl (by decide) (by decide) (fun _ => by decide) rfl

theorem three_dig (w : World) (t : TypeId) : NumIs (w.alloc (.cells #[.int .u64 3] t)) (.slice (some ⟨w.heap.size, 0, none⟩) 1 1) 3 := num_lit w t [3] 1 3 rfl (by decide) (by decide) (fun _ => by decide) rfl

theorem b_dig (w : World) (t : TypeId) : NumIs (w.alloc (.cells (us [3555470063, 713410797, 2318324125, 3327539597, 1343457114, 51644559, 4269883666, 404593774, 3824692505, 2559444331, 3795773412, 3006345127]).toArray t)) (.slice (some ⟨w.heap.size, 0, none⟩) 12 12) BB := num_lit w t _ 12 BB rfl (by decide) (by decide) (fun _ => by decide) (by decide +kernel)

set_option maxRecDepth 100000 in
theorem r5_B {w : World} :
    Calls Tryd.prog 34 #[] w fun e w' => ∃ v', e = .returned v' ∧ NumIs w' v' BB ∧ Below w.heap.size w w' := by
  have h := b_dig w 22
  go_enter Tryd.func34, Tryd.ntmps34
  go_wp2
  go_ret
  exact ⟨_, rfl, h, (Below.refl _ _).alloc (Nat.le_refl _) _⟩

/-- what is told is a point -/
def IsOn (n : Bool) (X Y : Int) : Prop := (n = true ∧ X = 0 ∧ Y = 0) ∨ (n = false ∧ Aff X Y)

theorem v6_zero {x0 x1 x2 x3 x4 x5 : Int} (fX : fits [x0, x1, x2, x3, x4, x5]) : v64 [x0, x1, x2, x3, x4, x5] = 0 ↔ [x0, x1, x2, x3, x4, x5] = [0, 0, 0, 0, 0, 0] :=
  ⟨fun h => v64_inj _ _ rfl fX (fits_zero 6) (by rw [h]; rfl), fun h => by rw [h]; rfl⟩

theorem lo_30 {X : Int} (h : Lo X) : X < 4294967296 ^ 30 := by
  have p30 : PP < 4294967296 ^ 30 := by decide
  have := h.2
  omega

theorem lo_mul {X Y : Int} (hX : Lo X) (hY : Lo Y) : X * Y < 4294967296 ^ 30 := by
  have h1 : X * Y ≤ PP * PP := Int.mul_le_mul (by have := hX.2; omega) (by have := hY.2; omega) hY.1 (by decide)
  have h2 : PP * PP < 4294967296 ^ 30 := by decide
  omega

theorem lo_three : Lo 3 := by unfold Lo; decide

theorem lo_BB : Lo BB := by unfold Lo; decide +kernel

theorem lo_sum {X Y : Int} (hX : Lo X) (hY : Lo Y) : X + Y < 4294967296 ^ 30 := by
  have h2 : PP + PP < 4294967296 ^ 30 := by decide
  have := hX.2; have := hY.2; omega

/-- a point of the document's -/
def PtIs (w : World) (v : Value) : Pt → Prop
  | none => v = .agg #[.bool true, .slice none 0 0, .slice none 0 0]
  | some p => ∃ a m c a' m' c', v = .agg #[.bool false, .slice a m c, .slice a' m' c'] ∧ NumIs w (.slice a m c) p.1 ∧ NumIs w (.slice a' m' c') p.2

theorem PtIs.later {w w' : World} {v : Value} {P : Pt} (h : PtIs w v P) (hb : Below w.heap.size w w') : PtIs w' v P := by
  cases P with
  | none => exact h
  | some p =>
    obtain ⟨a, m, c, a', m', c', e, h1, h2⟩ := h
    exact ⟨a, m, c, a', m', c', e, h1.later hb, h2.later hb⟩

theorem PtIs.drew {w : World} {v : Value} {P : Pt} (h : PtIs w v P) : PtIs w.drew v P := by
  cases P with
  | none => exact h
  | some p =>
    obtain ⟨a, m, c, a', m', c', e, h1, h2⟩ := h
    exact ⟨a, m, c, a', m', c', e, h1.drew, h2.drew⟩

theorem PtIs.alloc {w : World} {v : Value} {P : Pt} (h : PtIs w v P) (o : Obj) : PtIs (w.alloc o) v P := h.later ((Below.refl _ _).alloc (Nat.le_refl _) o)

theorem PtIs.form {w : World} {v : Value} {P : Pt} (h : PtIs w v P) : ∃ (nb : Bool) (a : Option Addr) (n k : Nat) (b : Option Addr) (m l : Nat), v = .agg #[.bool nb, .slice a n k, .slice b m l] := by
  cases P with
  | none => exact ⟨true, none, 0, 0, none, 0, 0, h⟩
  | some p =>
    obtain ⟨a, m, c, a', m', c', e, _⟩ := h
    exact ⟨false, a, m, c, a', m', c', e⟩

theorem below_put3 {B b : Nat} {w w' : World} {u0 u1 u2 : Value} (h : Below B w w') (hb : B ≤ b) : Below B w (((w'.setCell ⟨b, 0, none⟩ u0).setCell ⟨b, 1, none⟩ u1).setCell ⟨b, 2, none⟩ u2) :=
  ((h.setCell hb _).setCell hb _).setCell hb _

theorem gx_dig (w : World) (t : TypeId) (b : Nat) (hb : b = w.heap.size) : NumIs (w.alloc (.cells #[.int .u64 1920338615, .int .u64 978607672, .int .u64 3210029420, .int .u64 1426256477, .int .u64 2186553912, .int .u64 1509376480, .int .u64 2343017368, .int .u64 1847409506, .int .u64 4079005044, .int .u64 2394015518, .int .u64 3196781879, .int .u64 2861025826] t)) (.slice (some ⟨b, 0, none⟩) 12 12) GX := by
  subst hb; exact num_lit w t [1920338615, 978607672, 3210029420, 1426256477, 2186553912, 1509376480, 2343017368, 1847409506, 4079005044, 2394015518, 3196781879, 2861025826] 12 GX rfl (by decide) (by decide) (fun _ => by decide) (by decide +kernel)

theorem gy_dig (w : World) (t : TypeId) (b : Nat) (hb : b = w.heap.size) : NumIs (w.alloc (.cells #[.int .u64 2431258207, .int .u64 2051218812, .int .u64 494829981, .int .u64 174109134, .int .u64 3052452032, .int .u64 3923390739, .int .u64 681186428, .int .u64 4176747965, .int .u64 2459098153, .int .u64 1570674879, .int .u64 2519084143, .int .u64 907533898] t)) (.slice (some ⟨b, 0, none⟩) 12 12) GY := by
  subst hb; exact num_lit w t [2431258207, 2051218812, 494829981, 174109134, 3052452032, 3923390739, 681186428, 4176747965, 2459098153, 1570674879, 2519084143, 907533898] 12 GY rfl (by decide) (by decide) (fun _ => by decide) (by decide +kernel)

/-- the limbs A and B and the bool n tell the point P -/
structure Told (P : Pt) (A B : List Int) (n : Bool) : Prop where
  fA : fits A
  fB : fits B
  is : (P = none ∧ n = true ∧ A = [0, 0, 0, 0, 0, 0] ∧ B = [0, 0, 0, 0, 0, 0]) ∨ (P = some (v64 A, v64 B) ∧ n = false)

theorem told_zero : Told none [0, 0, 0, 0, 0, 0] [0, 0, 0, 0, 0, 0] true := ⟨fits_zero 6, fits_zero 6, .inl ⟨rfl, rfl, rfl, rfl⟩⟩

theorem told_on {A B : List Int} {n : Bool} (fA : fits A) (fB : fits B) (lA : A.length = 6) (lB : B.length = 6) (h : IsOn n (v64 A) (v64 B)) : ∃ P, OnC P ∧ Told P A B n := by
  rcases h with ⟨rfl, hx, hy⟩ | ⟨rfl, h⟩
  · exact ⟨none, trivial, fA, fB, .inl ⟨rfl, rfl, v64_inj _ _ lA fA (fits_zero 6) (by rw [hx]; rfl), v64_inj _ _ lB fB (fits_zero 6) (by rw [hy]; rfl)⟩⟩
  · exact ⟨some (v64 A, v64 B), h, fA, fB, .inr ⟨rfl, rfl⟩⟩

theorem on_told {P : Pt} {A B : List Int} {n : Bool} (h : Told P A B n) (hP : OnC P) : IsOn n (v64 A) (v64 B) := by
  rcases h.is with ⟨rfl, rfl, rfl, rfl⟩ | ⟨rfl, rfl⟩
  · exact .inl ⟨rfl, rfl, rfl⟩
  · exact .inr ⟨rfl, hP⟩

theorem told_one {P : Pt} {A B C D : List Int} {n m : Bool} (h : Told P A B n) (k : Told P C D m) (lA : A.length = 6) (lB : B.length = 6) (lC : C.length = 6) (lD : D.length = 6) : A = C ∧ B = D ∧ n = m := by
  rcases h.is with ⟨rfl, rfl, rfl, rfl⟩ | ⟨rfl, rfl⟩
  · rcases k.is with ⟨_, rfl, rfl, rfl⟩ | ⟨e, _⟩
    · exact ⟨rfl, rfl, rfl⟩
    · exact absurd e (by simp)
  · rcases k.is with ⟨e, _⟩ | ⟨e, rfl⟩
    · exact absurd e (by simp)
    · simp only [Option.some.injEq, Prod.mk.injEq] at e
      exact ⟨v64_inj _ _ (by rw [lA, lC]) h.fA k.fA e.1, v64_inj _ _ (by rw [lB, lD]) h.fB k.fB e.2, rfl⟩
end Go.Proofs.YtdikjabghhhhfaaDoor

namespace Go.Proofs.YtdikjabghhhhfaaDoor
open Go.RowKit

set_option maxRecDepth 100000 in
set_option maxHeartbeats 1000000 in
theorem to_none {v : Value} {w : World} (h : PtIs w v none) :
    Calls Tryd.prog 12 #[v] w fun e w' => e = .returned (.agg #[.int .u64 0, .int .u64 0, .int .u64 0, .int .u64 0, .int .u64 0, .int .u64 0, .int .u64 0, .int .u64 0, .int .u64 0, .int .u64 0, .int .u64 0, .int .u64 0, .bool true]) ∧ Below w.heap.size w w' := by
  obtain rfl : v = _ := h
  have B0 := (Blk.new w [.bool true, .slice none 0 0, .slice none 0 0] 38 (w.heap.size) rfl).alloc (.cells [.int .u64 0, .int .u64 0, .int .u64 0, .int .u64 0, .int .u64 0, .int .u64 0, .int .u64 0, .int .u64 0, .int .u64 0, .int .u64 0, .int .u64 0, .int .u64 0, .bool false].toArray 26)
  have B1 := Blk.new (w.alloc (.cells [.bool true, .slice none 0 0, .slice none 0 0].toArray 38)) [.int .u64 0, .int .u64 0, .int .u64 0, .int .u64 0, .int .u64 0, .int .u64 0, .int .u64 0, .int .u64 0, .int .u64 0, .int .u64 0, .int .u64 0, .int .u64 0, .bool false] 26 (w.heap.size + 1) (by simp)
  have bel : Below w.heap.size w ((w.alloc (.cells [.bool true, .slice none 0 0, .slice none 0 0].toArray 38)).alloc (.cells [.int .u64 0, .int .u64 0, .int .u64 0, .int .u64 0, .int .u64 0, .int .u64 0, .int .u64 0, .int .u64 0, .int .u64 0, .int .u64 0, .int .u64 0, .int .u64 0, .bool false].toArray 26)) := (((Below.refl _ _).alloc (Nat.le_refl _) _).alloc (by simp) _)
  go_enter Tryd.func12, Tryd.ntmps12
  go_upto_region 1 with fail
  try simp only [us, List.map_cons, List.map_nil] at bel
  generalize ((w.alloc (Obj.cells #[.bool true, .slice none 0 0, .slice none 0 0] 38)).alloc (Obj.cells #[.int .u64 0, .int .u64 0, .int .u64 0, .int .u64 0, .int .u64 0, .int .u64 0, .int .u64 0, .int .u64 0, .int .u64 0, .int .u64 0, .int .u64 0, .int .u64 0, .bool false] 26)) = W at *
  have lt0 := B0.lt
  have lt1 := B1.lt
  have c0 := B0.cell 0 _ rfl; have f0 := B0.frozen 0; have c1 := B0.cell 1 _ rfl; have f1 := B0.frozen 1; have c2 := B0.cell 2 _ rfl; have f2 := B0.frozen 2
  have d0 := B1.cell 0 _ rfl; have g0 := B1.frozen 0; have d1 := B1.cell 1 _ rfl; have g1 := B1.frozen 1; have d2 := B1.cell 2 _ rfl; have g2 := B1.frozen 2; have d3 := B1.cell 3 _ rfl; have g3 := B1.frozen 3; have d4 := B1.cell 4 _ rfl; have g4 := B1.frozen 4; have d5 := B1.cell 5 _ rfl; have g5 := B1.frozen 5; have d6 := B1.cell 6 _ rfl; have g6 := B1.frozen 6; have d7 := B1.cell 7 _ rfl; have g7 := B1.frozen 7; have d8 := B1.cell 8 _ rfl; have g8 := B1.frozen 8; have d9 := B1.cell 9 _ rfl; have g9 := B1.frozen 9; have d10 := B1.cell 10 _ rfl; have g10 := B1.frozen 10; have d11 := B1.cell 11 _ rfl; have g11 := B1.frozen 11; have d12 := B1.cell 12 _ rfl; have g12 := B1.frozen 12
  go_wp2_with fail
  exact bodyPost_ret (v := .agg #[.int .u64 0, .int .u64 0, .int .u64 0, .int .u64 0, .int .u64 0, .int .u64 0, .int .u64 0, .int .u64 0, .int .u64 0, .int .u64 0, .int .u64 0, .int .u64 0, .bool true]) (by simp [results, Tryd.results12, go_sem, d0, d1, d2, d3, d4, d5, d6, d7, d8, d9, d10, d11, d12]) rfl ⟨rfl, below_put13 bel (by omega)⟩

set_option maxRecDepth 100000 in
set_option maxHeartbeats 4000000 in
theorem to_some {v : Value} {X Y : Int} {w : World} {x0 x1 x2 x3 x4 x5 y0 y1 y2 y3 y4 y5 : Int} (h : PtIs w v (some (X, Y))) (fX : fits [x0, x1, x2, x3, x4, x5]) (fY : fits [y0, y1, y2, y3, y4, y5]) (hX : v64 [x0, x1, x2, x3, x4, x5] = X) (hY : v64 [y0, y1, y2, y3, y4, y5] = Y) :
    Calls Tryd.prog 12 #[v] w fun e w' => e = .returned (.agg #[.int .u64 x0, .int .u64 x1, .int .u64 x2, .int .u64 x3, .int .u64 x4, .int .u64 x5, .int .u64 y0, .int .u64 y1, .int .u64 y2, .int .u64 y3, .int .u64 y4, .int .u64 y5, .bool false]) ∧ Below w.heap.size w w' := by
  obtain ⟨a1, n1, k1, b1, m1, l1, rfl, NX, NY⟩ := h
  have HX : Hid _ := hX
  have HY : Hid _ := hY
  clear hX hY
  have NX := (NX.alloc (.cells [.bool false, .slice a1 n1 k1, .slice b1 m1 l1].toArray 38)).alloc (.cells [.int .u64 0, .int .u64 0, .int .u64 0, .int .u64 0, .int .u64 0, .int .u64 0, .int .u64 0, .int .u64 0, .int .u64 0, .int .u64 0, .int .u64 0, .int .u64 0, .bool false].toArray 26)
  have NY := (NY.alloc (.cells [.bool false, .slice a1 n1 k1, .slice b1 m1 l1].toArray 38)).alloc (.cells [.int .u64 0, .int .u64 0, .int .u64 0, .int .u64 0, .int .u64 0, .int .u64 0, .int .u64 0, .int .u64 0, .int .u64 0, .int .u64 0, .int .u64 0, .int .u64 0, .bool false].toArray 26)
  have B0 := (Blk.new w [.bool false, .slice a1 n1 k1, .slice b1 m1 l1] 38 (w.heap.size) rfl).alloc (.cells [.int .u64 0, .int .u64 0, .int .u64 0, .int .u64 0, .int .u64 0, .int .u64 0, .int .u64 0, .int .u64 0, .int .u64 0, .int .u64 0, .int .u64 0, .int .u64 0, .bool false].toArray 26)
  have B1 := Blk.new (w.alloc (.cells [.bool false, .slice a1 n1 k1, .slice b1 m1 l1].toArray 38)) [.int .u64 0, .int .u64 0, .int .u64 0, .int .u64 0, .int .u64 0, .int .u64 0, .int .u64 0, .int .u64 0, .int .u64 0, .int .u64 0, .int .u64 0, .int .u64 0, .bool false] 26 (w.heap.size + 1) (by simp)
  have bel : Below w.heap.size w ((w.alloc (.cells [.bool false, .slice a1 n1 k1, .slice b1 m1 l1].toArray 38)).alloc (.cells [.int .u64 0, .int .u64 0, .int .u64 0, .int .u64 0, .int .u64 0, .int .u64 0, .int .u64 0, .int .u64 0, .int .u64 0, .int .u64 0, .int .u64 0, .int .u64 0, .bool false].toArray 26)) := (((Below.refl _ _).alloc (Nat.le_refl _) _).alloc (by simp) _)
  go_enter Tryd.func12, Tryd.ntmps12
  go_upto_region 1 with fail
  try simp only [us, List.map_cons, List.map_nil] at bel
  generalize ((w.alloc (Obj.cells #[.bool false, .slice a1 n1 k1, .slice b1 m1 l1] 38)).alloc (Obj.cells #[.int .u64 0, .int .u64 0, .int .u64 0, .int .u64 0, .int .u64 0, .int .u64 0, .int .u64 0, .int .u64 0, .int .u64 0, .int .u64 0, .int .u64 0, .int .u64 0, .bool false] 26)) = W at *
  have lt0 := B0.lt
  have c0 := B0.cell 0 _ rfl; have f0 := B0.frozen 0; have c1 := B0.cell 1 _ rfl; have f1 := B0.frozen 1; have c2 := B0.cell 2 _ rfl; have f2 := B0.frozen 2
  go_upto_region 3 with fail
  clear c0 c1 c2 f0 f1 f2
  obtain ⟨S1, hS1, KL1, KA1, KD1, KS1, KQ1, KN1, KB1, KM1, KR1⟩ := held3 (w0 := w) (W := W) [(w.heap.size, [.bool false, .slice a1 n1 k1, .slice b1 m1 l1])] (by
    intro b X h
    simp only [List.mem_cons, List.not_mem_nil, or_false, Prod.mk.injEq] at h
    rcases h with ⟨rfl, rfl⟩
    · exact B0) bel
  have kb1a : ∀ wx, Hd S1 wx → Blk wx (w.heap.size) [.bool false, .slice a1 n1 k1, .slice b1 m1 l1] := fun wx h => KM1.out wx _ _ h (by simp)
  have c1a0 := rulec kb1a 0 _ rfl
  have c1a1 := rulec kb1a 1 _ rfl
  have c1a2 := rulec kb1a 2 _ rfl
  have c1al := ruleb kb1a
  clear kb1a
  have mq1a : ∀ c X, (c, X) ∈ [((w.heap.size : Nat), ([.bool false, .slice a1 n1 k1, .slice b1 m1 l1] : List Value))] → c ≠ w.heap.size + 1 := by
    intro c X h
    simp only [List.mem_cons, List.not_mem_nil, or_false, Prod.mk.injEq] at h
    omega
  have hN1 := bel.size
  clear bel B0 lt0
  go_region_held3 (Hd S1)
    (first
      | with_reducible exact (KQ1.out _ _ _ _ (KQ1.out _ _ _ _ (KQ1.out _ _ _ _ (KQ1.out _ _ _ _ (KQ1.out _ _ _ _ (KQ1.out _ _ _ _ (KQ1.out _ _ _ _ (KQ1.out _ _ _ _ (KQ1.out _ _ _ _ (KQ1.out _ _ _ _ (KQ1.out _ _ _ _ (KQ1.out _ _ _ _ (KQ1.out _ _ _ _ (by assumption) (Or.inr mq1a) (by omega)) (Or.inr mq1a) (by omega)) (Or.inr mq1a) (by omega)) (Or.inr mq1a) (by omega)) (Or.inr mq1a) (by omega)) (Or.inr mq1a) (by omega)) (Or.inr mq1a) (by omega)) (Or.inr mq1a) (by omega)) (Or.inr mq1a) (by omega)) (Or.inr mq1a) (by omega)) (Or.inr mq1a) (by omega)) (Or.inr mq1a) (by omega)) (Or.inr mq1a) (by omega))
      | with_reducible exact KL1.out _ _ (by assumption) hb
      | with_reducible exact KA1.out _ _ (by assumption)
      | with_reducible exact KS1.out _ _ _ (by omega) (by assumption)
      | with_reducible exact KD1.out _ hS1
      | with_reducible exact KD1.out _ (KA1.out _ _ hS1)
      | with_reducible assumption)
    (first
      | (go_at_call 24; go_fit (to6_is (by first | exact NX | exact NX.drew) fX HX.out); rintro e w' ⟨rfl, hb⟩; (first | replace B1 := B1.later hb | replace B1 := B1.drew.later hb | skip); (first | replace NY := NY.later hb | replace NY := NY.drew.later hb | skip))
      | (go_at_call 24; go_fit (to6_is (by first | exact NY | exact NY.drew) fY HY.out); rintro e w' ⟨rfl, hb⟩; (first | replace B1 := B1.later hb | replace B1 := B1.drew.later hb | skip); have lt1 := B1.lt; have d0 := B1.cell 0 _ rfl; have g0 := B1.frozen 0; have d1 := B1.cell 1 _ rfl; have g1 := B1.frozen 1; have d2 := B1.cell 2 _ rfl; have g2 := B1.frozen 2; have d3 := B1.cell 3 _ rfl; have g3 := B1.frozen 3; have d4 := B1.cell 4 _ rfl; have g4 := B1.frozen 4; have d5 := B1.cell 5 _ rfl; have g5 := B1.frozen 5; have d6 := B1.cell 6 _ rfl; have g6 := B1.frozen 6; have d7 := B1.cell 7 _ rfl; have g7 := B1.frozen 7; have d8 := B1.cell 8 _ rfl; have g8 := B1.frozen 8; have d9 := B1.cell 9 _ rfl; have g9 := B1.frozen 9; have d10 := B1.cell 10 _ rfl; have g10 := B1.frozen 10; have d11 := B1.cell 11 _ rfl; have g11 := B1.frozen 11; have d12 := B1.cell 12 _ rfl; have g12 := B1.frozen 12))
  all_goals go_wp2
  all_goals exact bodyPost_ret (v := .agg #[.int .u64 x0, .int .u64 x1, .int .u64 x2, .int .u64 x3, .int .u64 x4, .int .u64 x5, .int .u64 y0, .int .u64 y1, .int .u64 y2, .int .u64 y3, .int .u64 y4, .int .u64 y5, .bool false]) (by simp [results, Tryd.results12, go_sem, d0, d1, d2, d3, d4, d5, d6, d7, d8, d9, d10, d11, d12]) rfl ⟨rfl, KB1.out _ (by assumption)⟩

set_option maxRecDepth 100000 in
set_option maxHeartbeats 1000000 in
theorem r5_G {w : World} :
    Calls Tryd.prog 17 #[] w fun e w' => ∃ v', e = .returned v' ∧ PtIs w' v' GG ∧ Below w.heap.size w w' := by
  have B0 := Blk.new w [.bool false, .slice none 0 0, .slice none 0 0] 38 (w.heap.size) rfl
  have bel : Below w.heap.size w (w.alloc (.cells [.bool false, .slice none 0 0, .slice none 0 0].toArray 38)) := ((Below.refl _ _).alloc (Nat.le_refl _) _)
  go_enter Tryd.func17, Tryd.ntmps17
  go_upto_region 1 with fail
  generalize w.alloc _ = W at *
  have NX := (gx_dig W 22 W.heap.size rfl).alloc (.cells #[.int .u64 2431258207, .int .u64 2051218812, .int .u64 494829981, .int .u64 174109134, .int .u64 3052452032, .int .u64 3923390739, .int .u64 681186428, .int .u64 4176747965, .int .u64 2459098153, .int .u64 1570674879, .int .u64 2519084143, .int .u64 907533898] 22)
  have NY := gy_dig (W.alloc (.cells #[.int .u64 1920338615, .int .u64 978607672, .int .u64 3210029420, .int .u64 1426256477, .int .u64 2186553912, .int .u64 1509376480, .int .u64 2343017368, .int .u64 1847409506, .int .u64 4079005044, .int .u64 2394015518, .int .u64 3196781879, .int .u64 2861025826] 22)) 22 (W.heap.size + 1) (by simp)
  replace B0 := (B0.alloc (.cells #[.int .u64 1920338615, .int .u64 978607672, .int .u64 3210029420, .int .u64 1426256477, .int .u64 2186553912, .int .u64 1509376480, .int .u64 2343017368, .int .u64 1847409506, .int .u64 4079005044, .int .u64 2394015518, .int .u64 3196781879, .int .u64 2861025826] 22)).alloc (.cells #[.int .u64 2431258207, .int .u64 2051218812, .int .u64 494829981, .int .u64 174109134, .int .u64 3052452032, .int .u64 3923390739, .int .u64 681186428, .int .u64 4176747965, .int .u64 2459098153, .int .u64 1570674879, .int .u64 2519084143, .int .u64 907533898] 22)
  replace bel := below_alloc (o := .cells #[.int .u64 2431258207, .int .u64 2051218812, .int .u64 494829981, .int .u64 174109134, .int .u64 3052452032, .int .u64 3923390739, .int .u64 681186428, .int .u64 4176747965, .int .u64 2459098153, .int .u64 1570674879, .int .u64 2519084143, .int .u64 907533898] 22) (below_alloc (o := .cells #[.int .u64 1920338615, .int .u64 978607672, .int .u64 3210029420, .int .u64 1426256477, .int .u64 2186553912, .int .u64 1509376480, .int .u64 2343017368, .int .u64 1847409506, .int .u64 4079005044, .int .u64 2394015518, .int .u64 3196781879, .int .u64 2861025826] 22) bel)
  have lt0 := B0.lt
  have d0 := B0.cell 0 _ rfl; have g0 := B0.frozen 0; have d1 := B0.cell 1 _ rfl; have g1 := B0.frozen 1; have d2 := B0.cell 2 _ rfl; have g2 := B0.frozen 2
  go_wp2_with fail
  generalize (W.alloc (Obj.cells #[.int .u64 1920338615, .int .u64 978607672, .int .u64 3210029420, .int .u64 1426256477, .int .u64 2186553912, .int .u64 1509376480, .int .u64 2343017368, .int .u64 1847409506, .int .u64 4079005044, .int .u64 2394015518, .int .u64 3196781879, .int .u64 2861025826] 22)).alloc (Obj.cells #[.int .u64 2431258207, .int .u64 2051218812, .int .u64 494829981, .int .u64 174109134, .int .u64 3052452032, .int .u64 3923390739, .int .u64 681186428, .int .u64 4176747965, .int .u64 2459098153, .int .u64 1570674879, .int .u64 2519084143, .int .u64 907533898] 22) = W2 at *
  exact bodyPost_ret (v := .agg #[.bool false, .slice (some ⟨W.heap.size, 0, none⟩) 12 12, .slice (some ⟨W.heap.size + 1, 0, none⟩) 12 12]) (by simp [results, Tryd.results17, go_sem, d0, d1, d2]) rfl ⟨_, rfl, ⟨_, _, _, _, _, _, rfl, NX.put3 B0, NY.put3 B0⟩, below_put3 bel (Nat.le_refl _)⟩

theorem r5_To {v : Value} {P : Pt} {x0 x1 x2 x3 x4 x5 y0 y1 y2 y3 y4 y5 : Int} {n : Bool} {w : World} (h : PtIs w v P) (t : Told P [x0, x1, x2, x3, x4, x5] [y0, y1, y2, y3, y4, y5] n) :
    Calls Tryd.prog 12 #[v] w fun e w' => e = .returned (.agg #[.int .u64 x0, .int .u64 x1, .int .u64 x2, .int .u64 x3, .int .u64 x4, .int .u64 x5, .int .u64 y0, .int .u64 y1, .int .u64 y2, .int .u64 y3, .int .u64 y4, .int .u64 y5, .bool n]) ∧ Below w.heap.size w w' := by
  rcases t.is with ⟨rfl, rfl, hx, hy⟩ | ⟨rfl, rfl⟩
  · simp only [List.cons.injEq, and_true] at hx hy
    obtain ⟨rfl, rfl, rfl, rfl, rfl, rfl⟩ := hx
    obtain ⟨rfl, rfl, rfl, rfl, rfl, rfl⟩ := hy
    exact to_none h
  · exact to_some h t.fA t.fB rfl rfl
end Go.Proofs.YtdikjabghhhhfaaDoor

namespace Go.Proofs.YtdikjabghhhhfaaDoor
open Go.RowKit

theorem of6z {x0 x1 x2 x3 x4 x5 : Int} {w : World} (fX : fits [x0, x1, x2, x3, x4, x5]) :
    Calls Tryd.prog 14 #[.agg #[.int .u64 x0, .int .u64 x1, .int .u64 x2, .int .u64 x3, .int .u64 x4, .int .u64 x5]] w fun e w' => ∃ v', e = .returned v' ∧ NumIs w' v' (v64 [x0, x1, x2, x3, x4, x5]) ∧ Below w.heap.size w w' := of6_any [x0, x1, x2, x3, x4, x5] w rfl fX

set_option maxRecDepth 100000 in
set_option maxHeartbeats 1000000 in
theorem of_none {x0 x1 x2 x3 x4 x5 y0 y1 y2 y3 y4 y5 : Int} {w : World} :
    Calls Tryd.prog 15 #[.agg #[.int .u64 x0, .int .u64 x1, .int .u64 x2, .int .u64 x3, .int .u64 x4, .int .u64 x5, .int .u64 y0, .int .u64 y1, .int .u64 y2, .int .u64 y3, .int .u64 y4, .int .u64 y5, .bool true]] w fun e w' => ∃ v', e = .returned v' ∧ PtIs w' v' none ∧ Below w.heap.size w w' := by
  have B0 := (Blk.new w [.int .u64 x0, .int .u64 x1, .int .u64 x2, .int .u64 x3, .int .u64 x4, .int .u64 x5, .int .u64 y0, .int .u64 y1, .int .u64 y2, .int .u64 y3, .int .u64 y4, .int .u64 y5, .bool true] 26 (w.heap.size) rfl).alloc (.cells [.bool false, .slice none 0 0, .slice none 0 0].toArray 38)
  have B1 := Blk.new (w.alloc (.cells [.int .u64 x0, .int .u64 x1, .int .u64 x2, .int .u64 x3, .int .u64 x4, .int .u64 x5, .int .u64 y0, .int .u64 y1, .int .u64 y2, .int .u64 y3, .int .u64 y4, .int .u64 y5, .bool true].toArray 26)) [.bool false, .slice none 0 0, .slice none 0 0] 38 (w.heap.size + 1) (by simp)
  have bel : Below w.heap.size w ((w.alloc (.cells [.int .u64 x0, .int .u64 x1, .int .u64 x2, .int .u64 x3, .int .u64 x4, .int .u64 x5, .int .u64 y0, .int .u64 y1, .int .u64 y2, .int .u64 y3, .int .u64 y4, .int .u64 y5, .bool true].toArray 26)).alloc (.cells [.bool false, .slice none 0 0, .slice none 0 0].toArray 38)) := (((Below.refl _ _).alloc (Nat.le_refl _) _).alloc (by simp) _)
  go_enter Tryd.func15, Tryd.ntmps15
  go_upto_region 1 with fail
  try simp only [us, List.map_cons, List.map_nil] at bel
  generalize ((w.alloc (Obj.cells #[.int .u64 x0, .int .u64 x1, .int .u64 x2, .int .u64 x3, .int .u64 x4, .int .u64 x5, .int .u64 y0, .int .u64 y1, .int .u64 y2, .int .u64 y3, .int .u64 y4, .int .u64 y5, .bool true] 26)).alloc (Obj.cells #[.bool false, .slice none 0 0, .slice none 0 0] 38)) = W at *
  have lt0 := B0.lt
  have lt1 := B1.lt
  have c0 := B0.cell 0 _ rfl; have f0 := B0.frozen 0; have c1 := B0.cell 1 _ rfl; have f1 := B0.frozen 1; have c2 := B0.cell 2 _ rfl; have f2 := B0.frozen 2; have c3 := B0.cell 3 _ rfl; have f3 := B0.frozen 3; have c4 := B0.cell 4 _ rfl; have f4 := B0.frozen 4; have c5 := B0.cell 5 _ rfl; have f5 := B0.frozen 5; have c6 := B0.cell 6 _ rfl; have f6 := B0.frozen 6; have c7 := B0.cell 7 _ rfl; have f7 := B0.frozen 7; have c8 := B0.cell 8 _ rfl; have f8 := B0.frozen 8; have c9 := B0.cell 9 _ rfl; have f9 := B0.frozen 9; have c10 := B0.cell 10 _ rfl; have f10 := B0.frozen 10; have c11 := B0.cell 11 _ rfl; have f11 := B0.frozen 11; have c12 := B0.cell 12 _ rfl; have f12 := B0.frozen 12
  have d0 := B1.cell 0 _ rfl; have g0 := B1.frozen 0; have d1 := B1.cell 1 _ rfl; have g1 := B1.frozen 1; have d2 := B1.cell 2 _ rfl; have g2 := B1.frozen 2
  go_wp2_with fail
  exact bodyPost_ret (v := .agg #[.bool true, .slice none 0 0, .slice none 0 0]) (by simp [results, Tryd.results15, go_sem, d0, d1, d2]) rfl ⟨_, rfl, rfl, below_put3 bel (by omega)⟩

set_option maxRecDepth 100000 in
set_option maxHeartbeats 2000000 in
theorem of_some {x0 x1 x2 x3 x4 x5 y0 y1 y2 y3 y4 y5 : Int} {w : World} (fX : fits [x0, x1, x2, x3, x4, x5]) (fY : fits [y0, y1, y2, y3, y4, y5]) :
    Calls Tryd.prog 15 #[.agg #[.int .u64 x0, .int .u64 x1, .int .u64 x2, .int .u64 x3, .int .u64 x4, .int .u64 x5, .int .u64 y0, .int .u64 y1, .int .u64 y2, .int .u64 y3, .int .u64 y4, .int .u64 y5, .bool false]] w fun e w' => ∃ v', e = .returned v' ∧ PtIs w' v' (some (v64 [x0, x1, x2, x3, x4, x5], v64 [y0, y1, y2, y3, y4, y5])) ∧ Below w.heap.size w w' := by
  have B0 := (Blk.new w [.int .u64 x0, .int .u64 x1, .int .u64 x2, .int .u64 x3, .int .u64 x4, .int .u64 x5, .int .u64 y0, .int .u64 y1, .int .u64 y2, .int .u64 y3, .int .u64 y4, .int .u64 y5, .bool false] 26 (w.heap.size) rfl).alloc (.cells [.bool false, .slice none 0 0, .slice none 0 0].toArray 38)
  have B1 := Blk.new (w.alloc (.cells [.int .u64 x0, .int .u64 x1, .int .u64 x2, .int .u64 x3, .int .u64 x4, .int .u64 x5, .int .u64 y0, .int .u64 y1, .int .u64 y2, .int .u64 y3, .int .u64 y4, .int .u64 y5, .bool false].toArray 26)) [.bool false, .slice none 0 0, .slice none 0 0] 38 (w.heap.size + 1) (by simp)
  have bel : Below w.heap.size w ((w.alloc (.cells [.int .u64 x0, .int .u64 x1, .int .u64 x2, .int .u64 x3, .int .u64 x4, .int .u64 x5, .int .u64 y0, .int .u64 y1, .int .u64 y2, .int .u64 y3, .int .u64 y4, .int .u64 y5, .bool false].toArray 26)).alloc (.cells [.bool false, .slice none 0 0, .slice none 0 0].toArray 38)) := (((Below.refl _ _).alloc (Nat.le_refl _) _).alloc (by simp) _)
  go_enter Tryd.func15, Tryd.ntmps15
  go_upto_region 1 with fail
  try simp only [us, List.map_cons, List.map_nil] at bel
  generalize ((w.alloc (Obj.cells #[.int .u64 x0, .int .u64 x1, .int .u64 x2, .int .u64 x3, .int .u64 x4, .int .u64 x5, .int .u64 y0, .int .u64 y1, .int .u64 y2, .int .u64 y3, .int .u64 y4, .int .u64 y5, .bool false] 26)).alloc (Obj.cells #[.bool false, .slice none 0 0, .slice none 0 0] 38)) = W at *
  have lt0 := B0.lt
  have c0 := B0.cell 0 _ rfl; have f0 := B0.frozen 0; have c1 := B0.cell 1 _ rfl; have f1 := B0.frozen 1; have c2 := B0.cell 2 _ rfl; have f2 := B0.frozen 2; have c3 := B0.cell 3 _ rfl; have f3 := B0.frozen 3; have c4 := B0.cell 4 _ rfl; have f4 := B0.frozen 4; have c5 := B0.cell 5 _ rfl; have f5 := B0.frozen 5; have c6 := B0.cell 6 _ rfl; have f6 := B0.frozen 6; have c7 := B0.cell 7 _ rfl; have f7 := B0.frozen 7; have c8 := B0.cell 8 _ rfl; have f8 := B0.frozen 8; have c9 := B0.cell 9 _ rfl; have f9 := B0.frozen 9; have c10 := B0.cell 10 _ rfl; have f10 := B0.frozen 10; have c11 := B0.cell 11 _ rfl; have f11 := B0.frozen 11; have c12 := B0.cell 12 _ rfl; have f12 := B0.frozen 12
  go_upto_region 3 with fail
  clear c0 c1 c2 c3 c4 c5 c6 c7 c8 c9 c10 c11 c12 f0 f1 f2 f3 f4 f5 f6 f7 f8 f9 f10 f11 f12
  obtain ⟨S1, hS1, KL1, KA1, KD1, KS1, KQ1, KN1, KB1, KM1, KR1⟩ := held3 (w0 := w) (W := W) [(w.heap.size, [.int .u64 x0, .int .u64 x1, .int .u64 x2, .int .u64 x3, .int .u64 x4, .int .u64 x5, .int .u64 y0, .int .u64 y1, .int .u64 y2, .int .u64 y3, .int .u64 y4, .int .u64 y5, .bool false])] (by
    intro b X h
    simp only [List.mem_cons, List.not_mem_nil, or_false, Prod.mk.injEq] at h
    rcases h with ⟨rfl, rfl⟩
    · exact B0) bel
  have kb1a : ∀ wx, Hd S1 wx → Blk wx (w.heap.size) [.int .u64 x0, .int .u64 x1, .int .u64 x2, .int .u64 x3, .int .u64 x4, .int .u64 x5, .int .u64 y0, .int .u64 y1, .int .u64 y2, .int .u64 y3, .int .u64 y4, .int .u64 y5, .bool false] := fun wx h => KM1.out wx _ _ h (by simp)
  have c1a0 := rulec kb1a 0 _ rfl
  have c1a1 := rulec kb1a 1 _ rfl
  have c1a2 := rulec kb1a 2 _ rfl
  have c1a3 := rulec kb1a 3 _ rfl
  have c1a4 := rulec kb1a 4 _ rfl
  have c1a5 := rulec kb1a 5 _ rfl
  have c1a6 := rulec kb1a 6 _ rfl
  have c1a7 := rulec kb1a 7 _ rfl
  have c1a8 := rulec kb1a 8 _ rfl
  have c1a9 := rulec kb1a 9 _ rfl
  have c1a10 := rulec kb1a 10 _ rfl
  have c1a11 := rulec kb1a 11 _ rfl
  have c1a12 := rulec kb1a 12 _ rfl
  have c1al := ruleb kb1a
  clear kb1a
  have mq1a : ∀ c X, (c, X) ∈ [((w.heap.size : Nat), ([.int .u64 x0, .int .u64 x1, .int .u64 x2, .int .u64 x3, .int .u64 x4, .int .u64 x5, .int .u64 y0, .int .u64 y1, .int .u64 y2, .int .u64 y3, .int .u64 y4, .int .u64 y5, .bool false] : List Value))] → c ≠ w.heap.size + 1 := by
    intro c X h
    simp only [List.mem_cons, List.not_mem_nil, or_false, Prod.mk.injEq] at h
    omega
  have hN1 := bel.size
  clear bel B0 lt0
  go_region_held3 (Hd S1)
    (first
      | with_reducible exact (KQ1.out _ _ _ _ (KQ1.out _ _ _ _ (KQ1.out _ _ _ _ (by assumption) (Or.inr mq1a) (by omega)) (Or.inr mq1a) (by omega)) (Or.inr mq1a) (by omega))
      | with_reducible exact KL1.out _ _ (by assumption) hb
      | with_reducible exact KA1.out _ _ (by assumption)
      | with_reducible exact KS1.out _ _ _ (by omega) (by assumption)
      | with_reducible exact KD1.out _ hS1
      | with_reducible exact KD1.out _ (KA1.out _ _ hS1)
      | with_reducible assumption)
    (first
      | (go_at_call 14; go_fit (of6z fX); rintro e w' ⟨vx, rfl, NX, hb⟩; (first | replace B1 := B1.later hb | replace B1 := B1.drew.later hb | skip); obtain ⟨a1, n1, k1, rfl⟩ := NX.form)
      | (go_at_call 14; go_fit (of6z fY); rintro e w' ⟨vy, rfl, NY, hb⟩; (first | replace B1 := B1.later hb | replace B1 := B1.drew.later hb | skip); (first | replace NX := NX.later hb | replace NX := NX.drew.later hb | skip); obtain ⟨a2, n2, k2, rfl⟩ := NY.form; have lt1 := B1.lt; have d0 := B1.cell 0 _ rfl; have g0 := B1.frozen 0; have d1 := B1.cell 1 _ rfl; have g1 := B1.frozen 1; have d2 := B1.cell 2 _ rfl; have g2 := B1.frozen 2))
  all_goals go_wp2
  all_goals exact bodyPost_ret (v := .agg #[.bool false, .slice a1 n1 k1, .slice a2 n2 k2]) (by simp [results, Tryd.results15, go_sem, d0, d1, d2]) rfl ⟨_, rfl, ⟨_, _, _, _, _, _, rfl, NX.put3 B1, NY.put3 B1⟩, KB1.out _ (by assumption)⟩

theorem r5_Of {x0 x1 x2 x3 x4 x5 y0 y1 y2 y3 y4 y5 : Int} {n : Bool} {P : Pt} {w : World} (h : Told P [x0, x1, x2, x3, x4, x5] [y0, y1, y2, y3, y4, y5] n) :
    Calls Tryd.prog 15 #[.agg #[.int .u64 x0, .int .u64 x1, .int .u64 x2, .int .u64 x3, .int .u64 x4, .int .u64 x5, .int .u64 y0, .int .u64 y1, .int .u64 y2, .int .u64 y3, .int .u64 y4, .int .u64 y5, .bool n]] w fun e w' => ∃ v', e = .returned v' ∧ PtIs w' v' P ∧ Below w.heap.size w w' := by
  rcases h.is with ⟨rfl, rfl, _, _⟩ | ⟨rfl, rfl⟩
  · exact of_none
  · exact of_some h.fA h.fB
end Go.Proofs.YtdikjabghhhhfaaDoor

namespace Go.Proofs.YtdikjabghhhhfaaDoor
open Go.RowKit

theorem pinv_is {X : Int} : X ^ (PP - 2).toNat % PP = pinv X := by
  unfold pinv
  rw [show (PP - 2).toNat = 39402006196394479212279040100143613805079739270465446667948293404245721771496870329047266088258938001861606973112317 from by decide +kernel]

theorem pinv_lo (X : Int) : Lo (pinv X) := by unfold pinv; exact lo_emod _

theorem e_40 : PP - 2 < 4294967296 ^ 40 := by decide +kernel

set_option maxRecDepth 100000 in
set_option maxHeartbeats 400000 in
theorem r3_Inv {u : Value} {X : Int} {w : World} (hu : NumIs w u X) (hX : X < 4294967296 ^ 30) :
    Calls Tryd.prog 61 #[u] w fun e w' => ∃ v', e = .returned v' ∧ NumIs w' v' (pinv X) ∧ Below w.heap.size w w' := by
  have HX : Hid _ := hX
  clear hX
  go_enter Tryd.func61, Tryd.ntmps61
  go_wp2_with fail
  refine p_any.mono ?_
  rintro e w1 ⟨v1, rfl, h1, bel⟩
  replace hu := hu.later bel
  have N2 := two_dig w1 22
  replace hu := hu.alloc (.cells #[.int .u64 2] 22)
  replace h1 := h1.alloc (.cells #[.int .u64 2] 22)
  replace bel := below_alloc (o := .cells #[.int .u64 2] 22) bel
  go_wp2_with fail
  generalize w1.alloc (Obj.cells #[.int .u64 2] 22) = W at *
  refine (rsub_any _ _ _ _ _ h1 N2 pp_30 (by decide)).mono ?_
  rintro e w2 ⟨v2, rfl, h2, hb⟩
  replace hu := hu.later hb
  replace bel := below_step bel hb
  clear hb h1 N2
  go_wp2_with fail
  refine p_any.mono ?_
  rintro e w3 ⟨v3, rfl, h3, hb⟩
  replace hu := hu.later hb
  replace h2 := h2.later hb
  replace bel := below_step bel hb
  clear hb
  go_wp2_with fail
  refine (rexp_any _ _ _ _ _ _ _ hu h2 h3 HX.out e_40 PP_pos PP_lt).mono ?_
  rintro e w4 ⟨v4, rfl, h4, hb⟩
  rw [pinv_is] at h4
  replace bel := below_step bel hb
  clear hb
  go_wp2_with fail
  go_ret
  exact ⟨_, rfl, h4, bel⟩

set_option maxRecDepth 100000 in
set_option maxHeartbeats 1000000 in
theorem on_none {x0 x1 x2 x3 x4 x5 y0 y1 y2 y3 y4 y5 : Int} {b : Bool} {w : World} (fX : fits [x0, x1, x2, x3, x4, x5]) (fY : fits [y0, y1, y2, y3, y4, y5]) (hb : b = true ↔ IsOn true (v64 [x0, x1, x2, x3, x4, x5]) (v64 [y0, y1, y2, y3, y4, y5])) :
    Calls Tryd.prog 11 #[.agg #[.int .u64 x0, .int .u64 x1, .int .u64 x2, .int .u64 x3, .int .u64 x4, .int .u64 x5, .int .u64 y0, .int .u64 y1, .int .u64 y2, .int .u64 y3, .int .u64 y4, .int .u64 y5, .bool true]] w fun e w' => e = .returned (.bool b) ∧ Below w.heap.size w w' := by
  have bq : (decide ([x0, x1, x2, x3, x4, x5] = [0, 0, 0, 0, 0, 0] ∧ [y0, y1, y2, y3, y4, y5] = [0, 0, 0, 0, 0, 0] ∧ true = true)) = b := by
    have e : ([x0, x1, x2, x3, x4, x5] = [0, 0, 0, 0, 0, 0] ∧ [y0, y1, y2, y3, y4, y5] = [0, 0, 0, 0, 0, 0] ∧ true = true) ↔ IsOn true (v64 [x0, x1, x2, x3, x4, x5]) (v64 [y0, y1, y2, y3, y4, y5]) := by
      rw [← v6_zero fX, ← v6_zero fY]; unfold IsOn; simp
    rw [← hb] at e
    cases b with
    | false => exact decide_eq_false (fun h => absurd (e.1 h) (by simp))
    | true => exact decide_eq_true (e.2 rfl)
  have q1 := eql_pt x0 x1 x2 x3 x4 x5 y0 y1 y2 y3 y4 y5 0 0 0 0 0 0 0 0 0 0 0 0 true true
  rw [bq] at q1
  clear bq hb
  have B0 := Blk.new w [.int .u64 x0, .int .u64 x1, .int .u64 x2, .int .u64 x3, .int .u64 x4, .int .u64 x5, .int .u64 y0, .int .u64 y1, .int .u64 y2, .int .u64 y3, .int .u64 y4, .int .u64 y5, .bool true] 26 w.heap.size rfl
  have bel : Below w.heap.size w (w.alloc (.cells [.int .u64 x0, .int .u64 x1, .int .u64 x2, .int .u64 x3, .int .u64 x4, .int .u64 x5, .int .u64 y0, .int .u64 y1, .int .u64 y2, .int .u64 y3, .int .u64 y4, .int .u64 y5, .bool true].toArray 26)) := (Below.refl _ _).alloc (Nat.le_refl _) _
  go_enter Tryd.func11, Tryd.ntmps11
  go_upto_region 1 with fail
  generalize w.alloc _ = W at *
  have lt0 := B0.lt
  have c0 := B0.cell 0 _ rfl; have f0 := B0.frozen 0; have c1 := B0.cell 1 _ rfl; have f1 := B0.frozen 1; have c2 := B0.cell 2 _ rfl; have f2 := B0.frozen 2; have c3 := B0.cell 3 _ rfl; have f3 := B0.frozen 3; have c4 := B0.cell 4 _ rfl; have f4 := B0.frozen 4; have c5 := B0.cell 5 _ rfl; have f5 := B0.frozen 5; have c6 := B0.cell 6 _ rfl; have f6 := B0.frozen 6; have c7 := B0.cell 7 _ rfl; have f7 := B0.frozen 7; have c8 := B0.cell 8 _ rfl; have f8 := B0.frozen 8; have c9 := B0.cell 9 _ rfl; have f9 := B0.frozen 9; have c10 := B0.cell 10 _ rfl; have f10 := B0.frozen 10; have c11 := B0.cell 11 _ rfl; have f11 := B0.frozen 11; have c12 := B0.cell 12 _ rfl; have f12 := B0.frozen 12
  go_wp2_with fail
  go_ret
  exact ⟨rfl, bel⟩

theorem on_rhs (X : Int) : Nu ((((X * X) % PP * X) % PP - (3 * X) % PP) % PP + BB - (X * X * X - 3 * X + BB)) := by
  have e1 := nu_emod (X * X)
  have e2 := nu_emod (((X * X) % PP) * X)
  have e3 := nu_emod (3 * X)
  generalize (X * X) % PP = A at *
  generalize (A * X) % PP = B at *
  generalize (3 * X) % PP = C at *
  have e4 := nu_emod (B - C)
  generalize (B - C) % PP = D at *
  exact nu_of4 e4 1 e2 1 e3 (-1) e1 X (by grind)

theorem on_iff {X Y : Int} (hX : Lo X) (hY : Lo Y) : cmpN ((Y * Y) % PP) (((((X * X) % PP * X) % PP - (3 * X) % PP) % PP + BB) % PP) = 0 ↔ IsOn false X Y := by
  have e := on_rhs X
  generalize (((X * X) % PP * X) % PP - (3 * X) % PP) % PP + BB = R at *
  have c : ∀ a b : Int, cmpN a b = 0 ↔ a = b := fun a b => by
    unfold cmpN
    by_cases h1 : a < b
    · rw [if_pos h1]; constructor <;> intro h <;> omega
    · rw [if_neg h1]
      by_cases h2 : a = b
      · rw [if_pos h2]; simp [h2]
      · rw [if_neg h2]; constructor <;> intro h <;> omega
  rw [c]
  constructor
  · intro h
    refine .inr ⟨rfl, hX, hY, ?_⟩
    have h1 : Nu (Y * Y - R) := nu_iff.2 (Int.emod_eq_emod_iff_emod_sub_eq_zero.1 h)
    exact nu_of2 h1 1 e 1 (by grind)
  · rintro (⟨h, _⟩ | ⟨_, h⟩)
    · exact absurd h (by simp)
    · exact nu_eq (nu_of2 h.cu 1 e (-1) (by grind))

set_option maxRecDepth 100000 in
set_option maxHeartbeats 2000000 in
theorem on_some {x0 x1 x2 x3 x4 x5 y0 y1 y2 y3 y4 y5 : Int} {b : Bool} {w : World} (fX : fits [x0, x1, x2, x3, x4, x5]) (fY : fits [y0, y1, y2, y3, y4, y5]) (hb : b = true ↔ IsOn false (v64 [x0, x1, x2, x3, x4, x5]) (v64 [y0, y1, y2, y3, y4, y5])) :
    Calls Tryd.prog 11 #[.agg #[.int .u64 x0, .int .u64 x1, .int .u64 x2, .int .u64 x3, .int .u64 x4, .int .u64 x5, .int .u64 y0, .int .u64 y1, .int .u64 y2, .int .u64 y3, .int .u64 y4, .int .u64 y5, .bool false]] w fun e w' => e = .returned (.bool b) ∧ Below w.heap.size w w' := by
  have B0 := Blk.new w [.int .u64 x0, .int .u64 x1, .int .u64 x2, .int .u64 x3, .int .u64 x4, .int .u64 x5, .int .u64 y0, .int .u64 y1, .int .u64 y2, .int .u64 y3, .int .u64 y4, .int .u64 y5, .bool false] 26 w.heap.size rfl
  have bel : Below w.heap.size w (w.alloc (.cells [.int .u64 x0, .int .u64 x1, .int .u64 x2, .int .u64 x3, .int .u64 x4, .int .u64 x5, .int .u64 y0, .int .u64 y1, .int .u64 y2, .int .u64 y3, .int .u64 y4, .int .u64 y5, .bool false].toArray 26)) := (Below.refl _ _).alloc (Nat.le_refl _) _
  have BX := v6_bound _ rfl fX
  have BY := v6_bound _ rfl fY
  have HX : Hid _ := BX
  have HY : Hid _ := BY
  have X3 : Hid _ := num_30 _ rfl fX
  have Y3 : Hid _ := num_30 _ rfl fY
  have HB : Hid _ := hb
  clear hb BX BY
  go_enter Tryd.func11, Tryd.ntmps11
  go_upto_region 1 with fail
  generalize w.alloc _ = W at *
  have lt0 := B0.lt
  have c0 := B0.cell 0 _ rfl; have f0 := B0.frozen 0; have c1 := B0.cell 1 _ rfl; have f1 := B0.frozen 1; have c2 := B0.cell 2 _ rfl; have f2 := B0.frozen 2; have c3 := B0.cell 3 _ rfl; have f3 := B0.frozen 3; have c4 := B0.cell 4 _ rfl; have f4 := B0.frozen 4; have c5 := B0.cell 5 _ rfl; have f5 := B0.frozen 5; have c6 := B0.cell 6 _ rfl; have f6 := B0.frozen 6; have c7 := B0.cell 7 _ rfl; have f7 := B0.frozen 7; have c8 := B0.cell 8 _ rfl; have f8 := B0.frozen 8; have c9 := B0.cell 9 _ rfl; have f9 := B0.frozen 9; have c10 := B0.cell 10 _ rfl; have f10 := B0.frozen 10; have c11 := B0.cell 11 _ rfl; have f11 := B0.frozen 11; have c12 := B0.cell 12 _ rfl; have f12 := B0.frozen 12
  go_wp2_with fail
  refine (of6_any [x0, x1, x2, x3, x4, x5] _ rfl fX).mono ?_
  rintro e w1 ⟨vx, rfl, NX, hb⟩
  replace B0 := B0.later hb
  replace bel := below_step bel hb
  clear hb lt0 c0 c1 c2 c3 c4 c5 c6 c7 c8 c9 c10 c11 c12 f0 f1 f2 f3 f4 f5 f6 f7 f8 f9 f10 f11 f12
  have lt0 := B0.lt
  have c0 := B0.cell 0 _ rfl; have f0 := B0.frozen 0; have c1 := B0.cell 1 _ rfl; have f1 := B0.frozen 1; have c2 := B0.cell 2 _ rfl; have f2 := B0.frozen 2; have c3 := B0.cell 3 _ rfl; have f3 := B0.frozen 3; have c4 := B0.cell 4 _ rfl; have f4 := B0.frozen 4; have c5 := B0.cell 5 _ rfl; have f5 := B0.frozen 5; have c6 := B0.cell 6 _ rfl; have f6 := B0.frozen 6; have c7 := B0.cell 7 _ rfl; have f7 := B0.frozen 7; have c8 := B0.cell 8 _ rfl; have f8 := B0.frozen 8; have c9 := B0.cell 9 _ rfl; have f9 := B0.frozen 9; have c10 := B0.cell 10 _ rfl; have f10 := B0.frozen 10; have c11 := B0.cell 11 _ rfl; have f11 := B0.frozen 11; have c12 := B0.cell 12 _ rfl; have f12 := B0.frozen 12
  go_wp2_with fail
  refine (of6_any [y0, y1, y2, y3, y4, y5] _ rfl fY).mono ?_
  rintro e w2 ⟨vy, rfl, NY, hb⟩
  replace NX := NX.later hb
  replace bel := below_step bel hb
  clear hb lt0 c0 c1 c2 c3 c4 c5 c6 c7 c8 c9 c10 c11 c12 f0 f1 f2 f3 f4 f5 f6 f7 f8 f9 f10 f11 f12 B0
  obtain ⟨X, hX⟩ : ∃ X, v64 [x0, x1, x2, x3, x4, x5] = X := ⟨_, rfl⟩
  obtain ⟨Y, hY⟩ : ∃ Y, v64 [y0, y1, y2, y3, y4, y5] = Y := ⟨_, rfl⟩
  rw [hX] at NX HX X3 HB
  rw [hY] at NY HY Y3 HB
  clear hX hY
  go_wp2_with fail
  refine p_any.mono ?_
  rintro e w3 ⟨v3, rfl, N3, hb⟩
  replace NX := NX.later hb
  replace NY := NY.later hb
  replace bel := below_step bel hb
  clear hb
  go_wp2_with fail
  refine (cmp_any _ _ _ _ _ NX N3).mono ?_
  rintro e w4 ⟨rfl, hb⟩
  replace NX := NX.later hb
  replace NY := NY.later hb
  replace bel := below_step bel hb
  clear hb N3
  by_cases hx : X < PP
  · have hge : ¬ 0 ≤ cmpN X PP := by have := cmp_neg hx; omega
    have hgd : decide (0 ≤ cmpN X PP) = false := decide_eq_false hge
    have LX : Hid (Lo X) := ⟨HX.out.1, hx⟩
    clear hx
    go_wp2_with fail
    refine p_any.mono ?_
    rintro e w5 ⟨v3, rfl, N3, hb⟩
    replace NX := NX.later hb
    replace NY := NY.later hb
    replace bel := below_step bel hb
    clear hb hge hgd
    go_wp2_with fail
    refine (cmp_any _ _ _ _ _ NY N3).mono ?_
    rintro e w6 ⟨rfl, hb⟩
    replace NX := NX.later hb
    replace NY := NY.later hb
    replace bel := below_step bel hb
    clear hb N3
    by_cases hy : Y < PP
    · have hge : ¬ 0 ≤ cmpN Y PP := by have := cmp_neg hy; omega
      have hgd : decide (0 ≤ cmpN Y PP) = false := decide_eq_false hge
      have LY : Hid (Lo Y) := ⟨HY.out.1, hy⟩
      clear hy
      go_wp2_with fail
      refine (pmul NY NY Y3.out Y3.out (lo_mul LY.out LY.out)).mono ?_
      rintro e w7 ⟨vl, rfl, NL, hb⟩
      replace NX := NX.later hb
      replace bel := below_step bel hb
      clear hb hge hgd NY
      go_wp2_with fail
      refine (pmul NX NX X3.out X3.out (lo_mul LX.out LX.out)).mono ?_
      rintro e w8 ⟨v8, rfl, N8, hb⟩
      replace NX := NX.later hb
      replace NL := NL.later hb
      replace bel := below_step bel hb
      clear hb
      go_wp2_with fail
      refine (pmul N8 NX (lo_30 (lo_emod _)) X3.out (lo_mul (lo_emod _) LX.out)).mono ?_
      rintro e w9 ⟨v9, rfl, N9, hb⟩
      replace NX := NX.later hb
      replace NL := NL.later hb
      replace bel := below_step bel hb
      clear hb N8
      have N3 := three_dig w9 22
      replace NX := NX.alloc (.cells #[.int .u64 3] 22)
      replace NL := NL.alloc (.cells #[.int .u64 3] 22)
      replace N9 := N9.alloc (.cells #[.int .u64 3] 22)
      replace bel := below_alloc (o := .cells #[.int .u64 3] 22) bel
      go_wp2_with fail
      generalize w9.alloc (Obj.cells #[.int .u64 3] 22) = W9 at *
      refine (pmul N3 NX (by decide) X3.out (lo_mul lo_three LX.out)).mono ?_
      rintro e w10 ⟨v10, rfl, N10, hb⟩
      replace NL := NL.later hb
      replace N9 := N9.later hb
      replace bel := below_step bel hb
      clear hb N3 NX
      go_wp2_with fail
      refine (psub N9 N10 (lo_30 (lo_emod _)) (lo_30 (lo_emod _))).mono ?_
      rintro e w11 ⟨v11, rfl, N11, hb⟩
      replace NL := NL.later hb
      replace bel := below_step bel hb
      clear hb N9 N10
      go_wp2_with fail
      refine r5_B.mono ?_
      rintro e w12 ⟨v12, rfl, N12, hb⟩
      replace NL := NL.later hb
      replace N11 := N11.later hb
      replace bel := below_step bel hb
      clear hb
      go_wp2_with fail
      refine (padd N11 N12 (lo_30 (lo_emod _)) (lo_30 lo_BB) (lo_sum (lo_emod _) lo_BB)).mono ?_
      rintro e w13 ⟨v13, rfl, N13, hb⟩
      replace NL := NL.later hb
      replace bel := below_step bel hb
      clear hb N11 N12
      go_wp2_with fail
      refine (cmp_any _ _ _ _ _ NL N13).mono ?_
      rintro e w14 ⟨rfl, hb⟩
      replace bel := below_step bel hb
      clear hb NL N13
      have hd : decide (cmpN ((Y * Y) % PP) (((((X * X) % PP * X) % PP - (3 * X) % PP) % PP + BB) % PP) = 0) = b := by
        have := on_iff LX.out LY.out
        rw [← HB.out] at this
        cases b with
        | false => exact decide_eq_false (fun h => absurd (this.1 h) (by simp))
        | true => exact decide_eq_true (this.2 rfl)
      generalize cmpN ((Y * Y) % PP) (((((X * X) % PP * X) % PP - (3 * X) % PP) % PP + BB) % PP) = cc at *
      have hq : (cc == 0) = b := hd
      clear hd HB
      subst hq
      go_wp2_with fail
      go_ret
      exact ⟨rfl, bel⟩
    · have hge : 0 ≤ cmpN Y PP := cmp_ge0 hy
      have hgd : decide (0 ≤ cmpN Y PP) = true := decide_eq_true hge
      have bf : b = false := by
        cases b with
        | false => rfl
        | true =>
          rcases HB.out.1 rfl with ⟨h, _⟩ | ⟨_, h⟩
          · exact absurd h (by simp)
          · exact absurd h.ly.2 hy
      subst bf
      go_wp2_with fail
      go_ret
      exact ⟨rfl, bel⟩
  · have hge : 0 ≤ cmpN X PP := cmp_ge0 hx
    have hgd : decide (0 ≤ cmpN X PP) = true := decide_eq_true hge
    have bf : b = false := by
      cases b with
      | false => rfl
      | true =>
        rcases HB.out.1 rfl with ⟨h, _⟩ | ⟨_, h⟩
        · exact absurd h (by simp)
        · exact absurd h.lx.2 hx
    subst bf
    go_wp2_with fail
    go_ret
    exact ⟨rfl, bel⟩

theorem r5_On {x0 x1 x2 x3 x4 x5 y0 y1 y2 y3 y4 y5 : Int} {n b : Bool} {w : World} (fX : fits [x0, x1, x2, x3, x4, x5]) (fY : fits [y0, y1, y2, y3, y4, y5]) (hb : b = true ↔ IsOn n (v64 [x0, x1, x2, x3, x4, x5]) (v64 [y0, y1, y2, y3, y4, y5])) :
    Calls Tryd.prog 11 #[.agg #[.int .u64 x0, .int .u64 x1, .int .u64 x2, .int .u64 x3, .int .u64 x4, .int .u64 x5, .int .u64 y0, .int .u64 y1, .int .u64 y2, .int .u64 y3, .int .u64 y4, .int .u64 y5, .bool n]] w fun e w' => e = .returned (.bool b) ∧ Below w.heap.size w w' := by
  cases n with
  | true => exact on_none fX fY hb
  | false => exact on_some fX fY hb
end Go.Proofs.YtdikjabghhhhfaaDoor
