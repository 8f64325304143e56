/- Small facts on worlds: a block that is known whole ('Blk'), behind new blocks, draws, stores and calls; and on numbers by limbs. -/
import Derived.WalkKit
import Derived.WalkSpells
import Derived.WalkLawsBesides
namespace Go.Proofs.Ytnkipgbnnhahbaa
open Go.RowKit
def Blk (w : World) (b : Nat) (cs : List Value) : Prop := ∃ t, w.heap[b]? = some (.cells cs.toArray t)
theorem Blk.lt {w : World} {b : Nat} {cs : List Value} (h : Blk w b cs) : b < w.heap.size := by
  obtain ⟨t, h⟩ := h
  exact (Array.getElem?_eq_some_iff.1 h).1
theorem Blk.cell {w : World} {b : Nat} {cs : List Value} (h : Blk w b cs) (j : Nat) (v : Value) (hv : cs[j]? = some v) : w.cell? ⟨b, j, none⟩ = some v := by
  obtain ⟨t, h⟩ := h
  simp [World.cell?, h, hv]
theorem Blk.frozen {w : World} {b : Nat} {cs : List Value} (h : Blk w b cs) (j : Nat) : w.frozen? ⟨b, j, none⟩ = false := by
  obtain ⟨t, h⟩ := h
  simp [World.frozen?, h]
theorem Blk.new (w : World) (cs : List Value) (t : TypeId) (b : Nat) (hb : b = w.heap.size) : Blk (w.alloc (.cells cs.toArray t)) b cs := by
  subst hb
  exact ⟨t, by show (w.heap.push _)[w.heap.size]? = _; simp⟩
theorem Blk.alloc {w : World} {b : Nat} {cs : List Value} (h : Blk w b cs) (o : Obj) : Blk (w.alloc o) b cs := by
  have hl := h.lt
  obtain ⟨t, h⟩ := h
  exact ⟨t, by rw [Below.heap_alloc _ _ _ hl]; exact h⟩
theorem Blk.drew {w : World} {b : Nat} {cs : List Value} (h : Blk w b cs) : Blk w.drew b cs := h
theorem Blk.drewN {w : World} {b : Nat} {cs : List Value} (h : Blk w b cs) (n : Nat) : Blk (w.drewN n) b cs := h
theorem Blk.other {w : World} {b : Nat} {cs : List Value} (h : Blk w b cs) (a : Addr) (v : Value) (hne : b ≠ a.block) : Blk (w.setCell a v) b cs := by
  obtain ⟨t, h⟩ := h
  exact ⟨t, by rw [Below.heap_setCell _ _ _ _ hne]; exact h⟩
theorem Blk.set {w : World} {b : Nat} {cs : List Value} (h : Blk w b cs) (k : Nat) (v : Value) : Blk (w.setCell ⟨b, k, none⟩ v) b (cs.set k v) := by
  obtain ⟨t, h⟩ := h
  refine ⟨t, ?_⟩
  simp [World.setCell, Array.getElem?_modify, h]
theorem Blk.below {B : Nat} {w w' : World} {b : Nat} {cs : List Value} (h : Blk w b cs) (hb : Below B w w') (hl : b < B) : Blk w' b cs := by
  obtain ⟨t, h⟩ := h
  exact ⟨t, by rw [hb.block b hl]; exact h⟩
theorem Blk.later {w w' : World} {b : Nat} {cs : List Value} (h : Blk w b cs) (hb : Below w.heap.size w w') : Blk w' b cs := h.below hb h.lt
theorem below_dN {B : Nat} {a w : World} (h : Below B a w) (n : Nat) : Below B a (w.drewN n) := ⟨h.os, h.tape, h.output, h.size, h.block⟩
theorem ret_int {k : IntKind} {a b : Int} (h : a = b) : Ending.returned (.int k a) = .returned (.int k b) := by rw [h]
theorem bcell {W w1 : World} (hb : Below W.heap.size W w1) : (∀ b o, b < W.heap.size → w1.cell? ⟨b, o, none⟩ = W.cell? ⟨b, o, none⟩) ∧ (∀ b o, b < W.heap.size → w1.frozen? ⟨b, o, none⟩ = W.frozen? ⟨b, o, none⟩) ∧ W.heap.size ≤ w1.heap.size :=
  ⟨fun b o h => hb.cell (p := ⟨b, o, none⟩) h, fun b o h => hb.frozen (p := ⟨b, o, none⟩) h, hb.size⟩
/-- numbers as cells of 64 bits -/
abbrev us (A : List Int) : List Value := A.map (Value.int .u64)
theorem us_get (A : List Int) (j : Nat) (h : j < A.length) : (us A)[j]? = some (.int .u64 (A.getD j 0)) := by
  simp [us, h]
theorem us_set (A : List Int) (k : Nat) (x : Int) : (us A).set k (.int .u64 x) = us (A.set k x) := by simp [us, List.map_set]
theorem Blk.setu {w : World} {b : Nat} {S : List Int} (h : Blk w b (us S)) (k : Nat) (s : Int) : Blk (w.setCell ⟨b, k, none⟩ (.int .u64 s)) b (us (S.set k s)) := by
  rw [← us_set]; exact h.set k _
theorem Blk.cells6 {w : World} {b : Nat} {x0 x1 x2 x3 x4 x5 : Int} (h : Blk w b (us [x0, x1, x2, x3, x4, x5])) : w.cell? ⟨b, 0, none⟩ = some (.int .u64 x0) ∧ w.cell? ⟨b, 1, none⟩ = some (.int .u64 x1) ∧ w.cell? ⟨b, 2, none⟩ = some (.int .u64 x2) ∧ w.cell? ⟨b, 3, none⟩ = some (.int .u64 x3) ∧ w.cell? ⟨b, 4, none⟩ = some (.int .u64 x4) ∧ w.cell? ⟨b, 5, none⟩ = some (.int .u64 x5) :=
  ⟨h.cell 0 _ rfl, h.cell 1 _ rfl, h.cell 2 _ rfl, h.cell 3 _ rfl, h.cell 4 _ rfl, h.cell 5 _ rfl⟩
/-- each fits into 64 bits -/
def fits (A : List Int) : Prop := ∀ j, 0 ≤ A.getD j 0 ∧ A.getD j 0 < 18446744073709551616
/-- the number of digits to a base, the lowest first -/
def pv (b : Int) : List Int → Int
  | [] => 0
  | d :: ds => d + b * pv b ds
abbrev v64 : List Int → Int := pv 18446744073709551616
theorem pv_take (b : Int) : ∀ (A : List Int) (k : Nat), k < A.length → pv b (A.take (k + 1)) = pv b (A.take k) + b ^ k * A.getD k 0
  | [], k, h => absurd h (by simp)
  | a :: A, 0, _ => by simp [pv]
  | a :: A, k + 1, h => by
    have ih := pv_take b A k (by simpa using h)
    rw [List.take_succ_cons, List.take_succ_cons, pv, pv, ih, List.getD_cons_succ, Int.pow_succ]
    grind
theorem fits_cons {a : Int} {A : List Int} (h : fits (a :: A)) : (0 ≤ a ∧ a < 18446744073709551616) ∧ fits A := ⟨h 0, fun j => h (j + 1)⟩
theorem v64_bound : ∀ (A : List Int), fits A → 0 ≤ v64 A ∧ v64 A < 18446744073709551616 ^ A.length
  | [], _ => by simp [v64, pv]
  | a :: A, h => by
    obtain ⟨ha, hA⟩ := fits_cons h
    have ih := v64_bound A hA
    simp only [v64, pv, List.length_cons, Int.pow_succ] at *
    generalize (18446744073709551616 : Int) ^ A.length = p at *
    generalize pv 18446744073709551616 A = v at *
    omega
theorem v64_inj : ∀ (A B : List Int), A.length = B.length → fits A → fits B → v64 A = v64 B → A = B
  | [], [], _, _, _, _ => rfl
  | [], b :: B, h, _, _, _ => by simp at h
  | a :: A, [], h, _, _, _ => by simp at h
  | a :: A, b :: B, h, hA, hB, hv => by
    obtain ⟨ha, hA'⟩ := fits_cons hA
    obtain ⟨hb, hB'⟩ := fits_cons hB
    simp only [v64, pv] at hv
    have h1 : a = b := by omega
    have h2 : v64 A = v64 B := by show pv _ A = pv _ B; omega
    rw [h1, v64_inj A B (by simpa using h) hA' hB' h2]
theorem take_set_same (S : List Int) (k : Nat) (s : Int) : (S.set k s).take k = S.take k := by
  rw [List.take_set, List.set_eq_of_length_le (by simp; omega)]
theorem getD_set_same (S : List Int) (k : Nat) (s : Int) (h : k < S.length) : (S.set k s).getD k 0 = s := by
  simp [List.getD_eq_getElem?_getD, h]
theorem fits_set {S : List Int} (h : fits S) (k : Nat) (s : Int) (h0 : 0 ≤ s) (h1 : s < 18446744073709551616) : fits (S.set k s) := by
  intro j
  by_cases hj : k = j
  · subst hj
    by_cases hl : k < S.length
    · rw [getD_set_same S k s hl]; exact ⟨h0, h1⟩
    · rw [List.set_eq_of_length_le (by omega)]; exact h k
  · have : (S.set k s).getD j 0 = S.getD j 0 := by simp [List.getD_eq_getElem?_getD, hj]
    rw [this]; exact h j
theorem six {A : List Int} (h : A.length = 6) : ∃ x0 x1 x2 x3 x4 x5, A = [x0, x1, x2, x3, x4, x5] := by
  match A, h with
  | [x0, x1, x2, x3, x4, x5], _ => exact ⟨x0, x1, x2, x3, x4, x5, rfl⟩
theorem fits_one : fits [1, 0, 0, 0, 0, 0] := by
  intro j
  match j with
  | 0 => decide
  | 1 => decide
  | 2 => decide
  | 3 => decide
  | 4 => decide
  | 5 => decide
  | _ + 6 => exact ⟨by simp, by simp⟩
theorem getD_rep (n j : Nat) : (List.replicate n (0 : Int)).getD j 0 = 0 := by
  simp only [List.getD_eq_getElem?_getD, List.getElem?_replicate]
  split <;> rfl
theorem fits_zero (n : Nat) : fits (List.replicate n 0) := by
  intro j
  have : (List.replicate n (0 : Int)).getD j 0 = 0 := by
    simp only [List.getD_eq_getElem?_getD, List.getElem?_replicate]
    split <;> rfl
  rw [this]; decide
theorem hsl {n : Nat} {w w' : World} (h : n ≤ w.heap.size) (hb : Below w.heap.size w w') : n ≤ w'.heap.size := Nat.le_trans h hb.size
theorem bal (w : World) (o : Obj) : Below w.heap.size w (w.alloc o) := (Below.refl _ _).alloc (Nat.le_refl _) _
end Go.Proofs.Ytnkipgbnnhahbaa
