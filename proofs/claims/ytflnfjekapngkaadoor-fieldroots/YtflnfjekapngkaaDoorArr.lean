/- An array of numbers of 64 bits by value: opened as it is read, and shut again. -/
import Derived.Test.YtflnfjekapngkaaDoorBase
import Derived.ProofKit
import Derived.OpenShut
namespace Go.Proofs.YtflnfjekapngkaaDoor
open Go.ChangeShapes Go.WideShapes Go.ChangeAt Go.RowKit
variable {H : Type} {enc : TypeId × Value → H} {P : Program} {w : World} {base : Nat} {spare : Nat → Bool} {held : Bool}

theorem wf_u64 {n : Int} : (Lit.int .u64 n).wf = true ↔ 0 ≤ n ∧ n < 18446744073709551616 := by
  have h1 : IntKind.u64.min = 0 := rfl
  have h2 : IntKind.u64.max = 18446744073709551615 := rfl
  simp [Lit.wf, h1, h2]
  omega

theorem wf_i64 {n : Int} : (Lit.int .i64 n).wf = true ↔ -9223372036854775808 ≤ n ∧ n ≤ 9223372036854775807 := by
  have h1 : IntKind.i64.min = -9223372036854775808 := rfl
  have h2 : IntKind.i64.max = 9223372036854775807 := rfl
  simp [Lit.wf, h1, h2]

theorem fits_of (A : List Int) (h : ∀ j, j < A.length → 0 ≤ A.getD j 0 ∧ A.getD j 0 < 18446744073709551616) : fits A := by
  intro j
  by_cases hj : j < A.length
  · exact h j hj
  · have : A.getD j 0 = 0 := by simp [List.getD_eq_getElem?_getD, List.getElem?_eq_none (Nat.le_of_not_lt hj)]
    rw [this]; decide

theorem open_arr {n : Nat} {t e : TypeId} {cs : Array Value} {d : DataW H} {p : List MemPlace} (hu : P.underlying t = some (.array n e)) (hc : P.cellsOf t = n) (hue : P.underlying e = some (.int .u64)) (hce : P.cellsOf e = 1)
    (h : DataW.Trod enc P w base spare held t (.agg cs) d p) :
    ∃ A : List Int, A.length = n ∧ cs = (us A).toArray ∧ d = .agg (A.map fun x => .lit (.int .u64 x)) ∧ p = [] ∧ fits A := by
  obtain ⟨fuel, hf⟩ := h
  obtain ⟨xs, m, _, hx, hl, hn, hi⟩ := DataW.trod_array hu hf
  obtain ⟨l⟩ := cs
  simp only [Value.cells] at hl hi
  rw [hc] at hl
  have step : ∀ i, i < n → ∃ x : Int, l[i]? = some (.int .u64 x) ∧ xs[i]? = some (.lit (.int .u64 x), []) ∧ (Lit.int .u64 x).wf = true := by
    intro i hin
    have h1 := hi i hin
    rw [hce, Nat.mul_one] at h1
    have h2 : (l.drop i).take 1 = [l[i]'(by omega)] := by
      rw [List.drop_eq_getElem_cons (by omega)]; rfl
    rw [h2] at h1
    rw [List.getElem?_eq_getElem (show i < xs.length by omega)] at h1
    obtain ⟨x, e1, e2, e3⟩ := DataW.trod_int hue h1
    simp only [List.cons.injEq, and_true] at e1
    exact ⟨x, by rw [List.getElem?_eq_getElem (by omega), e1], by rw [List.getElem?_eq_getElem (by omega), e2], e3⟩
  have hlen : l.length = n := hl
  refine ⟨l.map intOf, by simpa using hlen, ?_, ?_, ?_, ?_⟩
  · congr 1
    apply List.ext_getElem?
    intro i
    by_cases hin : i < n
    · obtain ⟨x, e1, _, _⟩ := step i hin
      simp [us, e1, intOf]
    · rw [List.getElem?_eq_none (by omega), List.getElem?_eq_none (by simp; omega)]
  · simp only [Prod.mk.injEq] at hx
    rw [hx.1]
    congr 1
    apply List.ext_getElem?
    intro i
    by_cases hin : i < n
    · obtain ⟨x, e1, e2, _⟩ := step i hin
      simp [e1, e2, intOf]
    · rw [List.getElem?_eq_none (by simp; omega), List.getElem?_eq_none (by simp; omega)]
  · simp only [Prod.mk.injEq] at hx
    rw [hx.2, List.flatMap_eq_nil_iff]
    intro y hy
    obtain ⟨i, hi1, hi2⟩ := List.getElem_of_mem hy
    obtain ⟨x, _, e2, _⟩ := step i (by omega)
    rw [List.getElem?_eq_getElem hi1, hi2] at e2
    injection e2 with e2
    rw [e2]
  · apply fits_of
    intro j hj
    simp at hj
    obtain ⟨x, e1, _, e3⟩ := step j (by omega)
    have : (l.map intOf).getD j 0 = x := by simp [List.getD_eq_getElem?_getD, e1, intOf]
    rw [this]
    exact wf_u64.1 e3

theorem shut_six {t e : TypeId} (hu : P.underlying t = some (.array 6 e)) (hc : P.cellsOf t = 6) (hue : P.underlying e = some (.int .u64)) (hce : P.cellsOf e = 1) (x0 x1 x2 x3 x4 x5 : Int) (h : fits [x0, x1, x2, x3, x4, x5]) :
    DataW.Trod enc P w base spare held t (.agg #[.int .u64 x0, .int .u64 x1, .int .u64 x2, .int .u64 x3, .int .u64 x4, .int .u64 x5]) (.agg [.lit (.int .u64 x0), .lit (.int .u64 x1), .lit (.int .u64 x2), .lit (.int .u64 x3), .lit (.int .u64 x4), .lit (.int .u64 x5)]) [] := by
  have w0 : (Lit.int .u64 x0).wf = true := wf_u64.2 (h 0)
  have w1 : (Lit.int .u64 x1).wf = true := wf_u64.2 (h 1)
  have w2 : (Lit.int .u64 x2).wf = true := wf_u64.2 (h 2)
  have w3 : (Lit.int .u64 x3).wf = true := wf_u64.2 (h 3)
  have w4 : (Lit.int .u64 x4).wf = true := wf_u64.2 (h 4)
  have w5 : (Lit.int .u64 x5).wf = true := wf_u64.2 (h 5)
  exact ⟨2, by simp [DataW.trod, Value.cells, hu, hue, hc, hce, w0, w1, w2, w3, w4, w5, show List.range 6 = [0, 1, 2, 3, 4, 5] from rfl]⟩

end Go.Proofs.YtflnfjekapngkaaDoor
