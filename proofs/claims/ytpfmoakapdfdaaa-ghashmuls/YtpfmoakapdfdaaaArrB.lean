/- An array of bytes by value, opened as it is read. -/
import Derived.Test.YtpfmoakapdfdaaaRowB
import Derived.ProofKit
import Derived.OpenShut
namespace Go.Proofs.Ytpfmoakapdfdaaa
open Go.ChangeShapes Go.WideShapes Go.ChangeAt Go.RowKit
variable {H : Type} {enc : TypeId × Value → H} {P : Program} {w : World} {base : Nat} {spare : Nat → Bool} {held : Bool}

theorem open_arrb {n : Nat} {t e : TypeId} {cs : Array Value} {d : DataW H} {p : List MemPlace} (hu : P.underlying t = some (.array n e)) (hc : P.cellsOf t = n) (hue : P.underlying e = some (.int .u8)) (hce : P.cellsOf e = 1)
    (h : DataW.Trod enc P w base spare held t (.agg cs) d p) :
    ∃ A : List Int, A.length = n ∧ cs = (u8s A).toArray ∧ d = .agg (A.map fun x => .lit (.int .u8 x)) ∧ p = [] ∧ byt A := by
  obtain ⟨fuel, hf⟩ := h
  obtain ⟨xs, m, _, hx, hl, hn, hi⟩ := DataW.trod_array hu hf
  obtain ⟨l⟩ := cs
  simp only [Value.cells] at hl hi
  rw [hc] at hl
  have step : ∀ i, i < n → ∃ x : Int, l[i]? = some (.int .u8 x) ∧ xs[i]? = some (.lit (.int .u8 x), []) ∧ (Lit.int .u8 x).wf = true := by
    intro i hin
    have h1 := hi i hin
    rw [hce, Nat.mul_one] at h1
    have h2 : (l.drop i).take 1 = [l[i]'(by omega)] := by
      rw [List.drop_eq_getElem_cons (by omega)]; rfl
    rw [h2] at h1
    rw [List.getElem?_eq_getElem (show i < xs.length by omega)] at h1
    obtain ⟨x, e1, e2, e3⟩ := DataW.trod_int hue h1
    simp only [List.cons.injEq, and_true] at e1
    exact ⟨x, by rw [List.getElem?_eq_getElem (by omega), e1], by rw [List.getElem?_eq_getElem (by omega), e2], e3⟩
  have hlen : l.length = n := hl
  refine ⟨l.map intOf, by simpa using hlen, ?_, ?_, ?_, ?_⟩
  · congr 1
    apply List.ext_getElem?
    intro i
    by_cases hin : i < n
    · obtain ⟨x, e1, _, _⟩ := step i hin
      simp [u8s, e1, intOf]
    · rw [List.getElem?_eq_none (by omega), List.getElem?_eq_none (by simp; omega)]
  · simp only [Prod.mk.injEq] at hx
    rw [hx.1]
    congr 1
    apply List.ext_getElem?
    intro i
    by_cases hin : i < n
    · obtain ⟨x, e1, e2, _⟩ := step i hin
      simp [e1, e2, intOf]
    · rw [List.getElem?_eq_none (by simp; omega), List.getElem?_eq_none (by simp; omega)]
  · simp only [Prod.mk.injEq] at hx
    rw [hx.2, List.flatMap_eq_nil_iff]
    intro y hy
    obtain ⟨i, hi1, hi2⟩ := List.getElem_of_mem hy
    obtain ⟨x, _, e2, _⟩ := step i (by omega)
    rw [List.getElem?_eq_getElem hi1, hi2] at e2
    injection e2 with e2
    rw [e2]
  · apply byt_of
    intro j hj
    simp at hj
    obtain ⟨x, e1, _, e3⟩ := step j (by omega)
    have : (l.map intOf).getD j 0 = x := by simp [List.getD_eq_getElem?_getD, e1, intOf]
    rw [this]
    exact wf_byte.1 e3
end Go.Proofs.Ytpfmoakapdfdaaa
