/- Bytes that are handed in: from the row's reading to the walk's words. An array of bytes by value, opened as it is read. -/
import Derived.Test.YtineihnipidmfaaRows
import Derived.Test.YtineihnipidmfaaFrom
import Derived.ProofKit
import Derived.OpenShut
import Derived.ShutString
import Derived.Deep.MidRow
namespace Go.Proofs.Ytineihnipidmfaa
open Go.ChangeShapes Go.WideShapes Go.ChangeAt Go.RowKit

theorem wf_byte {n : Int} : (Lit.int .u8 n).wf = true ↔ 0 ≤ n ∧ n < 256 := by
  have h1 : IntKind.u8.min = 0 := rfl
  have h2 : IntKind.u8.max = 255 := rfl
  simp [Lit.wf, h1, h2]
  omega

theorem row_bytes {w : World} {x : Addr} {len cap : Nat} {zs : List Int} (hl : len ≤ cap) (hm : cap ≤ maxLen) (hz : zs.length = cap) (hc : ∀ i, i < zs.length → w.cell? (x.add i) = some (.int .u8 (zs.getD i 0))) (hw : ∀ n ∈ zs, (Lit.int .u8 n).wf = true) :
    Bs w (.slice (some x) len cap) (zs.take len) ∧ byt (zs.take len) := by
  have ht : (zs.take len).length = len := by simp; omega
  have hg : ∀ j, j < len → (zs.take len).getD j 0 = zs.getD j 0 := fun j hj => by simp [List.getD_eq_getElem?_getD, hj]
  constructor
  · refine ⟨_, cap, by rw [ht], hm, by omega, fun hp => ?_⟩
    rw [ht] at hp
    obtain ⟨b, o, spot⟩ := x
    have h0 := hc 0 (by omega)
    have hs : spot = none := by simpa [Addr.add] using World.cell?_spot h0
    subst hs
    have hb := World.block_lt_of_cell? w _ h0
    refine ⟨b, o, rfl, by simpa [Addr.add] using hb, fun j hj => ?_⟩
    rw [ht] at hj
    rw [hg j hj]
    have hj2 := hc j (by omega)
    rw [Addr.add_mid] at hj2
    exact hj2
  · apply byt_of
    intro j hj
    rw [ht] at hj
    rw [hg j hj]
    have : zs.getD j 0 ∈ zs := by
      rw [List.getD_eq_getElem?_getD, List.getElem?_eq_getElem (by omega)]
      exact List.getElem_mem _
    exact wf_byte.1 (hw _ this)

end Go.Proofs.Ytineihnipidmfaa

namespace Go.Proofs.Ytineihnipidmfaa
open Go.ChangeShapes Go.WideShapes Go.ChangeAt Go.RowKit
variable {H : Type} {enc : TypeId × Value → H} {P : Program} {w : World} {base : Nat} {spare : Nat → Bool} {held : Bool}

theorem open_arrb {n : Nat} {t e : TypeId} {cs : Array Value} {d : DataW H} {p : List MemPlace} (hu : P.underlying t = some (.array n e)) (hc : P.cellsOf t = n) (hue : P.underlying e = some (.int .u8)) (hce : P.cellsOf e = 1)
    (h : DataW.Trod enc P w base spare held t (.agg cs) d p) :
    ∃ A : List Int, A.length = n ∧ cs = (u8s A).toArray ∧ d = .agg (A.map fun x => .lit (.int .u8 x)) ∧ p = [] ∧ byt A := by
  obtain ⟨fuel, hf⟩ := h
  obtain ⟨xs, m, _, hx, hl, hn, hi⟩ := DataW.trod_array hu hf
  obtain ⟨l⟩ := cs
  simp only [Value.cells] at hl hi
  rw [hc] at hl
  have step : ∀ i, i < n → ∃ x : Int, l[i]? = some (.int .u8 x) ∧ xs[i]? = some (.lit (.int .u8 x), []) ∧ (Lit.int .u8 x).wf = true := by
    intro i hin
    have h1 := hi i hin
    rw [hce, Nat.mul_one] at h1
    have h2 : (l.drop i).take 1 = [l[i]'(by omega)] := by
      rw [List.drop_eq_getElem_cons (by omega)]; rfl
    rw [h2] at h1
    rw [List.getElem?_eq_getElem (show i < xs.length by omega)] at h1
    obtain ⟨x, e1, e2, e3⟩ := DataW.trod_int hue h1
    simp only [List.cons.injEq, and_true] at e1
    exact ⟨x, by rw [List.getElem?_eq_getElem (by omega), e1], by rw [List.getElem?_eq_getElem (by omega), e2], e3⟩
  have hlen : l.length = n := hl
  refine ⟨l.map intOf, by simpa using hlen, ?_, ?_, ?_, ?_⟩
  · congr 1
    apply List.ext_getElem?
    intro i
    by_cases hin : i < n
    · obtain ⟨x, e1, _, _⟩ := step i hin
      simp [u8s, e1, intOf]
    · rw [List.getElem?_eq_none (by omega), List.getElem?_eq_none (by simp; omega)]
  · simp only [Prod.mk.injEq] at hx
    rw [hx.1]
    congr 1
    apply List.ext_getElem?
    intro i
    by_cases hin : i < n
    · obtain ⟨x, e1, e2, _⟩ := step i hin
      simp [e1, e2, intOf]
    · rw [List.getElem?_eq_none (by simp; omega), List.getElem?_eq_none (by simp; omega)]
  · simp only [Prod.mk.injEq] at hx
    rw [hx.2, List.flatMap_eq_nil_iff]
    intro y hy
    obtain ⟨i, hi1, hi2⟩ := List.getElem_of_mem hy
    obtain ⟨x, _, e2, _⟩ := step i (by omega)
    rw [List.getElem?_eq_getElem hi1, hi2] at e2
    injection e2 with e2
    rw [e2]
  · apply byt_of
    intro j hj
    simp at hj
    obtain ⟨x, e1, _, e3⟩ := step j (by omega)
    have : (l.map intOf).getD j 0 = x := by simp [List.getD_eq_getElem?_getD, e1, intOf]
    rw [this]
    exact wf_byte.1 e3
end Go.Proofs.Ytineihnipidmfaa
