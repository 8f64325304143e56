/- Bytes as text. -/
import Derived.Test.YtnkipgbnnhahbaaByt
import Derived.Test.YtnkipgbnnhahbaaRows
import Derived.Laws.BytesArg
import Derived.Deep.OwnRows
namespace Go.Proofs.Ytnkipgbnnhahbaa
open Go.RowKit
theorem conv_s {w : World} {b o n cap : Nat} {bs : List Int} (h : Bs w (.slice (some ⟨b, o, none⟩) n cap) bs) (hn : 0 < n) : (convert 22 9 (.slice (some ⟨b, o, none⟩) n cap)).run Try.prog w = .ok (.string (strOfNums bs)) w := by
  obtain ⟨ao, c, e, -, -, h4⟩ := h
  simp only [Value.slice.injEq] at e
  obtain ⟨rfl, rfl, rfl⟩ := e
  obtain ⟨b', o', e', -, h6⟩ := h4 hn
  simp only [Option.some.injEq, Addr.mk.injEq] at e'
  obtain ⟨rfl, rfl, -⟩ := e'
  exact run_convert_bytes_arg w 22 5 Try.underlying22 Try.underlying5 b o bs.length _ bs rfl h6 9 Try.underlying9
theorem Bs.form {w : World} {v : Value} {bs : List Int} (h : Bs w v bs) (h0 : 0 < bs.length) : ∃ b o cap, v = .slice (some ⟨b, o, none⟩) bs.length cap ∧ bs.length ≤ cap ∧ cap ≤ maxLen := by
  obtain ⟨ao, cap, e, h1, h2, h3⟩ := h
  obtain ⟨b, o, rfl, _⟩ := h3 h0
  exact ⟨b, o, cap, e, h2, h1⟩
theorem conv_any {w : World} {v : Value} {bs : List Int} (h : Bs w v bs) : (convert 22 9 v).run Try.prog w = .ok (.string (strOfNums bs)) w := by
  by_cases h0 : 0 < bs.length
  · obtain ⟨b, o, cap, rfl, _, _⟩ := h.form h0
    exact conv_s h h0
  · obtain rfl : bs = [] := List.eq_nil_of_length_eq_zero (by omega)
    obtain ⟨ao, cap, rfl, _, _, _⟩ := h
    cases ao <;> kernel_rfl
end Go.Proofs.Ytnkipgbnnhahbaa
