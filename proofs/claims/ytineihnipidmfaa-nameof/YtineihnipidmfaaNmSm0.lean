/- Names, part by part. -/
import Derived.Test.YtineihnipidmfaaRows
import Derived.Test.YtineihnipidmfaaNmBase
import Derived.BigQuiet
import Derived.Deep.WholeRow
import Derived.Deep.RegionHeld3
import Derived.Deep.DeepCutAuto
import Derived.Deep.DeepFit
namespace Go.Proofs.Ytineihnipidmfaa
open Go.RowKit

theorem NmAt.at {w : World} {ao : Option Addr} {m cap : Nat} {n : List Pn} (h : NmAt w (.slice ao m cap) n) {i : Nat} (hi : i < n.length) : ∃ p b o, n[i]? = some p ∧ ao = some ⟨b, o, none⟩ ∧ m = n.length ∧ b < w.heap.size ∧ w.cell? ⟨b, o + i * 2, none⟩ = some (.int .i64 p.1) ∧ w.cell? ⟨b, o + i * 2 + 1, none⟩ = some (.string (strOfNums p.2)) := by
  obtain ⟨a9, c9, e, _, _, h3⟩ := h
  obtain ⟨b, o, e2, hl, hc⟩ := h3 (by omega)
  have hp : n[i]? = some n[i] := List.getElem?_eq_getElem hi
  simp only [Value.slice.injEq] at e
  exact ⟨n[i], b, o, hp, by rw [e.1, e2], e.2.1, hl, (hc i _ hp).1, (hc i _ hp).2⟩
theorem take_one {n m : List Pn} {i : Nat} {p q : Pn} (h : n.take i = m.take i) (hp : n[i]? = some p) (hq : m[i]? = some q) : n.take (i + 1) = m.take (i + 1) ↔ p = q := by
  rw [List.take_add_one, List.take_add_one, hp, hq, h]
  constructor
  · intro e
    have := List.append_cancel_left e
    simpa using this
  · rintro rfl
    rfl
theorem eqN {p q : Pn} (hp : byt p.2) (hq : byt q.2) : ∀ w : World, (Op.equalIn 10000 47 (.agg #[.int .i64 p.1, .string (strOfNums p.2)]) (.agg #[.int .i64 q.1, .string (strOfNums q.2)])).run Try.prog w = .ok (decide (p = q)) w := eqPt p.1 q.1 p.2 q.2 hp hq
end Go.Proofs.Ytineihnipidmfaa
