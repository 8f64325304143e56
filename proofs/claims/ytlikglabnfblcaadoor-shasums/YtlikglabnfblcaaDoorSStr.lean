/- Bytes as text; errors held against each other. -/
import Derived.Test.YtlikglabnfblcaaDoorRows
import Derived.Test.YtlikglabnfblcaaDoorFrom
import Derived.Laws.BytesArg
import Derived.Deep.OwnRows
namespace Go.Proofs.YtlikglabnfblcaaDoor
open Go.RowKit

theorem conv_s {w : World} {b o n cap : Nat} {bs : List Int} (h : Bs w (.slice (some ⟨b, o, none⟩) n cap) bs) (hn : 0 < n) : (convert 24 9 (.slice (some ⟨b, o, none⟩) n cap)).run Tryd.prog w = .ok (.string (strOfNums bs)) w := by
  obtain ⟨ao, c, e, -, -, h4⟩ := h
  simp only [Value.slice.injEq] at e
  obtain ⟨rfl, rfl, rfl⟩ := e
  obtain ⟨b', o', e', -, h6⟩ := h4 hn
  simp only [Option.some.injEq, Addr.mk.injEq] at e'
  obtain ⟨rfl, rfl, -⟩ := e'
  exact run_convert_bytes_arg w 24 5 Tryd.underlying24 Tryd.underlying5 b o bs.length _ bs rfl h6 9 Tryd.underlying9
theorem nil_eq : ∀ w : World, (binOp .eql 30 .nilIface .nilIface).run Tryd.prog w = .ok (.bool true) w := fun _ => by kernel_rfl
theorem nil_ne : ∀ w : World, (binOp .neq 30 .nilIface .nilIface).run Tryd.prog w = .ok (.bool false) w := fun _ => by kernel_rfl
theorem code_eq (c : Int) : ∀ w : World, (binOp .eql 30 (.iface 34 (.int .i64 c)) (.iface 34 (.int .i64 c))).run Tryd.prog w = .ok (.bool true) w := fun w => by
  have : (binOp .eql 30 (.iface 34 (.int .i64 c)) (.iface 34 (.int .i64 c))).run Tryd.prog w = .ok (.bool (decide (c = c))) w := by kernel_rfl
  rw [this]; simp
theorem Bs.form {w : World} {v : Value} {bs : List Int} (h : Bs w v bs) (h0 : 0 < bs.length) : ∃ b o cap, v = .slice (some ⟨b, o, none⟩) bs.length cap ∧ bs.length ≤ cap ∧ cap ≤ maxLen := by
  obtain ⟨ao, cap, e, h1, h2, h3⟩ := h
  obtain ⟨b, o, rfl, _⟩ := h3 h0
  exact ⟨b, o, cap, e, h2, h1⟩
end Go.Proofs.YtlikglabnfblcaaDoor
