/- A part's element: what the program answers. -/
import Derived.Test.YtnkipgbnnhahbaaNlKind
import Derived.Test.YtnkipgbnnhahbaaNmSpec
import Derived.Test.YtnkipgbnnhahbaaDrTlv
import Derived.Test.YtnkipgbnnhahbaaDrDep
import Derived.Test.YtnkipgbnnhahbaaDrOwn
import Derived.Test.YtnkipgbnnhahbaaNmBase
import Derived.Test.YtnkipgbnnhahbaaCtPl
import Derived.Test.YtnkipgbnnhahbaaPrOidOf
import Derived.Test.YtnkipgbnnhahbaaPmCut
import Derived.Test.YtnkipgbnnhahbaaSConv
import Derived.Test.YtnkipgbnnhahbaaPmNew
import Derived.Test.YtnkipgbnnhahbaaRows
import Derived.Deep.OwnRows
import Derived.Deep.AppendLies
import Derived.Great.BuildSlice
import Derived.Laws.Rows
import Derived.BigQuiet
import Derived.Deep.WholeRow
import Derived.Deep.RegionHeld3
import Derived.Deep.DeepCutAuto
import Derived.Deep.DeepFit
import Derived.ChangeArms
import Derived.ChangeOld
import Derived.Lib.ConvBytes
import Derived.Laws.AppendOwn
namespace Go.Proofs.Ytnkipgbnnhahbaa
open Go.RowKit
/-- a text that may be one -/
def textL (B : List Int) : Bool := match textP B with | .ok _ => true | .error _ => false
/-- what setOf tells -/
def SetR (w : World) (p : Pn) (e : Ending) (w' : World) : Prop := Below w.heap.size w w' ∧ (partN p = false → e = .returned (.tuple #[.agg #[.int .i64 0, .int .i64 0, .bool false, .slice none 0 0, .slice none 0 0], .iface 38 (.int .i64 1)])) ∧ (partN p = true → ∃ cs : List Value, e = .returned (.tuple #[.agg cs.toArray, .nilIface]) ∧ Dep (fun b => w.heap.size ≤ b) w' (setN p) cs)
theorem SetR.bad {w w' : World} {p : Pn} (h : partN p = false) (hb : Below w.heap.size w w') : SetR w p (.returned (.tuple #[.agg #[.int .i64 0, .int .i64 0, .bool false, .slice none 0 0, .slice none 0 0], .iface 38 (.int .i64 1)])) w' := ⟨hb, fun _ => rfl, fun k => (by rw [h] at k; cases k)⟩
theorem SetR.ok {w w' : World} {p : Pn} {cs : List Value} (h : partN p = true) (hd : Dep (fun b => w.heap.size ≤ b) w' (setN p) cs) (hb : Below w.heap.size w w') : SetR w p (.returned (.tuple #[.agg cs.toArray, .nilIface])) w' := ⟨hb, fun k => (by rw [h] at k; cases k), fun _ => ⟨cs, rfl, hd⟩⟩
theorem kind_small {k : Int} (h : kindN k = true) : k = 3 ∨ k = 6 ∨ k = 10 ∨ k = 11 := by
  unfold kindN at h
  simp only [Bool.or_eq_true, decide_eq_true_eq] at h
  omega
theorem kind_wrap {k : Int} (h : kindN k = true) : IntKind.u64.wrap k = k := by
  have := kind_small h
  rw [IntKind.wrap_u64]
  omega
theorem kind_oid {k : Int} (h : kindN k = true) : oidOf [2, 5, 4, k] = .ok [85, 4, k] := by
  have n4 : ∀ {x : Int}, x < 100 → ¬ ∃ j, j < [2, 5, 4, x].length ∧ 4294967295 < [2, 5, 4, x].getD j 0 := by
    rintro x hx ⟨j, h1, h2⟩
    match j, h1, h2 with
    | 0, _, h2 => exact absurd (show (4294967295 : Int) < 2 from h2) (by decide)
    | 1, _, h2 => exact absurd (show (4294967295 : Int) < 5 from h2) (by decide)
    | 2, _, h2 => exact absurd (show (4294967295 : Int) < 4 from h2) (by decide)
    | 3, _, h2 =>
      have h3 : 4294967295 < x := h2
      omega
    | j + 4, h1, _ =>
      have h3 : j + 4 < 4 := h1
      omega
  have hk := kind_small h
  unfold oidOf
  rw [if_neg (by simp), if_neg (n4 (by omega))]
  rcases hk with rfl | rfl | rfl | rfl <;> rfl
theorem kind_wrd {k : Int} : wrd [2, 5, 4, IntKind.u64.wrap k] := wrd_mem (by
  intro x hx
  simp only [List.mem_cons, List.not_mem_nil, or_false] at hx
  rcases hx with rfl | rfl | rfl | rfl
  · decide
  · decide
  · decide
  · rw [IntKind.wrap_u64]; omega)
theorem part_text {k : Int} {s : List Int} (h : kindN k = true) : partN (k, s) = textL s := by
  show (kindN k && _) = _
  rw [h]; rfl
end Go.Proofs.Ytnkipgbnnhahbaa
