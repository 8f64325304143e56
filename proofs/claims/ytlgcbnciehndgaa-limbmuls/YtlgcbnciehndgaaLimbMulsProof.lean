/- Proved: the law LimbMuls of the program answers true for any two numbers of six limbs, and both stand as they stood. No conditions. -/
import Derived.Test.YtlgcbnciehndgaaRows
import Derived.Test.YtlgcbnciehndgaaLawLimbMuls
import Derived.Test.YtlgcbnciehndgaaArr
import Derived.ChangeOld
import Derived.Below
namespace Go.Proofs.Ytlgcbnciehndgaa
open Go.ChangeShapes Go.WideShapes Go.ChangeAt Go.RowKit

theorem own_limbMuls : ownKnob Try.prog.godebug = none := by kernel_rfl
theorem cells_limbMuls : Try.prog.cellsOf 24 = 6 := by kernel_rfl
theorem cell_limbMuls : Try.prog.cellsOf 22 = 1 := by kernel_rfl

set_option maxHeartbeats 400000 in
set_option maxRecDepth 100000 in
theorem lifted_limbMuls (os : Os) (started : os.Started) (H : Type) (enc : TypeId × Value → H) :
    ReturnsInHanded {} Try.checked os 6 .any (Rows.limbMulsSpec.pre6 enc Try.prog Try.f6 Rows.limbMulsRow.domain false) (Rows.limbMulsSpec.post enc Try.prog Try.f6 false true false false) := by
  refine returnsInHanded_of_change (C := Try.checked) own_limbMuls started (by kernel_rfl) Try.func6
    (ChangeSpec.witness6 (enc := enc) (C := Try.checked) false ⟨#[], #[.agg #[.int .u64 0, .int .u64 0, .int .u64 0, .int .u64 0, .int .u64 0, .int .u64 0], .agg #[.int .u64 0, .int .u64 0, .int .u64 0, .int .u64 0, .int .u64 0, .int .u64 0]], []⟩ 8 (by kernel_rfl) (by kernel_rfl) (by kernel_rfl) (by kernel_rfl)) ?_
  intro W base args ds gs before hval0 hW _ _
  have hval : ∀ (j : Nat) t v, Try.f6.params[j]? = some t → args[j]? = some v → Value.okWide Try.prog W .any base t v := hval0
  have hW' := hW
  obtain ⟨p, q, hA0, hV, rfl, _, _⟩ := hW
  have hA : DataW.TrodAll enc Try.prog W 0 (fun _ => true) true Try.f6.params.toList args.toList ds p := hA0
  rw [Try.params6] at hA hval
  obtain ⟨v0, v1, d0, d1, p0, p1, rfl, rfl, rfl, h0, h1⟩ := trodAll_two hA
  obtain ⟨rfl, rfl⟩ := trodVars_none hV
  obtain ⟨cs0, rfl, _, _⟩ : ∃ cs, v0 = .agg cs ∧ cs.size = Try.prog.cellsOf 24 ∧ Row.okWide Try.prog W .any base 24 cs := by
    have := hval 0 24 v0 rfl rfl
    simpa [Value.okWide, Try.underlying24] using this
  obtain ⟨cs1, rfl, _, _⟩ : ∃ cs, v1 = .agg cs ∧ cs.size = Try.prog.cellsOf 24 ∧ Row.okWide Try.prog W .any base 24 cs := by
    have := hval 1 24 v1 rfl rfl
    simpa [Value.okWide, Try.underlying24] using this
  obtain ⟨A, lA, rfl, rfl, rfl, fA⟩ := open_arr Try.underlying24 cells_limbMuls Try.underlying22 cell_limbMuls h0
  obtain ⟨B, lB, rfl, rfl, rfl, fB⟩ := open_arr Try.underlying24 cells_limbMuls Try.underlying22 cell_limbMuls h1
  obtain ⟨x0, x1, x2, x3, x4, x5, rfl⟩ := six lA
  obtain ⟨y0, y1, y2, y3, y4, y5, rfl⟩ := six lB
  clear hA0 hval0 hval hA h0 h1
  refine (law_limbMuls x0 x1 x2 x3 x4 x5 y0 y1 y2 y3 y4 y5 W fA fB).mono fun e W' ⟨he, bel⟩ => ?_
  subst he
  exact ⟨_, rfl, _, _, _, [], _, [], hW', trodAll_mk1 (shut_bool Try.underlying4 _), (trodAll_cons_mk (shut_six Try.underlying24 cells_limbMuls Try.underlying22 cell_limbMuls x0 x1 x2 x3 x4 x5 fA) (trodAll_cons_mk (shut_six Try.underlying24 cells_limbMuls Try.underlying22 cell_limbMuls y0 y1 y2 y3 y4 y5 fB) trodAll_mk0)), rfl, bel.frame _, fun h => by cases h⟩

theorem limbMuls_holds : Rows.LimbMulsSaid :=
  OpenClaim.holds_of_wide 6 Try.f6 rfl rfl rfl rfl rfl rfl rfl ⟨rfl, rfl, rfl, rfl, rfl⟩ rfl rfl rfl rfl rfl (by kernel_rfl) Try.func6 (by kernel_rfl)
    (of_decide_eq_true (by kernel_rfl)) (by unfold Func.isWrapper; first | (rw [if_pos (by decide +kernel)]; kernel_rfl) | (rw [if_neg (by decide +kernel)]; exact ⟨rfl, rfl⟩))
    (fun os started H enc _ => lifted_limbMuls os started H enc)

#print axioms limbMuls_holds
end Go.Proofs.Ytlgcbnciehndgaa
