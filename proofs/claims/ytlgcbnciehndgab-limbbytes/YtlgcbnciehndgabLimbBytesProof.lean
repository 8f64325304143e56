/- Proved: the law LimbBytes of the program answers true for any number of six limbs, and it stands as it stood. No conditions. -/
import Derived.Test.YtlgcbnciehndgabRows
import Derived.Test.YtlgcbnciehndgabLawLimbBytes
import Derived.Test.YtlgcbnciehndgabArr
import Derived.ChangeOld
import Derived.Below
namespace Go.Proofs.Ytlgcbnciehndgab
open Go.ChangeShapes Go.WideShapes Go.ChangeAt Go.RowKit

theorem own_limbBytes : ownKnob Try.prog.godebug = none := by kernel_rfl
theorem cells_limbBytes : Try.prog.cellsOf 24 = 6 := by kernel_rfl
theorem cell_limbBytes : Try.prog.cellsOf 22 = 1 := by kernel_rfl

set_option maxHeartbeats 400000 in
set_option maxRecDepth 100000 in
theorem lifted_limbBytes (os : Os) (started : os.Started) (H : Type) (enc : TypeId × Value → H) :
    ReturnsInHanded {} Try.checked os 6 .any (Rows.limbBytesSpec.pre6 enc Try.prog Try.f6 Rows.limbBytesRow.domain false) (Rows.limbBytesSpec.post enc Try.prog Try.f6 false true false false) := by
  refine returnsInHanded_of_change (C := Try.checked) own_limbBytes started (by kernel_rfl) Try.func6
    (ChangeSpec.witness6 (enc := enc) (C := Try.checked) false ⟨#[], #[.agg #[.int .u64 0, .int .u64 0, .int .u64 0, .int .u64 0, .int .u64 0, .int .u64 0]], []⟩ 8 (by kernel_rfl) (by kernel_rfl) (by kernel_rfl) (by kernel_rfl)) ?_
  intro W base args ds gs before hval0 hW _ _
  have hval : ∀ (j : Nat) t v, Try.f6.params[j]? = some t → args[j]? = some v → Value.okWide Try.prog W .any base t v := hval0
  have hW' := hW
  obtain ⟨p, q, hA0, hV, rfl, _, _⟩ := hW
  have hA : DataW.TrodAll enc Try.prog W 0 (fun _ => true) true Try.f6.params.toList args.toList ds p := hA0
  rw [Try.params6] at hA hval
  obtain ⟨v0, d0, rfl, rfl, h0⟩ := trodAll_one hA
  obtain ⟨rfl, rfl⟩ := trodVars_none hV
  obtain ⟨cs0, rfl, _, _⟩ : ∃ cs, v0 = .agg cs ∧ cs.size = Try.prog.cellsOf 24 ∧ Row.okWide Try.prog W .any base 24 cs := by
    have := hval 0 24 v0 rfl rfl
    simpa [Value.okWide, Try.underlying24] using this
  obtain ⟨A, lA, rfl, rfl, rfl, fA⟩ := open_arr Try.underlying24 cells_limbBytes Try.underlying22 cell_limbBytes h0
  obtain ⟨x0, x1, x2, x3, x4, x5, rfl⟩ := six lA
  clear hA0 hval0 hval hA h0
  refine (law_limbBytes x0 x1 x2 x3 x4 x5 W fA).mono fun e W' ⟨he, bel⟩ => ?_
  subst he
  exact ⟨_, rfl, _, _, _, [], _, [], hW', trodAll_mk1 (shut_bool Try.underlying4 _), (trodAll_cons_mk (shut_six Try.underlying24 cells_limbBytes Try.underlying22 cell_limbBytes x0 x1 x2 x3 x4 x5 fA) trodAll_mk0), rfl, bel.frame _, fun h => by cases h⟩

theorem limbBytes_holds : Rows.LimbBytesSaid :=
  OpenClaim.holds_of_wide 6 Try.f6 rfl rfl rfl rfl rfl rfl rfl ⟨rfl, rfl, rfl, rfl, rfl⟩ rfl rfl rfl rfl rfl (by kernel_rfl) Try.func6 (by kernel_rfl)
    (of_decide_eq_true (by kernel_rfl)) (by unfold Func.isWrapper; first | (rw [if_pos (by decide +kernel)]; kernel_rfl) | (rw [if_neg (by decide +kernel)]; exact ⟨rfl, rfl⟩))
    (fun os started H enc _ => lifted_limbBytes os started H enc)

#print axioms limbBytes_holds
end Go.Proofs.Ytlgcbnciehndgab
