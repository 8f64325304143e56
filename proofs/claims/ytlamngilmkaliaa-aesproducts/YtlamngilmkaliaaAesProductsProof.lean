/- Proved: the law AesProducts of the program answers true for any arguments (a byte, a byte), and all stand as they stood. No conditions. -/
import Derived.Test.YtlamngilmkaliaaRows
import Derived.Test.YtlamngilmkaliaaLawAesProducts
import Derived.Test.YtlamngilmkaliaaArrB
import Derived.WalkKit
import Derived.ProofKit
import Derived.OpenShut
import Derived.ShutString
import Derived.ChangeOld
import Derived.Below
namespace Go.Proofs.Ytlamngilmkaliaa
open Go.ChangeShapes Go.WideShapes Go.ChangeAt Go.RowKit

theorem own_aesProducts : ownKnob Try.prog.godebug = none := by kernel_rfl
theorem laid_aesProducts : laidOutB Try.prog = true := by kernel_rfl
theorem cell_aesProducts : Try.prog.cellsOf 5 = 1 := by kernel_rfl

set_option maxHeartbeats 1000000 in
set_option maxRecDepth 100000 in
theorem lifted_aesProducts (os : Os) (started : os.Started) (H : Type) (enc : TypeId × Value → H) :
    ReturnsInHanded {} Try.checked os 3 .any (Rows.aesProductsSpec.pre6 enc Try.prog Try.f3 Rows.aesProductsRow.domain false) (Rows.aesProductsSpec.post enc Try.prog Try.f3 false true false false) := by
  refine returnsInHanded_of_change (C := Try.checked) own_aesProducts started (by kernel_rfl) Try.func3
    (ChangeSpec.witness6 (enc := enc) (C := Try.checked) false ⟨#[], #[.int .u8 0, .int .u8 0], []⟩ 8 (by kernel_rfl) (by kernel_rfl) (by kernel_rfl) (by kernel_rfl)) ?_
  intro W base args ds gs before hval0 hW _ _
  have hval : ∀ (j : Nat) t v, Try.f3.params[j]? = some t → args[j]? = some v → Value.okWide Try.prog W .any base t v := hval0
  have hW' := hW
  obtain ⟨p, q, hA0, hV, rfl, _, _⟩ := hW
  have hA : DataW.TrodAll enc Try.prog W 0 (fun _ => true) true Try.f3.params.toList args.toList ds p := hA0
  rw [Try.params3] at hA hval
  obtain ⟨v0, vs0, d0, ds0, p0, q0, hargs, rfl, rfl, h0, hr0⟩ := trodAll_cons hA
  obtain ⟨v1, vs1, d1, ds1, p1, q1, rfl, rfl, rfl, h1, hr1⟩ := trodAll_cons hr0
  obtain ⟨rfl, rfl, rfl⟩ := trodAll_nil hr1
  obtain rfl : args = #[v0, v1] := by cases args; simp_all
  obtain ⟨rfl, rfl⟩ := trodVars_none hV
  obtain ⟨x0, rfl, rfl, rfl, w_x0⟩ := open_int Try.underlying5 (hval 0 5 v0 rfl rfl) h0
  have f0 := wf_byte.1 w_x0
  obtain ⟨x1, rfl, rfl, rfl, w_x1⟩ := open_int Try.underlying5 (hval 1 5 v1 rfl rfl) h1
  have f1 := wf_byte.1 w_x1
  clear hA0 hval0 hval hargs
  refine (law_aesProducts x0 x1 W f0 f1).mono fun e W' ⟨he, bel⟩ => ?_
  subst he
  exact ⟨_, rfl, _, _, _, [], _, [], hW', trodAll_mk1 (shut_bool Try.underlying4 _), (trodAll_cons_mk (shut_int Try.underlying5 w_x0) (trodAll_cons_mk (shut_int Try.underlying5 w_x1) trodAll_mk0)), rfl, bel.frame _, fun h => by cases h⟩

theorem aesProducts_holds : Rows.AesProductsSaid :=
  OpenClaim.holds_of_wide 3 Try.f3 rfl rfl rfl rfl rfl rfl rfl ⟨rfl, rfl, rfl, rfl, rfl⟩ rfl rfl rfl rfl rfl (by kernel_rfl) Try.func3 (by kernel_rfl)
    (of_decide_eq_true (by kernel_rfl)) (by unfold Func.isWrapper; first | (rw [if_pos (by decide +kernel)]; kernel_rfl) | (rw [if_neg (by decide +kernel)]; exact ⟨rfl, rfl⟩))
    (fun os started H enc _ => lifted_aesProducts os started H enc)

#print axioms aesProducts_holds
end Go.Proofs.Ytlamngilmkaliaa
