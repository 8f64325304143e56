/- Proved: the law PrimTimeOf of the program answers true for any arguments (an int64), and all stand as they stood. No conditions. -/
import Derived.Test.YteejcokpkginbabRows
import Derived.Test.YteejcokpkginbabLawPrimTimeOf
import Derived.Test.YteejcokpkginbabRowG
import Derived.WalkKit
import Derived.ProofKit
import Derived.OpenShut
import Derived.ShutString
import Derived.ChangeOld
import Derived.Below
namespace Go.Proofs.Yteejcokpkginbab
open Go.ChangeShapes Go.WideShapes Go.ChangeAt Go.RowKit

theorem own_primTimeOf : ownKnob Try.prog.godebug = none := by kernel_rfl
theorem laid_primTimeOf : laidOutB Try.prog = true := by kernel_rfl
theorem cell_primTimeOf : Try.prog.cellsOf 5 = 1 := by kernel_rfl
theorem wfi_primTimeOf {n : Int} (h : (Lit.int .i64 n).wf = true) : -9223372036854775808 ≤ n ∧ n < 9223372036854775808 := by
  have h1 : IntKind.i64.min = -9223372036854775808 := rfl
  have h2 : IntKind.i64.max = 9223372036854775807 := rfl
  simp [Lit.wf, h1, h2] at h
  omega

set_option maxHeartbeats 1000000 in
set_option maxRecDepth 100000 in
theorem lifted_primTimeOf (os : Os) (started : os.Started) (H : Type) (enc : TypeId × Value → H) :
    ReturnsInHanded {} Try.checked os 7 .any (Rows.primTimeOfSpec.pre6 enc Try.prog Try.f7 Rows.primTimeOfRow.domain false) (Rows.primTimeOfSpec.post enc Try.prog Try.f7 false true false false) := by
  refine returnsInHanded_of_change (C := Try.checked) own_primTimeOf started (by kernel_rfl) Try.func7
    (ChangeSpec.witness6 (enc := enc) (C := Try.checked) false ⟨#[], #[.int .i64 0], []⟩ 8 (by kernel_rfl) (by kernel_rfl) (by kernel_rfl) (by kernel_rfl)) ?_
  intro W base args ds gs before hval0 hW _ _
  have hval : ∀ (j : Nat) t v, Try.f7.params[j]? = some t → args[j]? = some v → Value.okWide Try.prog W .any base t v := hval0
  have hW' := hW
  obtain ⟨p, q, hA0, hV, rfl, _, _⟩ := hW
  have hA : DataW.TrodAll enc Try.prog W 0 (fun _ => true) true Try.f7.params.toList args.toList ds p := hA0
  rw [Try.params7] at hA hval
  obtain ⟨v0, vs0, d0, ds0, p0, q0, hargs, rfl, rfl, h0, hr0⟩ := trodAll_cons hA
  obtain ⟨rfl, rfl, rfl⟩ := trodAll_nil hr0
  obtain rfl : args = #[v0] := by cases args; simp_all
  obtain ⟨rfl, rfl⟩ := trodVars_none hV
  obtain ⟨x0, rfl, rfl, rfl, w_x0⟩ := open_int Try.underlying2 (hval 0 2 v0 rfl rfl) h0
  have f0 := wfi_primTimeOf w_x0
  clear hA0 hval0 hval hargs
  refine (law_primTimeOf x0 W f0).mono fun e W' ⟨he, bel⟩ => ?_
  subst he
  exact ⟨_, rfl, _, _, _, [], _, [], hW', trodAll_mk1 (shut_bool Try.underlying4 _), (trodAll_cons_mk (shut_int Try.underlying2 w_x0) trodAll_mk0), rfl, bel.frame _, fun h => by cases h⟩

theorem primTimeOf_holds : Rows.PrimTimeOfSaid :=
  OpenClaim.holds_of_wide 7 Try.f7 rfl rfl rfl rfl rfl rfl rfl ⟨rfl, rfl, rfl, rfl, rfl⟩ rfl rfl rfl rfl rfl (by kernel_rfl) Try.func7 (by kernel_rfl)
    (of_decide_eq_true (by kernel_rfl)) (by unfold Func.isWrapper; first | (rw [if_pos (by decide +kernel)]; kernel_rfl) | (rw [if_neg (by decide +kernel)]; exact ⟨rfl, rfl⟩))
    (fun os started H enc _ => lifted_primTimeOf os started H enc)

#print axioms primTimeOf_holds
end Go.Proofs.Yteejcokpkginbab
