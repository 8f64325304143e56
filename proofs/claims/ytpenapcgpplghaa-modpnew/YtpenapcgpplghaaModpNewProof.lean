/- Proved: the law ModpNew of the program answers true for any numbers (six limbs), and all stand as they stood. No conditions. -/
import Derived.Test.YtpenapcgpplghaaRows
import Derived.Test.YtpenapcgpplghaaLawModpNew
import Derived.Test.YtpenapcgpplghaaArr
import Derived.ChangeOld
import Derived.Below
namespace Go.Proofs.Ytpenapcgpplghaa
open Go.ChangeShapes Go.WideShapes Go.ChangeAt Go.RowKit

theorem own_modpNew : ownKnob Try.prog.godebug = none := by kernel_rfl
theorem cellsS_modpNew : Try.prog.cellsOf 24 = 6 := by kernel_rfl
theorem cell_modpNew : Try.prog.cellsOf 22 = 1 := by kernel_rfl

set_option maxHeartbeats 1000000 in
set_option maxRecDepth 100000 in
theorem lifted_modpNew (os : Os) (started : os.Started) (H : Type) (enc : TypeId × Value → H) :
    ReturnsInHanded {} Try.checked os 3 .any (Rows.modpNewSpec.pre6 enc Try.prog Try.f3 Rows.modpNewRow.domain false) (Rows.modpNewSpec.post enc Try.prog Try.f3 false true false false) := by
  refine returnsInHanded_of_change (C := Try.checked) own_modpNew started (by kernel_rfl) Try.func3
    (ChangeSpec.witness6 (enc := enc) (C := Try.checked) false ⟨#[], #[.agg #[.int .u64 0, .int .u64 0, .int .u64 0, .int .u64 0, .int .u64 0, .int .u64 0]], []⟩ 8 (by kernel_rfl) (by kernel_rfl) (by kernel_rfl) (by kernel_rfl)) ?_
  intro W base args ds gs before hval0 hW _ _
  have hval : ∀ (j : Nat) t v, Try.f3.params[j]? = some t → args[j]? = some v → Value.okWide Try.prog W .any base t v := hval0
  have hW' := hW
  obtain ⟨p, q, hA0, hV, rfl, _, _⟩ := hW
  have hA : DataW.TrodAll enc Try.prog W 0 (fun _ => true) true Try.f3.params.toList args.toList ds p := hA0
  rw [Try.params3] at hA hval
  obtain ⟨v0, vs0, d0, ds0, p0, q0, hargs, rfl, rfl, h0, hr0⟩ := trodAll_cons hA
  obtain ⟨rfl, rfl, rfl⟩ := trodAll_nil hr0
  obtain rfl : args = #[v0] := by cases args; simp_all
  obtain ⟨rfl, rfl⟩ := trodVars_none hV
  obtain ⟨cs0, rfl, _, _⟩ : ∃ cs, v0 = .agg cs ∧ cs.size = Try.prog.cellsOf 24 ∧ Row.okWide Try.prog W .any base 24 cs := by
    have := hval 0 24 v0 rfl rfl
    simpa [Value.okWide, Try.underlying24] using this
  obtain ⟨A0, l0, rfl, rfl, rfl, f0⟩ := open_arr Try.underlying24 cellsS_modpNew Try.underlying22 cell_modpNew h0
  obtain ⟨x0, x1, x2, x3, x4, x5, rfl⟩ := six l0
  clear hA0 hval0 hval hargs
  refine (law_modpNew x0 x1 x2 x3 x4 x5 W f0).mono fun e W' ⟨he, bel⟩ => ?_
  subst he
  exact ⟨_, rfl, _, _, _, [], _, [], hW', trodAll_mk1 (shut_bool Try.underlying4 _), (trodAll_cons_mk (shut_six Try.underlying24 cellsS_modpNew Try.underlying22 cell_modpNew x0 x1 x2 x3 x4 x5 f0) trodAll_mk0), rfl, bel.frame _, fun h => by cases h⟩

theorem modpNew_holds : Rows.ModpNewSaid :=
  OpenClaim.holds_of_wide 3 Try.f3 rfl rfl rfl rfl rfl rfl rfl ⟨rfl, rfl, rfl, rfl, rfl⟩ rfl rfl rfl rfl rfl (by kernel_rfl) Try.func3 (by kernel_rfl)
    (of_decide_eq_true (by kernel_rfl)) (by unfold Func.isWrapper; first | (rw [if_pos (by decide +kernel)]; kernel_rfl) | (rw [if_neg (by decide +kernel)]; exact ⟨rfl, rfl⟩))
    (fun os started H enc _ => lifted_modpNew os started H enc)

#print axioms modpNew_holds
end Go.Proofs.Ytpenapcgpplghaa
