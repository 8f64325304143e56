/- Proved: the law ModpPowers of the program answers true for any numbers (six, six, six, six, six limbs), and all stand as they stood. No conditions. -/
import Derived.Test.YtpenapcgpplghabRows
import Derived.Test.YtpenapcgpplghabLawModpPowers
import Derived.Test.YtpenapcgpplghabArr
import Derived.ChangeOld
import Derived.Below
namespace Go.Proofs.Ytpenapcgpplghab
open Go.ChangeShapes Go.WideShapes Go.ChangeAt Go.RowKit

theorem own_modpPowers : ownKnob Try.prog.godebug = none := by kernel_rfl
theorem cellsS_modpPowers : Try.prog.cellsOf 24 = 6 := by kernel_rfl
theorem cell_modpPowers : Try.prog.cellsOf 22 = 1 := by kernel_rfl

set_option maxHeartbeats 1000000 in
set_option maxRecDepth 100000 in
theorem lifted_modpPowers (os : Os) (started : os.Started) (H : Type) (enc : TypeId × Value → H) :
    ReturnsInHanded {} Try.checked os 4 .any (Rows.modpPowersSpec.pre6 enc Try.prog Try.f4 Rows.modpPowersRow.domain false) (Rows.modpPowersSpec.post enc Try.prog Try.f4 false true false false) := by
  refine returnsInHanded_of_change (C := Try.checked) own_modpPowers started (by kernel_rfl) Try.func4
    (ChangeSpec.witness6 (enc := enc) (C := Try.checked) false ⟨#[], #[.agg #[.int .u64 0, .int .u64 0, .int .u64 0, .int .u64 0, .int .u64 0, .int .u64 0], .agg #[.int .u64 0, .int .u64 0, .int .u64 0, .int .u64 0, .int .u64 0, .int .u64 0], .agg #[.int .u64 0, .int .u64 0, .int .u64 0, .int .u64 0, .int .u64 0, .int .u64 0], .agg #[.int .u64 0, .int .u64 0, .int .u64 0, .int .u64 0, .int .u64 0, .int .u64 0], .agg #[.int .u64 0, .int .u64 0, .int .u64 0, .int .u64 0, .int .u64 0, .int .u64 0]], []⟩ 8 (by kernel_rfl) (by kernel_rfl) (by kernel_rfl) (by kernel_rfl)) ?_
  intro W base args ds gs before hval0 hW _ _
  have hval : ∀ (j : Nat) t v, Try.f4.params[j]? = some t → args[j]? = some v → Value.okWide Try.prog W .any base t v := hval0
  have hW' := hW
  obtain ⟨p, q, hA0, hV, rfl, _, _⟩ := hW
  have hA : DataW.TrodAll enc Try.prog W 0 (fun _ => true) true Try.f4.params.toList args.toList ds p := hA0
  rw [Try.params4] at hA hval
  obtain ⟨v0, vs0, d0, ds0, p0, q0, hargs, rfl, rfl, h0, hr0⟩ := trodAll_cons hA
  obtain ⟨v1, vs1, d1, ds1, p1, q1, rfl, rfl, rfl, h1, hr1⟩ := trodAll_cons hr0
  obtain ⟨v2, vs2, d2, ds2, p2, q2, rfl, rfl, rfl, h2, hr2⟩ := trodAll_cons hr1
  obtain ⟨v3, vs3, d3, ds3, p3, q3, rfl, rfl, rfl, h3, hr3⟩ := trodAll_cons hr2
  obtain ⟨v4, vs4, d4, ds4, p4, q4, rfl, rfl, rfl, h4, hr4⟩ := trodAll_cons hr3
  obtain ⟨rfl, rfl, rfl⟩ := trodAll_nil hr4
  obtain rfl : args = #[v0, v1, v2, v3, v4] := by cases args; simp_all
  obtain ⟨rfl, rfl⟩ := trodVars_none hV
  obtain ⟨cs0, rfl, _, _⟩ : ∃ cs, v0 = .agg cs ∧ cs.size = Try.prog.cellsOf 24 ∧ Row.okWide Try.prog W .any base 24 cs := by
    have := hval 0 24 v0 rfl rfl
    simpa [Value.okWide, Try.underlying24] using this
  obtain ⟨cs1, rfl, _, _⟩ : ∃ cs, v1 = .agg cs ∧ cs.size = Try.prog.cellsOf 24 ∧ Row.okWide Try.prog W .any base 24 cs := by
    have := hval 1 24 v1 rfl rfl
    simpa [Value.okWide, Try.underlying24] using this
  obtain ⟨cs2, rfl, _, _⟩ : ∃ cs, v2 = .agg cs ∧ cs.size = Try.prog.cellsOf 24 ∧ Row.okWide Try.prog W .any base 24 cs := by
    have := hval 2 24 v2 rfl rfl
    simpa [Value.okWide, Try.underlying24] using this
  obtain ⟨cs3, rfl, _, _⟩ : ∃ cs, v3 = .agg cs ∧ cs.size = Try.prog.cellsOf 24 ∧ Row.okWide Try.prog W .any base 24 cs := by
    have := hval 3 24 v3 rfl rfl
    simpa [Value.okWide, Try.underlying24] using this
  obtain ⟨cs4, rfl, _, _⟩ : ∃ cs, v4 = .agg cs ∧ cs.size = Try.prog.cellsOf 24 ∧ Row.okWide Try.prog W .any base 24 cs := by
    have := hval 4 24 v4 rfl rfl
    simpa [Value.okWide, Try.underlying24] using this
  obtain ⟨A0, l0, rfl, rfl, rfl, f0⟩ := open_arr Try.underlying24 cellsS_modpPowers Try.underlying22 cell_modpPowers h0
  obtain ⟨A1, l1, rfl, rfl, rfl, f1⟩ := open_arr Try.underlying24 cellsS_modpPowers Try.underlying22 cell_modpPowers h1
  obtain ⟨A2, l2, rfl, rfl, rfl, f2⟩ := open_arr Try.underlying24 cellsS_modpPowers Try.underlying22 cell_modpPowers h2
  obtain ⟨A3, l3, rfl, rfl, rfl, f3⟩ := open_arr Try.underlying24 cellsS_modpPowers Try.underlying22 cell_modpPowers h3
  obtain ⟨A4, l4, rfl, rfl, rfl, f4⟩ := open_arr Try.underlying24 cellsS_modpPowers Try.underlying22 cell_modpPowers h4
  obtain ⟨x0, x1, x2, x3, x4, x5, rfl⟩ := six l0
  obtain ⟨y0, y1, y2, y3, y4, y5, rfl⟩ := six l1
  obtain ⟨z0, z1, z2, z3, z4, z5, rfl⟩ := six l2
  obtain ⟨u0, u1, u2, u3, u4, u5, rfl⟩ := six l3
  obtain ⟨v0, v1, v2, v3, v4, v5, rfl⟩ := six l4
  clear hA0 hval0 hval hargs
  refine (law_modpPowers x0 x1 x2 x3 x4 x5 y0 y1 y2 y3 y4 y5 z0 z1 z2 z3 z4 z5 u0 u1 u2 u3 u4 u5 v0 v1 v2 v3 v4 v5 W f0 f1 f2 f3 f4).mono fun e W' ⟨he, bel⟩ => ?_
  subst he
  exact ⟨_, rfl, _, _, _, [], _, [], hW', trodAll_mk1 (shut_bool Try.underlying4 _), (trodAll_cons_mk (shut_six Try.underlying24 cellsS_modpPowers Try.underlying22 cell_modpPowers x0 x1 x2 x3 x4 x5 f0) (trodAll_cons_mk (shut_six Try.underlying24 cellsS_modpPowers Try.underlying22 cell_modpPowers y0 y1 y2 y3 y4 y5 f1) (trodAll_cons_mk (shut_six Try.underlying24 cellsS_modpPowers Try.underlying22 cell_modpPowers z0 z1 z2 z3 z4 z5 f2) (trodAll_cons_mk (shut_six Try.underlying24 cellsS_modpPowers Try.underlying22 cell_modpPowers u0 u1 u2 u3 u4 u5 f3) (trodAll_cons_mk (shut_six Try.underlying24 cellsS_modpPowers Try.underlying22 cell_modpPowers v0 v1 v2 v3 v4 v5 f4) trodAll_mk0))))), rfl, bel.frame _, fun h => by cases h⟩

theorem modpPowers_holds : Rows.ModpPowersSaid :=
  OpenClaim.holds_of_wide 4 Try.f4 rfl rfl rfl rfl rfl rfl rfl ⟨rfl, rfl, rfl, rfl, rfl⟩ rfl rfl rfl rfl rfl (by kernel_rfl) Try.func4 (by kernel_rfl)
    (of_decide_eq_true (by kernel_rfl)) (by unfold Func.isWrapper; first | (rw [if_pos (by decide +kernel)]; kernel_rfl) | (rw [if_neg (by decide +kernel)]; exact ⟨rfl, rfl⟩))
    (fun os started H enc _ => lifted_modpPowers os started H enc)

#print axioms modpPowers_holds
end Go.Proofs.Ytpenapcgpplghab
