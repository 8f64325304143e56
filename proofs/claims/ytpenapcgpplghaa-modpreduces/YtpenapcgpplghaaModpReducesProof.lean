/- Proved: the law ModpReduces of the program answers true for any numbers (twelve, six limbs), and all stand as they stood. No conditions. -/
import Derived.Test.YtpenapcgpplghaaRows
import Derived.Test.YtpenapcgpplghaaLawModpReduces
import Derived.Test.YtpenapcgpplghaaArr
import Derived.ChangeOld
import Derived.Below
namespace Go.Proofs.Ytpenapcgpplghaa
open Go.ChangeShapes Go.WideShapes Go.ChangeAt Go.RowKit

theorem own_modpReduces : ownKnob Try.prog.godebug = none := by kernel_rfl
theorem cellsS_modpReduces : Try.prog.cellsOf 24 = 6 := by kernel_rfl
theorem cellsT_modpReduces : Try.prog.cellsOf 41 = 12 := by kernel_rfl
theorem cell_modpReduces : Try.prog.cellsOf 22 = 1 := by kernel_rfl

theorem parts_modpReduces {A : List Int} (h : A.length = 12) : ∃ x0 x1 x2 x3 x4 x5 x6 x7 x8 x9 x10 x11, A = [x0, x1, x2, x3, x4, x5, x6, x7, x8, x9, x10, x11] := by
  match A, h with
  | [x0, x1, x2, x3, x4, x5, x6, x7, x8, x9, x10, x11], _ => exact ⟨x0, x1, x2, x3, x4, x5, x6, x7, x8, x9, x10, x11, rfl⟩

theorem shut_modpReduces {H : Type} {enc : TypeId × Value → H} {P : Program} {w : World} {base : Nat} {spare : Nat → Bool} {held : Bool} {t e : TypeId} (hu : P.underlying t = some (.array 12 e)) (hc : P.cellsOf t = 12) (hue : P.underlying e = some (.int .u64)) (hce : P.cellsOf e = 1) (x0 x1 x2 x3 x4 x5 x6 x7 x8 x9 x10 x11 : Int) (h : fits [x0, x1, x2, x3, x4, x5, x6, x7, x8, x9, x10, x11]) :
    DataW.Trod enc P w base spare held t (.agg #[.int .u64 x0, .int .u64 x1, .int .u64 x2, .int .u64 x3, .int .u64 x4, .int .u64 x5, .int .u64 x6, .int .u64 x7, .int .u64 x8, .int .u64 x9, .int .u64 x10, .int .u64 x11]) (.agg [.lit (.int .u64 x0), .lit (.int .u64 x1), .lit (.int .u64 x2), .lit (.int .u64 x3), .lit (.int .u64 x4), .lit (.int .u64 x5), .lit (.int .u64 x6), .lit (.int .u64 x7), .lit (.int .u64 x8), .lit (.int .u64 x9), .lit (.int .u64 x10), .lit (.int .u64 x11)]) [] := by
  have w0 : (Lit.int .u64 x0).wf = true := wf_u64.2 (h 0)
  have w1 : (Lit.int .u64 x1).wf = true := wf_u64.2 (h 1)
  have w2 : (Lit.int .u64 x2).wf = true := wf_u64.2 (h 2)
  have w3 : (Lit.int .u64 x3).wf = true := wf_u64.2 (h 3)
  have w4 : (Lit.int .u64 x4).wf = true := wf_u64.2 (h 4)
  have w5 : (Lit.int .u64 x5).wf = true := wf_u64.2 (h 5)
  have w6 : (Lit.int .u64 x6).wf = true := wf_u64.2 (h 6)
  have w7 : (Lit.int .u64 x7).wf = true := wf_u64.2 (h 7)
  have w8 : (Lit.int .u64 x8).wf = true := wf_u64.2 (h 8)
  have w9 : (Lit.int .u64 x9).wf = true := wf_u64.2 (h 9)
  have w10 : (Lit.int .u64 x10).wf = true := wf_u64.2 (h 10)
  have w11 : (Lit.int .u64 x11).wf = true := wf_u64.2 (h 11)
  exact ⟨2, by simp [DataW.trod, Value.cells, hu, hue, hc, hce, w0, w1, w2, w3, w4, w5, w6, w7, w8, w9, w10, w11, show List.range 12 = [0, 1, 2, 3, 4, 5, 6, 7, 8, 9, 10, 11] from rfl]⟩

set_option maxHeartbeats 1000000 in
set_option maxRecDepth 100000 in
theorem lifted_modpReduces (os : Os) (started : os.Started) (H : Type) (enc : TypeId × Value → H) :
    ReturnsInHanded {} Try.checked os 4 .any (Rows.modpReducesSpec.pre6 enc Try.prog Try.f4 Rows.modpReducesRow.domain false) (Rows.modpReducesSpec.post enc Try.prog Try.f4 false true false false) := by
  refine returnsInHanded_of_change (C := Try.checked) own_modpReduces started (by kernel_rfl) Try.func4
    (ChangeSpec.witness6 (enc := enc) (C := Try.checked) false ⟨#[], #[.agg #[.int .u64 0, .int .u64 0, .int .u64 0, .int .u64 0, .int .u64 0, .int .u64 0, .int .u64 0, .int .u64 0, .int .u64 0, .int .u64 0, .int .u64 0, .int .u64 0], .agg #[.int .u64 0, .int .u64 0, .int .u64 0, .int .u64 0, .int .u64 0, .int .u64 0]], []⟩ 8 (by kernel_rfl) (by kernel_rfl) (by kernel_rfl) (by kernel_rfl)) ?_
  intro W base args ds gs before hval0 hW _ _
  have hval : ∀ (j : Nat) t v, Try.f4.params[j]? = some t → args[j]? = some v → Value.okWide Try.prog W .any base t v := hval0
  have hW' := hW
  obtain ⟨p, q, hA0, hV, rfl, _, _⟩ := hW
  have hA : DataW.TrodAll enc Try.prog W 0 (fun _ => true) true Try.f4.params.toList args.toList ds p := hA0
  rw [Try.params4] at hA hval
  obtain ⟨v0, vs0, d0, ds0, p0, q0, hargs, rfl, rfl, h0, hr0⟩ := trodAll_cons hA
  obtain ⟨v1, vs1, d1, ds1, p1, q1, rfl, rfl, rfl, h1, hr1⟩ := trodAll_cons hr0
  obtain ⟨rfl, rfl, rfl⟩ := trodAll_nil hr1
  obtain rfl : args = #[v0, v1] := by cases args; simp_all
  obtain ⟨rfl, rfl⟩ := trodVars_none hV
  obtain ⟨cs0, rfl, _, _⟩ : ∃ cs, v0 = .agg cs ∧ cs.size = Try.prog.cellsOf 41 ∧ Row.okWide Try.prog W .any base 41 cs := by
    have := hval 0 41 v0 rfl rfl
    simpa [Value.okWide, Try.underlying41] using this
  obtain ⟨cs1, rfl, _, _⟩ : ∃ cs, v1 = .agg cs ∧ cs.size = Try.prog.cellsOf 24 ∧ Row.okWide Try.prog W .any base 24 cs := by
    have := hval 1 24 v1 rfl rfl
    simpa [Value.okWide, Try.underlying24] using this
  obtain ⟨A0, l0, rfl, rfl, rfl, f0⟩ := open_arr Try.underlying41 cellsT_modpReduces Try.underlying22 cell_modpReduces h0
  obtain ⟨A1, l1, rfl, rfl, rfl, f1⟩ := open_arr Try.underlying24 cellsS_modpReduces Try.underlying22 cell_modpReduces h1
  obtain ⟨x0, x1, x2, x3, x4, x5, x6, x7, x8, x9, x10, x11, rfl⟩ := parts_modpReduces l0
  obtain ⟨y0, y1, y2, y3, y4, y5, rfl⟩ := six l1
  clear hA0 hval0 hval hargs
  refine (law_modpReduces x0 x1 x2 x3 x4 x5 x6 x7 x8 x9 x10 x11 y0 y1 y2 y3 y4 y5 W f0 f1).mono fun e W' ⟨he, bel⟩ => ?_
  subst he
  exact ⟨_, rfl, _, _, _, [], _, [], hW', trodAll_mk1 (shut_bool Try.underlying4 _), (trodAll_cons_mk (shut_modpReduces Try.underlying41 cellsT_modpReduces Try.underlying22 cell_modpReduces x0 x1 x2 x3 x4 x5 x6 x7 x8 x9 x10 x11 f0) (trodAll_cons_mk (shut_six Try.underlying24 cellsS_modpReduces Try.underlying22 cell_modpReduces y0 y1 y2 y3 y4 y5 f1) trodAll_mk0)), rfl, bel.frame _, fun h => by cases h⟩

theorem modpReduces_holds : Rows.ModpReducesSaid :=
  OpenClaim.holds_of_wide 4 Try.f4 rfl rfl rfl rfl rfl rfl rfl ⟨rfl, rfl, rfl, rfl, rfl⟩ rfl rfl rfl rfl rfl (by kernel_rfl) Try.func4 (by kernel_rfl)
    (of_decide_eq_true (by kernel_rfl)) (by unfold Func.isWrapper; first | (rw [if_pos (by decide +kernel)]; kernel_rfl) | (rw [if_neg (by decide +kernel)]; exact ⟨rfl, rfl⟩))
    (fun os started H enc _ => lifted_modpReduces os started H enc)

#print axioms modpReduces_holds
end Go.Proofs.Ytpenapcgpplghaa
