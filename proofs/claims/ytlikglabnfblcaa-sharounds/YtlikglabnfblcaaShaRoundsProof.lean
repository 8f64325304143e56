/- Proved: the law ShaRounds of the program answers true for any numbers (eight words, a word, a word), and all stand as they stood. No conditions. -/
import Derived.Test.YtlikglabnfblcaaRows
import Derived.Test.YtlikglabnfblcaaLawShaRounds
import Derived.Test.YtlikglabnfblcaaBase
import Derived.ChangeOld
import Derived.Below
namespace Go.Proofs.Ytlikglabnfblcaa
open Go.ChangeShapes Go.WideShapes Go.ChangeAt Go.RowKit

theorem own_shaRounds : ownKnob Try.prog.godebug = none := by kernel_rfl
theorem cellsE_shaRounds : Try.prog.cellsOf 36 = 8 := by kernel_rfl
theorem cell_shaRounds : Try.prog.cellsOf 34 = 1 := by kernel_rfl

theorem parts8_shaRounds {A : List Int} (h : A.length = 8) : ∃ x0 x1 x2 x3 x4 x5 x6 x7, A = [x0, x1, x2, x3, x4, x5, x6, x7] := by
  match A, h with
  | [x0, x1, x2, x3, x4, x5, x6, x7], _ => exact ⟨x0, x1, x2, x3, x4, x5, x6, x7, rfl⟩

theorem shut8_shaRounds {H : Type} {enc : TypeId × Value → H} {P : Program} {w : World} {base : Nat} {spare : Nat → Bool} {held : Bool} {t e : TypeId} (hu : P.underlying t = some (.array 8 e)) (hc : P.cellsOf t = 8) (hue : P.underlying e = some (.int .u64)) (hce : P.cellsOf e = 1) (x0 x1 x2 x3 x4 x5 x6 x7 : Int) (h : fits [x0, x1, x2, x3, x4, x5, x6, x7]) :
    DataW.Trod enc P w base spare held t (.agg #[.int .u64 x0, .int .u64 x1, .int .u64 x2, .int .u64 x3, .int .u64 x4, .int .u64 x5, .int .u64 x6, .int .u64 x7]) (.agg [.lit (.int .u64 x0), .lit (.int .u64 x1), .lit (.int .u64 x2), .lit (.int .u64 x3), .lit (.int .u64 x4), .lit (.int .u64 x5), .lit (.int .u64 x6), .lit (.int .u64 x7)]) [] := by
  have w0 : (Lit.int .u64 x0).wf = true := wf_u64.2 (h 0)
  have w1 : (Lit.int .u64 x1).wf = true := wf_u64.2 (h 1)
  have w2 : (Lit.int .u64 x2).wf = true := wf_u64.2 (h 2)
  have w3 : (Lit.int .u64 x3).wf = true := wf_u64.2 (h 3)
  have w4 : (Lit.int .u64 x4).wf = true := wf_u64.2 (h 4)
  have w5 : (Lit.int .u64 x5).wf = true := wf_u64.2 (h 5)
  have w6 : (Lit.int .u64 x6).wf = true := wf_u64.2 (h 6)
  have w7 : (Lit.int .u64 x7).wf = true := wf_u64.2 (h 7)
  exact ⟨2, by simp [DataW.trod, Value.cells, hu, hue, hc, hce, w0, w1, w2, w3, w4, w5, w6, w7, show List.range 8 = [0, 1, 2, 3, 4, 5, 6, 7] from rfl]⟩

set_option maxHeartbeats 1000000 in
set_option maxRecDepth 100000 in
theorem lifted_shaRounds (os : Os) (started : os.Started) (H : Type) (enc : TypeId × Value → H) :
    ReturnsInHanded {} Try.checked os 5 .any (Rows.shaRoundsSpec.pre6 enc Try.prog Try.f5 Rows.shaRoundsRow.domain false) (Rows.shaRoundsSpec.post enc Try.prog Try.f5 false true false false) := by
  refine returnsInHanded_of_change (C := Try.checked) own_shaRounds started (by kernel_rfl) Try.func5
    (ChangeSpec.witness6 (enc := enc) (C := Try.checked) false ⟨#[], #[.agg #[.int .u64 0, .int .u64 0, .int .u64 0, .int .u64 0, .int .u64 0, .int .u64 0, .int .u64 0, .int .u64 0], .int .u64 0, .int .u64 0], []⟩ 8 (by kernel_rfl) (by kernel_rfl) (by kernel_rfl) (by kernel_rfl)) ?_
  intro W base args ds gs before hval0 hW _ _
  have hval : ∀ (j : Nat) t v, Try.f5.params[j]? = some t → args[j]? = some v → Value.okWide Try.prog W .any base t v := hval0
  have hW' := hW
  obtain ⟨p, q, hA0, hV, rfl, _, _⟩ := hW
  have hA : DataW.TrodAll enc Try.prog W 0 (fun _ => true) true Try.f5.params.toList args.toList ds p := hA0
  rw [Try.params5] at hA hval
  obtain ⟨v0, vs0, d0, ds0, p0, q0, hargs, rfl, rfl, h0, hr0⟩ := trodAll_cons hA
  obtain ⟨v1, vs1, d1, ds1, p1, q1, rfl, rfl, rfl, h1, hr1⟩ := trodAll_cons hr0
  obtain ⟨v2, vs2, d2, ds2, p2, q2, rfl, rfl, rfl, h2, hr2⟩ := trodAll_cons hr1
  obtain ⟨rfl, rfl, rfl⟩ := trodAll_nil hr2
  obtain rfl : args = #[v0, v1, v2] := by cases args; simp_all
  obtain ⟨rfl, rfl⟩ := trodVars_none hV
  obtain ⟨cs0, rfl, _, _⟩ : ∃ cs, v0 = .agg cs ∧ cs.size = Try.prog.cellsOf 36 ∧ Row.okWide Try.prog W .any base 36 cs := by
    have := hval 0 36 v0 rfl rfl
    simpa [Value.okWide, Try.underlying36] using this
  obtain ⟨y, rfl, rfl, rfl, w_y⟩ := open_int Try.underlying34 (hval 1 34 v1 rfl rfl) h1
  have f1 := wf_u64.1 w_y
  obtain ⟨z, rfl, rfl, rfl, w_z⟩ := open_int Try.underlying34 (hval 2 34 v2 rfl rfl) h2
  have f2 := wf_u64.1 w_z
  obtain ⟨A0, l0, rfl, rfl, rfl, f0⟩ := open_arr Try.underlying36 cellsE_shaRounds Try.underlying34 cell_shaRounds h0
  obtain ⟨x0, x1, x2, x3, x4, x5, x6, x7, rfl⟩ := parts8_shaRounds l0
  clear hA0 hval0 hval hargs
  refine (law_shaRounds x0 x1 x2 x3 x4 x5 x6 x7 y z W f0 f1 f2).mono fun e W' ⟨he, bel⟩ => ?_
  subst he
  exact ⟨_, rfl, _, _, _, [], _, [], hW', trodAll_mk1 (shut_bool Try.underlying4 _), (trodAll_cons_mk (shut8_shaRounds Try.underlying36 cellsE_shaRounds Try.underlying34 cell_shaRounds x0 x1 x2 x3 x4 x5 x6 x7 f0) (trodAll_cons_mk (shut_int Try.underlying34 w_y) (trodAll_cons_mk (shut_int Try.underlying34 w_z) trodAll_mk0))), rfl, bel.frame _, fun h => by cases h⟩

theorem shaRounds_holds : Rows.ShaRoundsSaid :=
  OpenClaim.holds_of_wide 5 Try.f5 rfl rfl rfl rfl rfl rfl rfl ⟨rfl, rfl, rfl, rfl, rfl⟩ rfl rfl rfl rfl rfl (by kernel_rfl) Try.func5 (by kernel_rfl)
    (of_decide_eq_true (by kernel_rfl)) (by unfold Func.isWrapper; first | (rw [if_pos (by decide +kernel)]; kernel_rfl) | (rw [if_neg (by decide +kernel)]; exact ⟨rfl, rfl⟩))
    (fun os started H enc _ => lifted_shaRounds os started H enc)

#print axioms shaRounds_holds
end Go.Proofs.Ytlikglabnfblcaa
