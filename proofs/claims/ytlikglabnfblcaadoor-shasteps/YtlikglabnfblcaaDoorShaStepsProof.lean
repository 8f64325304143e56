/- Proved: the law ShaSteps of the program answers true for any arguments (eight words, bytes), and all stand as they stood; the card ties the listed variables to the program's text. No conditions. -/
import Derived.Test.YtlikglabnfblcaaDoorCards
import Derived.Test.YtlikglabnfblcaaDoorTie
import Derived.Test.YtlikglabnfblcaaDoorLawShaSteps
import Derived.Test.YtlikglabnfblcaaDoorSTabs
import Derived.Test.YtlikglabnfblcaaDoorBase
import Derived.ChangeOld
import Derived.Below
import Derived.ProofKit
import Derived.OpenShut
import Derived.ShutString
import Derived.LaidMore
import Derived.Stop.Joined
import Derived.SevenTiedAt
import Derived.Test.YtlikglabnfblcaaDoorRowB
namespace Go.Proofs.YtlikglabnfblcaaDoor
open Go.ChangeShapes Go.WideShapes Go.ChangeAt Go.RowKit

theorem own_shaSteps : ownKnob Tryd.prog.godebug = none := by kernel_rfl
theorem laid_shaSteps : laidOutB Tryd.prog = true := by kernel_rfl
theorem cellsE_shaSteps : Tryd.prog.cellsOf 23 = 8 := by kernel_rfl
theorem cell_shaSteps : Tryd.prog.cellsOf 22 = 1 := by kernel_rfl

theorem parts8_shaSteps {A : List Int} (h : A.length = 8) : ∃ x0 x1 x2 x3 x4 x5 x6 x7, A = [x0, x1, x2, x3, x4, x5, x6, x7] := by
  match A, h with
  | [x0, x1, x2, x3, x4, x5, x6, x7], _ => exact ⟨x0, x1, x2, x3, x4, x5, x6, x7, rfl⟩

theorem shut8_shaSteps {H : Type} {enc : TypeId × Value → H} {P : Program} {w : World} {base : Nat} {spare : Nat → Bool} {held : Bool} {t e : TypeId} (hu : P.underlying t = some (.array 8 e)) (hc : P.cellsOf t = 8) (hue : P.underlying e = some (.int .u64)) (hce : P.cellsOf e = 1) (x0 x1 x2 x3 x4 x5 x6 x7 : Int) (h : fits [x0, x1, x2, x3, x4, x5, x6, x7]) :
    DataW.Trod enc P w base spare held t (.agg #[.int .u64 x0, .int .u64 x1, .int .u64 x2, .int .u64 x3, .int .u64 x4, .int .u64 x5, .int .u64 x6, .int .u64 x7]) (.agg [.lit (.int .u64 x0), .lit (.int .u64 x1), .lit (.int .u64 x2), .lit (.int .u64 x3), .lit (.int .u64 x4), .lit (.int .u64 x5), .lit (.int .u64 x6), .lit (.int .u64 x7)]) [] := by
  have w0 : (Lit.int .u64 x0).wf = true := wf_u64.2 (h 0)
  have w1 : (Lit.int .u64 x1).wf = true := wf_u64.2 (h 1)
  have w2 : (Lit.int .u64 x2).wf = true := wf_u64.2 (h 2)
  have w3 : (Lit.int .u64 x3).wf = true := wf_u64.2 (h 3)
  have w4 : (Lit.int .u64 x4).wf = true := wf_u64.2 (h 4)
  have w5 : (Lit.int .u64 x5).wf = true := wf_u64.2 (h 5)
  have w6 : (Lit.int .u64 x6).wf = true := wf_u64.2 (h 6)
  have w7 : (Lit.int .u64 x7).wf = true := wf_u64.2 (h 7)
  exact ⟨2, by simp [DataW.trod, Value.cells, hu, hue, hc, hce, w0, w1, w2, w3, w4, w5, w6, w7, show List.range 8 = [0, 1, 2, 3, 4, 5, 6, 7] from rfl]⟩

theorem door_shaSteps (os : Os) (args : Array Value) : laidMetH Tryd.prog Rows.shaStepsRow.laid ((World.doorLaid Tryd.prog 400 os).forCall (fun _ _ => 0) ⟨#[], args, []⟩).memory :=
  laidMetH_of_parts3 (fuel := 8) (laidMet_of_run' 8 (by kernel_rfl) (by kernel_rfl)) (by kernel_rfl) (by kernel_rfl)

set_option maxHeartbeats 1000000 in
set_option maxRecDepth 100000 in
theorem lifted_shaSteps (os : Os) (started : os.Started) (H : Type) (enc : TypeId × Value → H) :
    ReturnsInHanded {} Tryd.checked os 3 .any (fun w args => (Rows.shaStepsSpec.pre enc Tryd.prog Tryd.f3 [] false w args ∧ laidMetH Tryd.prog Rows.shaStepsRow.laid w) ∧ sizedMet enc Tryd.prog Tryd.f3 (OpenSpec.ofChange Rows.shaStepsSpec) false w args)
      (Rows.shaStepsSpec.post enc Tryd.prog Tryd.f3 false true false false) := by
  refine returnsInHanded_of_change_and (C := Tryd.checked) (X := fun w _ => laidMetH Tryd.prog Rows.shaStepsRow.laid w) (fun _ _ _ hh h => h.of_heap hh) own_shaSteps started (by kernel_rfl) Tryd.func3
    (ChangeSpec.witness_shaped (enc := enc) (C := Tryd.checked) (os := os) (X := fun w _ => laidMetH Tryd.prog Rows.shaStepsRow.laid w) false (World.doorLaid Tryd.prog 400 os) #[.agg #[.int .u64 0, .int .u64 0, .int .u64 0, .int .u64 0, .int .u64 0, .int .u64 0, .int .u64 0, .int .u64 0], .slice none 0 0] 8 rfl (World.shaped_of_RefB (by kernel_rfl) (by kernel_rfl)) (by kernel_rfl) (by kernel_rfl) (by kernel_rfl) (door_shaSteps os _)) ?_
  intro W base args ds gs before hval0 hW _ _ hL _
  have hval : ∀ (j : Nat) t v, Tryd.f3.params[j]? = some t → args[j]? = some v → Value.okWide Tryd.prog W .any base t v := hval0
  have hW' := hW
  obtain ⟨p, q, hA0, hV, rfl, _, _⟩ := hW
  have hA : DataW.TrodAll enc Tryd.prog W 0 (fun _ => true) true Tryd.f3.params.toList args.toList ds p := hA0
  rw [Tryd.params3] at hA hval
  obtain ⟨v0, vs0, d0, ds0, p0, q0, hargs, rfl, rfl, h0, hr0⟩ := trodAll_cons hA
  obtain ⟨v1, vs1, d1, ds1, p1, q1, rfl, rfl, rfl, h1, hr1⟩ := trodAll_cons hr0
  obtain ⟨rfl, rfl, rfl⟩ := trodAll_nil hr1
  obtain rfl : args = #[v0, v1] := by cases args; simp_all
  obtain ⟨rfl, rfl⟩ := trodVars_none hV
  have G : GlsS W := glsS_of_laid hL
  obtain ⟨cs0, rfl, _, _⟩ : ∃ cs, v0 = .agg cs ∧ cs.size = Tryd.prog.cellsOf 23 ∧ Row.okWide Tryd.prog W .any base 23 cs := by
    have := hval 0 23 v0 rfl rfl
    simpa [Value.okWide, Tryd.underlying23] using this
  obtain ⟨a1, len1, cap1, rfl⟩ := okWide_slice Tryd.underlying24 (hval 1 24 v1 rfl rfl)
  have k1 := h1
  have lt1 : ∀ x ∈ p1, x.block < W.heap.size := by obtain ⟨m, hm⟩ := k1; exact DataW.trod_lt m _ _ _ hm
  obtain ⟨bs1, hbs1, hbyt1⟩ : ∃ bs, Bs W (.slice a1 len1 cap1) bs ∧ byt bs := by
    obtain ⟨fuel, hf⟩ := h1
    rcases open_ints Tryd.underlying24 Tryd.underlying5 (by kernel_rfl) hf with ⟨hcs, _⟩ | ⟨x, l, c, zs, hcs, _, hl, hm, hz, _, hcell, hwz⟩
    · simp [Value.cells] at hcs
      obtain ⟨rfl, rfl, rfl⟩ := hcs
      exact ⟨[], ⟨none, 0, rfl, Nat.zero_le _, Nat.le_refl _, fun h => absurd h (by simp)⟩, fun j => by simp⟩
    · simp [Value.cells] at hcs
      obtain ⟨rfl, rfl, rfl⟩ := hcs
      have := row_bytes hl hm (by simpa using hz) hcell hwz
      exact ⟨_, this.1, this.2⟩
  obtain ⟨A0, l0, rfl, rfl, rfl, f0⟩ := open_arr Tryd.underlying23 cellsE_shaSteps Tryd.underlying22 cell_shaSteps h0
  obtain ⟨x0, x1, x2, x3, x4, x5, x6, x7, rfl⟩ := parts8_shaSteps l0
  clear hA0 hval0 hval hargs
  refine (law_shaSteps x0 x1 x2 x3 x4 x5 x6 x7 _ bs1 W G f0 hbs1 hbyt1).mono fun e W' ⟨he, bel⟩ => ?_
  subst he
  exact ⟨_, rfl, _, _, _, [], _, [], hW', trodAll_mk1 (shut_bool Tryd.underlying4 _), (trodAll_cons_mk (shut8_shaSteps Tryd.underlying23 cellsE_shaSteps Tryd.underlying22 cell_shaSteps x0 x1 x2 x3 x4 x5 x6 x7 f0) (trodAll_cons_mk (Below.trod laid_shaSteps (by kernel_rfl) (of_decide_eq_true (by kernel_rfl)) k1 bel lt1) trodAll_mk0)), rfl, bel.frame _, fun h => by cases h⟩

theorem shaSteps_said : Rows.ShaStepsSaid :=
  OpenClaim.holds_of_wide 3 Tryd.f3 rfl rfl rfl rfl rfl rfl rfl ⟨rfl, rfl, rfl, rfl, rfl⟩ rfl rfl rfl rfl rfl (by kernel_rfl) Tryd.func3 (by kernel_rfl)
    (of_decide_eq_true (by kernel_rfl)) (by unfold Func.isWrapper; first | (rw [if_pos (by decide +kernel)]; kernel_rfl) | (rw [if_neg (by decide +kernel)]; exact ⟨rfl, rfl⟩))
    (fun os started H enc _ => lifted_shaSteps os started H enc)

theorem plain_shaSteps (f : FuncId) (fn : Func) (hf : Tryd.pinned.checked.prog.funcNamed "escutcheon/escutcheonlaw07.ShaSteps" = some f) (hfn : Tryd.pinned.checked.prog.funcs[f]? = some fn) :
    true = Tryd.pinned.checked.prog.looks [] ∧ ∀ (j : Nat) t, fn.params[j]? = some t → Tryd.pinned.checked.prog.wantsStandIn t = false := by
  obtain rfl : f = 3 := Option.some.inj ((show Tryd.prog.funcNamed "escutcheon/escutcheonlaw07.ShaSteps" = some 3 by kernel_rfl).symm.trans hf) |>.symm
  obtain rfl : fn = Tryd.f3 := (Option.some.inj (Tryd.func3.symm.trans hfn)).symm
  refine ⟨by kernel_rfl, fun j t ht => ?_⟩
  rw [Tryd.params3] at ht
  have hm : t ∈ [23, 24] := by simpa using Array.mem_of_getElem? ht
  have hall : ([23, 24].all fun u => !Tryd.prog.wantsStandIn u) = true := by kernel_rfl
  exact (show Tryd.prog.wantsStandIn t = false by simpa using List.all_eq_true.1 hall t hm)

theorem shaSteps_holds : Rows.ShaStepsCardSaid :=
  Claim7.holds_tied_plain_at .later [] _ _ _ _ shaSteps_said (fun _ h => by cases h) (by kernel_rfl) (fun _ h => by cases h) shaSteps_row_tie rfl ⟨rfl, rfl⟩ (by kernel_rfl) rfl plain_shaSteps (by kernel_rfl)

#print axioms shaSteps_holds
end Go.Proofs.YtlikglabnfblcaaDoor
