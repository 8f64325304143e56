/- Proved: the law CurveEncodes of the program answers true for any arguments (limbs and a bool that tell a point, or none), and all stand as they stood; the card ties the listed variables to the program's text. No conditions. -/
import Derived.Test.YtpgidlnpcjbfhaaDoorCards
import Derived.Test.YtpgidlnpcjbfhaaDoorTie
import Derived.Test.YtpgidlnpcjbfhaaDoorLawCurveEncodes
import Derived.Test.YtpgidlnpcjbfhaaDoorCTabs
import Derived.Test.YtpgidlnpcjbfhaaDoorBase
import Derived.ChangeOld
import Derived.Below
import Derived.ProofKit
import Derived.OpenShut
import Derived.ShutString
import Derived.LaidMore
import Derived.Stop.Joined
import Derived.SevenTiedAt
import Derived.Test.YtpgidlnpcjbfhaaDoorArrP
namespace Go.Proofs.YtpgidlnpcjbfhaaDoor
open Go.ChangeShapes Go.WideShapes Go.ChangeAt Go.RowKit

theorem own_curveEncodes : ownKnob Tryd.prog.godebug = none := by kernel_rfl
theorem cell_curveEncodes : Tryd.prog.cellsOf 22 = 1 := by kernel_rfl

theorem door_curveEncodes (os : Os) (args : Array Value) : laidMetH Tryd.prog Rows.curveEncodesRow.laid ((World.doorLaid Tryd.prog 400 os).forCall (fun _ _ => 0) ⟨#[], args, []⟩).memory :=
  laidMetH_of_parts3 (fuel := 8) (laidMet_of_run' 8 (by kernel_rfl) (by kernel_rfl)) (by kernel_rfl) (by kernel_rfl)

set_option maxHeartbeats 1000000 in
set_option maxRecDepth 100000 in
theorem lifted_curveEncodes (os : Os) (started : os.Started) (H : Type) (enc : TypeId × Value → H) :
    ReturnsInHanded {} Tryd.checked os 7 .any (fun w args => (Rows.curveEncodesSpec.pre enc Tryd.prog Tryd.f7 [] false w args ∧ laidMetH Tryd.prog Rows.curveEncodesRow.laid w) ∧ sizedMet enc Tryd.prog Tryd.f7 (OpenSpec.ofChange Rows.curveEncodesSpec) false w args)
      (Rows.curveEncodesSpec.post enc Tryd.prog Tryd.f7 false true false false) := by
  refine returnsInHanded_of_change_and (C := Tryd.checked) (X := fun w _ => laidMetH Tryd.prog Rows.curveEncodesRow.laid w) (fun _ _ _ hh h => h.of_heap hh) own_curveEncodes started (by kernel_rfl) Tryd.func7
    (ChangeSpec.witness_shaped (enc := enc) (C := Tryd.checked) (os := os) (X := fun w _ => laidMetH Tryd.prog Rows.curveEncodesRow.laid w) false (World.doorLaid Tryd.prog 400 os) #[.agg #[.int .u64 0, .int .u64 0, .int .u64 0, .int .u64 0, .int .u64 0, .int .u64 0, .int .u64 0, .int .u64 0, .int .u64 0, .int .u64 0, .int .u64 0, .int .u64 0, .bool false]] 8 rfl (World.shaped_of_RefB (by kernel_rfl) (by kernel_rfl)) (by kernel_rfl) (by kernel_rfl) (by kernel_rfl) (door_curveEncodes os _)) ?_
  intro W base args ds gs before hval0 hW _ _ hL _
  have hval : ∀ (j : Nat) t v, Tryd.f7.params[j]? = some t → args[j]? = some v → Value.okWide Tryd.prog W .any base t v := hval0
  have hW' := hW
  obtain ⟨p, q, hA0, hV, rfl, _, _⟩ := hW
  have hA : DataW.TrodAll enc Tryd.prog W 0 (fun _ => true) true Tryd.f7.params.toList args.toList ds p := hA0
  rw [Tryd.params7] at hA hval
  obtain ⟨v0, vs0, d0, ds0, p0, q0, hargs, rfl, rfl, h0, hr0⟩ := trodAll_cons hA
  obtain ⟨rfl, rfl, rfl⟩ := trodAll_nil hr0
  obtain rfl : args = #[v0] := by cases args; simp_all
  obtain ⟨rfl, rfl⟩ := trodVars_none hV
  have G : GlsC W := glsC_of_laid hL
  obtain ⟨cs0, rfl, _, _⟩ : ∃ cs, v0 = .agg cs ∧ cs.size = Tryd.prog.cellsOf 26 ∧ Row.okWide Tryd.prog W .any base 26 cs := by
    have := hval 0 26 v0 rfl rfl
    simpa [Value.okWide, Tryd.underlying26] using this
  obtain ⟨x0, x1, x2, x3, x4, x5, xy0, xy1, xy2, xy3, xy4, xy5, xn, rfl, rfl, rfl, f0, g0⟩ := open_pt h0
  clear hA0 hval0 hval hargs
  refine (law_curveEncodes x0 x1 x2 x3 x4 x5 xy0 xy1 xy2 xy3 xy4 xy5 xn W G f0 g0).mono fun e W' ⟨he, bel⟩ => ?_
  subst he
  exact ⟨_, rfl, _, _, _, [], _, [], hW', trodAll_mk1 (shut_bool Tryd.underlying4 _), (trodAll_cons_mk (shut_pt x0 x1 x2 x3 x4 x5 xy0 xy1 xy2 xy3 xy4 xy5 xn f0 g0) trodAll_mk0), rfl, bel.frame _, fun h => by cases h⟩

theorem curveEncodes_said : Rows.CurveEncodesSaid :=
  OpenClaim.holds_of_wide 7 Tryd.f7 rfl rfl rfl rfl rfl rfl rfl ⟨rfl, rfl, rfl, rfl, rfl⟩ rfl rfl rfl rfl rfl (by kernel_rfl) Tryd.func7 (by kernel_rfl)
    (of_decide_eq_true (by kernel_rfl)) (by unfold Func.isWrapper; first | (rw [if_pos (by decide +kernel)]; kernel_rfl) | (rw [if_neg (by decide +kernel)]; exact ⟨rfl, rfl⟩))
    (fun os started H enc _ => lifted_curveEncodes os started H enc)

theorem plain_curveEncodes (f : FuncId) (fn : Func) (hf : Tryd.pinned.checked.prog.funcNamed "escutcheon/escutcheonlaw05.CurveEncodes" = some f) (hfn : Tryd.pinned.checked.prog.funcs[f]? = some fn) :
    true = Tryd.pinned.checked.prog.looks [] ∧ ∀ (j : Nat) t, fn.params[j]? = some t → Tryd.pinned.checked.prog.wantsStandIn t = false := by
  obtain rfl : f = 7 := Option.some.inj ((show Tryd.prog.funcNamed "escutcheon/escutcheonlaw05.CurveEncodes" = some 7 by kernel_rfl).symm.trans hf) |>.symm
  obtain rfl : fn = Tryd.f7 := (Option.some.inj (Tryd.func7.symm.trans hfn)).symm
  refine ⟨by kernel_rfl, fun j t ht => ?_⟩
  rw [Tryd.params7] at ht
  have hm : t ∈ [26] := by simpa using Array.mem_of_getElem? ht
  have hall : ([26].all fun u => !Tryd.prog.wantsStandIn u) = true := by kernel_rfl
  exact (show Tryd.prog.wantsStandIn t = false by simpa using List.all_eq_true.1 hall t hm)

theorem curveEncodes_holds : Rows.CurveEncodesCardSaid :=
  Claim7.holds_tied_plain_at .later [] _ _ _ _ curveEncodes_said (fun _ h => by cases h) (by kernel_rfl) (fun _ h => by cases h) curveEncodes_row_tie rfl ⟨rfl, rfl⟩ (by kernel_rfl) rfl plain_curveEncodes (by kernel_rfl)

#print axioms curveEncodes_holds
end Go.Proofs.YtpgidlnpcjbfhaaDoor
