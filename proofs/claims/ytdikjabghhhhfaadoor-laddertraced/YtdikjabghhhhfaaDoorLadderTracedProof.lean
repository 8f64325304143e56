/- Proved: the law LadderTraced of the program answers true for any arguments (six limbs, limbs and a bool that tell a point, or none), and all stand as they stood; the card ties the listed variables to the program's text. No conditions. -/
import Derived.Test.YtdikjabghhhhfaaDoorCards
import Derived.Test.YtdikjabghhhhfaaDoorTie
import Derived.Test.YtdikjabghhhhfaaDoorLawLadderTraced
import Derived.Test.YtdikjabghhhhfaaDoorCTabs
import Derived.Test.YtdikjabghhhhfaaDoorBase
import Derived.ChangeOld
import Derived.Below
import Derived.ProofKit
import Derived.OpenShut
import Derived.ShutString
import Derived.LaidMore
import Derived.Stop.Joined
import Derived.SevenTiedAt
import Derived.Test.YtdikjabghhhhfaaDoorShape
namespace Go.Proofs.YtdikjabghhhhfaaDoor
open Go.ChangeShapes Go.WideShapes Go.ChangeAt Go.RowKit

theorem own_ladderTraced : ownKnob Tryd.prog.godebug = none := by kernel_rfl
theorem cellsS_ladderTraced : Tryd.prog.cellsOf 24 = 6 := by kernel_rfl
theorem cell_ladderTraced : Tryd.prog.cellsOf 22 = 1 := by kernel_rfl

theorem door_ladderTraced (os : Os) (args : Array Value) : laidMetH Tryd.prog Rows.ladderTracedRow.laid ((World.doorLaid Tryd.prog 400 os).forCall (fun _ _ => 0) ⟨#[], args, []⟩).memory :=
  laidMetH_of_parts3 (fuel := 8) (laidMet_of_run' 8 (by kernel_rfl) (by kernel_rfl)) (by kernel_rfl) (by kernel_rfl)

set_option maxHeartbeats 1000000 in
set_option maxRecDepth 100000 in
theorem lifted_ladderTraced (os : Os) (started : os.Started) (H : Type) (enc : TypeId × Value → H) :
    ReturnsInHanded {} Tryd.checked os 6 .any (fun w args => (Rows.ladderTracedSpec.pre enc Tryd.prog Tryd.f6 [] false w args ∧ laidMetH Tryd.prog Rows.ladderTracedRow.laid w) ∧ sizedMet enc Tryd.prog Tryd.f6 (OpenSpec.ofChange Rows.ladderTracedSpec) false w args)
      (Rows.ladderTracedSpec.post enc Tryd.prog Tryd.f6 false true false false) := by
  refine returnsInHanded_of_change_and (C := Tryd.checked) (X := fun w _ => laidMetH Tryd.prog Rows.ladderTracedRow.laid w) (fun _ _ _ hh h => h.of_heap hh) own_ladderTraced started (by kernel_rfl) Tryd.func6
    (ChangeSpec.witness_shaped (enc := enc) (C := Tryd.checked) (os := os) (X := fun w _ => laidMetH Tryd.prog Rows.ladderTracedRow.laid w) false (World.doorLaid Tryd.prog 400 os) #[.agg #[.int .u64 0, .int .u64 0, .int .u64 0, .int .u64 0, .int .u64 0, .int .u64 0], .agg #[.int .u64 0, .int .u64 0, .int .u64 0, .int .u64 0, .int .u64 0, .int .u64 0, .int .u64 0, .int .u64 0, .int .u64 0, .int .u64 0, .int .u64 0, .int .u64 0, .bool false]] 8 rfl (World.shaped_of_RefB (by kernel_rfl) (by kernel_rfl)) (by kernel_rfl) (by kernel_rfl) (by kernel_rfl) (door_ladderTraced os _)) ?_
  intro W base args ds gs before hval0 hW _ _ hL _
  have hval : ∀ (j : Nat) t v, Tryd.f6.params[j]? = some t → args[j]? = some v → Value.okWide Tryd.prog W .any base t v := hval0
  have hW' := hW
  obtain ⟨p, q, hA0, hV, rfl, _, _⟩ := hW
  have hA : DataW.TrodAll enc Tryd.prog W 0 (fun _ => true) true Tryd.f6.params.toList args.toList ds p := hA0
  rw [Tryd.params6] at hA hval
  obtain ⟨v0, vs0, d0, ds0, p0, q0, hargs, rfl, rfl, h0, hr0⟩ := trodAll_cons hA
  obtain ⟨v1, vs1, d1, ds1, p1, q1, rfl, rfl, rfl, h1, hr1⟩ := trodAll_cons hr0
  obtain ⟨rfl, rfl, rfl⟩ := trodAll_nil hr1
  obtain rfl : args = #[v0, v1] := by cases args; simp_all
  obtain ⟨rfl, rfl⟩ := trodVars_none hV
  have G : GlsC W := glsC_of_laid hL
  obtain ⟨cs0, rfl, _, _⟩ : ∃ cs, v0 = .agg cs ∧ cs.size = Tryd.prog.cellsOf 24 ∧ Row.okWide Tryd.prog W .any base 24 cs := by
    have := hval 0 24 v0 rfl rfl
    simpa [Value.okWide, Tryd.underlying24] using this
  obtain ⟨cs1, rfl, _, _⟩ : ∃ cs, v1 = .agg cs ∧ cs.size = Tryd.prog.cellsOf 26 ∧ Row.okWide Tryd.prog W .any base 26 cs := by
    have := hval 1 26 v1 rfl rfl
    simpa [Value.okWide, Tryd.underlying26] using this
  obtain ⟨A0, l0, rfl, rfl, rfl, f0⟩ := open_arr Tryd.underlying24 cellsS_ladderTraced Tryd.underlying22 cell_ladderTraced h0
  obtain ⟨y0, y1, y2, y3, y4, y5, yy0, yy1, yy2, yy3, yy4, yy5, yn, rfl, rfl, rfl, f1, g1⟩ := open_pt h1
  obtain ⟨x0, x1, x2, x3, x4, x5, rfl⟩ := six l0
  clear hA0 hval0 hval hargs
  refine (law_ladderTraced x0 x1 x2 x3 x4 x5 y0 y1 y2 y3 y4 y5 yy0 yy1 yy2 yy3 yy4 yy5 yn W G f0 f1 g1).mono fun e W' ⟨he, bel⟩ => ?_
  subst he
  exact ⟨_, rfl, _, _, _, [], _, [], hW', trodAll_mk1 (shut_bool Tryd.underlying4 _), (trodAll_cons_mk (shut_six Tryd.underlying24 cellsS_ladderTraced Tryd.underlying22 cell_ladderTraced x0 x1 x2 x3 x4 x5 f0) (trodAll_cons_mk (shut_pt y0 y1 y2 y3 y4 y5 yy0 yy1 yy2 yy3 yy4 yy5 yn f1 g1) trodAll_mk0)), rfl, bel.frame _, fun h => by cases h⟩

theorem ladderTraced_said : Rows.LadderTracedSaid :=
  OpenClaim.holds_of_wide 6 Tryd.f6 rfl rfl rfl rfl rfl rfl rfl ⟨rfl, rfl, rfl, rfl, rfl⟩ rfl rfl rfl rfl rfl (by kernel_rfl) Tryd.func6 (by kernel_rfl)
    (of_decide_eq_true (by kernel_rfl)) (by unfold Func.isWrapper; first | (rw [if_pos (by decide +kernel)]; kernel_rfl) | (rw [if_neg (by decide +kernel)]; exact ⟨rfl, rfl⟩))
    (fun os started H enc _ => lifted_ladderTraced os started H enc)

theorem plain_ladderTraced (f : FuncId) (fn : Func) (hf : Tryd.pinned.checked.prog.funcNamed "escutcheon/escutcheonlaw06.LadderTraced" = some f) (hfn : Tryd.pinned.checked.prog.funcs[f]? = some fn) :
    true = Tryd.pinned.checked.prog.looks [] ∧ ∀ (j : Nat) t, fn.params[j]? = some t → Tryd.pinned.checked.prog.wantsStandIn t = false := by
  obtain rfl : f = 6 := Option.some.inj ((show Tryd.prog.funcNamed "escutcheon/escutcheonlaw06.LadderTraced" = some 6 by kernel_rfl).symm.trans hf) |>.symm
  obtain rfl : fn = Tryd.f6 := (Option.some.inj (Tryd.func6.symm.trans hfn)).symm
  refine ⟨by kernel_rfl, fun j t ht => ?_⟩
  rw [Tryd.params6] at ht
  have hm : t ∈ [24, 26] := by simpa using Array.mem_of_getElem? ht
  have hall : ([24, 26].all fun u => !Tryd.prog.wantsStandIn u) = true := by kernel_rfl
  exact (show Tryd.prog.wantsStandIn t = false by simpa using List.all_eq_true.1 hall t hm)

theorem ladderTraced_holds : Rows.LadderTracedCardSaid :=
  Claim7.holds_tied_plain_at .later [] _ _ _ _ ladderTraced_said (fun _ h => by cases h) (by kernel_rfl) (fun _ h => by cases h) ladderTraced_row_tie rfl ⟨rfl, rfl⟩ (by kernel_rfl) rfl plain_ladderTraced (by kernel_rfl)

#print axioms ladderTraced_holds
end Go.Proofs.YtdikjabghhhhfaaDoor
