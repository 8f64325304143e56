/- Proved: the law LadderOrder of the program answers true for any arguments (six limbs), and all stand as they stood; the card ties the listed variables to the program's text. No conditions. -/
import Derived.Test.YtdikjabghhhhfaaDoorCards
import Derived.Test.YtdikjabghhhhfaaDoorTie
import Derived.Test.YtdikjabghhhhfaaDoorLawLadderOrder
import Derived.Test.YtdikjabghhhhfaaDoorCTabs
import Derived.Test.YtdikjabghhhhfaaDoorBase
import Derived.ChangeOld
import Derived.Below
import Derived.ProofKit
import Derived.OpenShut
import Derived.ShutString
import Derived.LaidMore
import Derived.Stop.Joined
import Derived.SevenTiedAt
namespace Go.Proofs.YtdikjabghhhhfaaDoor
open Go.ChangeShapes Go.WideShapes Go.ChangeAt Go.RowKit

theorem own_ladderOrder : ownKnob Tryd.prog.godebug = none := by kernel_rfl
theorem cellsS_ladderOrder : Tryd.prog.cellsOf 24 = 6 := by kernel_rfl
theorem cell_ladderOrder : Tryd.prog.cellsOf 22 = 1 := by kernel_rfl

theorem door_ladderOrder (os : Os) (args : Array Value) : laidMetH Tryd.prog Rows.ladderOrderRow.laid ((World.doorLaid Tryd.prog 400 os).forCall (fun _ _ => 0) ⟨#[], args, []⟩).memory :=
  laidMetH_of_parts3 (fuel := 8) (laidMet_of_run' 8 (by kernel_rfl) (by kernel_rfl)) (by kernel_rfl) (by kernel_rfl)

set_option maxHeartbeats 1000000 in
set_option maxRecDepth 100000 in
theorem lifted_ladderOrder (os : Os) (started : os.Started) (H : Type) (enc : TypeId × Value → H) :
    ReturnsInHanded {} Tryd.checked os 8 .any (fun w args => (Rows.ladderOrderSpec.pre enc Tryd.prog Tryd.f8 [] false w args ∧ laidMetH Tryd.prog Rows.ladderOrderRow.laid w) ∧ sizedMet enc Tryd.prog Tryd.f8 (OpenSpec.ofChange Rows.ladderOrderSpec) false w args)
      (Rows.ladderOrderSpec.post enc Tryd.prog Tryd.f8 false true false false) := by
  refine returnsInHanded_of_change_and (C := Tryd.checked) (X := fun w _ => laidMetH Tryd.prog Rows.ladderOrderRow.laid w) (fun _ _ _ hh h => h.of_heap hh) own_ladderOrder started (by kernel_rfl) Tryd.func8
    (ChangeSpec.witness_shaped (enc := enc) (C := Tryd.checked) (os := os) (X := fun w _ => laidMetH Tryd.prog Rows.ladderOrderRow.laid w) false (World.doorLaid Tryd.prog 400 os) #[.agg #[.int .u64 0, .int .u64 0, .int .u64 0, .int .u64 0, .int .u64 0, .int .u64 0]] 8 rfl (World.shaped_of_RefB (by kernel_rfl) (by kernel_rfl)) (by kernel_rfl) (by kernel_rfl) (by kernel_rfl) (door_ladderOrder os _)) ?_
  intro W base args ds gs before hval0 hW _ _ hL _
  have hval : ∀ (j : Nat) t v, Tryd.f8.params[j]? = some t → args[j]? = some v → Value.okWide Tryd.prog W .any base t v := hval0
  have hW' := hW
  obtain ⟨p, q, hA0, hV, rfl, _, _⟩ := hW
  have hA : DataW.TrodAll enc Tryd.prog W 0 (fun _ => true) true Tryd.f8.params.toList args.toList ds p := hA0
  rw [Tryd.params8] at hA hval
  obtain ⟨v0, vs0, d0, ds0, p0, q0, hargs, rfl, rfl, h0, hr0⟩ := trodAll_cons hA
  obtain ⟨rfl, rfl, rfl⟩ := trodAll_nil hr0
  obtain rfl : args = #[v0] := by cases args; simp_all
  obtain ⟨rfl, rfl⟩ := trodVars_none hV
  have G : GlsC W := glsC_of_laid hL
  obtain ⟨cs0, rfl, _, _⟩ : ∃ cs, v0 = .agg cs ∧ cs.size = Tryd.prog.cellsOf 24 ∧ Row.okWide Tryd.prog W .any base 24 cs := by
    have := hval 0 24 v0 rfl rfl
    simpa [Value.okWide, Tryd.underlying24] using this
  obtain ⟨A0, l0, rfl, rfl, rfl, f0⟩ := open_arr Tryd.underlying24 cellsS_ladderOrder Tryd.underlying22 cell_ladderOrder h0
  obtain ⟨x0, x1, x2, x3, x4, x5, rfl⟩ := six l0
  clear hA0 hval0 hval hargs
  refine (law_ladderOrder x0 x1 x2 x3 x4 x5 W G f0).mono fun e W' ⟨he, bel⟩ => ?_
  subst he
  exact ⟨_, rfl, _, _, _, [], _, [], hW', trodAll_mk1 (shut_bool Tryd.underlying4 _), (trodAll_cons_mk (shut_six Tryd.underlying24 cellsS_ladderOrder Tryd.underlying22 cell_ladderOrder x0 x1 x2 x3 x4 x5 f0) trodAll_mk0), rfl, bel.frame _, fun h => by cases h⟩

theorem ladderOrder_said : Rows.LadderOrderSaid :=
  OpenClaim.holds_of_wide 8 Tryd.f8 rfl rfl rfl rfl rfl rfl rfl ⟨rfl, rfl, rfl, rfl, rfl⟩ rfl rfl rfl rfl rfl (by kernel_rfl) Tryd.func8 (by kernel_rfl)
    (of_decide_eq_true (by kernel_rfl)) (by unfold Func.isWrapper; first | (rw [if_pos (by decide +kernel)]; kernel_rfl) | (rw [if_neg (by decide +kernel)]; exact ⟨rfl, rfl⟩))
    (fun os started H enc _ => lifted_ladderOrder os started H enc)

theorem plain_ladderOrder (f : FuncId) (fn : Func) (hf : Tryd.pinned.checked.prog.funcNamed "escutcheon/escutcheonlaw06.LadderOrder" = some f) (hfn : Tryd.pinned.checked.prog.funcs[f]? = some fn) :
    true = Tryd.pinned.checked.prog.looks [] ∧ ∀ (j : Nat) t, fn.params[j]? = some t → Tryd.pinned.checked.prog.wantsStandIn t = false := by
  obtain rfl : f = 8 := Option.some.inj ((show Tryd.prog.funcNamed "escutcheon/escutcheonlaw06.LadderOrder" = some 8 by kernel_rfl).symm.trans hf) |>.symm
  obtain rfl : fn = Tryd.f8 := (Option.some.inj (Tryd.func8.symm.trans hfn)).symm
  refine ⟨by kernel_rfl, fun j t ht => ?_⟩
  rw [Tryd.params8] at ht
  have hm : t ∈ [24] := by simpa using Array.mem_of_getElem? ht
  have hall : ([24].all fun u => !Tryd.prog.wantsStandIn u) = true := by kernel_rfl
  exact (show Tryd.prog.wantsStandIn t = false by simpa using List.all_eq_true.1 hall t hm)

theorem ladderOrder_holds : Rows.LadderOrderCardSaid :=
  Claim7.holds_tied_plain_at .later [] _ _ _ _ ladderOrder_said (fun _ h => by cases h) (by kernel_rfl) (fun _ h => by cases h) ladderOrder_row_tie rfl ⟨rfl, rfl⟩ (by kernel_rfl) rfl plain_ladderOrder (by kernel_rfl)

#print axioms ladderOrder_holds
end Go.Proofs.YtdikjabghhhhfaaDoor
