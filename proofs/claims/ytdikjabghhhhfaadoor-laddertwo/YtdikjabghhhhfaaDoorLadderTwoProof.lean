/- Proved: the law LadderTwo of the program answers true for any arguments (six limbs, six limbs, limbs and a bool that tell a point, or none), and all stand as they stood; the card ties the listed variables to the program's text. No conditions. -/
import Derived.Test.YtdikjabghhhhfaaDoorCards
import Derived.Test.YtdikjabghhhhfaaDoorTie
import Derived.Test.YtdikjabghhhhfaaDoorLawLadderTwo
import Derived.Test.YtdikjabghhhhfaaDoorCTabs
import Derived.Test.YtdikjabghhhhfaaDoorBase
import Derived.ChangeOld
import Derived.Below
import Derived.ProofKit
import Derived.OpenShut
import Derived.ShutString
import Derived.LaidMore
import Derived.Stop.Joined
import Derived.SevenTiedAt
import Derived.Test.YtdikjabghhhhfaaDoorShape
namespace Go.Proofs.YtdikjabghhhhfaaDoor
open Go.ChangeShapes Go.WideShapes Go.ChangeAt Go.RowKit

theorem own_ladderTwo : ownKnob Tryd.prog.godebug = none := by kernel_rfl
theorem cellsS_ladderTwo : Tryd.prog.cellsOf 24 = 6 := by kernel_rfl
theorem cell_ladderTwo : Tryd.prog.cellsOf 22 = 1 := by kernel_rfl

theorem door_ladderTwo (os : Os) (args : Array Value) : laidMetH Tryd.prog Rows.ladderTwoRow.laid ((World.doorLaid Tryd.prog 400 os).forCall (fun _ _ => 0) ⟨#[], args, []⟩).memory :=
  laidMetH_of_parts3 (fuel := 8) (laidMet_of_run' 8 (by kernel_rfl) (by kernel_rfl)) (by kernel_rfl) (by kernel_rfl)

set_option maxHeartbeats 1000000 in
set_option maxRecDepth 100000 in
theorem lifted_ladderTwo (os : Os) (started : os.Started) (H : Type) (enc : TypeId × Value → H) :
    ReturnsInHanded {} Tryd.checked os 5 .any (fun w args => (Rows.ladderTwoSpec.pre enc Tryd.prog Tryd.f5 [] false w args ∧ laidMetH Tryd.prog Rows.ladderTwoRow.laid w) ∧ sizedMet enc Tryd.prog Tryd.f5 (OpenSpec.ofChange Rows.ladderTwoSpec) false w args)
      (Rows.ladderTwoSpec.post enc Tryd.prog Tryd.f5 false true false false) := by
  refine returnsInHanded_of_change_and (C := Tryd.checked) (X := fun w _ => laidMetH Tryd.prog Rows.ladderTwoRow.laid w) (fun _ _ _ hh h => h.of_heap hh) own_ladderTwo started (by kernel_rfl) Tryd.func5
    (ChangeSpec.witness_shaped (enc := enc) (C := Tryd.checked) (os := os) (X := fun w _ => laidMetH Tryd.prog Rows.ladderTwoRow.laid w) false (World.doorLaid Tryd.prog 400 os) #[.agg #[.int .u64 0, .int .u64 0, .int .u64 0, .int .u64 0, .int .u64 0, .int .u64 0], .agg #[.int .u64 0, .int .u64 0, .int .u64 0, .int .u64 0, .int .u64 0, .int .u64 0], .agg #[.int .u64 0, .int .u64 0, .int .u64 0, .int .u64 0, .int .u64 0, .int .u64 0, .int .u64 0, .int .u64 0, .int .u64 0, .int .u64 0, .int .u64 0, .int .u64 0, .bool false]] 8 rfl (World.shaped_of_RefB (by kernel_rfl) (by kernel_rfl)) (by kernel_rfl) (by kernel_rfl) (by kernel_rfl) (door_ladderTwo os _)) ?_
  intro W base args ds gs before hval0 hW _ _ hL _
  have hval : ∀ (j : Nat) t v, Tryd.f5.params[j]? = some t → args[j]? = some v → Value.okWide Tryd.prog W .any base t v := hval0
  have hW' := hW
  obtain ⟨p, q, hA0, hV, rfl, _, _⟩ := hW
  have hA : DataW.TrodAll enc Tryd.prog W 0 (fun _ => true) true Tryd.f5.params.toList args.toList ds p := hA0
  rw [Tryd.params5] at hA hval
  obtain ⟨v0, vs0, d0, ds0, p0, q0, hargs, rfl, rfl, h0, hr0⟩ := trodAll_cons hA
  obtain ⟨v1, vs1, d1, ds1, p1, q1, rfl, rfl, rfl, h1, hr1⟩ := trodAll_cons hr0
  obtain ⟨v2, vs2, d2, ds2, p2, q2, rfl, rfl, rfl, h2, hr2⟩ := trodAll_cons hr1
  obtain ⟨rfl, rfl, rfl⟩ := trodAll_nil hr2
  obtain rfl : args = #[v0, v1, v2] := by cases args; simp_all
  obtain ⟨rfl, rfl⟩ := trodVars_none hV
  have G : GlsC W := glsC_of_laid hL
  obtain ⟨cs0, rfl, _, _⟩ : ∃ cs, v0 = .agg cs ∧ cs.size = Tryd.prog.cellsOf 24 ∧ Row.okWide Tryd.prog W .any base 24 cs := by
    have := hval 0 24 v0 rfl rfl
    simpa [Value.okWide, Tryd.underlying24] using this
  obtain ⟨cs1, rfl, _, _⟩ : ∃ cs, v1 = .agg cs ∧ cs.size = Tryd.prog.cellsOf 24 ∧ Row.okWide Tryd.prog W .any base 24 cs := by
    have := hval 1 24 v1 rfl rfl
    simpa [Value.okWide, Tryd.underlying24] using this
  obtain ⟨cs2, rfl, _, _⟩ : ∃ cs, v2 = .agg cs ∧ cs.size = Tryd.prog.cellsOf 26 ∧ Row.okWide Tryd.prog W .any base 26 cs := by
    have := hval 2 26 v2 rfl rfl
    simpa [Value.okWide, Tryd.underlying26] using this
  obtain ⟨A0, l0, rfl, rfl, rfl, f0⟩ := open_arr Tryd.underlying24 cellsS_ladderTwo Tryd.underlying22 cell_ladderTwo h0
  obtain ⟨A1, l1, rfl, rfl, rfl, f1⟩ := open_arr Tryd.underlying24 cellsS_ladderTwo Tryd.underlying22 cell_ladderTwo h1
  obtain ⟨z0, z1, z2, z3, z4, z5, zy0, zy1, zy2, zy3, zy4, zy5, zn, rfl, rfl, rfl, f2, g2⟩ := open_pt h2
  obtain ⟨x0, x1, x2, x3, x4, x5, rfl⟩ := six l0
  obtain ⟨y0, y1, y2, y3, y4, y5, rfl⟩ := six l1
  clear hA0 hval0 hval hargs
  refine (law_ladderTwo x0 x1 x2 x3 x4 x5 y0 y1 y2 y3 y4 y5 z0 z1 z2 z3 z4 z5 zy0 zy1 zy2 zy3 zy4 zy5 zn W G f0 f1 f2 g2).mono fun e W' ⟨he, bel⟩ => ?_
  subst he
  exact ⟨_, rfl, _, _, _, [], _, [], hW', trodAll_mk1 (shut_bool Tryd.underlying4 _), (trodAll_cons_mk (shut_six Tryd.underlying24 cellsS_ladderTwo Tryd.underlying22 cell_ladderTwo x0 x1 x2 x3 x4 x5 f0) (trodAll_cons_mk (shut_six Tryd.underlying24 cellsS_ladderTwo Tryd.underlying22 cell_ladderTwo y0 y1 y2 y3 y4 y5 f1) (trodAll_cons_mk (shut_pt z0 z1 z2 z3 z4 z5 zy0 zy1 zy2 zy3 zy4 zy5 zn f2 g2) trodAll_mk0))), rfl, bel.frame _, fun h => by cases h⟩

theorem ladderTwo_said : Rows.LadderTwoSaid :=
  OpenClaim.holds_of_wide 5 Tryd.f5 rfl rfl rfl rfl rfl rfl rfl ⟨rfl, rfl, rfl, rfl, rfl⟩ rfl rfl rfl rfl rfl (by kernel_rfl) Tryd.func5 (by kernel_rfl)
    (of_decide_eq_true (by kernel_rfl)) (by unfold Func.isWrapper; first | (rw [if_pos (by decide +kernel)]; kernel_rfl) | (rw [if_neg (by decide +kernel)]; exact ⟨rfl, rfl⟩))
    (fun os started H enc _ => lifted_ladderTwo os started H enc)

theorem plain_ladderTwo (f : FuncId) (fn : Func) (hf : Tryd.pinned.checked.prog.funcNamed "escutcheon/escutcheonlaw06.LadderTwo" = some f) (hfn : Tryd.pinned.checked.prog.funcs[f]? = some fn) :
    true = Tryd.pinned.checked.prog.looks [] ∧ ∀ (j : Nat) t, fn.params[j]? = some t → Tryd.pinned.checked.prog.wantsStandIn t = false := by
  obtain rfl : f = 5 := Option.some.inj ((show Tryd.prog.funcNamed "escutcheon/escutcheonlaw06.LadderTwo" = some 5 by kernel_rfl).symm.trans hf) |>.symm
  obtain rfl : fn = Tryd.f5 := (Option.some.inj (Tryd.func5.symm.trans hfn)).symm
  refine ⟨by kernel_rfl, fun j t ht => ?_⟩
  rw [Tryd.params5] at ht
  have hm : t ∈ [24, 24, 26] := by simpa using Array.mem_of_getElem? ht
  have hall : ([24, 24, 26].all fun u => !Tryd.prog.wantsStandIn u) = true := by kernel_rfl
  exact (show Tryd.prog.wantsStandIn t = false by simpa using List.all_eq_true.1 hall t hm)

theorem ladderTwo_holds : Rows.LadderTwoCardSaid :=
  Claim7.holds_tied_plain_at .later [] _ _ _ _ ladderTwo_said (fun _ h => by cases h) (by kernel_rfl) (fun _ h => by cases h) ladderTwo_row_tie rfl ⟨rfl, rfl⟩ (by kernel_rfl) rfl plain_ladderTwo (by kernel_rfl)

#print axioms ladderTwo_holds
end Go.Proofs.YtdikjabghhhhfaaDoor
