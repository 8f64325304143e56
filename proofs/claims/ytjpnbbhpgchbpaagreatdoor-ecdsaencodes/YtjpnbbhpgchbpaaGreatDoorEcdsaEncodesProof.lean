/- Proved: the law EcdsaEncodes of the program answers true for any arguments (two numbers of six limbs), and all stand as they stood; the card ties the listed variables to the program's text. No conditions. -/
import Derived.Test.YtjpnbbhpgchbpaaGreatDoorCards
import Derived.Test.YtjpnbbhpgchbpaaGreatDoorTie
import Derived.Test.YtjpnbbhpgchbpaaGreatDoorLawEcdsaEncodes
import Derived.Test.YtjpnbbhpgchbpaaGreatDoorTabG
import Derived.Test.YtjpnbbhpgchbpaaGreatDoorBase
import Derived.Test.YtjpnbbhpgchbpaaGreatDoorShape
import Derived.Test.YtjpnbbhpgchbpaaGreatDoorArrG
import Derived.Test.YtjpnbbhpgchbpaaGreatDoorRowG
import Derived.ChangeOld
import Derived.Below
import Derived.ProofKit
import Derived.OpenShut
import Derived.ShutString
import Derived.LaidMore
import Derived.Stop.Joined
import Derived.SevenTiedAt
namespace Go.Proofs.YtjpnbbhpgchbpaaGreatDoor
open Go.ChangeShapes Go.WideShapes Go.ChangeAt Go.RowKit

theorem own_ecdsaEncodes : ownKnob Tryz.prog.godebug = none := by kernel_rfl
theorem laid_ecdsaEncodes : laidOutB Tryz.prog = true := by kernel_rfl
theorem door_ecdsaEncodes (os : Os) (args : Array Value) : laidMetH Tryz.prog Rows.ecdsaEncodesRow.laid ((World.doorLaid Tryz.prog 400 os).forCall (fun _ _ => 0) ⟨#[], args, []⟩).memory :=
  laidMetH_of_parts3 (fuel := 8) (laidMet_of_run' 8 (by kernel_rfl) (by kernel_rfl)) (by kernel_rfl) (by kernel_rfl)

set_option maxHeartbeats 1000000 in
set_option maxRecDepth 100000 in
theorem lifted_ecdsaEncodes (os : Os) (started : os.Started) (H : Type) (enc : TypeId × Value → H) :
    ReturnsInHanded {} Tryz.checked os 5 .any (fun w args => (Rows.ecdsaEncodesSpec.pre enc Tryz.prog Tryz.f5 [] false w args ∧ laidMetH Tryz.prog Rows.ecdsaEncodesRow.laid w) ∧ sizedMet enc Tryz.prog Tryz.f5 (OpenSpec.ofChange Rows.ecdsaEncodesSpec) false w args)
      (Rows.ecdsaEncodesSpec.post enc Tryz.prog Tryz.f5 false true false false) := by
  refine returnsInHanded_of_change_and (C := Tryz.checked) (X := fun w _ => laidMetH Tryz.prog Rows.ecdsaEncodesRow.laid w) (fun _ _ _ hh h => h.of_heap hh) own_ecdsaEncodes started (by kernel_rfl) Tryz.func5
    (ChangeSpec.witness_shaped (enc := enc) (C := Tryz.checked) (os := os) (X := fun w _ => laidMetH Tryz.prog Rows.ecdsaEncodesRow.laid w) false (World.doorLaid Tryz.prog 400 os) #[.agg #[.int .u64 0, .int .u64 0, .int .u64 0, .int .u64 0, .int .u64 0, .int .u64 0, .int .u64 0, .int .u64 0, .int .u64 0, .int .u64 0, .int .u64 0, .int .u64 0]] 8 rfl (World.shaped_of_RefB (by kernel_rfl) (by kernel_rfl)) (by kernel_rfl) (by kernel_rfl) (by kernel_rfl) (door_ecdsaEncodes os _)) ?_
  intro W base args ds gs before hval0 hW _ _ hL _
  have hval : ∀ (j : Nat) t v, Tryz.f5.params[j]? = some t → args[j]? = some v → Value.okWide Tryz.prog W .any base t v := hval0
  have hW' := hW
  obtain ⟨p, q, hA0, hV, rfl, _, _⟩ := hW
  have hA : DataW.TrodAll enc Tryz.prog W 0 (fun _ => true) true Tryz.f5.params.toList args.toList ds p := hA0
  rw [Tryz.params5] at hA hval
  obtain ⟨v0, vs0, d0, ds0, p0, q0, hargs, rfl, rfl, h0, hr0⟩ := trodAll_cons hA
  obtain ⟨rfl, rfl, rfl⟩ := trodAll_nil hr0
  obtain rfl : args = #[v0] := by cases args; simp_all
  obtain ⟨rfl, rfl⟩ := trodVars_none hV
  have G : GA W := glsL_of_laid hL
  obtain ⟨cs0, rfl, _, _⟩ : ∃ cs, v0 = .agg cs ∧ cs.size = Tryz.prog.cellsOf 28 ∧ Row.okWide Tryz.prog W .any base 28 cs := by
    have := hval 0 28 v0 rfl rfl
    simpa [Value.okWide, Tryz.underlying28] using this
  obtain ⟨x0, x1, x2, x3, x4, x5, xy0, xy1, xy2, xy3, xy4, xy5, rfl, rfl, rfl, f0, g0⟩ := open_sig h0
  clear hA0 hval0 hval hargs
  refine (law_ecdsaEncodes G (U6.mk f0) (U6.mk g0)).mono fun e W' ⟨he, bel⟩ => ?_
  subst he
  exact ⟨_, rfl, _, _, _, [], _, [], hW', trodAll_mk1 (shut_bool Tryz.underlying4 _), (trodAll_cons_mk (shut_sig x0 x1 x2 x3 x4 x5 xy0 xy1 xy2 xy3 xy4 xy5 f0 g0) trodAll_mk0), rfl, bel.frame _, fun h => by cases h⟩

theorem ecdsaEncodes_said : Rows.EcdsaEncodesSaid :=
  OpenClaim.holds_of_wide 5 Tryz.f5 rfl rfl rfl rfl rfl rfl rfl ⟨rfl, rfl, rfl, rfl, rfl⟩ rfl rfl rfl rfl rfl (by kernel_rfl) Tryz.func5 (by kernel_rfl)
    (of_decide_eq_true (by kernel_rfl)) (by unfold Func.isWrapper; first | (rw [if_pos (by decide +kernel)]; kernel_rfl) | (rw [if_neg (by decide +kernel)]; exact ⟨rfl, rfl⟩))
    (fun os started H enc _ => lifted_ecdsaEncodes os started H enc)

theorem plain_ecdsaEncodes (f : FuncId) (fn : Func) (hf : Tryz.pinned.checked.prog.funcNamed "escutcheon/escutcheonlaw14.EcdsaEncodes" = some f) (hfn : Tryz.pinned.checked.prog.funcs[f]? = some fn) :
    true = Tryz.pinned.checked.prog.looks [] ∧ ∀ (j : Nat) t, fn.params[j]? = some t → Tryz.pinned.checked.prog.wantsStandIn t = false := by
  obtain rfl : f = 5 := Option.some.inj ((show Tryz.prog.funcNamed "escutcheon/escutcheonlaw14.EcdsaEncodes" = some 5 by kernel_rfl).symm.trans hf) |>.symm
  obtain rfl : fn = Tryz.f5 := (Option.some.inj (Tryz.func5.symm.trans hfn)).symm
  refine ⟨by kernel_rfl, fun j t ht => ?_⟩
  rw [Tryz.params5] at ht
  have hm : t ∈ [28] := by simpa using Array.mem_of_getElem? ht
  have hall : ([28].all fun u => !Tryz.prog.wantsStandIn u) = true := by kernel_rfl
  exact (show Tryz.prog.wantsStandIn t = false by simpa using List.all_eq_true.1 hall t hm)

theorem ecdsaEncodes_holds : Rows.EcdsaEncodesCardSaid :=
  Claim7.holds_tied_plain_at .later [] _ _ _ _ ecdsaEncodes_said (fun _ h => by cases h) (by kernel_rfl) (fun _ h => by cases h) ecdsaEncodes_row_tie rfl ⟨rfl, rfl⟩ (by kernel_rfl) rfl plain_ecdsaEncodes (by kernel_rfl)

#print axioms ecdsaEncodes_holds
end Go.Proofs.YtjpnbbhpgchbpaaGreatDoor
