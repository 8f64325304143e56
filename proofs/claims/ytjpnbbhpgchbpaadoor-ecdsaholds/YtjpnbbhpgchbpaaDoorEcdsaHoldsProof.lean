/- Proved: the law EcdsaHolds of the program answers true for any arguments (six limbs; six limbs; 48 bytes), and all stand as they stood; the card ties the listed variables to the program's text. No conditions. -/
import Derived.Test.YtjpnbbhpgchbpaaDoorCards
import Derived.Test.YtjpnbbhpgchbpaaDoorTie
import Derived.Test.YtjpnbbhpgchbpaaDoorLawEcdsaHolds
import Derived.Test.YtjpnbbhpgchbpaaDoorTabG
import Derived.Test.YtjpnbbhpgchbpaaDoorBase
import Derived.Test.YtjpnbbhpgchbpaaDoorShape
import Derived.Test.YtjpnbbhpgchbpaaDoorArrG
import Derived.Test.YtjpnbbhpgchbpaaDoorRowG
import Derived.ChangeOld
import Derived.Below
import Derived.ProofKit
import Derived.OpenShut
import Derived.ShutString
import Derived.LaidMore
import Derived.Stop.Joined
import Derived.SevenTiedAt
namespace Go.Proofs.YtjpnbbhpgchbpaaDoor
open Go.ChangeShapes Go.WideShapes Go.ChangeAt Go.RowKit

theorem own_ecdsaHolds : ownKnob Tryd.prog.godebug = none := by kernel_rfl
theorem laid_ecdsaHolds : laidOutB Tryd.prog = true := by kernel_rfl
theorem cells48_ecdsaHolds : Tryd.prog.cellsOf 25 = 48 := by kernel_rfl
theorem cellb_ecdsaHolds : Tryd.prog.cellsOf 5 = 1 := by kernel_rfl
theorem door_ecdsaHolds (os : Os) (args : Array Value) : laidMetH Tryd.prog Rows.ecdsaHoldsRow.laid ((World.doorLaid Tryd.prog 400 os).forCall (fun _ _ => 0) ⟨#[], args, []⟩).memory :=
  laidMetH_of_parts3 (fuel := 8) (laidMet_of_run' 8 (by kernel_rfl) (by kernel_rfl)) (by kernel_rfl) (by kernel_rfl)

set_option maxHeartbeats 1000000 in
set_option maxRecDepth 100000 in
theorem lifted_ecdsaHolds (os : Os) (started : os.Started) (H : Type) (enc : TypeId × Value → H) :
    ReturnsInHanded {} Tryd.checked os 3 .any (fun w args => (Rows.ecdsaHoldsSpec.pre enc Tryd.prog Tryd.f3 [] false w args ∧ laidMetH Tryd.prog Rows.ecdsaHoldsRow.laid w) ∧ sizedMet enc Tryd.prog Tryd.f3 (OpenSpec.ofChange Rows.ecdsaHoldsSpec) false w args)
      (Rows.ecdsaHoldsSpec.post enc Tryd.prog Tryd.f3 false true false false) := by
  refine returnsInHanded_of_change_and (C := Tryd.checked) (X := fun w _ => laidMetH Tryd.prog Rows.ecdsaHoldsRow.laid w) (fun _ _ _ hh h => h.of_heap hh) own_ecdsaHolds started (by kernel_rfl) Tryd.func3
    (ChangeSpec.witness_shaped (enc := enc) (C := Tryd.checked) (os := os) (X := fun w _ => laidMetH Tryd.prog Rows.ecdsaHoldsRow.laid w) false (World.doorLaid Tryd.prog 400 os) #[.agg #[.int .u64 0, .int .u64 0, .int .u64 0, .int .u64 0, .int .u64 0, .int .u64 0], .agg #[.int .u64 0, .int .u64 0, .int .u64 0, .int .u64 0, .int .u64 0, .int .u64 0], .agg #[.int .u8 0, .int .u8 0, .int .u8 0, .int .u8 0, .int .u8 0, .int .u8 0, .int .u8 0, .int .u8 0, .int .u8 0, .int .u8 0, .int .u8 0, .int .u8 0, .int .u8 0, .int .u8 0, .int .u8 0, .int .u8 0, .int .u8 0, .int .u8 0, .int .u8 0, .int .u8 0, .int .u8 0, .int .u8 0, .int .u8 0, .int .u8 0, .int .u8 0, .int .u8 0, .int .u8 0, .int .u8 0, .int .u8 0, .int .u8 0, .int .u8 0, .int .u8 0, .int .u8 0, .int .u8 0, .int .u8 0, .int .u8 0, .int .u8 0, .int .u8 0, .int .u8 0, .int .u8 0, .int .u8 0, .int .u8 0, .int .u8 0, .int .u8 0, .int .u8 0, .int .u8 0, .int .u8 0, .int .u8 0]] 8 rfl (World.shaped_of_RefB (by kernel_rfl) (by kernel_rfl)) (by kernel_rfl) (by kernel_rfl) (by kernel_rfl) (door_ecdsaHolds os _)) ?_
  intro W base args ds gs before hval0 hW _ _ hL _
  have hval : ∀ (j : Nat) t v, Tryd.f3.params[j]? = some t → args[j]? = some v → Value.okWide Tryd.prog W .any base t v := hval0
  have hW' := hW
  obtain ⟨p, q, hA0, hV, rfl, _, _⟩ := hW
  have hA : DataW.TrodAll enc Tryd.prog W 0 (fun _ => true) true Tryd.f3.params.toList args.toList ds p := hA0
  rw [Tryd.params3] at hA hval
  obtain ⟨v0, vs0, d0, ds0, p0, q0, hargs, rfl, rfl, h0, hr0⟩ := trodAll_cons hA
  obtain ⟨v1, vs1, d1, ds1, p1, q1, rfl, rfl, rfl, h1, hr1⟩ := trodAll_cons hr0
  obtain ⟨v2, vs2, d2, ds2, p2, q2, rfl, rfl, rfl, h2, hr2⟩ := trodAll_cons hr1
  obtain ⟨rfl, rfl, rfl⟩ := trodAll_nil hr2
  obtain rfl : args = #[v0, v1, v2] := by cases args; simp_all
  obtain ⟨rfl, rfl⟩ := trodVars_none hV
  have G : GA W := glsL_of_laid hL
  obtain ⟨cs0, rfl, _, _⟩ : ∃ cs, v0 = .agg cs ∧ cs.size = Tryd.prog.cellsOf 24 ∧ Row.okWide Tryd.prog W .any base 24 cs := by
    have := hval 0 24 v0 rfl rfl
    simpa [Value.okWide, Tryd.underlying24] using this
  obtain ⟨A0, l0, rfl, rfl, rfl, f0⟩ := open_arr Tryd.underlying24 cells_u384 Tryd.underlying22 cells_u64 h0
  obtain ⟨x0, x1, x2, x3, x4, x5, rfl⟩ := six l0
  obtain ⟨cs1, rfl, _, _⟩ : ∃ cs, v1 = .agg cs ∧ cs.size = Tryd.prog.cellsOf 24 ∧ Row.okWide Tryd.prog W .any base 24 cs := by
    have := hval 1 24 v1 rfl rfl
    simpa [Value.okWide, Tryd.underlying24] using this
  obtain ⟨A1, l1, rfl, rfl, rfl, f1⟩ := open_arr Tryd.underlying24 cells_u384 Tryd.underlying22 cells_u64 h1
  obtain ⟨y0, y1, y2, y3, y4, y5, rfl⟩ := six l1
  obtain ⟨cs2, rfl, _, _⟩ : ∃ cs, v2 = .agg cs ∧ cs.size = Tryd.prog.cellsOf 25 ∧ Row.okWide Tryd.prog W .any base 25 cs := by
    have := hval 2 25 v2 rfl rfl
    simpa [Value.okWide, Tryd.underlying25] using this
  have k2 := h2
  have lt2 : ∀ x ∈ p2, x.block < W.heap.size := by obtain ⟨m, hm⟩ := k2; exact DataW.trod_lt m _ _ _ hm
  obtain ⟨S2, l2, e2, _, _, hbyt2⟩ := open_arrb Tryd.underlying25 cells48_ecdsaHolds Tryd.underlying5 cellb_ecdsaHolds h2
  subst e2
  clear hA0 hval0 hval hargs
  refine (law_ecdsaHolds G (U6.mk f0) (U6.mk f1) l2 hbyt2).mono fun e W' ⟨he, bel⟩ => ?_
  subst he
  exact ⟨_, rfl, _, _, _, [], _, [], hW', trodAll_mk1 (shut_bool Tryd.underlying4 _), (trodAll_cons_mk (shut_six Tryd.underlying24 cells_u384 Tryd.underlying22 cells_u64 x0 x1 x2 x3 x4 x5 f0) (trodAll_cons_mk (shut_six Tryd.underlying24 cells_u384 Tryd.underlying22 cells_u64 y0 y1 y2 y3 y4 y5 f1) (trodAll_cons_mk (Below.trod laid_ecdsaHolds (by kernel_rfl) (of_decide_eq_true (by kernel_rfl)) k2 bel lt2) trodAll_mk0))), rfl, bel.frame _, fun h => by cases h⟩

theorem ecdsaHolds_said : Rows.EcdsaHoldsSaid :=
  OpenClaim.holds_of_wide 3 Tryd.f3 rfl rfl rfl rfl rfl rfl rfl ⟨rfl, rfl, rfl, rfl, rfl⟩ rfl rfl rfl rfl rfl (by kernel_rfl) Tryd.func3 (by kernel_rfl)
    (of_decide_eq_true (by kernel_rfl)) (by unfold Func.isWrapper; first | (rw [if_pos (by decide +kernel)]; kernel_rfl) | (rw [if_neg (by decide +kernel)]; exact ⟨rfl, rfl⟩))
    (fun os started H enc _ => lifted_ecdsaHolds os started H enc)

theorem plain_ecdsaHolds (f : FuncId) (fn : Func) (hf : Tryd.pinned.checked.prog.funcNamed "escutcheon/escutcheonlaw14.EcdsaHolds" = some f) (hfn : Tryd.pinned.checked.prog.funcs[f]? = some fn) :
    true = Tryd.pinned.checked.prog.looks [] ∧ ∀ (j : Nat) t, fn.params[j]? = some t → Tryd.pinned.checked.prog.wantsStandIn t = false := by
  obtain rfl : f = 3 := Option.some.inj ((show Tryd.prog.funcNamed "escutcheon/escutcheonlaw14.EcdsaHolds" = some 3 by kernel_rfl).symm.trans hf) |>.symm
  obtain rfl : fn = Tryd.f3 := (Option.some.inj (Tryd.func3.symm.trans hfn)).symm
  refine ⟨by kernel_rfl, fun j t ht => ?_⟩
  rw [Tryd.params3] at ht
  have hm : t ∈ [24, 24, 25] := by simpa using Array.mem_of_getElem? ht
  have hall : ([24, 24, 25].all fun u => !Tryd.prog.wantsStandIn u) = true := by kernel_rfl
  exact (show Tryd.prog.wantsStandIn t = false by simpa using List.all_eq_true.1 hall t hm)

theorem ecdsaHolds_holds : Rows.EcdsaHoldsCardSaid :=
  Claim7.holds_tied_plain_at .later [] _ _ _ _ ecdsaHolds_said (fun _ h => by cases h) (by kernel_rfl) (fun _ h => by cases h) ecdsaHolds_row_tie rfl ⟨rfl, rfl⟩ (by kernel_rfl) rfl plain_ecdsaHolds (by kernel_rfl)

#print axioms ecdsaHolds_holds
end Go.Proofs.YtjpnbbhpgchbpaaDoor
