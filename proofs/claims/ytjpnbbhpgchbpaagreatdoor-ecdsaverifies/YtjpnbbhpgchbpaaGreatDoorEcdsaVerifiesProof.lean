/- Proved: the law EcdsaVerifies of the program answers true for any arguments (limbs and a bool that tell a point, or none; bytes; two numbers of six limbs), and all stand as they stood; the card ties the listed variables to the program's text. No conditions. -/
import Derived.Test.YtjpnbbhpgchbpaaGreatDoorCards
import Derived.Test.YtjpnbbhpgchbpaaGreatDoorTie
import Derived.Test.YtjpnbbhpgchbpaaGreatDoorLawEcdsaVerifies
import Derived.Test.YtjpnbbhpgchbpaaGreatDoorTabG
import Derived.Test.YtjpnbbhpgchbpaaGreatDoorBase
import Derived.Test.YtjpnbbhpgchbpaaGreatDoorShape
import Derived.Test.YtjpnbbhpgchbpaaGreatDoorArrG
import Derived.Test.YtjpnbbhpgchbpaaGreatDoorRowG
import Derived.ChangeOld
import Derived.Below
import Derived.ProofKit
import Derived.OpenShut
import Derived.ShutString
import Derived.LaidMore
import Derived.Stop.Joined
import Derived.SevenTiedAt
namespace Go.Proofs.YtjpnbbhpgchbpaaGreatDoor
open Go.ChangeShapes Go.WideShapes Go.ChangeAt Go.RowKit

theorem own_ecdsaVerifies : ownKnob Tryz.prog.godebug = none := by kernel_rfl
theorem laid_ecdsaVerifies : laidOutB Tryz.prog = true := by kernel_rfl
theorem door_ecdsaVerifies (os : Os) (args : Array Value) : laidMetH Tryz.prog Rows.ecdsaVerifiesRow.laid ((World.doorLaid Tryz.prog 400 os).forCall (fun _ _ => 0) ⟨#[], args, []⟩).memory :=
  laidMetH_of_parts3 (fuel := 8) (laidMet_of_run' 8 (by kernel_rfl) (by kernel_rfl)) (by kernel_rfl) (by kernel_rfl)

set_option maxHeartbeats 1000000 in
set_option maxRecDepth 100000 in
theorem lifted_ecdsaVerifies (os : Os) (started : os.Started) (H : Type) (enc : TypeId × Value → H) :
    ReturnsInHanded {} Tryz.checked os 4 .any (fun w args => (Rows.ecdsaVerifiesSpec.pre enc Tryz.prog Tryz.f4 [] false w args ∧ laidMetH Tryz.prog Rows.ecdsaVerifiesRow.laid w) ∧ sizedMet enc Tryz.prog Tryz.f4 (OpenSpec.ofChange Rows.ecdsaVerifiesSpec) false w args)
      (Rows.ecdsaVerifiesSpec.post enc Tryz.prog Tryz.f4 false true false false) := by
  refine returnsInHanded_of_change_and (C := Tryz.checked) (X := fun w _ => laidMetH Tryz.prog Rows.ecdsaVerifiesRow.laid w) (fun _ _ _ hh h => h.of_heap hh) own_ecdsaVerifies started (by kernel_rfl) Tryz.func4
    (ChangeSpec.witness_shaped (enc := enc) (C := Tryz.checked) (os := os) (X := fun w _ => laidMetH Tryz.prog Rows.ecdsaVerifiesRow.laid w) false (World.doorLaid Tryz.prog 400 os) #[.agg #[.int .u64 0, .int .u64 0, .int .u64 0, .int .u64 0, .int .u64 0, .int .u64 0, .int .u64 0, .int .u64 0, .int .u64 0, .int .u64 0, .int .u64 0, .int .u64 0, .bool false], .slice none 0 0, .agg #[.int .u64 0, .int .u64 0, .int .u64 0, .int .u64 0, .int .u64 0, .int .u64 0, .int .u64 0, .int .u64 0, .int .u64 0, .int .u64 0, .int .u64 0, .int .u64 0]] 8 rfl (World.shaped_of_RefB (by kernel_rfl) (by kernel_rfl)) (by kernel_rfl) (by kernel_rfl) (by kernel_rfl) (door_ecdsaVerifies os _)) ?_
  intro W base args ds gs before hval0 hW _ _ hL _
  have hval : ∀ (j : Nat) t v, Tryz.f4.params[j]? = some t → args[j]? = some v → Value.okWide Tryz.prog W .any base t v := hval0
  have hW' := hW
  obtain ⟨p, q, hA0, hV, rfl, _, _⟩ := hW
  have hA : DataW.TrodAll enc Tryz.prog W 0 (fun _ => true) true Tryz.f4.params.toList args.toList ds p := hA0
  rw [Tryz.params4] at hA hval
  obtain ⟨v0, vs0, d0, ds0, p0, q0, hargs, rfl, rfl, h0, hr0⟩ := trodAll_cons hA
  obtain ⟨v1, vs1, d1, ds1, p1, q1, rfl, rfl, rfl, h1, hr1⟩ := trodAll_cons hr0
  obtain ⟨v2, vs2, d2, ds2, p2, q2, rfl, rfl, rfl, h2, hr2⟩ := trodAll_cons hr1
  obtain ⟨rfl, rfl, rfl⟩ := trodAll_nil hr2
  obtain rfl : args = #[v0, v1, v2] := by cases args; simp_all
  obtain ⟨rfl, rfl⟩ := trodVars_none hV
  have G : GA W := glsB_of_laid hL
  have GE : GlsE W := glsA_of_laid hL
  obtain ⟨cs0, rfl, _, _⟩ : ∃ cs, v0 = .agg cs ∧ cs.size = Tryz.prog.cellsOf 39 ∧ Row.okWide Tryz.prog W .any base 39 cs := by
    have := hval 0 39 v0 rfl rfl
    simpa [Value.okWide, Tryz.underlying39] using this
  obtain ⟨x0, x1, x2, x3, x4, x5, xy0, xy1, xy2, xy3, xy4, xy5, xn, rfl, rfl, rfl, f0, g0⟩ := open_pt h0
  obtain ⟨a1, len1, cap1, rfl⟩ := okWide_slice Tryz.underlying25 (hval 1 25 v1 rfl rfl)
  have k1 := h1
  have lt1 : ∀ x ∈ p1, x.block < W.heap.size := by obtain ⟨m, hm⟩ := k1; exact DataW.trod_lt m _ _ _ hm
  obtain ⟨bs1, hbs1, hbyt1⟩ : ∃ bs, Bs W (.slice a1 len1 cap1) bs ∧ byt bs := by
    obtain ⟨fuel, hf⟩ := h1
    rcases open_ints Tryz.underlying25 Tryz.underlying5 (by kernel_rfl) hf with ⟨hcs, _⟩ | ⟨x, l, c, zs, hcs, _, hl, hm, hz, _, hcell, hwz⟩
    · simp [Value.cells] at hcs
      obtain ⟨rfl, rfl, rfl⟩ := hcs
      exact ⟨[], ⟨none, 0, rfl, Nat.zero_le _, Nat.le_refl _, fun h => absurd h (by simp)⟩, fun j => by simp⟩
    · simp [Value.cells] at hcs
      obtain ⟨rfl, rfl, rfl⟩ := hcs
      have := row_bytes hl hm (by simpa using hz) hcell hwz
      exact ⟨_, this.1, this.2⟩
  obtain ⟨cs2, rfl, _, _⟩ : ∃ cs, v2 = .agg cs ∧ cs.size = Tryz.prog.cellsOf 28 ∧ Row.okWide Tryz.prog W .any base 28 cs := by
    have := hval 2 28 v2 rfl rfl
    simpa [Value.okWide, Tryz.underlying28] using this
  obtain ⟨z0, z1, z2, z3, z4, z5, zy0, zy1, zy2, zy3, zy4, zy5, rfl, rfl, rfl, f2, g2⟩ := open_sig h2
  clear hA0 hval0 hval hargs
  refine (law_ecdsaVerifies G GE (show P13R [.int .u64 x0, .int .u64 x1, .int .u64 x2, .int .u64 x3, .int .u64 x4, .int .u64 x5, .int .u64 xy0, .int .u64 xy1, .int .u64 xy2, .int .u64 xy3, .int .u64 xy4, .int .u64 xy5, .bool xn] _ _ _ from ⟨[.int .u64 x0, .int .u64 x1, .int .u64 x2, .int .u64 x3, .int .u64 x4, .int .u64 x5], [.int .u64 xy0, .int .u64 xy1, .int .u64 xy2, .int .u64 xy3, .int .u64 xy4, .int .u64 xy5], rfl, U6.mk f0, U6.mk g0⟩) hbs1 hbyt1 (U6.mk f2) (U6.mk g2)).mono fun e W' ⟨he, bel⟩ => ?_
  subst he
  exact ⟨_, rfl, _, _, _, [], _, [], hW', trodAll_mk1 (shut_bool Tryz.underlying4 _), (trodAll_cons_mk (shut_pt x0 x1 x2 x3 x4 x5 xy0 xy1 xy2 xy3 xy4 xy5 xn f0 g0) (trodAll_cons_mk (Below.trod laid_ecdsaVerifies (by kernel_rfl) (of_decide_eq_true (by kernel_rfl)) k1 bel lt1) (trodAll_cons_mk (shut_sig z0 z1 z2 z3 z4 z5 zy0 zy1 zy2 zy3 zy4 zy5 f2 g2) trodAll_mk0))), rfl, bel.frame _, fun h => by cases h⟩

theorem ecdsaVerifies_said : Rows.EcdsaVerifiesSaid :=
  OpenClaim.holds_of_wide 4 Tryz.f4 rfl rfl rfl rfl rfl rfl rfl ⟨rfl, rfl, rfl, rfl, rfl⟩ rfl rfl rfl rfl rfl (by kernel_rfl) Tryz.func4 (by kernel_rfl)
    (of_decide_eq_true (by kernel_rfl)) (by unfold Func.isWrapper; first | (rw [if_pos (by decide +kernel)]; kernel_rfl) | (rw [if_neg (by decide +kernel)]; exact ⟨rfl, rfl⟩))
    (fun os started H enc _ => lifted_ecdsaVerifies os started H enc)

theorem plain_ecdsaVerifies (f : FuncId) (fn : Func) (hf : Tryz.pinned.checked.prog.funcNamed "escutcheon/escutcheonlaw14.EcdsaVerifies" = some f) (hfn : Tryz.pinned.checked.prog.funcs[f]? = some fn) :
    true = Tryz.pinned.checked.prog.looks [] ∧ ∀ (j : Nat) t, fn.params[j]? = some t → Tryz.pinned.checked.prog.wantsStandIn t = false := by
  obtain rfl : f = 4 := Option.some.inj ((show Tryz.prog.funcNamed "escutcheon/escutcheonlaw14.EcdsaVerifies" = some 4 by kernel_rfl).symm.trans hf) |>.symm
  obtain rfl : fn = Tryz.f4 := (Option.some.inj (Tryz.func4.symm.trans hfn)).symm
  refine ⟨by kernel_rfl, fun j t ht => ?_⟩
  rw [Tryz.params4] at ht
  have hm : t ∈ [39, 25, 28] := by simpa using Array.mem_of_getElem? ht
  have hall : ([39, 25, 28].all fun u => !Tryz.prog.wantsStandIn u) = true := by kernel_rfl
  exact (show Tryz.prog.wantsStandIn t = false by simpa using List.all_eq_true.1 hall t hm)

theorem ecdsaVerifies_holds : Rows.EcdsaVerifiesCardSaid :=
  Claim7.holds_tied_plain_at .later [] _ _ _ _ ecdsaVerifies_said (fun _ h => by cases h) (by kernel_rfl) (fun _ h => by cases h) ecdsaVerifies_row_tie rfl ⟨rfl, rfl⟩ (by kernel_rfl) rfl plain_ecdsaVerifies (by kernel_rfl)

#print axioms ecdsaVerifies_holds
end Go.Proofs.YtjpnbbhpgchbpaaGreatDoor
