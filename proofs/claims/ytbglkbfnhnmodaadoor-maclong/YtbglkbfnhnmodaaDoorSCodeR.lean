/- The program's Round. -/
import Derived.Test.YtbglkbfnhnmodaaDoorRows
import Derived.Test.YtbglkbfnhnmodaaDoorSRound
import Derived.Test.YtbglkbfnhnmodaaDoorSRot
import Derived.BigQuiet
import Derived.Deep.WholeRow
import Derived.Deep.RegionHeld3
import Derived.Deep.DeepCutAuto
import Derived.Deep.DeepFit
namespace Go.Proofs.YtbglkbfnhnmodaaDoor
open Go.RowKit

theorem us64 : (if IntKind.u64.signed = true then (-1 : Int) else IntKind.u64.max) = IntKind.u64.max := rfl

set_option maxRecDepth 100000 in
set_option maxHeartbeats 4000000 in
theorem con_Round {v0 v1 v2 v3 v4 v5 v6 v7 k m : Int} {w : World} (fV : fits [v0, v1, v2, v3, v4, v5, v6, v7]) (_ : 0 ≤ k ∧ k < 18446744073709551616) (_ : 0 ≤ m ∧ m < 18446744073709551616) :
    Calls Tryd.prog 40 #[.agg #[.int .u64 v0, .int .u64 v1, .int .u64 v2, .int .u64 v3, .int .u64 v4, .int .u64 v5, .int .u64 v6, .int .u64 v7], .int .u64 k, .int .u64 m] w fun e w' => e = .returned (.agg (us (roundN [v0, v1, v2, v3, v4, v5, v6, v7] k m)).toArray) ∧ Below w.heap.size w w' := by
  have HF : Hid (fits [v0, v1, v2, v3, v4, v5, v6, v7]) := fV
  clear fV
  have B0 := (Blk.new w [.int .u64 v0, .int .u64 v1, .int .u64 v2, .int .u64 v3, .int .u64 v4, .int .u64 v5, .int .u64 v6, .int .u64 v7] 27 (w.heap.size) rfl).alloc (.cells [.int .u64 0, .int .u64 0, .int .u64 0, .int .u64 0, .int .u64 0, .int .u64 0, .int .u64 0, .int .u64 0].toArray 27)
  have B1 := Blk.new (w.alloc (.cells [.int .u64 v0, .int .u64 v1, .int .u64 v2, .int .u64 v3, .int .u64 v4, .int .u64 v5, .int .u64 v6, .int .u64 v7].toArray 27)) [.int .u64 0, .int .u64 0, .int .u64 0, .int .u64 0, .int .u64 0, .int .u64 0, .int .u64 0, .int .u64 0] 27 (w.heap.size + 1) (by simp)
  have bel : Below w.heap.size w ((w.alloc (.cells [.int .u64 v0, .int .u64 v1, .int .u64 v2, .int .u64 v3, .int .u64 v4, .int .u64 v5, .int .u64 v6, .int .u64 v7].toArray 27)).alloc (.cells [.int .u64 0, .int .u64 0, .int .u64 0, .int .u64 0, .int .u64 0, .int .u64 0, .int .u64 0, .int .u64 0].toArray 27)) := (((Below.refl _ _).alloc (Nat.le_refl _) _).alloc (by simp) _)
  go_enter Tryd.func40, Tryd.ntmps40
  go_upto_region 1 with fail
  try simp only [us, List.map_cons, List.map_nil] at bel
  generalize ((w.alloc (Obj.cells #[.int .u64 v0, .int .u64 v1, .int .u64 v2, .int .u64 v3, .int .u64 v4, .int .u64 v5, .int .u64 v6, .int .u64 v7] 27)).alloc (Obj.cells #[.int .u64 0, .int .u64 0, .int .u64 0, .int .u64 0, .int .u64 0, .int .u64 0, .int .u64 0, .int .u64 0] 27)) = W at *
  have lt0 := B0.lt
  have c0 := B0.cell 0 _ rfl
  have c1 := B0.cell 1 _ rfl
  have c2 := B0.cell 2 _ rfl
  have c3 := B0.cell 3 _ rfl
  have c4 := B0.cell 4 _ rfl
  have c5 := B0.cell 5 _ rfl
  have c6 := B0.cell 6 _ rfl
  have c7 := B0.cell 7 _ rfl
  go_quiet (fail)
  go_upto_region 2 with fail
  clear lt0 c0 c1 c2 c3 c4 c5 c6 c7 B0
  replace B1 := B1.drewN nq
  replace bel := below_dN bel nq
  generalize World.drewN _ nq = W1 at *
  go_wp2_with fail
  refine (con_rotm (m := 14) (show w64 v4 from HF.out 4) (by decide) (by decide)).mono ?_
  rintro e w1 ⟨rfl, rfl⟩
  go_wp2_with fail
  refine (con_rotm (m := 18) (show w64 v4 from HF.out 4) (by decide) (by decide)).mono ?_
  rintro e w2 ⟨rfl, rfl⟩
  go_wp2_with fail
  refine (con_rotm (m := 41) (show w64 v4 from HF.out 4) (by decide) (by decide)).mono ?_
  rintro e w3 ⟨rfl, rfl⟩
  go_upto_region 3 with fail
  simp only [us64] at *
  rw [t1_is]
  obtain ⟨one, hone⟩ : ∃ x, t1N v4 v5 v6 v7 k m = x := ⟨_, rfl⟩
  rw [hone]
  have H1 : Hid _ := hone
  clear hone
  go_wp2_with fail
  refine (con_rotm (m := 28) (show w64 v0 from HF.out 0) (by decide) (by decide)).mono ?_
  rintro e w4 ⟨rfl, rfl⟩
  go_wp2_with fail
  refine (con_rotm (m := 34) (show w64 v0 from HF.out 0) (by decide) (by decide)).mono ?_
  rintro e w5 ⟨rfl, rfl⟩
  go_wp2_with fail
  refine (con_rotm (m := 39) (show w64 v0 from HF.out 0) (by decide) (by decide)).mono ?_
  rintro e w6 ⟨rfl, rfl⟩
  go_upto_region 4 with fail
  rw [t2_is]
  obtain ⟨two, htwo⟩ : ∃ x, t2N v0 v1 v2 = x := ⟨_, rfl⟩
  rw [htwo]
  have H2 : Hid _ := htwo
  clear htwo
  have lt1 := B1.lt
  have d0 := B1.cell 0 _ rfl; have g0 := B1.frozen 0; have d1 := B1.cell 1 _ rfl; have g1 := B1.frozen 1; have d2 := B1.cell 2 _ rfl; have g2 := B1.frozen 2; have d3 := B1.cell 3 _ rfl; have g3 := B1.frozen 3; have d4 := B1.cell 4 _ rfl; have g4 := B1.frozen 4; have d5 := B1.cell 5 _ rfl; have g5 := B1.frozen 5; have d6 := B1.cell 6 _ rfl; have g6 := B1.frozen 6; have d7 := B1.cell 7 _ rfl; have g7 := B1.frozen 7
  go_wp2_with fail
  exact bodyPost_ret (v := .agg #[.int .u64 (IntKind.u64.wrap (one + two)), .int .u64 v0, .int .u64 v1, .int .u64 v2, .int .u64 (IntKind.u64.wrap (v3 + one)), .int .u64 v4, .int .u64 v5, .int .u64 v6]) (by simp [results, Tryd.results40, go_sem, d0, d1, d2, d3, d4, d5, d6, d7]) rfl ⟨by rw [round_is H1.out H2.out]; rfl, below_put8 bel (by omega)⟩
end Go.Proofs.YtbglkbfnhnmodaaDoor
