/- The document's field: P, Rest, Add, Sub, Mul. -/
import Derived.Test.YtdikjabghhhhfaaDoorRows
import Derived.Test.YtdikjabghhhhfaaDoorFRefP
import Derived.Test.YtdikjabghhhhfaaDoorRefB
import Derived.Test.YtdikjabghhhhfaaDoorShape
namespace Go.Proofs.YtdikjabghhhhfaaDoor
open Go.RowKit

set_option maxRecDepth 100000 in
theorem prest {u : Value} {X : Int} {w : World} (hu : NumIs w u X) (hX : X < 4294967296 ^ 30) :
    Calls Tryd.prog 57 #[u] w fun e w' => ∃ v', e = .returned v' ∧ NumIs w' v' (X % PP) ∧ Below w.heap.size w w' := by
  go_enter Tryd.func57, Tryd.ntmps57
  go_wp2_with fail
  refine p_any.mono ?_
  rintro e w1 ⟨v1, rfl, h1, hb1⟩
  go_wp2_with fail
  refine (rrest_any u v1 X PP w1 (hu.later hb1) h1 hX PP_pos PP_lt).mono ?_
  rintro e w2 ⟨v2, rfl, h2, hb2⟩
  go_wp2_with fail
  go_ret
  exact ⟨_, rfl, h2, below_step hb1 hb2⟩

theorem pm_30 (X : Int) : X % PP < 4294967296 ^ 30 := by
  have h := Int.emod_lt_of_pos X PP_pos
  have : PP < 4294967296 ^ 30 := by decide
  omega

theorem pm_nn (X : Int) : 0 ≤ X % PP := Int.emod_nonneg _ (by decide)

theorem pp_30 : PP < 4294967296 ^ 30 := by decide

theorem dif_30 (X Y : Int) : X % PP + PP < 4294967296 ^ 30 ∧ Y % PP ≤ X % PP + PP ∧ X % PP + PP - Y % PP < 4294967296 ^ 30 := by
  have h := Int.emod_lt_of_pos X PP_pos
  have h2 := Int.emod_lt_of_pos Y PP_pos
  have g := pm_nn X
  have g2 := pm_nn Y
  have : PP + PP < 4294967296 ^ 30 := by decide
  omega

set_option maxRecDepth 100000 in
theorem padd {u v : Value} {X Y : Int} {w : World} (hu : NumIs w u X) (hv : NumIs w v Y) (hX : X < 4294967296 ^ 30) (hY : Y < 4294967296 ^ 30) (hXY : X + Y < 4294967296 ^ 30) :
    Calls Tryd.prog 32 #[u, v] w fun e w' => ∃ v', e = .returned v' ∧ NumIs w' v' ((X + Y) % PP) ∧ Below w.heap.size w w' := by
  go_enter Tryd.func32, Tryd.ntmps32
  go_wp2_with fail
  refine (radd_any u v X Y w hu hv hX hY).mono ?_
  rintro e w1 ⟨v1, rfl, h1, hb1⟩
  go_wp2_with fail
  refine (prest h1 hXY).mono ?_
  rintro e w2 ⟨v2, rfl, h2, hb2⟩
  go_wp2_with fail
  go_ret
  exact ⟨_, rfl, h2, below_step hb1 hb2⟩

set_option maxRecDepth 100000 in
theorem pmul {u v : Value} {X Y : Int} {w : World} (hu : NumIs w u X) (hv : NumIs w v Y) (hX : X < 4294967296 ^ 30) (hY : Y < 4294967296 ^ 30) (hXY : X * Y < 4294967296 ^ 30) :
    Calls Tryd.prog 31 #[u, v] w fun e w' => ∃ v', e = .returned v' ∧ NumIs w' v' ((X * Y) % PP) ∧ Below w.heap.size w w' := by
  go_enter Tryd.func31, Tryd.ntmps31
  go_wp2_with fail
  refine (rmul_any u v X Y w hu hv hX hY).mono ?_
  rintro e w1 ⟨v1, rfl, h1, hb1⟩
  go_wp2_with fail
  refine (prest h1 hXY).mono ?_
  rintro e w2 ⟨v2, rfl, h2, hb2⟩
  go_wp2_with fail
  go_ret
  exact ⟨_, rfl, h2, below_step hb1 hb2⟩

theorem dif_p (X Y : Int) : (X % PP + PP - Y % PP) % PP = (X - Y) % PP := by
  rw [show X % PP + PP - Y % PP = X % PP - Y % PP + PP by omega, Int.add_emod_right, ← Int.sub_emod]

set_option maxRecDepth 100000 in
set_option maxHeartbeats 400000 in
theorem psub {u v : Value} {X Y : Int} {w : World} (hu : NumIs w u X) (hv : NumIs w v Y) (hX : X < 4294967296 ^ 30) (hY : Y < 4294967296 ^ 30) :
    Calls Tryd.prog 33 #[u, v] w fun e w' => ∃ v', e = .returned v' ∧ NumIs w' v' ((X - Y) % PP) ∧ Below w.heap.size w w' := by
  have BD : Hid _ := dif_30 X Y
  have HX : Hid _ := hX
  have HY : Hid _ := hY
  clear hX hY
  go_enter Tryd.func33, Tryd.ntmps33
  go_wp2_with fail
  refine (prest hu HX.out).mono ?_
  rintro e w1 ⟨v1, rfl, h1, hb1⟩
  go_wp2_with fail
  refine p_any.mono ?_
  rintro e w2 ⟨v2, rfl, h2, hb2⟩
  go_wp2_with fail
  refine (radd_any _ _ _ _ _ (h1.later hb2) h2 (pm_30 X) pp_30).mono ?_
  rintro e w3 ⟨v3, rfl, h3, hb3⟩
  go_wp2_with fail
  refine (prest (((hv.later hb1).later hb2).later hb3) HY.out).mono ?_
  rintro e w4 ⟨v4, rfl, h4, hb4⟩
  go_wp2_with fail
  refine (rsub_any _ _ _ _ _ (h3.later hb4) h4 BD.out.1 BD.out.2.1).mono ?_
  rintro e w5 ⟨v5, rfl, h5, hb5⟩
  go_wp2_with fail
  refine (prest h5 BD.out.2.2).mono ?_
  rintro e w6 ⟨v6, rfl, h6, hb6⟩
  rw [dif_p] at h6
  go_wp2_with fail
  go_ret
  exact ⟨_, rfl, h6, below_step (below_step (below_step (below_step (below_step hb1 hb2) hb3) hb4) hb5) hb6⟩

end Go.Proofs.YtdikjabghhhhfaaDoor
