/- Errors held against errors. -/
import Derived.Test.YthbncblhkohomabDoorRows
import Derived.Test.YthbncblhkohomabDoorDrErr
import Derived.Test.YthbncblhkohomabDoorErHit
import Derived.Test.YthbncblhkohomabDoorErMiss
import Derived.Deep.WholeRow
import Derived.Deep.RegionHeld3
import Derived.Deep.DeepCutAuto
import Derived.Deep.DeepFit
namespace Go.Proofs.YthbncblhkohomabDoor
open Go.RowKit

set_option maxRecDepth 100000 in
theorem con_SameNil {w : World} :
    Calls Tryd.prog 9 #[.nilIface, .nilIface] w fun ev w' => ev = .returned (.bool true) ∧ w' = w := by
  have q := eq_nilcode 0
  go_enter Tryd.func9, Tryd.ntmps9
  go_wp2_with fail
  go_ret
  exact ⟨rfl, rfl⟩
set_option maxRecDepth 100000 in
theorem con_SameCode {c : Nat} {w : World} (G : GlsE w) (h1 : 1 ≤ c) (h2 : c ≤ 21) :
    Calls Tryd.prog 9 #[.iface 43 (.int .i64 (c : Int)), .iface 43 (.int .i64 (c : Int))] w fun ev w' => ev = .returned (.bool true) ∧ Below w.heap.size w w' := by
  have q := eq_codenil
  have bel : Below w.heap.size w (w.alloc (.cells #[.pointer none] 48)) := (Below.refl _ _).alloc (Nat.le_refl _) _
  have G2 := G.below bel
  have g3 : (0 : Int) < (c : Int) := by omega
  go_enter Tryd.func9, Tryd.ntmps9
  go_upto_region 4 with fail
  generalize w.alloc (Obj.cells #[.pointer none] 48) = W at *
  go_wp2_with fail
  refine (as_miss G2).mono ?_
  rintro e w1 ⟨rfl, hb⟩
  replace bel := below_stepD bel hb
  clear hb G2 G
  go_wp2_with fail
  refine (con_CodeOf h1 h2).mono ?_
  rintro e w2 ⟨rfl, hw⟩
  rw [hw]
  clear hw
  go_wp2_with fail
  refine (con_CodeOf h1 h2).mono ?_
  rintro e w2 ⟨rfl, hw⟩
  rw [hw]
  clear hw
  go_wp2_with fail
  refine (con_CodeOf h1 h2).mono ?_
  rintro e w2 ⟨rfl, hw⟩
  rw [hw]
  clear hw
  go_wp2_with fail
  go_ret
  exact ⟨by simp; omega, bel⟩
set_option maxRecDepth 100000 in
set_option maxHeartbeats 1000000 in
theorem con_SameSpot {g f : Nat} {At : Int} {c : Nat} {w : World} (G : GlsE w) (A : Blk w g [.int .i64 At, .iface 43 (.int .i64 (c : Int))]) (B : Blk w f [.int .i64 At, .iface 43 (.int .i64 (c : Int))]) (h1 : 1 ≤ c) (h2 : c ≤ 21) :
    Calls Tryd.prog 9 #[.iface 48 (.pointer (some ⟨g, 0, none⟩)), .iface 48 (.pointer (some ⟨f, 0, none⟩))] w fun ev w' => ev = .returned (.bool true) ∧ Below w.heap.size w w' := by
  have q := eq_spotnil
  have T0 := Blk.new w [.pointer none] 48 w.heap.size rfl
  have bel : Below w.heap.size w (w.alloc (.cells #[.pointer none] 48)) := (Below.refl _ _).alloc (Nat.le_refl _) _
  have HG : Hid (GlsE w) := G
  have la := A.lt
  have lb := B.lt
  replace A := A.alloc (.cells #[.pointer none] 48)
  replace B := B.alloc (.cells #[.pointer none] 48)
  clear G
  go_enter Tryd.func9, Tryd.ntmps9
  go_upto_region 4 with fail
  generalize w.alloc (Obj.cells #[.pointer none] 48) = W at *
  go_wp2_with fail
  refine (as_hit (HG.out.below bel) (T0.cell 0 _ rfl) (T0.frozen 0)).mono ?_
  rintro e w1 ⟨rfl, W1, rfl, hb⟩
  replace T0 := (T0.later hb).set 0 (.pointer (some ⟨f, 0, none⟩))
  replace A := (A.later hb).other ⟨w.heap.size, 0, none⟩ (.pointer (some ⟨f, 0, none⟩)) (by show g ≠ w.heap.size; omega)
  replace B := (B.later hb).other ⟨w.heap.size, 0, none⟩ (.pointer (some ⟨f, 0, none⟩)) (by show f ≠ w.heap.size; omega)
  replace bel := (bel.trans (hb.mono bel.size)).setCell (p := ⟨w.heap.size, 0, none⟩) (Nat.le_refl _) (.pointer (some ⟨f, 0, none⟩))
  clear hb
  generalize W1.setCell ⟨w.heap.size, 0, none⟩ (.pointer (some ⟨f, 0, none⟩)) = W2 at *
  have t0 := T0.cell 0 _ rfl
  have lt := T0.lt
  have c0 := B.cell 0 _ rfl
  have c1 := B.cell 1 _ rfl
  have lb2 := B.lt
  go_wp2_with fail
  go_loop [7] (fun cv => ∃ k : Nat, 1 ≤ k ∧ k ≤ c ∧ cv = .int .i64 k) (fun cv => 22 - (intOf cv).toNat)
  case atStart => exact ⟨1, by omega, h1, rfl⟩
  case round =>
    obtain ⟨k, k1, k2, rfl⟩ := hrel
    have g1 : (k : Int) ≤ 21 := by omega
    by_cases h : c = k
    · have q4 : ∀ w : World, (binOp .eql 29 (.iface 43 (.int .i64 (c : Int))) (.iface 43 (.int .i64 (k : Int)))).run Tryd.prog w = .ok (.bool true) w := fun w => by rw [eq_code, decide_eq_true (by omega)]
      have HC : Hid (c = k) := h
      clear h
      go_wp2_with fail
      refine (con_IsSpot (HG.out.below bel) A).mono ?_
      rintro e w3 ⟨rfl, hb⟩
      replace bel := below_stepD bel hb
      have hd : (decide ((c : Int) = (k : Int)) && decide (At = At)) = true := by rw [HC.out]; simp
      rw [hd]
      go_wp2_with fail
      go_ret
      exact ⟨rfl, bel⟩
    · have q4 : ∀ w : World, (binOp .eql 29 (.iface 43 (.int .i64 (c : Int))) (.iface 43 (.int .i64 (k : Int)))).run Tryd.prog w = .ok (.bool false) w := fun w => by rw [eq_code, decide_eq_false (by omega)]
      go_wp2_with fail
      go_round
      case rel => exact ⟨k + 1, by omega, by omega, by go_num⟩
      case measure => simp [intOf]; omega
end Go.Proofs.YthbncblhkohomabDoor
