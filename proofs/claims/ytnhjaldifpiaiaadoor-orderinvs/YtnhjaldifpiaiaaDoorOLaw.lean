/- The document's field: P, Rest, Add, Sub, Mul. The law's own helper: is. -/
import Derived.Test.YtnhjaldifpiaiaaDoorRows
import Derived.Test.YtnhjaldifpiaiaaDoorOBase
import Derived.Test.YtnhjaldifpiaiaaDoorRefB
import Derived.Test.YtnhjaldifpiaiaaDoorMTo
import Derived.Test.YtnhjaldifpiaiaaDoorOAdd
import Derived.Deep.RegionHeld3
import Derived.Deep.DeepFit
namespace Go.Proofs.YtnhjaldifpiaiaaDoor
open Go.RowKit

theorem n_num (w : World) (t : TypeId) : NumIs (w.alloc (.cells (us [3435473267, 3974895978, 1219536762, 1478102450, 4097256927, 3345173889, 4294967295, 4294967295, 4294967295, 4294967295, 4294967295, 4294967295]).toArray t)) (.slice (some ⟨w.heap.size, 0, none⟩) 12 12) QQ := by
  have B := Blk.new w (us [3435473267, 3974895978, 1219536762, 1478102450, 4097256927, 3345173889, 4294967295, 4294967295, 4294967295, 4294967295, 4294967295, 4294967295]) t w.heap.size rfl
  refine ⟨[3435473267, 3974895978, 1219536762, 1478102450, 4097256927, 3345173889, 4294967295, 4294967295, 4294967295, 4294967295, 4294967295, 4294967295], .inr ⟨w.heap.size, 12, rfl, Nat.le_refl _, by unfold maxLen; omega, B.lt, fun j hj => B.cell j _ (us_get _ j hj)⟩, ?_, ?_, ?_⟩
  · intro j
    match j with
    | 0 => decide
    | 1 => decide
    | 2 => decide
    | 3 => decide
    | 4 => decide
    | 5 => decide
    | 6 => decide
    | 7 => decide
    | 8 => decide
    | 9 => decide
    | 10 => decide
    | 11 => decide
    | _ + 12 => exact ⟨by simp, by simp⟩
  · intro _; simp
  · simp only [v32, pv]; decide

set_option maxRecDepth 100000 in
theorem n_any {w : World} :
    Calls Tryd.prog 19 #[] w fun e w' => ∃ v', e = .returned v' ∧ NumIs w' v' QQ ∧ Below w.heap.size w w' := by
  have h := n_num w 22
  go_enter Tryd.func19, Tryd.ntmps19
  go_wp2
  go_ret
  exact ⟨_, rfl, h, (Below.refl _ _).alloc (Nat.le_refl _) _⟩

set_option maxRecDepth 100000 in
theorem nrest {u : Value} {X : Int} {w : World} (hu : NumIs w u X) (hX : X < 4294967296 ^ 30) :
    Calls Tryd.prog 21 #[u] w fun e w' => ∃ v', e = .returned v' ∧ NumIs w' v' (X % QQ) ∧ Below w.heap.size w w' := by
  go_enter Tryd.func21, Tryd.ntmps21
  go_wp2_with fail
  refine n_any.mono ?_
  rintro e w1 ⟨v1, rfl, h1, hb1⟩
  go_wp2_with fail
  refine (rrest_any u v1 X QQ w1 (hu.later hb1) h1 hX QQ_pos QQ_lt).mono ?_
  rintro e w2 ⟨v2, rfl, h2, hb2⟩
  go_wp2_with fail
  go_ret
  exact ⟨_, rfl, h2, below_step hb1 hb2⟩

theorem nm_30 (X : Int) : X % QQ < 4294967296 ^ 30 := by
  have h := Int.emod_lt_of_pos X QQ_pos
  have : QQ < 4294967296 ^ 30 := by decide
  omega

theorem nm_nn (X : Int) : 0 ≤ X % QQ := Int.emod_nonneg _ (by decide)

theorem nn_30 : QQ < 4294967296 ^ 30 := by decide

set_option maxRecDepth 100000 in
theorem nmul {u v : Value} {X Y : Int} {w : World} (hu : NumIs w u X) (hv : NumIs w v Y) (hX : X < 4294967296 ^ 30) (hY : Y < 4294967296 ^ 30) (hXY : X * Y < 4294967296 ^ 30) :
    Calls Tryd.prog 27 #[u, v] w fun e w' => ∃ v', e = .returned v' ∧ NumIs w' v' ((X * Y) % QQ) ∧ Below w.heap.size w w' := by
  go_enter Tryd.func27, Tryd.ntmps27
  go_wp2_with fail
  refine (rmul_any u v X Y w hu hv hX hY).mono ?_
  rintro e w1 ⟨v1, rfl, h1, hb1⟩
  go_wp2_with fail
  refine (nrest h1 hXY).mono ?_
  rintro e w2 ⟨v2, rfl, h2, hb2⟩
  go_wp2_with fail
  go_ret
  exact ⟨_, rfl, h2, below_step hb1 hb2⟩

end Go.Proofs.YtnhjaldifpiaiaaDoor

namespace Go.Proofs.YtnhjaldifpiaiaaDoor
open Go.RowKit

set_option maxRecDepth 100000 in
set_option maxHeartbeats 1000000 in
theorem is6o {x0 x1 x2 x3 x4 x5 : Int} {v : Value} {N : Int} {w : World} (fX : fits [x0, x1, x2, x3, x4, x5]) (hv : NumIs w v N) (hN : v64 [x0, x1, x2, x3, x4, x5] = N) :
    Calls Tryd.prog 17 #[.agg #[.int .u64 x0, .int .u64 x1, .int .u64 x2, .int .u64 x3, .int .u64 x4, .int .u64 x5], v] w fun e w' => e = .returned (.bool true) ∧ Below w.heap.size w w' := by
  have HN : Hid _ := hN
  clear hN
  have B0 := Blk.new w (us [x0, x1, x2, x3, x4, x5]) 24 w.heap.size rfl
  have bel : Below w.heap.size w (w.alloc (.cells (us [x0, x1, x2, x3, x4, x5]).toArray 24)) := (Below.refl _ _).alloc (Nat.le_refl _) _
  have NV := hv.alloc (.cells (us [x0, x1, x2, x3, x4, x5]).toArray 24)
  clear hv
  have q1 := eql_same x0 x1 x2 x3 x4 x5
  go_enter Tryd.func17, Tryd.ntmps17
  go_wp2_with fail
  simp only [us, List.map_cons, List.map_nil] at B0 bel NV
  generalize w.alloc (Obj.cells #[.int .u64 x0, .int .u64 x1, .int .u64 x2, .int .u64 x3, .int .u64 x4, .int .u64 x5] 24) = W at *
  obtain ⟨c0, c1, c2, c3, c4, c5⟩ := B0.cells6
  clear B0
  go_region_held3 (fun wx => (wx.cell? ⟨w.heap.size, 0, none⟩ = some (.int .u64 x0) ∧ wx.cell? ⟨w.heap.size, 1, none⟩ = some (.int .u64 x1) ∧ wx.cell? ⟨w.heap.size, 2, none⟩ = some (.int .u64 x2) ∧ wx.cell? ⟨w.heap.size, 3, none⟩ = some (.int .u64 x3) ∧ wx.cell? ⟨w.heap.size, 4, none⟩ = some (.int .u64 x4) ∧ wx.cell? ⟨w.heap.size, 5, none⟩ = some (.int .u64 x5)) ∧ NumIs wx v N ∧ Below w.heap.size w wx)
    (first
      | (go_split_ands; with_reducible exact ⟨⟨cell_later (by assumption) hb, cell_later (by assumption) hb, cell_later (by assumption) hb, cell_later (by assumption) hb, cell_later (by assumption) hb, cell_later (by assumption) hb⟩, NumIs.later (by assumption) hb, below_step (by assumption) hb⟩)
      | (exact ⟨⟨c0, c1, c2, c3, c4, c5⟩, NV.drew, bel.drew⟩))
    (first
      | (go_at_call 47; refine (to6_is (by go_split_ands; assumption) fX HN.out).mono ?_; rintro e w' ⟨rfl, hb⟩))
  all_goals go_split_ands
  all_goals go_wp2
  all_goals (go_ret; exact ⟨rfl, by assumption⟩)

set_option maxRecDepth 100000 in
set_option maxHeartbeats 400000 in
theorem num6o {x0 x1 x2 x3 x4 x5 : Int} {w : World} (fX : fits [x0, x1, x2, x3, x4, x5]) :
    Calls Tryd.prog 22 #[.agg #[.int .u64 x0, .int .u64 x1, .int .u64 x2, .int .u64 x3, .int .u64 x4, .int .u64 x5]] w fun e w' => ∃ v', e = .returned v' ∧ NumIs w' v' (v64 [x0, x1, x2, x3, x4, x5]) ∧ Below w.heap.size w w' := by
  have bel : Below w.heap.size w (w.alloc (.cells (us [x0, x1, x2, x3, x4, x5]).toArray 24)) := (Below.refl _ _).alloc (Nat.le_refl _) _
  go_enter Tryd.func22, Tryd.ntmps22
  go_wp2_with fail
  simp only [us, List.map_cons, List.map_nil] at bel
  generalize w.alloc (Obj.cells #[.int .u64 x0, .int .u64 x1, .int .u64 x2, .int .u64 x3, .int .u64 x4, .int .u64 x5] 24) = W at *
  refine (of6_any [x0, x1, x2, x3, x4, x5] W rfl fX).mono ?_
  rintro e w' ⟨v', rfl, hN, hb⟩
  go_wp2_with fail
  go_ret
  exact ⟨v', rfl, hN, bel.trans (hb.mono bel.size)⟩
end Go.Proofs.YtnhjaldifpiaiaaDoor
