/- The program's points by value: opened as they are read, and shut again. -/
import Derived.Test.YtpgidlnpcjbfhabDoorRows
import Derived.Test.YtpgidlnpcjbfhabDoorBase
import Derived.Deep.FieldsWide
namespace Go.Proofs.YtpgidlnpcjbfhabDoor
open Go.ChangeShapes Go.WideShapes Go.ChangeAt Go.RowKit Go.Deep
variable {H : Type} {enc : TypeId × Value → H} {w : World} {base : Nat} {spare : Nat → Bool} {held : Bool}

theorem cells_u384 : Tryd.prog.cellsOf 24 = 6 := by kernel_rfl
theorem cells_u64 : Tryd.prog.cellsOf 22 = 1 := by kernel_rfl
theorem cells_pt : Tryd.prog.cellsOf 27 = 13 := by kernel_rfl
theorem cells_bool : Tryd.prog.cellsOf 4 = 1 := by kernel_rfl

theorem thirteenV {l : List Value} (h : l.length = 13) : ∃ v0 v1 v2 v3 v4 v5 v6 v7 v8 v9 v10 v11 v12, l = [v0, v1, v2, v3, v4, v5, v6, v7, v8, v9, v10, v11, v12] := by
  match l, h with
  | [v0, v1, v2, v3, v4, v5, v6, v7, v8, v9, v10, v11, v12], _ => exact ⟨v0, v1, v2, v3, v4, v5, v6, v7, v8, v9, v10, v11, v12, rfl⟩

theorem open_pt {cs : Array Value} {d : DataW H} {p : List MemPlace} (h : DataW.Trod enc Tryd.prog w base spare held 27 (.agg cs) d p) :
    ∃ (x0 x1 x2 x3 x4 x5 y0 y1 y2 y3 y4 y5 : Int) (n : Bool), cs = #[.int .u64 x0, .int .u64 x1, .int .u64 x2, .int .u64 x3, .int .u64 x4, .int .u64 x5, .int .u64 y0, .int .u64 y1, .int .u64 y2, .int .u64 y3, .int .u64 y4, .int .u64 y5, .bool n] ∧ d = .agg [.agg [.lit (.int .u64 x0), .lit (.int .u64 x1), .lit (.int .u64 x2), .lit (.int .u64 x3), .lit (.int .u64 x4), .lit (.int .u64 x5)], .agg [.lit (.int .u64 y0), .lit (.int .u64 y1), .lit (.int .u64 y2), .lit (.int .u64 y3), .lit (.int .u64 y4), .lit (.int .u64 y5)], .lit (.bool n)] ∧ p = [] ∧ fits [x0, x1, x2, x3, x4, x5] ∧ fits [y0, y1, y2, y3, y4, y5] := by
  obtain ⟨fuel, hf⟩ := h
  obtain ⟨y0, y1, y2, m, hx, hl, t0, t1, t2⟩ := trod_struct3 Tryd.underlying27 hf
  obtain ⟨l⟩ := cs
  simp only [Value.cells] at hl t0 t1 t2
  rw [cells_pt] at hl
  obtain ⟨v0, v1, v2, v3, v4, v5, v6, v7, v8, v9, v10, v11, v12, rfl⟩ := thirteenV hl
  simp only [cells_u384, cells_bool, List.drop_zero, List.drop_succ_cons, List.take_succ_cons, List.take_zero] at t0 t1 t2
  obtain ⟨A, lA, eA, dA, pA, fA⟩ := open_arr (n := 6) Tryd.underlying24 cells_u384 Tryd.underlying22 cells_u64 (cs := #[v0, v1, v2, v3, v4, v5]) (d := y0.1) (p := y0.2) ⟨m, t0⟩
  obtain ⟨B, lB, eB, dB, pB, fB⟩ := open_arr (n := 6) Tryd.underlying24 cells_u384 Tryd.underlying22 cells_u64 (cs := #[v6, v7, v8, v9, v10, v11]) (d := y1.1) (p := y1.2) ⟨m, t1⟩
  obtain ⟨n, h2, hb⟩ := DataW.trod_bool Tryd.underlying4 t2
  obtain ⟨x0, x1, x2, x3, x4, x5, rfl⟩ := six lA
  obtain ⟨z0, z1, z2, z3, z4, z5, rfl⟩ := six lB
  simp only [us, List.map_cons, List.map_nil, Array.mk.injEq, List.cons.injEq, and_true] at eA eB h2 dA dB
  obtain ⟨rfl, rfl, rfl, rfl, rfl, rfl⟩ := eA
  obtain ⟨rfl, rfl, rfl, rfl, rfl, rfl⟩ := eB
  subst h2
  obtain ⟨e1, e2⟩ := Prod.mk.inj hx
  refine ⟨x0, x1, x2, x3, x4, x5, z0, z1, z2, z3, z4, z5, n, rfl, ?_, ?_, fA, fB⟩
  · rw [e1, dA, dB, hb]
  · rw [e2, pA, pB, hb]; rfl

theorem shut_pt (x0 x1 x2 x3 x4 x5 y0 y1 y2 y3 y4 y5 : Int) (n : Bool) (fX : fits [x0, x1, x2, x3, x4, x5]) (fY : fits [y0, y1, y2, y3, y4, y5]) :
    DataW.Trod enc Tryd.prog w base spare held 27 (.agg #[.int .u64 x0, .int .u64 x1, .int .u64 x2, .int .u64 x3, .int .u64 x4, .int .u64 x5, .int .u64 y0, .int .u64 y1, .int .u64 y2, .int .u64 y3, .int .u64 y4, .int .u64 y5, .bool n]) (.agg [.agg [.lit (.int .u64 x0), .lit (.int .u64 x1), .lit (.int .u64 x2), .lit (.int .u64 x3), .lit (.int .u64 x4), .lit (.int .u64 x5)], .agg [.lit (.int .u64 y0), .lit (.int .u64 y1), .lit (.int .u64 y2), .lit (.int .u64 y3), .lit (.int .u64 y4), .lit (.int .u64 y5)], .lit (.bool n)]) [] := by
  obtain ⟨m0, h0⟩ := shut_six (enc := enc) (w := w) (base := base) (spare := spare) (held := held) Tryd.underlying24 cells_u384 Tryd.underlying22 cells_u64 x0 x1 x2 x3 x4 x5 fX
  obtain ⟨m1, h1⟩ := shut_six (enc := enc) (w := w) (base := base) (spare := spare) (held := held) Tryd.underlying24 cells_u384 Tryd.underlying22 cells_u64 y0 y1 y2 y3 y4 y5 fY
  obtain ⟨m2, h2⟩ := shut_bool (enc := enc) (w := w) (base := base) (spare := spare) (held := held) Tryd.underlying4 n
  refine ⟨_, trod_struct3_mk (n := max m0 (max m1 m2)) (cs := [.int .u64 x0, .int .u64 x1, .int .u64 x2, .int .u64 x3, .int .u64 x4, .int .u64 x5, .int .u64 y0, .int .u64 y1, .int .u64 y2, .int .u64 y3, .int .u64 y4, .int .u64 y5, .bool n]) Tryd.underlying27 (by rw [cells_pt]; rfl) (y0 := (.agg [.lit (.int .u64 x0), .lit (.int .u64 x1), .lit (.int .u64 x2), .lit (.int .u64 x3), .lit (.int .u64 x4), .lit (.int .u64 x5)], [])) (y1 := (.agg [.lit (.int .u64 y0), .lit (.int .u64 y1), .lit (.int .u64 y2), .lit (.int .u64 y3), .lit (.int .u64 y4), .lit (.int .u64 y5)], [])) (y2 := (.lit (.bool n), [])) ?_ ?_ ?_⟩
  · simp only [cells_u384, List.drop_zero, List.take_succ_cons, List.take_zero]
    exact DataW.trod_le (Nat.le_max_left _ _) h0
  · simp only [cells_u384, List.drop_succ_cons, List.drop_zero, List.take_succ_cons, List.take_zero]
    exact DataW.trod_le (Nat.le_trans (Nat.le_max_left _ _) (Nat.le_max_right _ _)) h1
  · simp only [cells_bool, List.drop_succ_cons, List.drop_zero, List.take_succ_cons, List.take_zero]
    exact DataW.trod_le (Nat.le_trans (Nat.le_max_right _ _) (Nat.le_max_right _ _)) h2
end Go.Proofs.YtpgidlnpcjbfhabDoor
