/- From the row's list of variables to the tables' cells: ManifestSigns. -/
import Derived.Test.YtnkipgbnnhahbaaGreatDoorODecode
import Derived.Test.YtnkipgbnnhahbaaGreatDoorXTManifestSigned
import Derived.Test.YtnkipgbnnhahbaaGreatDoorErLaw
import Derived.Test.YtnkipgbnnhahbaaGreatDoorRows
import Derived.LaidLaws
import Derived.LaidHandle
import Derived.Lib.LaidTab
import Derived.Stop.LaidErr
import Derived.LaidMore
import Derived.ProofKit
namespace Go.Proofs.YtnkipgbnnhahbaaGreatDoor
open Go.RowKit
theorem g_points_manifestSigns : Tryz.prog.globalNamed "escutcheon/order.points" = some 1 := by kernel_rfl
theorem t_points_manifestSigns:(Tryz.prog.globals[1]?).map (·.type)=some 25:=by kernel_rfl
theorem tabs_manifestSigns {W : World} (h : laidMet Tryz.prog [("escutcheon/order.points", Rows.laid_escutcheon_order_points)] W) : GlsO W := by
 have t0:=Lib.tabIs_of_head (k:=.u64) (zs:=[17072048233947408755,6348401684107011962,14367412456785391071,18446744073709551615,18446744073709551615,18446744073709551615]) g_points_manifestSigns t_points_manifestSigns Tryz.underlying25 Tryz.underlying23 cells_u64 cells_u384 h
 exact ⟨⟨t0.cell g_points_manifestSigns 0 (by decide),t0.cell g_points_manifestSigns 1 (by decide),t0.cell g_points_manifestSigns 2 (by decide),t0.cell g_points_manifestSigns 3 (by decide),t0.cell g_points_manifestSigns 4 (by decide),t0.cell g_points_manifestSigns 5 (by decide)⟩,trivial⟩
theorem laidX_manifestSigns {W : World} (h : laidMetH Tryz.prog [("errors.errorType", Rows.laid_errors_errorType), ("escutcheon/order.points", Rows.laid_escutcheon_order_points)] W) : laidMet Tryz.prog [("escutcheon/order.points", Rows.laid_escutcheon_order_points)] W := by
 have h' : laidMet Tryz.prog [("escutcheon/order.points", Rows.laid_escutcheon_order_points)] W ∧ handlesMet Tryz.prog [("errors.errorType", Rows.laid_errors_errorType)] W := h
 exact h'.1
theorem et_manifestSigns_global : Tryz.prog.globalNamed "errors.errorType" = some 0 := by kernel_rfl
theorem et_manifestSigns_rt : (Tryz.prog.cutTypes.find? (·.1 == "internal/reflectlite.rtype")).map (·.2) = some 153 := by kernel_rfl
theorem et_manifestSigns_one:((List.range 209).filter fun t=>Tryz.prog.rowNamed t [101,114,114,111,114])=[30]:=by kernel_rfl
theorem et_manifestSigns_size:Tryz.prog.types.size=209:=by kernel_rfl
theorem errs_manifestSigns {W : World} (h : laidMetH Tryz.prog [("errors.errorType", Rows.laid_errors_errorType), ("escutcheon/order.points", Rows.laid_escutcheon_order_points)] W) : GlsE W := by
 have h' : laidMet Tryz.prog [("escutcheon/order.points", Rows.laid_escutcheon_order_points)] W ∧ handlesMet Tryz.prog [("errors.errorType", Rows.laid_errors_errorType)] W := h
 obtain ⟨name,u,ty,e1,e2,e3,e4,e5⟩:=h'.2 _ (List.mem_singleton.2 rfl)
 have en:name=[101,114,114,111,114]:=(Option.some.inj e1).symm
 subst en
 obtain rfl:=Option.some.inj (et_manifestSigns_rt.symm.trans e2)
 have hm:ty∈(List.range 209).filter fun t=>Tryz.prog.rowNamed t [101,114,114,111,114]:=List.mem_filter.2 ⟨List.mem_range.2 (by rw [← et_manifestSigns_size];exact e3),e4⟩
 rw [et_manifestSigns_one] at hm
 obtain rfl:=List.mem_singleton.1 hm
 have hh:typeHandle Tryz.prog 30=.pointer (some ⟨2,30,none⟩):=by kernel_rfl
 rw [hh] at e5
 have hc:W.cell? ⟨0,0,none⟩=some (.iface 153 (.agg #[.pointer (some ⟨2,30,none⟩)])):=by simpa using World.var?_cell et_manifestSigns_global e5 0
 refine ⟨hc,?_⟩
 by_cases hlt:0 < W.heap.size
 ·exact hlt
 ·have:W.heap[0]?=none:=Array.getElem?_eq_none (by omega)
  simp [World.cell?,this] at hc
end Go.Proofs.YtnkipgbnnhahbaaGreatDoor
