import Derived.Test.YtohcdbifhnfcbaaGreatDoorBase
import Derived.Test.YtohcdbifhnfcbaaGreatDoorCtSize
import Derived.Test.YtohcdbifhnfcbaaGreatDoorErG
import Derived.Test.YtohcdbifhnfcbaaGreatDoorRows
import Derived.LaidLaws
import Derived.LaidHandle
import Derived.Lib.LaidTab
import Derived.Stop.LaidErr
import Derived.LaidMore
import Derived.ProofKit
namespace Go.Proofs.YtohcdbifhnfcbaaGreatDoor
open Go.RowKit
theorem Zkl:Tryz.prog.cellsOf 29=6:=by kernel_rfl
theorem ZlJ:Tryz.prog.cellsOf 27=1:=by kernel_rfl
theorem ZaN : Tryz.prog.globalNamed "escutcheon/order.points" = some 1 := by kernel_rfl
theorem Zd7:(Tryz.prog.globals[1]?).map (·.type)=some 29:=by kernel_rfl
theorem ZfY {W : World} (h : laidMet Tryz.prog [("escutcheon/order.points", Rows.laid_escutcheon_order_points)] W) : Zex W := by
 have t0:=Lib.tabIs_of_head (k:=.u64) (zs:=[17072048233947408755,6348401684107011962,14367412456785391071,18446744073709551615,18446744073709551615,18446744073709551615]) ZaN Zd7 Tryz.underlying29 Tryz.underlying27 ZlJ Zkl h;exact ⟨⟨t0.cell ZaN 0 (by decide),t0.cell ZaN 1 (by decide),t0.cell ZaN 2 (by decide),t0.cell ZaN 3 (by decide),t0.cell ZaN 4 (by decide),t0.cell ZaN 5 (by decide)⟩,trivial⟩
theorem Ze7 {W : World} (h : laidMetH Tryz.prog [("errors.errorType", Rows.laid_errors_errorType), ("escutcheon/order.points", Rows.laid_escutcheon_order_points)] W) : laidMet Tryz.prog [("escutcheon/order.points", Rows.laid_escutcheon_order_points)] W := by
 have h' : laidMet Tryz.prog [("escutcheon/order.points", Rows.laid_escutcheon_order_points)] W ∧ handlesMet Tryz.prog [("errors.errorType", Rows.laid_errors_errorType)] W := h
 exact h'.1
theorem ZdQ : Tryz.prog.globalNamed "errors.errorType" = some 0 := by kernel_rfl
theorem Ze4 : (Tryz.prog.cutTypes.find? (·.1 == "internal/reflectlite.rtype")).map (·.2) = some 191 := by kernel_rfl
theorem ZeK:((List.range 275).filter fun t=>Tryz.prog.rowNamed t [101,114,114,111,114])=[35]:=by kernel_rfl
theorem Zeh:Tryz.prog.types.size=275:=by kernel_rfl
theorem ZfH {W : World} (h : laidMetH Tryz.prog [("errors.errorType", Rows.laid_errors_errorType), ("escutcheon/order.points", Rows.laid_escutcheon_order_points)] W) : ZjW W := by
 have h' : laidMet Tryz.prog [("escutcheon/order.points", Rows.laid_escutcheon_order_points)] W ∧ handlesMet Tryz.prog [("errors.errorType", Rows.laid_errors_errorType)] W := h
 obtain⟨name,u,ty,e1,e2,e3,e4,e5⟩:=h'.2 _ (List.mem_singleton.2 rfl);have en:name=[101,114,114,111,114]:=(Option.some.inj e1).symm;subst en;obtain rfl:=Option.some.inj (Ze4.symm.trans e2);have hm:ty∈(List.range 275).filter fun t=>Tryz.prog.rowNamed t [101,114,114,111,114]:=List.mem_filter.2 ⟨List.mem_range.2 (by rw[← Zeh];exact e3),e4⟩;rw[ZeK] at hm;obtain rfl:=List.mem_singleton.1 hm;have hh:typeHandle Tryz.prog 35=.pointer (some ⟨2,35,none⟩):=by kernel_rfl
 rw[hh] at e5;have hc:W.cell? ⟨0,0,none⟩=some (.iface 191 (.agg #[.pointer (some ⟨2,35,none⟩)])):=by simpa using World.var?_cell ZdQ e5 0
 refine⟨hc,?_⟩
 by_cases hlt:0<W.heap.size
 ·exact hlt
 ·have:W.heap[0]?=none:=Array.getElem?_eq_none (by omega)
  simp[World.cell?,this] at hc
end Go.Proofs.YtohcdbifhnfcbaaGreatDoor
