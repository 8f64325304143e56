/- The tables of field, curve and order. From the row's list to the tables' cells. From the row's list of variables to the tables' cells: CertEncodes. -/
import Derived.Test.YtcogndaiamgnbaaGreatDoorCCode
import Derived.Test.YtcogndaiamgnbaaGreatDoorEdG
import Derived.Test.YtcogndaiamgnbaaGreatDoorArrG
import Derived.Test.YtcogndaiamgnbaaGreatDoorErG
import Derived.Test.YtcogndaiamgnbaaGreatDoorRows
import Derived.Deep.WholeRow
import Derived.Deep.RegionHeld3
import Derived.Deep.DeepCutAuto
import Derived.Deep.DeepFit
import Derived.Lib.LaidTab
import Derived.Stop.LaidErr
import Derived.LaidMore
import Derived.ProofKit
import Derived.LaidLaws
import Derived.LaidHandle
namespace Go.Proofs.YtcogndaiamgnbaaGreatDoor
open Go.RowKit
/-- the tables of field, curve and order -/
def GlsL (w:World):Prop:=GlsC w∧GlsO w
theorem GlsL.below {w w':World} (G:GlsL w) (hb:Below w.heap.size w w'):GlsL w':=⟨G.1.below hb,G.2.below hb⟩
theorem g_primeC : Tryz.prog.globalNamed "escutcheon/field.prime" = some 4 := by kernel_rfl
theorem g_squareC : Tryz.prog.globalNamed "escutcheon/field.squareOfR" = some 5 := by kernel_rfl
theorem g_constant : Tryz.prog.globalNamed "escutcheon/curve.constant" = some 3 := by kernel_rfl
theorem t_primeC:(Tryz.prog.globals[4]?).map (·.type)=some 27:=by kernel_rfl
theorem t_squareC:(Tryz.prog.globals[5]?).map (·.type)=some 27:=by kernel_rfl
theorem t_constant:(Tryz.prog.globals[3]?).map (·.type)=some 27:=by kernel_rfl
theorem g_points_certEncodes : Tryz.prog.globalNamed "escutcheon/order.points" = some 2 := by kernel_rfl
theorem t_points_certEncodes:(Tryz.prog.globals[2]?).map (·.type)=some 27:=by kernel_rfl
theorem tabs_certEncodes {W : World} (h : laidMet Tryz.prog [("escutcheon/field.prime", Rows.laid_escutcheon_field_prime), ("escutcheon/field.squareOfR", Rows.laid_escutcheon_field_squareOfR), ("escutcheon/curve.constant", Rows.laid_escutcheon_curve_constant), ("escutcheon/order.points", Rows.laid_escutcheon_order_points)] W) : GlsO W := by
 have t0:=Lib.tabIs_of_head (k:=.u64) (zs:=[4294967295,18446744069414584320,18446744073709551614,18446744073709551615,18446744073709551615,18446744073709551615]) g_primeC t_primeC Tryz.underlying27 Tryz.underlying25 cells_u64 cells_u384 h
 have t1:=Lib.tabIs_of_head (k:=.u64) (zs:=[18446744065119617025,8589934592,18446744065119617024,8589934592,1,0]) g_squareC t_squareC Tryz.underlying27 Tryz.underlying25 cells_u64 cells_u384 h.tail
 have t2:=Lib.tabIs_of_head (k:=.u64) (zs:=[3064076045283764975,14291673747578343837,221811693264799578,1737717031765098770,10992729701402291481,12912154004749740004]) g_constant t_constant Tryz.underlying27 Tryz.underlying25 cells_u64 cells_u384 h.tail.tail
 have t3:=Lib.tabIs_of_head (k:=.u64) (zs:=[17072048233947408755,6348401684107011962,14367412456785391071,18446744073709551615,18446744073709551615,18446744073709551615]) g_points_certEncodes t_points_certEncodes Tryz.underlying27 Tryz.underlying25 cells_u64 cells_u384 h.tail.tail.tail
 exact ⟨⟨t3.cell g_points_certEncodes 0 (by decide),t3.cell g_points_certEncodes 1 (by decide),t3.cell g_points_certEncodes 2 (by decide),t3.cell g_points_certEncodes 3 (by decide),t3.cell g_points_certEncodes 4 (by decide),t3.cell g_points_certEncodes 5 (by decide)⟩,trivial⟩
theorem laidX_certEncodes {W : World} (h : laidMetH Tryz.prog [("errors.errorType", Rows.laid_errors_errorType), ("escutcheon/field.prime", Rows.laid_escutcheon_field_prime), ("escutcheon/field.squareOfR", Rows.laid_escutcheon_field_squareOfR), ("escutcheon/curve.constant", Rows.laid_escutcheon_curve_constant), ("escutcheon/order.points", Rows.laid_escutcheon_order_points)] W) : laidMet Tryz.prog [("escutcheon/field.prime", Rows.laid_escutcheon_field_prime), ("escutcheon/field.squareOfR", Rows.laid_escutcheon_field_squareOfR), ("escutcheon/curve.constant", Rows.laid_escutcheon_curve_constant), ("escutcheon/order.points", Rows.laid_escutcheon_order_points)] W := by
 have h' : laidMet Tryz.prog [("escutcheon/field.prime", Rows.laid_escutcheon_field_prime), ("escutcheon/field.squareOfR", Rows.laid_escutcheon_field_squareOfR), ("escutcheon/curve.constant", Rows.laid_escutcheon_curve_constant), ("escutcheon/order.points", Rows.laid_escutcheon_order_points)] W ∧ handlesMet Tryz.prog [("errors.errorType", Rows.laid_errors_errorType)] W := h
 exact h'.1
theorem et_certEncodes_global : Tryz.prog.globalNamed "errors.errorType" = some 1 := by kernel_rfl
theorem et_certEncodes_rt : (Tryz.prog.cutTypes.find? (·.1 == "internal/reflectlite.rtype")).map (·.2) = some 229 := by kernel_rfl
theorem et_certEncodes_one:((List.range 367).filter fun t=>Tryz.prog.rowNamed t [101,114,114,111,114])=[39]:=by kernel_rfl
theorem et_certEncodes_size:Tryz.prog.types.size=367:=by kernel_rfl
theorem errs_certEncodes {W : World} (h : laidMetH Tryz.prog [("errors.errorType", Rows.laid_errors_errorType), ("escutcheon/field.prime", Rows.laid_escutcheon_field_prime), ("escutcheon/field.squareOfR", Rows.laid_escutcheon_field_squareOfR), ("escutcheon/curve.constant", Rows.laid_escutcheon_curve_constant), ("escutcheon/order.points", Rows.laid_escutcheon_order_points)] W) : GlsE W := by
 have h' : laidMet Tryz.prog [("escutcheon/field.prime", Rows.laid_escutcheon_field_prime), ("escutcheon/field.squareOfR", Rows.laid_escutcheon_field_squareOfR), ("escutcheon/curve.constant", Rows.laid_escutcheon_curve_constant), ("escutcheon/order.points", Rows.laid_escutcheon_order_points)] W ∧ handlesMet Tryz.prog [("errors.errorType", Rows.laid_errors_errorType)] W := h
 obtain ⟨name,u,ty,e1,e2,e3,e4,e5⟩:=h'.2 _ (List.mem_singleton.2 rfl)
 have en:name=[101,114,114,111,114]:=(Option.some.inj e1).symm
 subst en
 obtain rfl:=Option.some.inj (et_certEncodes_rt.symm.trans e2)
 have hm:ty∈(List.range 367).filter fun t=>Tryz.prog.rowNamed t [101,114,114,111,114]:=List.mem_filter.2 ⟨List.mem_range.2 (by rw [← et_certEncodes_size];exact e3),e4⟩
 rw [et_certEncodes_one] at hm
 obtain rfl:=List.mem_singleton.1 hm
 have hh:typeHandle Tryz.prog 39=.pointer (some ⟨6,39,none⟩):=by kernel_rfl
 rw [hh] at e5
 have hc:W.cell? ⟨1,0,none⟩=some (.iface 229 (.agg #[.pointer (some ⟨6,39,none⟩)])):=by simpa using World.var?_cell et_certEncodes_global e5 0
 refine ⟨hc,?_⟩
 by_cases hlt:1 < W.heap.size
 ·exact hlt
 ·have:W.heap[1]?=none:=Array.getElem?_eq_none (by omega)
  simp [World.cell?,this] at hc
end Go.Proofs.YtcogndaiamgnbaaGreatDoor
