/- From the row's list to the cell of errors' variable. -/
import Derived.Test.YtnkipgbnnhahbaaDoorErAs
import Derived.Test.YtnkipgbnnhahbaaDoorRows
import Derived.LaidLaws
import Derived.LaidHandle
import Derived.Stop.LaidErr
import Derived.LaidMore
import Derived.ProofKit
namespace Go.Proofs.YtnkipgbnnhahbaaDoor
open Go.RowKit
theorem et_global : Tryd.prog.globalNamed "errors.errorType" = some 0 := by kernel_rfl
theorem et_rt : (Tryd.prog.cutTypes.find? (·.1 == "internal/reflectlite.rtype")).map (·.2) = some 100 := by kernel_rfl
theorem et_one:((List.range 145).filter fun t=>Tryd.prog.rowNamed t [101,114,114,111,114])=[27]:=by kernel_rfl
theorem et_size:Tryd.prog.types.size=145:=by kernel_rfl
theorem glsE_of_laid {W : World} (h : laidMetH Tryd.prog [("errors.errorType", Rows.laid_errors_errorType)] W) : GlsE W := by
 have h' : laidMet Tryd.prog [] W ∧ handlesMet Tryd.prog [("errors.errorType", Rows.laid_errors_errorType)] W := h
 obtain ⟨name,u,ty,e1,e2,e3,e4,e5⟩:=h'.2 _ (List.mem_singleton.2 rfl)
 have en:name=[101,114,114,111,114]:=(Option.some.inj e1).symm
 subst en
 obtain rfl:=Option.some.inj (et_rt.symm.trans e2)
 have hm:ty∈(List.range 145).filter fun t=>Tryd.prog.rowNamed t [101,114,114,111,114]:=List.mem_filter.2 ⟨List.mem_range.2 (by rw [← et_size];exact e3),e4⟩
 rw [et_one] at hm
 obtain rfl:=List.mem_singleton.1 hm
 have hh:typeHandle Tryd.prog 27=.pointer (some ⟨1,27,none⟩):=by kernel_rfl
 rw [hh] at e5
 have hc:W.cell? ⟨0,0,none⟩=some (.iface 100 (.agg #[.pointer (some ⟨1,27,none⟩)])):=by simpa using World.var?_cell et_global e5 0
 refine ⟨hc,?_⟩
 by_cases hlt:0 < W.heap.size
 ·exact hlt
 ·have:W.heap[0]?=none:=Array.getElem?_eq_none (by omega)
  simp [World.cell?,this] at hc
end Go.Proofs.YtnkipgbnnhahbaaDoor
