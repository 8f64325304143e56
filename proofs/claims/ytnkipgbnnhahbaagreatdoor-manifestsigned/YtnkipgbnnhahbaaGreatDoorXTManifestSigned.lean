/- An array of numbers of 64 bits by value: opened as it is read, and shut again. How many cells a number has. The program's signatures by value: opened as they are read, and shut again. From the row's list of variables to the tables' cells: ManifestSigned. -/
import Derived.Test.YtnkipgbnnhahbaaGreatDoorNum
import Derived.Test.YtnkipgbnnhahbaaGreatDoorODecode
import Derived.Test.YtnkipgbnnhahbaaGreatDoorErLaw
import Derived.ProofKit
import Derived.OpenShut
import Derived.Test.YtnkipgbnnhahbaaGreatDoorRows
import Derived.Deep.FieldsWide
import Derived.ChangeSame
import Derived.LaidLaws
import Derived.LaidHandle
import Derived.Lib.LaidTab
import Derived.Stop.LaidErr
import Derived.LaidMore
namespace Go.Proofs.YtnkipgbnnhahbaaGreatDoor
open Go.ChangeShapes Go.WideShapes Go.ChangeAt Go.RowKit
open Go.RowKit
open Go.ChangeShapes Go.WideShapes Go.ChangeAt Go.RowKit Go.Deep
variable {H:Type} {enc:TypeId × Value→H} {P:Program} {w:World} {base:Nat} {spare:Nat→Bool} {held:Bool}
theorem wf_u64 {n:Int}:(Lit.int .u64 n).wf=true↔0≤n∧n < 18446744073709551616:=by
 have h1:IntKind.u64.min=0:=rfl
 have h2:IntKind.u64.max=18446744073709551615:=rfl
 simp [Lit.wf,h1,h2]
 omega
theorem fits_of (A:List Int) (h:∀ j,j < A.length→0≤A.getD j 0∧A.getD j 0 < 18446744073709551616):fits A:=by
 intro j
 by_cases hj:j < A.length
 ·exact h j hj
 ·have:A.getD j 0=0:=by simp [List.getD_eq_getElem?_getD,List.getElem?_eq_none (Nat.le_of_not_lt hj)]
  rw [this];decide
theorem open_arr {n:Nat} {t e:TypeId} {cs:Array Value} {d:DataW H} {p:List MemPlace} (hu:P.underlying t=some (.array n e)) (hc:P.cellsOf t=n) (hue:P.underlying e=some (.int .u64)) (hce:P.cellsOf e=1)
  (h:DataW.Trod enc P w base spare held t (.agg cs) d p) :
  ∃ A:List Int,A.length=n∧cs=(us A).toArray∧d=.agg (A.map fun x=>.lit (.int .u64 x))∧p=[]∧fits A:=by
 obtain ⟨fuel,hf⟩:=h
 obtain ⟨xs,m,_,hx,hl,hn,hi⟩:=DataW.trod_array hu hf
 obtain ⟨l⟩:=cs
 simp only [Value.cells] at hl hi
 rw [hc] at hl
 have step:∀ i,i < n→∃ x:Int,l[i]?=some (.int .u64 x)∧xs[i]?=some (.lit (.int .u64 x),[])∧(Lit.int .u64 x).wf=true:=by
  intro i hin
  have h1:=hi i hin
  rw [hce,Nat.mul_one] at h1
  have h2:(l.drop i).take 1=[l[i]'(by omega)]:=by
   rw [List.drop_eq_getElem_cons (by omega)];rfl
  rw [h2] at h1
  rw [List.getElem?_eq_getElem (show i < xs.length by omega)] at h1
  obtain ⟨x,e1,e2,e3⟩:=DataW.trod_int hue h1
  simp only [List.cons.injEq,and_true] at e1
  exact ⟨x,by rw [List.getElem?_eq_getElem (by omega),e1],by rw [List.getElem?_eq_getElem (by omega),e2],e3⟩
 have hlen:l.length=n:=hl
 refine ⟨l.map intOf,by simpa using hlen,?_,?_,?_,?_⟩
 ·congr 1
  apply List.ext_getElem?
  intro i
  by_cases hin:i < n
  ·obtain ⟨x,e1,_,_⟩:=step i hin
   simp [us,e1,intOf]
  ·rw [List.getElem?_eq_none (by omega),List.getElem?_eq_none (by simp;omega)]
 ·simp only [Prod.mk.injEq] at hx
  rw [hx.1]
  congr 1
  apply List.ext_getElem?
  intro i
  by_cases hin:i < n
  ·obtain ⟨x,e1,e2,_⟩:=step i hin
   simp [e1,e2,intOf]
  ·rw [List.getElem?_eq_none (by simp;omega),List.getElem?_eq_none (by simp;omega)]
 ·simp only [Prod.mk.injEq] at hx
  rw [hx.2,List.flatMap_eq_nil_iff]
  intro y hy
  obtain ⟨i,hi1,hi2⟩:=List.getElem_of_mem hy
  obtain ⟨x,_,e2,_⟩:=step i (by omega)
  rw [List.getElem?_eq_getElem hi1,hi2] at e2
  injection e2 with e2
  rw [e2]
 ·apply fits_of
  intro j hj
  simp at hj
  obtain ⟨x,e1,_,e3⟩:=step j (by omega)
  have:(l.map intOf).getD j 0=x:=by simp [List.getD_eq_getElem?_getD,e1,intOf]
  rw [this]
  exact wf_u64.1 e3
theorem shut_six {t e:TypeId} (hu:P.underlying t=some (.array 6 e)) (hc:P.cellsOf t=6) (hue:P.underlying e=some (.int .u64)) (hce:P.cellsOf e=1) (x0 x1 x2 x3 x4 x5:Int) (h:fits [x0,x1,x2,x3,x4,x5]) :
  DataW.Trod enc P w base spare held t (.agg #[.int .u64 x0,.int .u64 x1,.int .u64 x2,.int .u64 x3,.int .u64 x4,.int .u64 x5]) (.agg [.lit (.int .u64 x0),.lit (.int .u64 x1),.lit (.int .u64 x2),.lit (.int .u64 x3),.lit (.int .u64 x4),.lit (.int .u64 x5)]) []:=by
 have w0:(Lit.int .u64 x0).wf=true:=wf_u64.2 (h 0)
 have w1:(Lit.int .u64 x1).wf=true:=wf_u64.2 (h 1)
 have w2:(Lit.int .u64 x2).wf=true:=wf_u64.2 (h 2)
 have w3:(Lit.int .u64 x3).wf=true:=wf_u64.2 (h 3)
 have w4:(Lit.int .u64 x4).wf=true:=wf_u64.2 (h 4)
 have w5:(Lit.int .u64 x5).wf=true:=wf_u64.2 (h 5)
 exact ⟨2,by simp [DataW.trod,Value.cells,hu,hue,hc,hce,w0,w1,w2,w3,w4,w5,show List.range 6=[0,1,2,3,4,5] from rfl]⟩
theorem cells_u384:Tryz.prog.cellsOf 25=6:=by kernel_rfl
theorem cells_u64:Tryz.prog.cellsOf 23=1:=by kernel_rfl
variable {H:Type} {enc:TypeId × Value→H} {w:World} {base:Nat} {spare:Nat→Bool} {held:Bool}
theorem cells_sig:Tryz.prog.cellsOf 27=12:=by kernel_rfl
theorem twelveV {l:List Value} (h:l.length=12):∃ v0 v1 v2 v3 v4 v5 v6 v7 v8 v9 v10 v11,l=[v0,v1,v2,v3,v4,v5,v6,v7,v8,v9,v10,v11]:=by
 match l,h with
 | [v0,v1,v2,v3,v4,v5,v6,v7,v8,v9,v10,v11],_=>exact ⟨v0,v1,v2,v3,v4,v5,v6,v7,v8,v9,v10,v11,rfl⟩
theorem open_sig {cs:Array Value} {d:DataW H} {p:List MemPlace} (h:DataW.Trod enc Tryz.prog w base spare held 27 (.agg cs) d p) :
  ∃ (x0 x1 x2 x3 x4 x5 y0 y1 y2 y3 y4 y5:Int),cs=#[.int .u64 x0,.int .u64 x1,.int .u64 x2,.int .u64 x3,.int .u64 x4,.int .u64 x5,.int .u64 y0,.int .u64 y1,.int .u64 y2,.int .u64 y3,.int .u64 y4,.int .u64 y5]∧d=.agg [.agg [.lit (.int .u64 x0),.lit (.int .u64 x1),.lit (.int .u64 x2),.lit (.int .u64 x3),.lit (.int .u64 x4),.lit (.int .u64 x5)],.agg [.lit (.int .u64 y0),.lit (.int .u64 y1),.lit (.int .u64 y2),.lit (.int .u64 y3),.lit (.int .u64 y4),.lit (.int .u64 y5)]]∧p=[]∧fits [x0,x1,x2,x3,x4,x5]∧fits [y0,y1,y2,y3,y4,y5]:=by
 obtain ⟨fuel,hf⟩:=h
 obtain ⟨y0,y1,m,hx,hl,t0,t1⟩:=trod_struct2 Tryz.underlying27 hf
 obtain ⟨l⟩:=cs
 simp only [Value.cells] at hl t0 t1
 rw [cells_sig] at hl
 obtain ⟨v0,v1,v2,v3,v4,v5,v6,v7,v8,v9,v10,v11,rfl⟩:=twelveV hl
 simp only [cells_u384,List.drop_zero,List.drop_succ_cons,List.take_succ_cons,List.take_zero] at t0 t1
 obtain ⟨A,lA,eA,dA,pA,fA⟩:=open_arr (n:=6) Tryz.underlying25 cells_u384 Tryz.underlying23 cells_u64 (cs:=#[v0,v1,v2,v3,v4,v5]) (d:=y0.1) (p:=y0.2) ⟨m,t0⟩
 obtain ⟨B,lB,eB,dB,pB,fB⟩:=open_arr (n:=6) Tryz.underlying25 cells_u384 Tryz.underlying23 cells_u64 (cs:=#[v6,v7,v8,v9,v10,v11]) (d:=y1.1) (p:=y1.2) ⟨m,t1⟩
 obtain ⟨x0,x1,x2,x3,x4,x5,rfl⟩:=six lA
 obtain ⟨z0,z1,z2,z3,z4,z5,rfl⟩:=six lB
 simp only [us,List.map_cons,List.map_nil,Array.mk.injEq,List.cons.injEq,and_true] at eA eB dA dB
 obtain ⟨rfl,rfl,rfl,rfl,rfl,rfl⟩:=eA
 obtain ⟨rfl,rfl,rfl,rfl,rfl,rfl⟩:=eB
 obtain ⟨e1,e2⟩:=Prod.mk.inj hx
 refine ⟨x0,x1,x2,x3,x4,x5,z0,z1,z2,z3,z4,z5,rfl,?_,?_,fA,fB⟩
 ·rw [e1,dA,dB]
 ·rw [e2,pA,pB];rfl
theorem shut_sig (x0 x1 x2 x3 x4 x5 y0 y1 y2 y3 y4 y5:Int) (fX:fits [x0,x1,x2,x3,x4,x5]) (fY:fits [y0,y1,y2,y3,y4,y5]) :
  DataW.Trod enc Tryz.prog w base spare held 27 (.agg #[.int .u64 x0,.int .u64 x1,.int .u64 x2,.int .u64 x3,.int .u64 x4,.int .u64 x5,.int .u64 y0,.int .u64 y1,.int .u64 y2,.int .u64 y3,.int .u64 y4,.int .u64 y5]) (.agg [.agg [.lit (.int .u64 x0),.lit (.int .u64 x1),.lit (.int .u64 x2),.lit (.int .u64 x3),.lit (.int .u64 x4),.lit (.int .u64 x5)],.agg [.lit (.int .u64 y0),.lit (.int .u64 y1),.lit (.int .u64 y2),.lit (.int .u64 y3),.lit (.int .u64 y4),.lit (.int .u64 y5)]]) []:=by
 obtain ⟨m0,h0⟩:=shut_six (enc:=enc) (w:=w) (base:=base) (spare:=spare) (held:=held) Tryz.underlying25 cells_u384 Tryz.underlying23 cells_u64 x0 x1 x2 x3 x4 x5 fX
 obtain ⟨m1,h1⟩:=shut_six (enc:=enc) (w:=w) (base:=base) (spare:=spare) (held:=held) Tryz.underlying25 cells_u384 Tryz.underlying23 cells_u64 y0 y1 y2 y3 y4 y5 fY
 refine ⟨_,trod_struct2_mk (n:=max m0 m1) (cs:=[.int .u64 x0,.int .u64 x1,.int .u64 x2,.int .u64 x3,.int .u64 x4,.int .u64 x5,.int .u64 y0,.int .u64 y1,.int .u64 y2,.int .u64 y3,.int .u64 y4,.int .u64 y5]) Tryz.underlying27 (by rw [cells_sig];rfl) (y0:=(.agg [.lit (.int .u64 x0),.lit (.int .u64 x1),.lit (.int .u64 x2),.lit (.int .u64 x3),.lit (.int .u64 x4),.lit (.int .u64 x5)],[])) (y1:=(.agg [.lit (.int .u64 y0),.lit (.int .u64 y1),.lit (.int .u64 y2),.lit (.int .u64 y3),.lit (.int .u64 y4),.lit (.int .u64 y5)],[])) ?_ ?_⟩
 ·simp only [cells_u384,List.drop_zero,List.take_succ_cons,List.take_zero]
  exact DataW.trod_le (Nat.le_max_left _ _) h0
 ·simp only [cells_u384,List.drop_succ_cons,List.drop_zero,List.take_succ_cons,List.take_zero]
  exact DataW.trod_le (Nat.le_max_right _ _) h1
theorem g_points_manifestSigned : Tryz.prog.globalNamed "escutcheon/order.points" = some 1 := by kernel_rfl
theorem t_points_manifestSigned:(Tryz.prog.globals[1]?).map (·.type)=some 25:=by kernel_rfl
theorem tabs_manifestSigned {W : World} (h : laidMet Tryz.prog [("escutcheon/order.points", Rows.laid_escutcheon_order_points)] W) : GlsO W := by
 have t0:=Lib.tabIs_of_head (k:=.u64) (zs:=[17072048233947408755,6348401684107011962,14367412456785391071,18446744073709551615,18446744073709551615,18446744073709551615]) g_points_manifestSigned t_points_manifestSigned Tryz.underlying25 Tryz.underlying23 cells_u64 cells_u384 h
 exact ⟨⟨t0.cell g_points_manifestSigned 0 (by decide),t0.cell g_points_manifestSigned 1 (by decide),t0.cell g_points_manifestSigned 2 (by decide),t0.cell g_points_manifestSigned 3 (by decide),t0.cell g_points_manifestSigned 4 (by decide),t0.cell g_points_manifestSigned 5 (by decide)⟩,trivial⟩
theorem laidX_manifestSigned {W : World} (h : laidMetH Tryz.prog [("errors.errorType", Rows.laid_errors_errorType), ("escutcheon/order.points", Rows.laid_escutcheon_order_points)] W) : laidMet Tryz.prog [("escutcheon/order.points", Rows.laid_escutcheon_order_points)] W := by
 have h' : laidMet Tryz.prog [("escutcheon/order.points", Rows.laid_escutcheon_order_points)] W ∧ handlesMet Tryz.prog [("errors.errorType", Rows.laid_errors_errorType)] W := h
 exact h'.1
theorem et_manifestSigned_global : Tryz.prog.globalNamed "errors.errorType" = some 0 := by kernel_rfl
theorem et_manifestSigned_rt : (Tryz.prog.cutTypes.find? (·.1 == "internal/reflectlite.rtype")).map (·.2) = some 153 := by kernel_rfl
theorem et_manifestSigned_one:((List.range 209).filter fun t=>Tryz.prog.rowNamed t [101,114,114,111,114])=[30]:=by kernel_rfl
theorem et_manifestSigned_size:Tryz.prog.types.size=209:=by kernel_rfl
theorem errs_manifestSigned {W : World} (h : laidMetH Tryz.prog [("errors.errorType", Rows.laid_errors_errorType), ("escutcheon/order.points", Rows.laid_escutcheon_order_points)] W) : GlsE W := by
 have h' : laidMet Tryz.prog [("escutcheon/order.points", Rows.laid_escutcheon_order_points)] W ∧ handlesMet Tryz.prog [("errors.errorType", Rows.laid_errors_errorType)] W := h
 obtain ⟨name,u,ty,e1,e2,e3,e4,e5⟩:=h'.2 _ (List.mem_singleton.2 rfl)
 have en:name=[101,114,114,111,114]:=(Option.some.inj e1).symm
 subst en
 obtain rfl:=Option.some.inj (et_manifestSigned_rt.symm.trans e2)
 have hm:ty∈(List.range 209).filter fun t=>Tryz.prog.rowNamed t [101,114,114,111,114]:=List.mem_filter.2 ⟨List.mem_range.2 (by rw [← et_manifestSigned_size];exact e3),e4⟩
 rw [et_manifestSigned_one] at hm
 obtain rfl:=List.mem_singleton.1 hm
 have hh:typeHandle Tryz.prog 30=.pointer (some ⟨2,30,none⟩):=by kernel_rfl
 rw [hh] at e5
 have hc:W.cell? ⟨0,0,none⟩=some (.iface 153 (.agg #[.pointer (some ⟨2,30,none⟩)])):=by simpa using World.var?_cell et_manifestSigned_global e5 0
 refine ⟨hc,?_⟩
 by_cases hlt:0 < W.heap.size
 ·exact hlt
 ·have:W.heap[0]?=none:=Array.getElem?_eq_none (by omega)
  simp [World.cell?,this] at hc
end Go.Proofs.YtnkipgbnnhahbaaGreatDoor
