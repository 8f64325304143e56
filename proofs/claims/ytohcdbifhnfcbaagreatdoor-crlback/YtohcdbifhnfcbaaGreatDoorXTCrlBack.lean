/- How many cells a number has. The program's signatures by value: opened as they are read, and shut again. From the row's list of variables to the tables' cells: CrlBack. -/
import Derived.Test.YtohcdbifhnfcbaaGreatDoorLimb
import Derived.Test.YtohcdbifhnfcbaaGreatDoorClWr
import Derived.Test.YtohcdbifhnfcbaaGreatDoorRows
import Derived.Deep.FieldsWide
import Derived.ChangeSame
import Derived.LaidLaws
import Derived.LaidHandle
import Derived.Lib.LaidTab
import Derived.Stop.LaidErr
import Derived.LaidMore
import Derived.ProofKit
namespace Go.Proofs.YtohcdbifhnfcbaaGreatDoor
open Go.RowKit
open Go.ChangeShapes Go.WideShapes Go.ChangeAt Go.RowKit Go.Deep
theorem cells_u384:Tryz.prog.cellsOf 29=6:=by kernel_rfl
theorem cells_u64:Tryz.prog.cellsOf 27=1:=by kernel_rfl
variable {H:Type} {enc:TypeId × Value→H} {w:World} {base:Nat} {spare:Nat→Bool} {held:Bool}
theorem cells_sig:Tryz.prog.cellsOf 31=12:=by kernel_rfl
theorem twelveV {l:List Value} (h:l.length=12):∃ v0 v1 v2 v3 v4 v5 v6 v7 v8 v9 v10 v11,l=[v0,v1,v2,v3,v4,v5,v6,v7,v8,v9,v10,v11]:=by
 match l,h with
 | [v0,v1,v2,v3,v4,v5,v6,v7,v8,v9,v10,v11],_=>exact ⟨v0,v1,v2,v3,v4,v5,v6,v7,v8,v9,v10,v11,rfl⟩
theorem open_sig {cs:Array Value} {d:DataW H} {p:List MemPlace} (h:DataW.Trod enc Tryz.prog w base spare held 31 (.agg cs) d p) :
  ∃ (x0 x1 x2 x3 x4 x5 y0 y1 y2 y3 y4 y5:Int),cs=#[.int .u64 x0,.int .u64 x1,.int .u64 x2,.int .u64 x3,.int .u64 x4,.int .u64 x5,.int .u64 y0,.int .u64 y1,.int .u64 y2,.int .u64 y3,.int .u64 y4,.int .u64 y5]∧d=.agg [.agg [.lit (.int .u64 x0),.lit (.int .u64 x1),.lit (.int .u64 x2),.lit (.int .u64 x3),.lit (.int .u64 x4),.lit (.int .u64 x5)],.agg [.lit (.int .u64 y0),.lit (.int .u64 y1),.lit (.int .u64 y2),.lit (.int .u64 y3),.lit (.int .u64 y4),.lit (.int .u64 y5)]]∧p=[]∧fits [x0,x1,x2,x3,x4,x5]∧fits [y0,y1,y2,y3,y4,y5]:=by
 obtain ⟨fuel,hf⟩:=h
 obtain ⟨y0,y1,m,hx,hl,t0,t1⟩:=trod_struct2 Tryz.underlying31 hf
 obtain ⟨l⟩:=cs
 simp only [Value.cells] at hl t0 t1
 rw [cells_sig] at hl
 obtain ⟨v0,v1,v2,v3,v4,v5,v6,v7,v8,v9,v10,v11,rfl⟩:=twelveV hl
 simp only [cells_u384,List.drop_zero,List.drop_succ_cons,List.take_succ_cons,List.take_zero] at t0 t1
 obtain ⟨A,lA,eA,dA,pA,fA⟩:=open_arr (n:=6) Tryz.underlying29 cells_u384 Tryz.underlying27 cells_u64 (cs:=#[v0,v1,v2,v3,v4,v5]) (d:=y0.1) (p:=y0.2) ⟨m,t0⟩
 obtain ⟨B,lB,eB,dB,pB,fB⟩:=open_arr (n:=6) Tryz.underlying29 cells_u384 Tryz.underlying27 cells_u64 (cs:=#[v6,v7,v8,v9,v10,v11]) (d:=y1.1) (p:=y1.2) ⟨m,t1⟩
 obtain ⟨x0,x1,x2,x3,x4,x5,rfl⟩:=six lA
 obtain ⟨z0,z1,z2,z3,z4,z5,rfl⟩:=six lB
 simp only [us,List.map_cons,List.map_nil,Array.mk.injEq,List.cons.injEq,and_true] at eA eB dA dB
 obtain ⟨rfl,rfl,rfl,rfl,rfl,rfl⟩:=eA
 obtain ⟨rfl,rfl,rfl,rfl,rfl,rfl⟩:=eB
 obtain ⟨e1,e2⟩:=Prod.mk.inj hx
 refine ⟨x0,x1,x2,x3,x4,x5,z0,z1,z2,z3,z4,z5,rfl,?_,?_,fA,fB⟩
 ·rw [e1,dA,dB]
 ·rw [e2,pA,pB];rfl
theorem shut_sig (x0 x1 x2 x3 x4 x5 y0 y1 y2 y3 y4 y5:Int) (fX:fits [x0,x1,x2,x3,x4,x5]) (fY:fits [y0,y1,y2,y3,y4,y5]) :
  DataW.Trod enc Tryz.prog w base spare held 31 (.agg #[.int .u64 x0,.int .u64 x1,.int .u64 x2,.int .u64 x3,.int .u64 x4,.int .u64 x5,.int .u64 y0,.int .u64 y1,.int .u64 y2,.int .u64 y3,.int .u64 y4,.int .u64 y5]) (.agg [.agg [.lit (.int .u64 x0),.lit (.int .u64 x1),.lit (.int .u64 x2),.lit (.int .u64 x3),.lit (.int .u64 x4),.lit (.int .u64 x5)],.agg [.lit (.int .u64 y0),.lit (.int .u64 y1),.lit (.int .u64 y2),.lit (.int .u64 y3),.lit (.int .u64 y4),.lit (.int .u64 y5)]]) []:=by
 obtain ⟨m0,h0⟩:=shut_six (enc:=enc) (w:=w) (base:=base) (spare:=spare) (held:=held) Tryz.underlying29 cells_u384 Tryz.underlying27 cells_u64 x0 x1 x2 x3 x4 x5 fX
 obtain ⟨m1,h1⟩:=shut_six (enc:=enc) (w:=w) (base:=base) (spare:=spare) (held:=held) Tryz.underlying29 cells_u384 Tryz.underlying27 cells_u64 y0 y1 y2 y3 y4 y5 fY
 refine ⟨_,trod_struct2_mk (n:=max m0 m1) (cs:=[.int .u64 x0,.int .u64 x1,.int .u64 x2,.int .u64 x3,.int .u64 x4,.int .u64 x5,.int .u64 y0,.int .u64 y1,.int .u64 y2,.int .u64 y3,.int .u64 y4,.int .u64 y5]) Tryz.underlying31 (by rw [cells_sig];rfl) (y0:=(.agg [.lit (.int .u64 x0),.lit (.int .u64 x1),.lit (.int .u64 x2),.lit (.int .u64 x3),.lit (.int .u64 x4),.lit (.int .u64 x5)],[])) (y1:=(.agg [.lit (.int .u64 y0),.lit (.int .u64 y1),.lit (.int .u64 y2),.lit (.int .u64 y3),.lit (.int .u64 y4),.lit (.int .u64 y5)],[])) ?_ ?_⟩
 ·simp only [cells_u384,List.drop_zero,List.take_succ_cons,List.take_zero]
  exact DataW.trod_le (Nat.le_max_left _ _) h0
 ·simp only [cells_u384,List.drop_succ_cons,List.drop_zero,List.take_succ_cons,List.take_zero]
  exact DataW.trod_le (Nat.le_max_right _ _) h1
theorem g_points_crlBack : Tryz.prog.globalNamed "escutcheon/order.points" = some 1 := by kernel_rfl
theorem t_points_crlBack:(Tryz.prog.globals[1]?).map (·.type)=some 29:=by kernel_rfl
theorem tabs_crlBack {W : World} (h : laidMet Tryz.prog [("escutcheon/order.points", Rows.laid_escutcheon_order_points)] W) : GlsO W := by
 have t0:=Lib.tabIs_of_head (k:=.u64) (zs:=[17072048233947408755,6348401684107011962,14367412456785391071,18446744073709551615,18446744073709551615,18446744073709551615]) g_points_crlBack t_points_crlBack Tryz.underlying29 Tryz.underlying27 cells_u64 cells_u384 h
 exact ⟨⟨t0.cell g_points_crlBack 0 (by decide),t0.cell g_points_crlBack 1 (by decide),t0.cell g_points_crlBack 2 (by decide),t0.cell g_points_crlBack 3 (by decide),t0.cell g_points_crlBack 4 (by decide),t0.cell g_points_crlBack 5 (by decide)⟩,trivial⟩
theorem laidX_crlBack {W : World} (h : laidMetH Tryz.prog [("escutcheon/order.points", Rows.laid_escutcheon_order_points)] W) : laidMet Tryz.prog [("escutcheon/order.points", Rows.laid_escutcheon_order_points)] W := by
 rw [MakeChecks.laidMetH_plain _ _ _ (by kernel_rfl)] at h
 exact h
end Go.Proofs.YtohcdbifhnfcbaaGreatDoor
