/- '==' on six limbs. '==' on the program's points. The reference's numbers as slices: their lengths; stores beside them. What stays through a walk: known blocks of whatever cells; any other block may be written. The law's num, and the reference's To6 where the answer is known. The program's points by value: opened as they are read, and shut again. A package-level variable that is a point: from the row's list to its cells. The program's signatures by value: opened as they are read, and shut again. -/
import Derived.Test.YtcogndaiamgnbaaGreatDoorBase
import Derived.Test.YtcogndaiamgnbaaGreatDoorRefA
import Derived.Test.YtcogndaiamgnbaaGreatDoorLimb
import Derived.Test.YtcogndaiamgnbaaGreatDoorRows
import Derived.Laws.StructEq
import Derived.Deep.FieldsWide
import Derived.Lib.LaidTab
import Derived.Stop.LaidErr
import Derived.LaidMore
import Derived.ProofKit
import Derived.ChangeSame
namespace Go.Proofs.YtcogndaiamgnbaaGreatDoor
open Go.RowKit
open Go.ChangeShapes Go.WideShapes Go.ChangeAt Go.RowKit Go.Deep
open Go.ChangeShapes Go.WideShapes Go.ChangeAt Go.RowKit
theorem num_len {w:World} {v:Value} {N:Int} (h:NumIs w v N):∃ (ao:Option Addr) (n cap:Nat),v=.slice ao n cap∧n≤cap∧cap≤maxLen∧((n:Int)=0↔N=0):=by
 obtain ⟨D,sD,dD,tD,rfl⟩:=h
 obtain ⟨ao,cap,rfl,m,k,-⟩:=sD.form
 refine ⟨ao,D.length,cap,rfl,k,m,fun h=>?_,fun h=>?_⟩
 ·match D,h with
  | [],_=>rfl
 ·apply Classical.byContradiction
  intro hn
  have l:=trd_lower D dD tD (by omega)
  have p:(0:Int) < 4294967296 ^ (D.length - 1):=Int.pow_pos (by decide)
  omega
theorem NumIs.form {w:World} {v:Value} {N:Int} (h:NumIs w v N):∃ (ao:Option Addr) (n cap:Nat),v=.slice ao n cap:=by
 obtain ⟨ao,n,cap,e,-⟩:=num_len h
 exact ⟨ao,n,cap,e⟩
/-- a store into a block that begins with a bool leaves numbers as they are -/
theorem NumIs.set {w:World} {v:Value} {N:Int} {b j:Nat} {c:Bool} {X:List Value} {y:Value} (h:NumIs w v N) (B:Blk w b (.bool c :: X)):NumIs (w.setCell ⟨b,j,none⟩ y) v N:=by
 obtain ⟨D,sD,h2⟩:=h
 refine ⟨D,?_,h2⟩
 rcases sD with ⟨h1,h3⟩|⟨b',cap,h1,h3,h4,h5,h6⟩
 ·exact .inl ⟨h1,h3⟩
 ·refine .inr ⟨b',cap,h1,h3,h4,by simpa using h5,fun k hk=>?_⟩
  have h0:=h6 0 (by omega)
  have hb:=B.cell 0 _ rfl
  have hne:b'≠b:=by
   rintro rfl
   rw [hb] at h0
   simp at h0
  rw [World.cell?_setCell_other _ _ _ _ (by simp)]
  exact h6 k hk
theorem cells_u384:Tryz.prog.cellsOf 27=6:=by kernel_rfl
theorem cells_u64:Tryz.prog.cellsOf 25=1:=by kernel_rfl
variable {H:Type} {enc:TypeId × Value→H} {w:World} {base:Nat} {spare:Nat→Bool} {held:Bool}

theorem cells_sig:Tryz.prog.cellsOf 33=12:=by kernel_rfl
theorem twelveV {l:List Value} (h:l.length=12):∃ v0 v1 v2 v3 v4 v5 v6 v7 v8 v9 v10 v11,l=[v0,v1,v2,v3,v4,v5,v6,v7,v8,v9,v10,v11]:=by
 match l,h with
 | [v0,v1,v2,v3,v4,v5,v6,v7,v8,v9,v10,v11],_=>exact ⟨v0,v1,v2,v3,v4,v5,v6,v7,v8,v9,v10,v11,rfl⟩
theorem open_sig {cs:Array Value} {d:DataW H} {p:List MemPlace} (h:DataW.Trod enc Tryz.prog w base spare held 33 (.agg cs) d p) :
  ∃ (x0 x1 x2 x3 x4 x5 y0 y1 y2 y3 y4 y5:Int),cs=#[.int .u64 x0,.int .u64 x1,.int .u64 x2,.int .u64 x3,.int .u64 x4,.int .u64 x5,.int .u64 y0,.int .u64 y1,.int .u64 y2,.int .u64 y3,.int .u64 y4,.int .u64 y5]∧d=.agg [.agg [.lit (.int .u64 x0),.lit (.int .u64 x1),.lit (.int .u64 x2),.lit (.int .u64 x3),.lit (.int .u64 x4),.lit (.int .u64 x5)],.agg [.lit (.int .u64 y0),.lit (.int .u64 y1),.lit (.int .u64 y2),.lit (.int .u64 y3),.lit (.int .u64 y4),.lit (.int .u64 y5)]]∧p=[]∧fits [x0,x1,x2,x3,x4,x5]∧fits [y0,y1,y2,y3,y4,y5]:=by
 obtain ⟨fuel,hf⟩:=h
 obtain ⟨y0,y1,m,hx,hl,t0,t1⟩:=trod_struct2 Tryz.underlying33 hf
 obtain ⟨l⟩:=cs
 simp only [Value.cells] at hl t0 t1
 rw [cells_sig] at hl
 obtain ⟨v0,v1,v2,v3,v4,v5,v6,v7,v8,v9,v10,v11,rfl⟩:=twelveV hl
 simp only [cells_u384,List.drop_zero,List.drop_succ_cons,List.take_succ_cons,List.take_zero] at t0 t1
 obtain ⟨A,lA,eA,dA,pA,fA⟩:=open_arr (n:=6) Tryz.underlying27 cells_u384 Tryz.underlying25 cells_u64 (cs:=#[v0,v1,v2,v3,v4,v5]) (d:=y0.1) (p:=y0.2) ⟨m,t0⟩
 obtain ⟨B,lB,eB,dB,pB,fB⟩:=open_arr (n:=6) Tryz.underlying27 cells_u384 Tryz.underlying25 cells_u64 (cs:=#[v6,v7,v8,v9,v10,v11]) (d:=y1.1) (p:=y1.2) ⟨m,t1⟩
 obtain ⟨x0,x1,x2,x3,x4,x5,rfl⟩:=six lA
 obtain ⟨z0,z1,z2,z3,z4,z5,rfl⟩:=six lB
 simp only [us,List.map_cons,List.map_nil,Array.mk.injEq,List.cons.injEq,and_true] at eA eB dA dB
 obtain ⟨rfl,rfl,rfl,rfl,rfl,rfl⟩:=eA
 obtain ⟨rfl,rfl,rfl,rfl,rfl,rfl⟩:=eB
 obtain ⟨e1,e2⟩:=Prod.mk.inj hx
 refine ⟨x0,x1,x2,x3,x4,x5,z0,z1,z2,z3,z4,z5,rfl,?_,?_,fA,fB⟩
 ·rw [e1,dA,dB]
 ·rw [e2,pA,pB];rfl
theorem shut_sig (x0 x1 x2 x3 x4 x5 y0 y1 y2 y3 y4 y5:Int) (fX:fits [x0,x1,x2,x3,x4,x5]) (fY:fits [y0,y1,y2,y3,y4,y5]) :
  DataW.Trod enc Tryz.prog w base spare held 33 (.agg #[.int .u64 x0,.int .u64 x1,.int .u64 x2,.int .u64 x3,.int .u64 x4,.int .u64 x5,.int .u64 y0,.int .u64 y1,.int .u64 y2,.int .u64 y3,.int .u64 y4,.int .u64 y5]) (.agg [.agg [.lit (.int .u64 x0),.lit (.int .u64 x1),.lit (.int .u64 x2),.lit (.int .u64 x3),.lit (.int .u64 x4),.lit (.int .u64 x5)],.agg [.lit (.int .u64 y0),.lit (.int .u64 y1),.lit (.int .u64 y2),.lit (.int .u64 y3),.lit (.int .u64 y4),.lit (.int .u64 y5)]]) []:=by
 obtain ⟨m0,h0⟩:=shut_six (enc:=enc) (w:=w) (base:=base) (spare:=spare) (held:=held) Tryz.underlying27 cells_u384 Tryz.underlying25 cells_u64 x0 x1 x2 x3 x4 x5 fX
 obtain ⟨m1,h1⟩:=shut_six (enc:=enc) (w:=w) (base:=base) (spare:=spare) (held:=held) Tryz.underlying27 cells_u384 Tryz.underlying25 cells_u64 y0 y1 y2 y3 y4 y5 fY
 refine ⟨_,trod_struct2_mk (n:=max m0 m1) (cs:=[.int .u64 x0,.int .u64 x1,.int .u64 x2,.int .u64 x3,.int .u64 x4,.int .u64 x5,.int .u64 y0,.int .u64 y1,.int .u64 y2,.int .u64 y3,.int .u64 y4,.int .u64 y5]) Tryz.underlying33 (by rw [cells_sig];rfl) (y0:=(.agg [.lit (.int .u64 x0),.lit (.int .u64 x1),.lit (.int .u64 x2),.lit (.int .u64 x3),.lit (.int .u64 x4),.lit (.int .u64 x5)],[])) (y1:=(.agg [.lit (.int .u64 y0),.lit (.int .u64 y1),.lit (.int .u64 y2),.lit (.int .u64 y3),.lit (.int .u64 y4),.lit (.int .u64 y5)],[])) ?_ ?_⟩
 ·simp only [cells_u384,List.drop_zero,List.take_succ_cons,List.take_zero]
  exact DataW.trod_le (Nat.le_max_left _ _) h0
 ·simp only [cells_u384,List.drop_succ_cons,List.drop_zero,List.take_succ_cons,List.take_zero]
  exact DataW.trod_le (Nat.le_max_right _ _) h1
end Go.Proofs.YtcogndaiamgnbaaGreatDoor
