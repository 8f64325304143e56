/- The two tables of the field as they lie in memory. (Plain part.) The two tables of the field as they lie in memory. order.N: the order. What makes 1 of a number, by Fermat, modulo the order. Numbers of six limbs as rows of cells. Numbers of six limbs and points as rows of cells. Rows of cells: numbers, points and signatures loaded and stored whole. (Plain part.) Rows of cells: numbers, points and signatures loaded and stored whole. The document's Of6 of a row of cells. The document's order. What Sign and Verify tell. Signatures held against each other, and put together. What curve.On answers of a row of cells. -/
import Derived.Test.YtcogndaiamgnbaaGreatDoorBase
import Derived.Test.YtcogndaiamgnbaaGreatDoorLimb
import Derived.Test.YtcogndaiamgnbaaGreatDoorArrG
import Derived.Test.YtcogndaiamgnbaaGreatDoorCCode
import Derived.Test.YtcogndaiamgnbaaGreatDoorWpRowG
import Derived.Test.YtcogndaiamgnbaaGreatDoorRefA
import Derived.Test.YtcogndaiamgnbaaGreatDoorFrom
import Derived.Test.YtcogndaiamgnbaaGreatDoorRows
import Derived.Deep.WholeRow
import Derived.Deep.RegionHeld3
import Derived.Deep.DeepCutAuto
import Derived.Deep.DeepFit
import Derived.Deep.OwnRows
import Derived.Deep.AppendLies
import Derived.Great.BuildSlice
import Derived.Laws.Rows
import Derived.Laws.StructEq
namespace Go.Proofs.YtcogndaiamgnbaaGreatDoor
open Go.RowKit
/-- the order -/
def QQ:Int:=39402006196394479212279040100143613805079739270465446667946905279627659399113263569398956308152294913554433653942643
/-- the two tables lie where they lay -/
def GlsO (w:World):Prop:=(w.cell? ⟨2,0,none⟩=some (.int .u64 17072048233947408755)∧w.cell? ⟨2,1,none⟩=some (.int .u64 6348401684107011962)∧w.cell? ⟨2,2,none⟩=some (.int .u64 14367412456785391071)∧w.cell? ⟨2,3,none⟩=some (.int .u64 18446744073709551615)∧w.cell? ⟨2,4,none⟩=some (.int .u64 18446744073709551615)∧w.cell? ⟨2,5,none⟩=some (.int .u64 18446744073709551615))∧True
theorem GlsO.below {w w':World} (G:GlsO w) (hb:Below w.heap.size w w'):GlsO w':=by
 obtain ⟨⟨a0,a1,a2,a3,a4,a5⟩,_⟩:=G
 exact ⟨⟨cell_later a0 hb,cell_later a1 hb,cell_later a2 hb,cell_later a3 hb,cell_later a4 hb,cell_later a5 hb⟩,trivial⟩
theorem GlsO.lts {w:World} (G:GlsO w):2 < w.heap.size∧True :=
 ⟨World.block_lt_of_cell? w _ G.1.1,trivial⟩
theorem on_any {m0 m1 m2 m3 m4 m5:Int} {w:World} (l0:2 < w.heap.size) (a0:w.cell? ⟨2,0,none⟩=some (.int .u64 m0)) (a1:w.cell? ⟨2,1,none⟩=some (.int .u64 m1)) (a2:w.cell? ⟨2,2,none⟩=some (.int .u64 m2)) (a3:w.cell? ⟨2,3,none⟩=some (.int .u64 m3)) (a4:w.cell? ⟨2,4,none⟩=some (.int .u64 m4)) (a5:w.cell? ⟨2,5,none⟩=some (.int .u64 m5)) :
  Calls Tryz.prog 193 #[] w fun e w'=>e=.returned (.agg #[.int .u64 m0,.int .u64 m1,.int .u64 m2,.int .u64 m3,.int .u64 m4,.int .u64 m5])∧Below w.heap.size w w':=by
 go_enter Tryz.func193,Tryz.ntmps193
 go_wp2
 exact bodyPost_ret (v:=.agg #[.int .u64 m0,.int .u64 m1,.int .u64 m2,.int .u64 m3,.int .u64 m4,.int .u64 m5]) (by simp [results,Tryz.results193,go_sem]) rfl ⟨rfl,(Below.refl _ _).alloc (Nat.le_refl _) _⟩
theorem on6 {w:World} (G:GlsO w) :
  Calls Tryz.prog 193 #[] w fun e w'=>e=.returned (.agg #[.int .u64 17072048233947408755,.int .u64 6348401684107011962,.int .u64 14367412456785391071,.int .u64 18446744073709551615,.int .u64 18446744073709551615,.int .u64 18446744073709551615])∧Below w.heap.size w w' :=
 on_any G.lts.1 G.1.1 G.1.2.1 G.1.2.2.1 G.1.2.2.2.1 G.1.2.2.2.2.1 G.1.2.2.2.2.2
def OutO (a:Int) (e:Nat) (z:Int):Prop:=z=a ^ e % QQ
/-- each of them is one cell -/
def OneR (cs:List Value):Prop:=cs.toArray.all (·.oneCell')=true
/-- a number of six limbs, as a row of cells -/
def U6 (cs:List Value) (x:Int):Prop:=∃ z0 z1 z2 z3 z4 z5:Int,cs=[.int .u64 z0,.int .u64 z1,.int .u64 z2,.int .u64 z3,.int .u64 z4,.int .u64 z5]∧fits [z0,z1,z2,z3,z4,z5]∧v64 [z0,z1,z2,z3,z4,z5]=x
theorem U6.mk {z0 z1 z2 z3 z4 z5:Int} (h:fits [z0,z1,z2,z3,z4,z5]):U6 [.int .u64 z0,.int .u64 z1,.int .u64 z2,.int .u64 z3,.int .u64 z4,.int .u64 z5] (v64 [z0,z1,z2,z3,z4,z5]):=⟨z0,z1,z2,z3,z4,z5,rfl,h,rfl⟩
theorem U6.len {cs:List Value} {x:Int} (h:U6 cs x):cs.length=6:=by
 obtain ⟨z0,z1,z2,z3,z4,z5,rfl,_⟩:=h
 rfl
theorem U6.ones {cs:List Value} {x:Int} (h:U6 cs x):OneR cs:=by
 obtain ⟨z0,z1,z2,z3,z4,z5,rfl,_⟩:=h
 simp [OneR,Value.oneCell']
theorem U6.bd {cs:List Value} {x:Int} (h:U6 cs x):0≤x∧x < 18446744073709551616 ^ 6:=by
 obtain ⟨z0,z1,z2,z3,z4,z5,rfl,hf,rfl⟩:=h
 exact v6_bound _ rfl hf
theorem U6.zero:U6 [.int .u64 0,.int .u64 0,.int .u64 0,.int .u64 0,.int .u64 0,.int .u64 0] 0:=⟨0,0,0,0,0,0,rfl,fits6 (by decide),by decide⟩
theorem U6.one:U6 [.int .u64 1,.int .u64 0,.int .u64 0,.int .u64 0,.int .u64 0,.int .u64 0] 1:=⟨1,0,0,0,0,0,rfl,fits6 (by decide),by decide⟩
/-- from 1 to N - 1 -/
def isSc (x:Int):Prop:=1≤x∧x < QQ
instance (x:Int):Decidable (isSc x):=by unfold isSc;exact inferInstance
/-- 1 over it (0 of 0) -/
def InvO (x z:Int):Prop:=OutO x 39402006196394479212279040100143613805079739270465446667946905279627659399113263569398956308152294913554433653942641 z
theorem InvO.one {x y z:Int} (h:InvO x y) (k:InvO x z):y=z:=h.trans k.symm
/-- a point as a row of cells -/
def P13 (cs:List Value) (P:Pt):Prop:=∃ (s0 s1 s2 s3 s4 s5 t0 t1 t2 t3 t4 t5:Int) (k:Bool),cs=[.int .u64 s0,.int .u64 s1,.int .u64 s2,.int .u64 s3,.int .u64 s4,.int .u64 s5,.int .u64 t0,.int .u64 t1,.int .u64 t2,.int .u64 t3,.int .u64 t4,.int .u64 t5,.bool k]∧Told P [s0,s1,s2,s3,s4,s5] [t0,t1,t2,t3,t4,t5] k
/-- thirteen cells that may be a point -/
def P13R (cs:List Value) (X Y:Int) (n:Bool):Prop:=∃ xs ys,cs=xs++ys++[.bool n]∧U6 xs X∧U6 ys Y
theorem P13.len {cs:List Value} {P:Pt} (h:P13 cs P):cs.length=13:=by
 obtain ⟨s0,s1,s2,s3,s4,s5,t0,t1,t2,t3,t4,t5,k,rfl,_⟩:=h
 rfl
theorem P13R.len {cs:List Value} {X Y:Int} {n:Bool} (h:P13R cs X Y n):cs.length=13:=by
 obtain ⟨xs,ys,rfl,h1,h2⟩:=h
 simp [h1.len,h2.len]
theorem P13R.ones {cs:List Value} {X Y:Int} {n:Bool} (h:P13R cs X Y n):OneR cs:=by
 obtain ⟨xs,ys,rfl,⟨z0,z1,z2,z3,z4,z5,rfl,_⟩,⟨y0,y1,y2,y3,y4,y5,rfl,_⟩⟩:=h
 simp [OneR,Value.oneCell']
theorem size_u:(Tryz.prog.info? 27).map (·.size)=some 6:=by kernel_rfl
theorem zero_u:Hid (∀ w:World,(zeroValue 27).run Tryz.prog w=.ok (.agg #[.int .u64 0,.int .u64 0,.int .u64 0,.int .u64 0,.int .u64 0,.int .u64 0]) w):=fun w=>by kernel_rfl
/-- a part of a block that is a number -/
theorem load_u {w:World} {g o:Nat} {X ys:List Value} {y:Int} (B:Blk w g X) (h:U6 ys y) (hx:∀ j v,ys[j]?=some v→X[o + j]?=some v):(loadVar 27 ⟨g,o,none⟩).run Tryz.prog w=.ok (.agg ys.toArray) w :=
 load_cells (n:=6) (fun j v hv=>B.cell _ _ (hx j v hv)) h.len Tryz.underlying27 rfl size_u
theorem app_at0 {xs ys:List Value}:∀ j v,xs[j]?=some v→(xs++ys)[0 + j]?=some v:=fun j v hv=>by
 have hj:=(List.getElem?_eq_some_iff.1 hv).1
 rw [Nat.zero_add,List.getElem?_append_left hj]
 exact hv
theorem app_at2 {xs ys:List Value} {n:Nat} (h:xs.length=n):∀ j v,ys[j]?=some v→(xs++ys)[n + j]?=some v:=fun j v hv=>by
 rw [List.getElem?_append_right (by omega),show n + j - xs.length=j by omega]
 exact hv
theorem OneR.app {xs ys:List Value} (h:OneR xs) (k:OneR ys):OneR (xs++ys):=by
 unfold OneR at *
 rw [Array.all_eq_true_iff_forall_mem] at *
 intro u hu
 simp only [List.mem_toArray,List.mem_append] at hu
 rcases hu with hu|hu
 ·exact h u (by simpa using hu)
 ·exact k u (by simpa using hu)
/-- a block that is written whole -/
theorem Blk.put {w:World} {g:Nat} {X ys:List Value} (B:Blk w g X):Blk (w.setRow g ys.toArray) g ys:=by
 obtain ⟨t,h⟩:=B
 exact ⟨t,setRow_heap _ _ _ _ _ _ h⟩
theorem size_s:(Tryz.prog.info? 33).map (·.size)=some 12:=by kernel_rfl
theorem uOf6 {cs:List Value} {x:Int} {w:World} (h:U6 cs x):Calls Tryz.prog 71 #[.agg cs.toArray] w fun e w'=>∃ v',e=.returned v'∧NumIs w' v' x∧Below w.heap.size w w':=by
 obtain ⟨z0,z1,z2,z3,z4,z5,rfl,hf,rfl⟩:=h
 exact of6_any [z0,z1,z2,z3,z4,z5] w rfl hf
theorem n_num (w:World) (t:TypeId):NumIs (w.alloc (.cells (us [3435473267,3974895978,1219536762,1478102450,4097256927,3345173889,4294967295,4294967295,4294967295,4294967295,4294967295,4294967295]).toArray t)) (.slice (some ⟨w.heap.size,0,none⟩) 12 12) QQ:=by
 have B:=Blk.new w (us [3435473267,3974895978,1219536762,1478102450,4097256927,3345173889,4294967295,4294967295,4294967295,4294967295,4294967295,4294967295]) t w.heap.size rfl
 refine ⟨[3435473267,3974895978,1219536762,1478102450,4097256927,3345173889,4294967295,4294967295,4294967295,4294967295,4294967295,4294967295],.inr ⟨w.heap.size,12,rfl,Nat.le_refl _,by unfold maxLen;omega,B.lt,fun j hj=>B.cell j _ (us_get _ j hj)⟩,?_,?_,?_⟩
 ·intro j
  match j with
  | 0=>decide
  | 1=>decide
  | 2=>decide
  | 3=>decide
  | 4=>decide
  | 5=>decide
  | 6=>decide
  | 7=>decide
  | 8=>decide
  | 9=>decide
  | 10=>decide
  | 11=>decide
  | _ + 12=>exact ⟨by simp,by simp⟩
 ·intro _;simp
 ·simp only [v32,pv];decide
set_option maxRecDepth 100000 in
theorem n_any {w:World} :
  Calls Tryz.prog 142 #[] w fun e w'=>∃ v',e=.returned v'∧NumIs w' v' QQ∧Below w.heap.size w w':=by
 have h:=n_num w 25
 go_enter Tryz.func142,Tryz.ntmps142
 go_wp2
 go_ret
 exact ⟨_,rfl,h,(Below.refl _ _).alloc (Nat.le_refl _) _⟩
/-- the tables of curve and order lie where they lay -/
def GA (w:World):Prop:=GlsC w∧GlsO w
theorem GA.below {w w':World} (G:GA w) (hb:Below w.heap.size w w'):GA w':=⟨G.1.below hb,G.2.below hb⟩
/-- an error that is a Code itself -/
def codeV (c:Int):Value:=.iface 57 (.int .i64 c)
end Go.Proofs.YtcogndaiamgnbaaGreatDoor
