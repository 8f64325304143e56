/- The two tables of the field as they lie in memory. order.modulus and order.P: the tables read. What makes 1 of a number, by Fermat, modulo the order. Numbers of six limbs and points as rows of cells. Rows of cells: numbers, points and signatures loaded and stored whole. (Plain part.) The document's Of6 of a row of cells. The document's order. What Sign and Verify tell. The law's scalar. What curve.On answers of a row of cells. -/
import Derived.Test.YtlkljfnenonfgaaGreatDoorBase
import Derived.Test.YtlkljfnenonfgaaGreatDoorMath
import Derived.Test.YtlkljfnenonfgaaGreatDoorAeNumG
import Derived.Test.YtlkljfnenonfgaaGreatDoorCCode
import Derived.Test.YtlkljfnenonfgaaGreatDoorCNum
import Derived.Test.YtlkljfnenonfgaaGreatDoorAeCodeX
import Derived.Test.YtlkljfnenonfgaaGreatDoorRefA
import Derived.Test.YtlkljfnenonfgaaGreatDoorRows
import Derived.Deep.WholeRow
import Derived.Deep.RegionHeld3
import Derived.Deep.DeepCutAuto
import Derived.Deep.DeepFit
import Derived.Deep.OwnRows
import Derived.Deep.AppendLies
import Derived.Great.BuildSlice
import Derived.Laws.Rows
namespace Go.Proofs.YtlkljfnenonfgaaGreatDoor
open Go.RowKit
/-- the order -/
def QQ:Int:=39402006196394479212279040100143613805079739270465446667946905279627659399113263569398956308152294913554433653942643
theorem QQ_v:v64 [17072048233947408755,6348401684107011962,14367412456785391071,18446744073709551615,18446744073709551615,18446744073709551615]=QQ:=by decide
theorem QQ_odd:QQ % 2=1:=by decide
theorem QQ_big:18446744073709551616 ^ 6≤2 * QQ:=by decide
theorem fQ:fits [17072048233947408755,6348401684107011962,14367412456785391071,18446744073709551615,18446744073709551615,18446744073709551615]:=fits6 (by decide)
theorem fQR:fits [3256554584917936553,18391999277541532697,13564358545871743303,15279949475123764421,4589268600508278933,902107514168524577]:=fits6 (by decide)
theorem isQ:IsMod [17072048233947408755,6348401684107011962,14367412456785391071,18446744073709551615,18446744073709551615,18446744073709551615] 7986114184663260229 [3256554584917936553,18391999277541532697,13564358545871743303,15279949475123764421,4589268600508278933,902107514168524577] :=
 ⟨rfl,fQ,rfl,fQR,by decide,by decide,by decide,by rw [QQ_v];exact QQ_big,by rw [QQ_v];exact QQ_odd,by decide⟩
/-- the two tables lie where they lay -/
def GlsO (w:World):Prop:=(w.cell? ⟨5,0,none⟩=some (.int .u64 17072048233947408755)∧w.cell? ⟨5,1,none⟩=some (.int .u64 6348401684107011962)∧w.cell? ⟨5,2,none⟩=some (.int .u64 14367412456785391071)∧w.cell? ⟨5,3,none⟩=some (.int .u64 18446744073709551615)∧w.cell? ⟨5,4,none⟩=some (.int .u64 18446744073709551615)∧w.cell? ⟨5,5,none⟩=some (.int .u64 18446744073709551615))∧(w.cell? ⟨6,0,none⟩=some (.int .u64 3256554584917936553)∧w.cell? ⟨6,1,none⟩=some (.int .u64 18391999277541532697)∧w.cell? ⟨6,2,none⟩=some (.int .u64 13564358545871743303)∧w.cell? ⟨6,3,none⟩=some (.int .u64 15279949475123764421)∧w.cell? ⟨6,4,none⟩=some (.int .u64 4589268600508278933)∧w.cell? ⟨6,5,none⟩=some (.int .u64 902107514168524577))
theorem GlsO.below {w w':World} (G:GlsO w) (hb:Below w.heap.size w w'):GlsO w':=by
 obtain ⟨⟨a0,a1,a2,a3,a4,a5⟩,⟨b0,b1,b2,b3,b4,b5⟩⟩:=G
 exact ⟨⟨cell_later a0 hb,cell_later a1 hb,cell_later a2 hb,cell_later a3 hb,cell_later a4 hb,cell_later a5 hb⟩,⟨cell_later b0 hb,cell_later b1 hb,cell_later b2 hb,cell_later b3 hb,cell_later b4 hb,cell_later b5 hb⟩⟩
theorem GlsO.lts {w:World} (G:GlsO w):5 < w.heap.size∧6 < w.heap.size :=
 ⟨World.block_lt_of_cell? w _ G.1.1,World.block_lt_of_cell? w _ G.2.1⟩
set_option maxRecDepth 100000 in
set_option maxHeartbeats 400000 in
theorem omod_any {m0 m1 m2 m3 m4 m5 t0 t1 t2 t3 t4 t5:Int} {w:World} (l0:5 < w.heap.size) (l1:6 < w.heap.size) (a0:w.cell? ⟨5,0,none⟩=some (.int .u64 m0)) (a1:w.cell? ⟨5,1,none⟩=some (.int .u64 m1)) (a2:w.cell? ⟨5,2,none⟩=some (.int .u64 m2)) (a3:w.cell? ⟨5,3,none⟩=some (.int .u64 m3)) (a4:w.cell? ⟨5,4,none⟩=some (.int .u64 m4)) (a5:w.cell? ⟨5,5,none⟩=some (.int .u64 m5)) (b0:w.cell? ⟨6,0,none⟩=some (.int .u64 t0)) (b1:w.cell? ⟨6,1,none⟩=some (.int .u64 t1)) (b2:w.cell? ⟨6,2,none⟩=some (.int .u64 t2)) (b3:w.cell? ⟨6,3,none⟩=some (.int .u64 t3)) (b4:w.cell? ⟨6,4,none⟩=some (.int .u64 t4)) (b5:w.cell? ⟨6,5,none⟩=some (.int .u64 t5)) :
  Calls Tryz.prog 90 #[] w fun e w'=>e=.returned (.agg #[.int .u64 m0,.int .u64 m1,.int .u64 m2,.int .u64 m3,.int .u64 m4,.int .u64 m5,.int .u64 7986114184663260229,.int .u64 t0,.int .u64 t1,.int .u64 t2,.int .u64 t3,.int .u64 t4,.int .u64 t5])∧Below w.heap.size w w':=by
 go_enter Tryz.func90,Tryz.ntmps90
 go_wp2
 exact bodyPost_ret (v:=.agg #[.int .u64 m0,.int .u64 m1,.int .u64 m2,.int .u64 m3,.int .u64 m4,.int .u64 m5,.int .u64 7986114184663260229,.int .u64 t0,.int .u64 t1,.int .u64 t2,.int .u64 t3,.int .u64 t4,.int .u64 t5]) (by simp [results,Tryz.results90,go_sem]) rfl ⟨rfl,(Below.refl _ _).alloc (Nat.le_refl _) _⟩
theorem omod {w:World} (G:GlsO w) :
  Calls Tryz.prog 90 #[] w fun e w'=>e=.returned (.agg #[.int .u64 17072048233947408755,.int .u64 6348401684107011962,.int .u64 14367412456785391071,.int .u64 18446744073709551615,.int .u64 18446744073709551615,.int .u64 18446744073709551615,.int .u64 7986114184663260229,.int .u64 3256554584917936553,.int .u64 18391999277541532697,.int .u64 13564358545871743303,.int .u64 15279949475123764421,.int .u64 4589268600508278933,.int .u64 902107514168524577])∧Below w.heap.size w w' :=
 omod_any G.lts.1 G.lts.2 G.1.1 G.1.2.1 G.1.2.2.1 G.1.2.2.2.1 G.1.2.2.2.2.1 G.1.2.2.2.2.2 G.2.1 G.2.2.1 G.2.2.2.1 G.2.2.2.2.1 G.2.2.2.2.2.1 G.2.2.2.2.2.2
def OutO (a:Int) (e:Nat) (z:Int):Prop:=z=a ^ e % QQ
theorem QQ_nat:QQ=((39402006196394479212279040100143613805079739270465446667946905279627659399113263569398956308152294913554433653942643:Nat):Int):=by decide
theorem oout_inv {x z:Int} (hx:0≤x) (h:OutO x 39402006196394479212279040100143613805079739270465446667946905279627659399113263569398956308152294913554433653942641 z):(x % QQ=0→z=0)∧(x % QQ≠0→(x * z) % QQ=1):=by
 unfold OutO at h
 rw [QQ_nat] at h ⊢
 exact inv_gen pr_N (by decide +kernel) (by decide +kernel) hx h
/-- each of them is one cell -/
def OneR (cs:List Value):Prop:=cs.toArray.all (·.oneCell')=true
/-- a number of six limbs, as a row of cells -/
def U6 (cs:List Value) (x:Int):Prop:=∃ z0 z1 z2 z3 z4 z5:Int,cs=[.int .u64 z0,.int .u64 z1,.int .u64 z2,.int .u64 z3,.int .u64 z4,.int .u64 z5]∧fits [z0,z1,z2,z3,z4,z5]∧v64 [z0,z1,z2,z3,z4,z5]=x
theorem U6.mk {z0 z1 z2 z3 z4 z5:Int} (h:fits [z0,z1,z2,z3,z4,z5]):U6 [.int .u64 z0,.int .u64 z1,.int .u64 z2,.int .u64 z3,.int .u64 z4,.int .u64 z5] (v64 [z0,z1,z2,z3,z4,z5]):=⟨z0,z1,z2,z3,z4,z5,rfl,h,rfl⟩
theorem U6.len {cs:List Value} {x:Int} (h:U6 cs x):cs.length=6:=by
 obtain ⟨z0,z1,z2,z3,z4,z5,rfl,_⟩:=h
 rfl
theorem U6.ones {cs:List Value} {x:Int} (h:U6 cs x):OneR cs:=by
 obtain ⟨z0,z1,z2,z3,z4,z5,rfl,_⟩:=h
 simp [OneR,Value.oneCell']
theorem U6.bd {cs:List Value} {x:Int} (h:U6 cs x):0≤x∧x < 18446744073709551616 ^ 6:=by
 obtain ⟨z0,z1,z2,z3,z4,z5,rfl,hf,rfl⟩:=h
 exact v6_bound _ rfl hf
theorem U6.zero:U6 [.int .u64 0,.int .u64 0,.int .u64 0,.int .u64 0,.int .u64 0,.int .u64 0] 0:=⟨0,0,0,0,0,0,rfl,fits6 (by decide),by decide⟩
theorem U6.one:U6 [.int .u64 1,.int .u64 0,.int .u64 0,.int .u64 0,.int .u64 0,.int .u64 0] 1:=⟨1,0,0,0,0,0,rfl,fits6 (by decide),by decide⟩
theorem eqU {cs ds:List Value} {x y:Int} (h:U6 cs x) (k:U6 ds y):∀ w:World,(Op.equalIn 10000 24 (.agg cs.toArray) (.agg ds.toArray)).run Tryz.prog w=.ok (decide (x=y)) w:=fun w=>by
 obtain ⟨z0,z1,z2,z3,z4,z5,rfl,hf,rfl⟩:=h
 obtain ⟨y0,y1,y2,y3,y4,y5,rfl,kf,rfl⟩:=k
 rw [eql_six]
 congr 1
 by_cases e:[z0,z1,z2,z3,z4,z5]=[y0,y1,y2,y3,y4,y5]
 ·rw [decide_eq_true e,decide_eq_true (by rw [e])]
 ·rw [decide_eq_false e,decide_eq_false (fun h=>e (v64_inj [z0,z1,z2,z3,z4,z5] [y0,y1,y2,y3,y4,y5] rfl hf kf h))]
/-- from 1 to N - 1 -/
def isSc (x:Int):Prop:=1≤x∧x < QQ
instance (x:Int):Decidable (isSc x):=by unfold isSc;exact inferInstance
/-- 1 over it (0 of 0) -/
def InvO (x z:Int):Prop:=OutO x 39402006196394479212279040100143613805079739270465446667946905279627659399113263569398956308152294913554433653942641 z
theorem InvO.one {x y z:Int} (h:InvO x y) (k:InvO x z):y=z:=h.trans k.symm
/-- a point as a row of cells -/
def P13 (cs:List Value) (P:Pt):Prop:=∃ (s0 s1 s2 s3 s4 s5 t0 t1 t2 t3 t4 t5:Int) (k:Bool),cs=[.int .u64 s0,.int .u64 s1,.int .u64 s2,.int .u64 s3,.int .u64 s4,.int .u64 s5,.int .u64 t0,.int .u64 t1,.int .u64 t2,.int .u64 t3,.int .u64 t4,.int .u64 t5,.bool k]∧Told P [s0,s1,s2,s3,s4,s5] [t0,t1,t2,t3,t4,t5] k
/-- thirteen cells that may be a point -/
def P13R (cs:List Value) (X Y:Int) (n:Bool):Prop:=∃ xs ys,cs=xs++ys++[.bool n]∧U6 xs X∧U6 ys Y
/-- a point's X; 0, where it has none -/
def xOf:Pt→Int
 | none=>0
 | some (X,_)=>X
theorem P13.raw {cs:List Value} {P:Pt} (h:P13 cs P):∃ X Y,P13R cs X Y (decide (P=none))∧X=xOf P:=by
 obtain ⟨s0,s1,s2,s3,s4,s5,t0,t1,t2,t3,t4,t5,k,rfl,f1,f2,h⟩:=h
 rcases h with ⟨rfl,rfl,h1,h2⟩|⟨rfl,rfl⟩
 ·refine ⟨_,_,⟨[.int .u64 s0,.int .u64 s1,.int .u64 s2,.int .u64 s3,.int .u64 s4,.int .u64 s5],[.int .u64 t0,.int .u64 t1,.int .u64 t2,.int .u64 t3,.int .u64 t4,.int .u64 t5],rfl,.mk f1,.mk f2⟩,?_⟩
  rw [h1]
  decide
 ·exact ⟨_,_,⟨[.int .u64 s0,.int .u64 s1,.int .u64 s2,.int .u64 s3,.int .u64 s4,.int .u64 s5],[.int .u64 t0,.int .u64 t1,.int .u64 t2,.int .u64 t3,.int .u64 t4,.int .u64 t5],rfl,.mk f1,.mk f2⟩,rfl⟩
theorem P13.len {cs:List Value} {P:Pt} (h:P13 cs P):cs.length=13:=by
 obtain ⟨s0,s1,s2,s3,s4,s5,t0,t1,t2,t3,t4,t5,k,rfl,_⟩:=h
 rfl
theorem P13R.len {cs:List Value} {X Y:Int} {n:Bool} (h:P13R cs X Y n):cs.length=13:=by
 obtain ⟨xs,ys,rfl,h1,h2⟩:=h
 simp [h1.len,h2.len]
theorem P13R.ones {cs:List Value} {X Y:Int} {n:Bool} (h:P13R cs X Y n):OneR cs:=by
 obtain ⟨xs,ys,rfl,⟨z0,z1,z2,z3,z4,z5,rfl,_⟩,⟨y0,y1,y2,y3,y4,y5,rfl,_⟩⟩:=h
 simp [OneR,Value.oneCell']
theorem P13R.told {cs:List Value} {X Y:Int} (h:P13R cs X Y false):P13 cs (some (X,Y)):=by
 obtain ⟨xs,ys,rfl,⟨s0,s1,s2,s3,s4,s5,rfl,hf,rfl⟩,⟨t0,t1,t2,t3,t4,t5,rfl,kf,rfl⟩⟩:=h
 exact ⟨s0,s1,s2,s3,s4,s5,t0,t1,t2,t3,t4,t5,false,rfl,hf,kf,.inr ⟨rfl,rfl⟩⟩
theorem P13.rawS {cs:List Value} {X Y:Int} (h:P13 cs (some (X,Y))):P13R cs X Y false:=by
 obtain ⟨s0,s1,s2,s3,s4,s5,t0,t1,t2,t3,t4,t5,k,rfl,f1,f2,h⟩:=h
 rcases h with ⟨h,_⟩|⟨h,rfl⟩
 ·cases h
 ·simp only [Option.some.injEq,Prod.mk.injEq] at h
  obtain ⟨rfl,rfl⟩:=h
  exact ⟨[.int .u64 s0,.int .u64 s1,.int .u64 s2,.int .u64 s3,.int .u64 s4,.int .u64 s5],[.int .u64 t0,.int .u64 t1,.int .u64 t2,.int .u64 t3,.int .u64 t4,.int .u64 t5],rfl,.mk f1,.mk f2⟩
theorem size_u:(Tryz.prog.info? 24).map (·.size)=some 6:=by kernel_rfl
theorem size_p:(Tryz.prog.info? 26).map (·.size)=some 13:=by kernel_rfl
theorem zero_u:Hid (∀ w:World,(zeroValue 24).run Tryz.prog w=.ok (.agg #[.int .u64 0,.int .u64 0,.int .u64 0,.int .u64 0,.int .u64 0,.int .u64 0]) w):=fun w=>by kernel_rfl
theorem zero_p:Hid (∀ w:World,(zeroValue 26).run Tryz.prog w=.ok (.agg #[.int .u64 0,.int .u64 0,.int .u64 0,.int .u64 0,.int .u64 0,.int .u64 0,.int .u64 0,.int .u64 0,.int .u64 0,.int .u64 0,.int .u64 0,.int .u64 0,.bool false]) w):=fun w=>by kernel_rfl
/-- a part of a block that is a number -/
theorem load_u {w:World} {g o:Nat} {X ys:List Value} {y:Int} (B:Blk w g X) (h:U6 ys y) (hx:∀ j v,ys[j]?=some v→X[o + j]?=some v):(loadVar 24 ⟨g,o,none⟩).run Tryz.prog w=.ok (.agg ys.toArray) w :=
 load_cells (n:=6) (fun j v hv=>B.cell _ _ (hx j v hv)) h.len Tryz.underlying24 rfl size_u
theorem app_at0 {xs ys:List Value}:∀ j v,xs[j]?=some v→(xs++ys)[0 + j]?=some v:=fun j v hv=>by
 have hj:=(List.getElem?_eq_some_iff.1 hv).1
 rw [Nat.zero_add,List.getElem?_append_left hj]
 exact hv
/-- a block that is written whole -/
theorem Blk.put {w:World} {g:Nat} {X ys:List Value} (B:Blk w g X):Blk (w.setRow g ys.toArray) g ys:=by
 obtain ⟨t,h⟩:=B
 exact ⟨t,setRow_heap _ _ _ _ _ _ h⟩
theorem uOf6 {cs:List Value} {x:Int} {w:World} (h:U6 cs x):Calls Tryz.prog 24 #[.agg cs.toArray] w fun e w'=>∃ v',e=.returned v'∧NumIs w' v' x∧Below w.heap.size w w':=by
 obtain ⟨z0,z1,z2,z3,z4,z5,rfl,hf,rfl⟩:=h
 exact of6_any [z0,z1,z2,z3,z4,z5] w rfl hf
theorem n_num (w:World) (t:TypeId):NumIs (w.alloc (.cells (us [3435473267,3974895978,1219536762,1478102450,4097256927,3345173889,4294967295,4294967295,4294967295,4294967295,4294967295,4294967295]).toArray t)) (.slice (some ⟨w.heap.size,0,none⟩) 12 12) QQ:=by
 have B:=Blk.new w (us [3435473267,3974895978,1219536762,1478102450,4097256927,3345173889,4294967295,4294967295,4294967295,4294967295,4294967295,4294967295]) t w.heap.size rfl
 refine ⟨[3435473267,3974895978,1219536762,1478102450,4097256927,3345173889,4294967295,4294967295,4294967295,4294967295,4294967295,4294967295],.inr ⟨w.heap.size,12,rfl,Nat.le_refl _,by unfold maxLen;omega,B.lt,fun j hj=>B.cell j _ (us_get _ j hj)⟩,?_,?_,?_⟩
 ·intro j
  match j with
  | 0=>decide
  | 1=>decide
  | 2=>decide
  | 3=>decide
  | 4=>decide
  | 5=>decide
  | 6=>decide
  | 7=>decide
  | 8=>decide
  | 9=>decide
  | 10=>decide
  | 11=>decide
  | _ + 12=>exact ⟨by simp,by simp⟩
 ·intro _;simp
 ·simp only [v32,pv];decide
set_option maxRecDepth 100000 in
theorem n_any {w:World} :
  Calls Tryz.prog 25 #[] w fun e w'=>∃ v',e=.returned v'∧NumIs w' v' QQ∧Below w.heap.size w w':=by
 have h:=n_num w 22
 go_enter Tryz.func25,Tryz.ntmps25
 go_wp2
 go_ret
 exact ⟨_,rfl,h,(Below.refl _ _).alloc (Nat.le_refl _) _⟩
/-- the tables of curve and order lie where they lay -/
def GA (w:World):Prop:=GlsC w∧GlsO w
theorem GA.below {w w':World} (G:GA w) (hb:Below w.heap.size w w'):GA w':=⟨G.1.below hb,G.2.below hb⟩
set_option linter.unusedSimpArgs false in
set_option maxRecDepth 100000 in
set_option maxHeartbeats 1000000 in
theorem con_scalar14 {cs:List Value} {x:Int} {w:World} (h:U6 cs x) :
  Calls Tryz.prog 8 #[.agg cs.toArray] w fun e w'=>e=.returned (.bool (decide (isSc x)))∧Below w.heap.size w w':=by
 have HU:Hid (U6 cs x):=h
 have HLa:Hid (cs.length=6):=h.len
 have hx:=h.bd
 clear h
 have B0:=Blk.new w cs 24 w.heap.size rfl
 have bel:Below w.heap.size w (w.alloc (.cells cs.toArray 24)):=(Below.refl _ _).alloc (Nat.le_refl _) _
 go_enter Tryz.func8,Tryz.ntmps8
 go_upto_region 1 with fail
 generalize w.alloc (.cells cs.toArray 24)=W at *
 have la:=B0.lt
 have q:=eqU HU.out U6.zero
 by_cases c1:x=0
 ·rw [decide_eq_true c1] at q
  go_wp2_with (first|(refine wpList_load_run (by rfl) (by rfl) (by rfl) (B0.load Tryz.underlying24 rfl size_u HLa.out) ?_)|fail)
  go_ret
  exact ⟨by rw [decide_eq_false (fun h=>by have:=h.1;omega)];rfl,bel⟩
 rw [decide_eq_false c1] at q
 go_wp2_with (first|(refine wpList_load_run (by rfl) (by rfl) (by rfl) (B0.load Tryz.underlying24 rfl size_u HLa.out) ?_)|fail)
 refine (uOf6 HU.out).mono ?_
 rintro e w1 ⟨v1,rfl,N1,hb⟩
 replace bel:=below_step bel hb
 clear hb la B0
 go_wp2_with fail
 refine n_any.mono ?_
 rintro e w2 ⟨v2,rfl,N2,hb⟩
 replace N1:=N1.later hb
 replace bel:=below_step bel hb
 clear hb
 go_wp2_with fail
 refine (cmp_any _ _ _ _ _ N1 N2).mono ?_
 rintro e w3 ⟨rfl,hb⟩
 replace bel:=below_step bel hb
 clear hb N1 N2
 by_cases c2:x < QQ
 ·rw [← cmpN_lt c2]
  go_wp2_with fail
  go_ret
  exact ⟨by rw [decide_eq_true (show isSc x from ⟨by omega,c2⟩)];rfl,bel⟩
 ·have hc:¬ cmpN x QQ < 0:=by
   rcases Int.lt_or_eq_of_le (Int.not_lt.1 c2) with h|h
   ·rw [← cmpN_gt h];decide
   ·rw [← cmpN_eq h.symm];decide
  have HC2:Hid (¬ x < QQ):=c2
  generalize cmpN x QQ=z at *
  have g9:decide (z < 0)=false:=decide_eq_false hc
  go_wp2_with fail
  go_ret
  exact ⟨by rw [decide_eq_false (fun h=>absurd h.2 (by have:=HC2.out;omega))];first|rfl|simp [g9],bel⟩
theorem uOn {cs:List Value} {X Y:Int} {n:Bool} {w:World} (G:GlsC w) (h:P13R cs X Y n):Calls Tryz.prog 9 #[.agg cs.toArray] w fun e w'=>∃ b:Bool,e=.returned (.bool b)∧(b=true↔IsOn n X Y)∧Below w.heap.size w w':=by
 obtain ⟨xs,ys,rfl,⟨s0,s1,s2,s3,s4,s5,rfl,hf,rfl⟩,⟨t0,t1,t2,t3,t4,t5,rfl,kf,rfl⟩⟩:=h
 obtain ⟨b,hb⟩:∃ b:Bool,b=true↔IsOn n (v64 [s0,s1,s2,s3,s4,s5]) (v64 [t0,t1,t2,t3,t4,t5]):=by
  classical exact ⟨decide (IsOn n (v64 [s0,s1,s2,s3,s4,s5]) (v64 [t0,t1,t2,t3,t4,t5])),by simp⟩
 refine (con_On (b:=b) G hf kf hb).mono ?_
 rintro e w' ⟨rfl,hb2⟩
 exact ⟨b,rfl,hb,hb2⟩
end Go.Proofs.YtlkljfnenonfgaaGreatDoor
