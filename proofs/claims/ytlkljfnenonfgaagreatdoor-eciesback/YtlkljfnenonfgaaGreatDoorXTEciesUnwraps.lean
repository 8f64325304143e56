/- errors.As at a variable of *api.Spot; errors.Is of an error of api's. errors.As: a hit at a *api.Spot; a miss at an api.Code. errors.As: a hit at a *api.Spot; a miss at an api.Code. errors.Is of a *api.Spot, of an api.Code. What the laws ask of errors: Is, Code. Errors held against errors: none, and Codes. The tables of field, curve and order. From the row's list to the tables' cells. From the row's list of six variables to the tables' cells. From the row's list of seven variables (errors' own, and the tables) to their cells. From the row's list to the cells of sha's tables. From the row's list of variables to the tables' cells: EciesBack. From the row's list of variables to the tables' cells: EciesUnwraps. -/
import Derived.Test.YtlkljfnenonfgaaGreatDoorBase
import Derived.Test.YtlkljfnenonfgaaGreatDoorCCode
import Derived.Test.YtlkljfnenonfgaaGreatDoorEdG
import Derived.Test.YtlkljfnenonfgaaGreatDoorAeNumG
import Derived.Test.YtlkljfnenonfgaaGreatDoorSCodeD
import Derived.Test.YtlkljfnenonfgaaGreatDoorEiUp0
import Derived.Test.YtlkljfnenonfgaaGreatDoorRows
import Derived.LaidEql
import Derived.Stop.Asserts
import Derived.RowKitTokens
import Derived.Deep.WholeRow
import Derived.Deep.RegionHeld3
import Derived.Deep.DeepCutAuto
import Derived.Deep.DeepFit
import Derived.Lib.LaidTab
import Derived.Stop.LaidErr
import Derived.LaidMore
import Derived.ProofKit
import Derived.LaidLaws
import Derived.LaidHandle
namespace Go.Proofs.YtlkljfnenonfgaaGreatDoor
open Go.RowKit Go.Extern.Stop Go.Stop Go.Extern
open Go.RowKit
/-- errors' own variable -/
def GlsE (w:World):Prop:=w.cell? ⟨3,0,none⟩=some (.iface 126 (.agg #[.pointer (some ⟨9,30,none⟩)]))∧3 < w.heap.size
theorem rl_valueOf2 (t:Addr) (w:World):(ReflectliteValue.unpack (.iface 73 (.pointer (some t)))).run Tryz.prog w
  = .ok (.agg #[.pointer (some ⟨9,73,none⟩),.pointer (some ⟨w.heap.size,0,none⟩),.int .u64 150]) (w.alloc (.cells #[.pointer (some t)] 73)):=by kernel_rfl
theorem rl_type2 (a : Addr) (w : World) : (ReflectliteValue.methodAny (ReflectliteValue.valueError "reflectlite.Value.Type" 0) (fun t _ _ _ => ReflectliteType.toType t) #[.agg #[.pointer (some ⟨9, 73, none⟩), .pointer (some a), .int .u64 150]]).run Tryz.prog w
  = .ok (.iface 126 (.agg #[.pointer (some ⟨9,73,none⟩)])) w:=by kernel_rfl
theorem rl_methKind (h : Value) (w : World) : (Go.method 312 126 (.agg #[h]) "Kind").run Tryz.prog w = .ok (155, h) w := by kernel_rfl
theorem rl_methElem (h : Value) (w : World) : (Go.method 312 126 (.agg #[h]) "Elem").run Tryz.prog w = .ok (167, .agg #[h]) w := by kernel_rfl
theorem rl_methImpl (h : Value) (w : World) : (Go.method 312 126 (.agg #[h]) "Implements").run Tryz.prog w = .ok (168, .agg #[h]) w := by kernel_rfl
theorem rl_methAssign (h : Value) (w : World) : (Go.method 312 126 (.agg #[h]) "AssignableTo").run Tryz.prog w = .ok (165, .agg #[h]) w := by kernel_rfl
theorem rl_kind2 (w:World):((ReflectliteType.abiMethod fun t=>(fun a:Nat=>Value.int IntKind.u8 (a:Int)) <$> Rtype.kind t) #[.pointer (some ⟨9,73,none⟩)]).run Tryz.prog w=.ok (.int .u8 22) w:=by kernel_rfl
theorem rl_kind1 (w:World):((ReflectliteType.abiMethod fun t=>(fun a:Nat=>Value.int IntKind.u8 (a:Int)) <$> Rtype.kind t) #[.pointer (some ⟨9,71,none⟩)]).run Tryz.prog w=.ok (.int .u8 22) w:=by kernel_rfl
theorem rl_elem2 (w:World):(ReflectliteType.method ReflectliteType.elem #[.agg #[.pointer (some ⟨9,73,none⟩)]]).run Tryz.prog w=.ok (.iface 126 (.agg #[.pointer (some ⟨9,71,none⟩)])) w:=by kernel_rfl
theorem rl_impl1 (w : World) : (ReflectliteType.relation "Implements" ReflectliteType.implements_ #[.agg #[.pointer (some ⟨9, 71, none⟩)], .iface 126 (.agg #[.pointer (some ⟨9, 30, none⟩)])]).run Tryz.prog w = .ok (.bool true) w := by kernel_rfl
theorem rl_typeOfC (v:Value) (w:World):(ReflectliteType.typeOf #[.iface 33 v]).run Tryz.prog w=.ok (.iface 126 (.agg #[.pointer (some ⟨9,33,none⟩)])) w:=by kernel_rfl
theorem rl_assignC (w : World) : (ReflectliteType.relation "AssignableTo" ReflectliteType.assignableTo #[.agg #[.pointer (some ⟨9, 33, none⟩)], .iface 126 (.agg #[.pointer (some ⟨9, 71, none⟩)])]).run Tryz.prog w = .ok (.bool false) w := by kernel_rfl
theorem rl_valueOf1 (e:Addr) (w:World):(ReflectliteValue.unpack (.iface 71 (.pointer (some e)))).run Tryz.prog w
  = .ok (.agg #[.pointer (some ⟨9,71,none⟩),.pointer (some ⟨w.heap.size,0,none⟩),.int .u64 150]) (w.alloc (.cells #[.pointer (some e)] 71)):=by kernel_rfl
theorem rl_parts2 (a:Addr) (w:World):(ReflectliteValue.parts (.agg #[.pointer (some ⟨9,73,none⟩),.pointer (some a),.int .u64 150])).run Tryz.prog w=.ok (some (73,a,150)) w:=by kernel_rfl
theorem rl_method (z:Sem Value) (f:TypeId→Addr→Nat→Nat→Sem Value) (v:Value):ReflectliteValue.method z f #[v]=(do match ← ReflectliteValue.parts v with|none=>z|some (t,a,fl)=>f t a fl (fl % 32)):=rfl
theorem rl_isNil2 (a p:Addr) (W:World) (ha:W.cell? a=some (.pointer (some p))) :
  (ReflectliteValue.method (ReflectliteValue.valueError "reflectlite.Value.IsNil" 0) ReflectliteValue.isNil #[.agg #[.pointer (some ⟨9, 73, none⟩), .pointer (some a), .int .u64 150]]).run Tryz.prog W = .ok (.bool false) W := by
 rw [rl_method]
 simp only [Sem.run_bind,rl_parts2,Result.andThen]
 simp [ReflectliteValue.isNil,loadVar,isAgg,underlying,Tryz.underlying73,ha,Result.andThen]
theorem ta_AsC (v:Value) (xT:TypeId) (w:World):(Instr.typeAssert (.iface 33 v) xT 131 true).run Tryz.prog w=.ok (.tuple #[.nilIface,.bool false]) w:=run_typeAssert_lacksB Tryz.underlying131 (by kernel_rfl) (by kernel_rfl) v xT w
theorem ta_UnC (v:Value) (xT:TypeId) (w:World):(Instr.typeAssert (.iface 33 v) xT 134 true).run Tryz.prog w=.ok (.tuple #[.nilIface,.bool false]) w:=run_typeAssert_lacksB Tryz.underlying134 (by kernel_rfl) (by kernel_rfl) v xT w
theorem ta_UsC (v:Value) (xT:TypeId) (w:World):(Instr.typeAssert (.iface 33 v) xT 136 true).run Tryz.prog w=.ok (.tuple #[.nilIface,.bool false]) w:=run_typeAssert_lacksB Tryz.underlying136 (by kernel_rfl) (by kernel_rfl) v xT w
set_option maxRecDepth 100000 in
set_option maxHeartbeats 4000000 in
theorem as_miss {c:Int} {t:Addr} {w:World} (G:GlsE w) :
  Calls Tryz.prog 40 #[.iface 33 (.int .i64 c),.iface 73 (.pointer (some t))] w fun ev w'=>ev=.returned (.bool false)∧Below w.heap.size w w':=by
 obtain ⟨hg,hone⟩:=G
 have h6:=@run_callFunc_extern Tryz.prog 64 _ (fun args=>ReflectliteValue.unpack (args.getD 0 (.tuple #[]))) Tryz.func64 (by kernel_rfl) (by kernel_rfl) (by kernel_rfl) (by kernel_rfl)
 have h7 := @run_callFunc_extern Tryz.prog 65 _ (ReflectliteValue.methodAny (ReflectliteValue.valueError "reflectlite.Value.Type" 0) (fun t _ _ _ => ReflectliteType.toType t)) Tryz.func65 (by kernel_rfl) (by kernel_rfl) (by kernel_rfl) (by kernel_rfl)
 have h8 := @run_callFunc_extern Tryz.prog 66 _ (ReflectliteValue.method (ReflectliteValue.valueError "reflectlite.Value.IsNil" 0) ReflectliteValue.isNil) Tryz.func66 (by kernel_rfl) (by kernel_rfl) (by kernel_rfl) (by kernel_rfl)
 have h27:=@run_callFunc_extern Tryz.prog 155 _ (ReflectliteType.abiMethod fun t=>do pure (.int .u8 (← Rtype.kind t))) Tryz.func155 (by kernel_rfl) (by kernel_rfl) (by kernel_rfl) (by kernel_rfl)
 have h37:=@run_callFunc_extern Tryz.prog 167 _ (ReflectliteType.method ReflectliteType.elem) Tryz.func167 (by kernel_rfl) (by kernel_rfl) (by kernel_rfl) (by kernel_rfl)
 have h38 := @run_callFunc_extern Tryz.prog 168 _ (ReflectliteType.relation "Implements" ReflectliteType.implements_) Tryz.func168 (by kernel_rfl) (by kernel_rfl) (by kernel_rfl) (by kernel_rfl)
 have h10:=@run_callFunc_extern Tryz.prog 86 _ ReflectliteType.typeOf Tryz.func86 (by kernel_rfl) (by kernel_rfl) (by kernel_rfl) (by kernel_rfl)
 have h35 := @run_callFunc_extern Tryz.prog 165 _ (ReflectliteType.relation "AssignableTo" ReflectliteType.assignableTo) Tryz.func165 (by kernel_rfl) (by kernel_rfl) (by kernel_rfl) (by kernel_rfl)
 have h11 := @run_callFunc_extern Tryz.prog 87 _ (ReflectliteValue.method (ReflectliteValue.valueError "reflectlite.Value.Elem" 0) ReflectliteValue.elem) Tryz.func87 (by kernel_rfl) (by kernel_rfl) (by kernel_rfl) (by kernel_rfl)
 have h12:=@run_callFunc_extern Tryz.prog 88 _ ReflectliteValue.set Tryz.func88 (by kernel_rfl) (by kernel_rfl) (by kernel_rfl) (by kernel_rfl)
 have tO:=rl_typeOfC
 have mA:=rl_methAssign
 have a1:=rl_assignC
 have v1:=rl_valueOf1
 have f6:=rl_valueOf2
 have f7:=rl_type2
 have mK:=rl_methKind
 have mE:=rl_methElem
 have mI:=rl_methImpl
 have k2:=rl_kind2
 have k1:=rl_kind1
 have e2:=rl_elem2
 have i1:=rl_impl1
 have ta1:=ta_AsC
 have ta2:=ta_UnC
 have ta3:=ta_UsC
 have hlt:3 < w.heap.size:=by omega
 have A1:=Blk.new w [.pointer (some t)] 73 w.heap.size rfl
 have n8:=rl_isNil2 ⟨w.heap.size,0,none⟩ t ((w.alloc (.cells #[.pointer (some t)] 73)).alloc (.cells #[.pointer (some ⟨9,73,none⟩),.pointer (some ⟨w.heap.size,0,none⟩),.int .u64 150] 99)) ((A1.alloc _).cell 0 _ rfl)
 have hg2:((w.alloc (.cells #[.pointer (some t)] 73)).alloc (.cells #[.pointer (some ⟨9,73,none⟩),.pointer (some ⟨w.heap.size,0,none⟩),.int .u64 150] 99)).cell? ⟨3,0,none⟩=some (.iface 126 (.agg #[.pointer (some ⟨9,30,none⟩)])):=by
  rw [World.cell?_alloc_lt _ _ ⟨3,0,none⟩ (Nat.lt_of_lt_of_le hlt (by simp)),World.cell?_alloc_lt _ _ ⟨3,0,none⟩ hlt];exact hg
 have bel:Below w.heap.size w (((w.alloc (.cells #[.pointer (some t)] 73)).alloc (.cells #[.pointer (some ⟨9,73,none⟩),.pointer (some ⟨w.heap.size,0,none⟩),.int .u64 150] 99)).alloc (.cells #[.pointer (some ⟨9,73,none⟩),.pointer (some ⟨w.heap.size,0,none⟩),.int .u64 150] 99)):=(((Below.refl _ _).alloc (Nat.le_refl _) _).alloc (by simp) _).alloc (by simp;omega) _
 clear A1
 have HB:Hid _:=bel
 clear bel
 go_enter Tryz.func40,Tryz.ntmps40
 go_wp2
 refine wp_loop_rounds 1 ?_
 rw [rounds_succ]
 go_wp2
 go_ret
 exact ⟨rfl,HB.out⟩
theorem eq_code (c d:Int) (w:World):(binOp .eql 30 (.iface 33 (.int .i64 c)) (.iface 33 (.int .i64 d))).run Tryz.prog w=.ok (.bool (decide (c=d))) w:=by kernel_rfl
theorem eq_codenil (d:Int) (w:World):(binOp .eql 30 (.iface 33 (.int .i64 d)) .nilIface).run Tryz.prog w=.ok (.bool false) w:=by kernel_rfl
theorem GlsE.below {w w':World} (G:GlsE w) (hb:Below w.heap.size w w'):GlsE w':=⟨(hb.cell (p:=⟨3,0,none⟩) (by have:=G.2;show 3 < _;omega)).trans G.1,Nat.lt_of_lt_of_le G.2 hb.size⟩
theorem eq_nilcode (_:Int) (w:World):(binOp .eql 30 .nilIface .nilIface).run Tryz.prog w=.ok (.bool true) w:=by kernel_rfl
set_option maxRecDepth 100000 in
theorem con_CodeOf {c:Nat} {w:World} (h1:1≤c) (h2:c≤21) :
  Calls Tryz.prog 42 #[.iface 33 (.int .i64 (c:Int))] w fun ev w'=>ev=.returned (.int .i64 (c:Int))∧w'=w:=by
 have q:=eq_codenil
 go_enter Tryz.func42,Tryz.ntmps42
 go_wp2_with fail
 go_loop [3] (fun cv=>∃ k:Nat,1≤k∧k≤c∧cv=.int .i64 k) (fun cv=>22 - (intOf cv).toNat)
 case atStart=>exact ⟨1,by omega,h1,rfl⟩
 case round =>
  obtain ⟨k,k1,k2,rfl⟩:=hrel
  have g1:(k:Int)≤21:=by omega
  by_cases h:c=k
  ·have q4:∀ w:World,(binOp .eql 30 (.iface 33 (.int .i64 (c:Int))) (.iface 33 (.int .i64 (k:Int)))).run Tryz.prog w=.ok (.bool true) w:=fun w=>by rw [eq_code,decide_eq_true (by omega)]
   have HC:Hid (c=k):=h
   clear h
   go_wp2_with fail
   go_ret
   exact ⟨by rw [HC.out];rfl,rfl⟩
  ·have q4:∀ w:World,(binOp .eql 30 (.iface 33 (.int .i64 (c:Int))) (.iface 33 (.int .i64 (k:Int)))).run Tryz.prog w=.ok (.bool false) w:=fun w=>by rw [eq_code,decide_eq_false (by omega)]
   go_wp2_with fail
   go_round
   case rel=>exact ⟨k + 1,by omega,by omega,by go_num⟩
   case measure=>simp [intOf];omega
set_option maxRecDepth 100000 in
theorem con_SameNil {w:World} :
  Calls Tryz.prog 17 #[.nilIface,.nilIface] w fun ev w'=>ev=.returned (.bool true)∧w'=w:=by
 have q:=eq_nilcode 0
 go_enter Tryz.func17,Tryz.ntmps17
 go_wp2_with fail
 go_ret
 exact ⟨rfl,rfl⟩
set_option maxRecDepth 100000 in
theorem con_SameCode {c:Nat} {w:World} (G:GlsE w) (h1:1≤c) (h2:c≤21) :
  Calls Tryz.prog 17 #[.iface 33 (.int .i64 (c:Int)),.iface 33 (.int .i64 (c:Int))] w fun ev w'=>ev=.returned (.bool true)∧Below w.heap.size w w':=by
 have q:=eq_codenil
 have bel:Below w.heap.size w (w.alloc (.cells #[.pointer none] 71)):=(Below.refl _ _).alloc (Nat.le_refl _) _
 have G2:=G.below bel
 have g3:(0:Int) < (c:Int):=by omega
 go_enter Tryz.func17,Tryz.ntmps17
 go_upto_region 4 with fail
 generalize w.alloc (Obj.cells #[.pointer none] 71)=W at *
 go_wp2_with fail
 refine (as_miss G2).mono ?_
 rintro e w1 ⟨rfl,hb⟩
 replace bel:=below_step bel hb
 clear hb G2 G
 go_wp2_with fail
 refine (con_CodeOf h1 h2).mono ?_
 rintro e w2 ⟨rfl,hw⟩
 rw [hw]
 clear hw
 go_wp2_with fail
 refine (con_CodeOf h1 h2).mono ?_
 rintro e w2 ⟨rfl,hw⟩
 rw [hw]
 clear hw
 go_wp2_with fail
 refine (con_CodeOf h1 h2).mono ?_
 rintro e w2 ⟨rfl,hw⟩
 rw [hw]
 clear hw
 go_wp2_with fail
 go_ret
 exact ⟨by simp;omega,bel⟩
/-- the tables of field, curve and order -/
def GlsL (w:World):Prop:=GlsC w∧GlsO w
theorem GlsL.below {w w':World} (G:GlsL w) (hb:Below w.heap.size w w'):GlsL w':=⟨G.1.below hb,G.2.below hb⟩
theorem g_primeC : Tryz.prog.globalNamed "escutcheon/field.prime" = some 2 := by kernel_rfl
theorem g_squareC : Tryz.prog.globalNamed "escutcheon/field.squareOfR" = some 4 := by kernel_rfl
theorem g_constant : Tryz.prog.globalNamed "escutcheon/curve.constant" = some 0 := by kernel_rfl
theorem g_base : Tryz.prog.globalNamed "escutcheon/curve.base" = some 1 := by kernel_rfl
theorem t_primeC:(Tryz.prog.globals[2]?).map (·.type)=some 24:=by kernel_rfl
theorem t_squareC:(Tryz.prog.globals[4]?).map (·.type)=some 24:=by kernel_rfl
theorem t_constant:(Tryz.prog.globals[0]?).map (·.type)=some 24:=by kernel_rfl
theorem t_base:(Tryz.prog.globals[1]?).map (·.type)=some 26:=by kernel_rfl
theorem g_pointsL : Tryz.prog.globalNamed "escutcheon/order.points" = some 5 := by kernel_rfl
theorem g_squareL : Tryz.prog.globalNamed "escutcheon/order.squareOfR" = some 6 := by kernel_rfl
theorem t_pointsL:(Tryz.prog.globals[5]?).map (·.type)=some 24:=by kernel_rfl
theorem t_squareL:(Tryz.prog.globals[6]?).map (·.type)=some 24:=by kernel_rfl
theorem g_con : Tryz.prog.globalNamed "escutcheon/sha.constants" = some 8 := by kernel_rfl
theorem g_fir : Tryz.prog.globalNamed "escutcheon/sha.atFirst" = some 7 := by kernel_rfl
theorem t_con:(Tryz.prog.globals[8]?).map (·.type)=some 172:=by kernel_rfl
theorem t_fir:(Tryz.prog.globals[7]?).map (·.type)=some 145:=by kernel_rfl
theorem cells_80:Tryz.prog.cellsOf 172=80:=by kernel_rfl
theorem cells_8s:Tryz.prog.cellsOf 145=8:=by kernel_rfl
theorem cells_1s:Tryz.prog.cellsOf 22=1:=by kernel_rfl
theorem tabs_eciesBack {W : World} (h : laidMet Tryz.prog [("escutcheon/field.prime", Rows.laid_escutcheon_field_prime), ("escutcheon/field.squareOfR", Rows.laid_escutcheon_field_squareOfR), ("escutcheon/curve.constant", Rows.laid_escutcheon_curve_constant), ("escutcheon/curve.base", Rows.laid_escutcheon_curve_base), ("escutcheon/order.points", Rows.laid_escutcheon_order_points), ("escutcheon/order.squareOfR", Rows.laid_escutcheon_order_squareOfR), ("escutcheon/sha.constants", Rows.laid_escutcheon_sha_constants), ("escutcheon/sha.atFirst", Rows.laid_escutcheon_sha_atFirst)] W) : GlsX W := by
 have t0:=Lib.tabIs_of_head (k:=.u64) (zs:=[4294967295,18446744069414584320,18446744073709551614,18446744073709551615,18446744073709551615,18446744073709551615]) g_primeC t_primeC Tryz.underlying24 Tryz.underlying22 cells_u64 cells_u384 h
 have t1:=Lib.tabIs_of_head (k:=.u64) (zs:=[18446744065119617025,8589934592,18446744065119617024,8589934592,1,0]) g_squareC t_squareC Tryz.underlying24 Tryz.underlying22 cells_u64 cells_u384 h.tail
 have t2:=Lib.tabIs_of_head (k:=.u64) (zs:=[3064076045283764975,14291673747578343837,221811693264799578,1737717031765098770,10992729701402291481,12912154004749740004]) g_constant t_constant Tryz.underlying24 Tryz.underlying22 cells_u64 cells_u384 h.tail.tail
 have t3:=ptIs_of_head g_base t_base h.tail.tail.tail
 have t4:=Lib.tabIs_of_head (k:=.u64) (zs:=[17072048233947408755,6348401684107011962,14367412456785391071,18446744073709551615,18446744073709551615,18446744073709551615]) g_pointsL t_pointsL Tryz.underlying24 Tryz.underlying22 cells_u64 cells_u384 h.tail.tail.tail.tail
 have t5:=Lib.tabIs_of_head (k:=.u64) (zs:=[3256554584917936553,18391999277541532697,13564358545871743303,15279949475123764421,4589268600508278933,902107514168524577]) g_squareL t_squareL Tryz.underlying24 Tryz.underlying22 cells_u64 cells_u384 h.tail.tail.tail.tail.tail
 have t6:=Lib.tabIs_of_head (k:=.u64) (zs:=KS) g_con t_con Tryz.underlying172 Tryz.underlying22 cells_1s cells_80 h.tail.tail.tail.tail.tail.tail
 have t7:=Lib.tabIs_of_head (k:=.u64) (zs:=HS) g_fir t_fir Tryz.underlying145 Tryz.underlying22 cells_1s cells_8s h.tail.tail.tail.tail.tail.tail.tail
 exact ⟨⟨⟨⟨t0.cell g_primeC 0 (by decide),t0.cell g_primeC 1 (by decide),t0.cell g_primeC 2 (by decide),t0.cell g_primeC 3 (by decide),t0.cell g_primeC 4 (by decide),t0.cell g_primeC 5 (by decide)⟩,⟨t1.cell g_squareC 0 (by decide),t1.cell g_squareC 1 (by decide),t1.cell g_squareC 2 (by decide),t1.cell g_squareC 3 (by decide),t1.cell g_squareC 4 (by decide),t1.cell g_squareC 5 (by decide)⟩⟩,⟨t2.cell g_constant 0 (by decide),t2.cell g_constant 1 (by decide),t2.cell g_constant 2 (by decide),t2.cell g_constant 3 (by decide),t2.cell g_constant 4 (by decide),t2.cell g_constant 5 (by decide)⟩,t3⟩,⟨⟨t4.cell g_pointsL 0 (by decide),t4.cell g_pointsL 1 (by decide),t4.cell g_pointsL 2 (by decide),t4.cell g_pointsL 3 (by decide),t4.cell g_pointsL 4 (by decide),t4.cell g_pointsL 5 (by decide)⟩,⟨t5.cell g_squareL 0 (by decide),t5.cell g_squareL 1 (by decide),t5.cell g_squareL 2 (by decide),t5.cell g_squareL 3 (by decide),t5.cell g_squareL 4 (by decide),t5.cell g_squareL 5 (by decide)⟩⟩,⟨fun j hj=>t6.cell g_con j (by rw [show KS.length=80 from rfl];exact hj),fun j hj=>t7.cell g_fir j hj⟩⟩
theorem laidX_eciesBack {W : World} (h : laidMetH Tryz.prog [("escutcheon/field.prime", Rows.laid_escutcheon_field_prime), ("escutcheon/field.squareOfR", Rows.laid_escutcheon_field_squareOfR), ("escutcheon/curve.constant", Rows.laid_escutcheon_curve_constant), ("escutcheon/curve.base", Rows.laid_escutcheon_curve_base), ("escutcheon/order.points", Rows.laid_escutcheon_order_points), ("escutcheon/order.squareOfR", Rows.laid_escutcheon_order_squareOfR), ("escutcheon/sha.constants", Rows.laid_escutcheon_sha_constants), ("escutcheon/sha.atFirst", Rows.laid_escutcheon_sha_atFirst)] W) : laidMet Tryz.prog [("escutcheon/field.prime", Rows.laid_escutcheon_field_prime), ("escutcheon/field.squareOfR", Rows.laid_escutcheon_field_squareOfR), ("escutcheon/curve.constant", Rows.laid_escutcheon_curve_constant), ("escutcheon/curve.base", Rows.laid_escutcheon_curve_base), ("escutcheon/order.points", Rows.laid_escutcheon_order_points), ("escutcheon/order.squareOfR", Rows.laid_escutcheon_order_squareOfR), ("escutcheon/sha.constants", Rows.laid_escutcheon_sha_constants), ("escutcheon/sha.atFirst", Rows.laid_escutcheon_sha_atFirst)] W := by
 rw [MakeChecks.laidMetH_plain _ _ _ (by kernel_rfl)] at h
 exact h
theorem tabs_eciesUnwraps {W : World} (h : laidMet Tryz.prog [("escutcheon/field.prime", Rows.laid_escutcheon_field_prime), ("escutcheon/field.squareOfR", Rows.laid_escutcheon_field_squareOfR), ("escutcheon/curve.constant", Rows.laid_escutcheon_curve_constant), ("escutcheon/curve.base", Rows.laid_escutcheon_curve_base), ("escutcheon/order.points", Rows.laid_escutcheon_order_points), ("escutcheon/order.squareOfR", Rows.laid_escutcheon_order_squareOfR), ("escutcheon/sha.constants", Rows.laid_escutcheon_sha_constants), ("escutcheon/sha.atFirst", Rows.laid_escutcheon_sha_atFirst)] W) : GlsX W := by
 have t0:=Lib.tabIs_of_head (k:=.u64) (zs:=[4294967295,18446744069414584320,18446744073709551614,18446744073709551615,18446744073709551615,18446744073709551615]) g_primeC t_primeC Tryz.underlying24 Tryz.underlying22 cells_u64 cells_u384 h
 have t1:=Lib.tabIs_of_head (k:=.u64) (zs:=[18446744065119617025,8589934592,18446744065119617024,8589934592,1,0]) g_squareC t_squareC Tryz.underlying24 Tryz.underlying22 cells_u64 cells_u384 h.tail
 have t2:=Lib.tabIs_of_head (k:=.u64) (zs:=[3064076045283764975,14291673747578343837,221811693264799578,1737717031765098770,10992729701402291481,12912154004749740004]) g_constant t_constant Tryz.underlying24 Tryz.underlying22 cells_u64 cells_u384 h.tail.tail
 have t3:=ptIs_of_head g_base t_base h.tail.tail.tail
 have t4:=Lib.tabIs_of_head (k:=.u64) (zs:=[17072048233947408755,6348401684107011962,14367412456785391071,18446744073709551615,18446744073709551615,18446744073709551615]) g_pointsL t_pointsL Tryz.underlying24 Tryz.underlying22 cells_u64 cells_u384 h.tail.tail.tail.tail
 have t5:=Lib.tabIs_of_head (k:=.u64) (zs:=[3256554584917936553,18391999277541532697,13564358545871743303,15279949475123764421,4589268600508278933,902107514168524577]) g_squareL t_squareL Tryz.underlying24 Tryz.underlying22 cells_u64 cells_u384 h.tail.tail.tail.tail.tail
 have t6:=Lib.tabIs_of_head (k:=.u64) (zs:=KS) g_con t_con Tryz.underlying172 Tryz.underlying22 cells_1s cells_80 h.tail.tail.tail.tail.tail.tail
 have t7:=Lib.tabIs_of_head (k:=.u64) (zs:=HS) g_fir t_fir Tryz.underlying145 Tryz.underlying22 cells_1s cells_8s h.tail.tail.tail.tail.tail.tail.tail
 exact ⟨⟨⟨⟨t0.cell g_primeC 0 (by decide),t0.cell g_primeC 1 (by decide),t0.cell g_primeC 2 (by decide),t0.cell g_primeC 3 (by decide),t0.cell g_primeC 4 (by decide),t0.cell g_primeC 5 (by decide)⟩,⟨t1.cell g_squareC 0 (by decide),t1.cell g_squareC 1 (by decide),t1.cell g_squareC 2 (by decide),t1.cell g_squareC 3 (by decide),t1.cell g_squareC 4 (by decide),t1.cell g_squareC 5 (by decide)⟩⟩,⟨t2.cell g_constant 0 (by decide),t2.cell g_constant 1 (by decide),t2.cell g_constant 2 (by decide),t2.cell g_constant 3 (by decide),t2.cell g_constant 4 (by decide),t2.cell g_constant 5 (by decide)⟩,t3⟩,⟨⟨t4.cell g_pointsL 0 (by decide),t4.cell g_pointsL 1 (by decide),t4.cell g_pointsL 2 (by decide),t4.cell g_pointsL 3 (by decide),t4.cell g_pointsL 4 (by decide),t4.cell g_pointsL 5 (by decide)⟩,⟨t5.cell g_squareL 0 (by decide),t5.cell g_squareL 1 (by decide),t5.cell g_squareL 2 (by decide),t5.cell g_squareL 3 (by decide),t5.cell g_squareL 4 (by decide),t5.cell g_squareL 5 (by decide)⟩⟩,⟨fun j hj=>t6.cell g_con j (by rw [show KS.length=80 from rfl];exact hj),fun j hj=>t7.cell g_fir j hj⟩⟩
theorem laidX_eciesUnwraps {W : World} (h : laidMetH Tryz.prog [("errors.errorType", Rows.laid_errors_errorType), ("escutcheon/field.prime", Rows.laid_escutcheon_field_prime), ("escutcheon/field.squareOfR", Rows.laid_escutcheon_field_squareOfR), ("escutcheon/curve.constant", Rows.laid_escutcheon_curve_constant), ("escutcheon/curve.base", Rows.laid_escutcheon_curve_base), ("escutcheon/order.points", Rows.laid_escutcheon_order_points), ("escutcheon/order.squareOfR", Rows.laid_escutcheon_order_squareOfR), ("escutcheon/sha.constants", Rows.laid_escutcheon_sha_constants), ("escutcheon/sha.atFirst", Rows.laid_escutcheon_sha_atFirst)] W) : laidMet Tryz.prog [("escutcheon/field.prime", Rows.laid_escutcheon_field_prime), ("escutcheon/field.squareOfR", Rows.laid_escutcheon_field_squareOfR), ("escutcheon/curve.constant", Rows.laid_escutcheon_curve_constant), ("escutcheon/curve.base", Rows.laid_escutcheon_curve_base), ("escutcheon/order.points", Rows.laid_escutcheon_order_points), ("escutcheon/order.squareOfR", Rows.laid_escutcheon_order_squareOfR), ("escutcheon/sha.constants", Rows.laid_escutcheon_sha_constants), ("escutcheon/sha.atFirst", Rows.laid_escutcheon_sha_atFirst)] W := by
 have h' : laidMet Tryz.prog [("escutcheon/field.prime", Rows.laid_escutcheon_field_prime), ("escutcheon/field.squareOfR", Rows.laid_escutcheon_field_squareOfR), ("escutcheon/curve.constant", Rows.laid_escutcheon_curve_constant), ("escutcheon/curve.base", Rows.laid_escutcheon_curve_base), ("escutcheon/order.points", Rows.laid_escutcheon_order_points), ("escutcheon/order.squareOfR", Rows.laid_escutcheon_order_squareOfR), ("escutcheon/sha.constants", Rows.laid_escutcheon_sha_constants), ("escutcheon/sha.atFirst", Rows.laid_escutcheon_sha_atFirst)] W ∧ handlesMet Tryz.prog [("errors.errorType", Rows.laid_errors_errorType)] W := h
 exact h'.1
theorem et_eciesUnwraps_global : Tryz.prog.globalNamed "errors.errorType" = some 3 := by kernel_rfl
theorem et_eciesUnwraps_rt : (Tryz.prog.cutTypes.find? (·.1 == "internal/reflectlite.rtype")).map (·.2) = some 126 := by kernel_rfl
theorem et_eciesUnwraps_one:((List.range 212).filter fun t=>Tryz.prog.rowNamed t [101,114,114,111,114])=[30]:=by kernel_rfl
theorem et_eciesUnwraps_size:Tryz.prog.types.size=212:=by kernel_rfl
theorem errs_eciesUnwraps {W : World} (h : laidMetH Tryz.prog [("errors.errorType", Rows.laid_errors_errorType), ("escutcheon/field.prime", Rows.laid_escutcheon_field_prime), ("escutcheon/field.squareOfR", Rows.laid_escutcheon_field_squareOfR), ("escutcheon/curve.constant", Rows.laid_escutcheon_curve_constant), ("escutcheon/curve.base", Rows.laid_escutcheon_curve_base), ("escutcheon/order.points", Rows.laid_escutcheon_order_points), ("escutcheon/order.squareOfR", Rows.laid_escutcheon_order_squareOfR), ("escutcheon/sha.constants", Rows.laid_escutcheon_sha_constants), ("escutcheon/sha.atFirst", Rows.laid_escutcheon_sha_atFirst)] W) : GlsE W := by
 have h' : laidMet Tryz.prog [("escutcheon/field.prime", Rows.laid_escutcheon_field_prime), ("escutcheon/field.squareOfR", Rows.laid_escutcheon_field_squareOfR), ("escutcheon/curve.constant", Rows.laid_escutcheon_curve_constant), ("escutcheon/curve.base", Rows.laid_escutcheon_curve_base), ("escutcheon/order.points", Rows.laid_escutcheon_order_points), ("escutcheon/order.squareOfR", Rows.laid_escutcheon_order_squareOfR), ("escutcheon/sha.constants", Rows.laid_escutcheon_sha_constants), ("escutcheon/sha.atFirst", Rows.laid_escutcheon_sha_atFirst)] W ∧ handlesMet Tryz.prog [("errors.errorType", Rows.laid_errors_errorType)] W := h
 obtain ⟨name,u,ty,e1,e2,e3,e4,e5⟩:=h'.2 _ (List.mem_singleton.2 rfl)
 have en:name=[101,114,114,111,114]:=(Option.some.inj e1).symm
 subst en
 obtain rfl:=Option.some.inj (et_eciesUnwraps_rt.symm.trans e2)
 have hm:ty∈(List.range 212).filter fun t=>Tryz.prog.rowNamed t [101,114,114,111,114]:=List.mem_filter.2 ⟨List.mem_range.2 (by rw [← et_eciesUnwraps_size];exact e3),e4⟩
 rw [et_eciesUnwraps_one] at hm
 obtain rfl:=List.mem_singleton.1 hm
 have hh:typeHandle Tryz.prog 30=.pointer (some ⟨9,30,none⟩):=by kernel_rfl
 rw [hh] at e5
 have hc:W.cell? ⟨3,0,none⟩=some (.iface 126 (.agg #[.pointer (some ⟨9,30,none⟩)])):=by simpa using World.var?_cell et_eciesUnwraps_global e5 0
 refine ⟨hc,?_⟩
 by_cases hlt:3 < W.heap.size
 ·exact hlt
 ·have:W.heap[3]?=none:=Array.getElem?_eq_none (by omega)
  simp [World.cell?,this] at hc
end Go.Proofs.YtlkljfnenonfgaaGreatDoor
