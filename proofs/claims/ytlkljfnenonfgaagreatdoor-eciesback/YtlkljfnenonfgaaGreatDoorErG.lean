/- errors.As at a variable of *api.Spot; errors.Is of an error of api's. errors.As: a hit at a *api.Spot; a miss at an api.Code. errors.As: a hit at a *api.Spot; a miss at an api.Code. errors.Is of a *api.Spot, of an api.Code. What the laws ask of errors: Is, Code. -/
import Derived.Test.YtlkljfnenonfgaaGreatDoorBase
import Derived.Test.YtlkljfnenonfgaaGreatDoorRows
import Derived.LaidEql
import Derived.Stop.Asserts
import Derived.RowKitTokens
import Derived.Deep.WholeRow
import Derived.Deep.RegionHeld3
import Derived.Deep.DeepCutAuto
import Derived.Deep.DeepFit
namespace Go.Proofs.YtlkljfnenonfgaaGreatDoor
open Go.RowKit Go.Extern.Stop Go.Stop Go.Extern
/-- errors' own variable -/
def GlsE (w:World):Prop:=w.cell? ⟨3,0,none⟩=some (.iface 126 (.agg #[.pointer (some ⟨9,30,none⟩)]))∧3 < w.heap.size
theorem rl_valueOf2 (t:Addr) (w:World):(ReflectliteValue.unpack (.iface 73 (.pointer (some t)))).run Tryz.prog w
  = .ok (.agg #[.pointer (some ⟨9,73,none⟩),.pointer (some ⟨w.heap.size,0,none⟩),.int .u64 150]) (w.alloc (.cells #[.pointer (some t)] 73)):=by kernel_rfl
theorem rl_type2 (a : Addr) (w : World) : (ReflectliteValue.methodAny (ReflectliteValue.valueError "reflectlite.Value.Type" 0) (fun t _ _ _ => ReflectliteType.toType t) #[.agg #[.pointer (some ⟨9, 73, none⟩), .pointer (some a), .int .u64 150]]).run Tryz.prog w
  = .ok (.iface 126 (.agg #[.pointer (some ⟨9,73,none⟩)])) w:=by kernel_rfl
theorem rl_methKind (h : Value) (w : World) : (Go.method 312 126 (.agg #[h]) "Kind").run Tryz.prog w = .ok (155, h) w := by kernel_rfl
theorem rl_methElem (h : Value) (w : World) : (Go.method 312 126 (.agg #[h]) "Elem").run Tryz.prog w = .ok (167, .agg #[h]) w := by kernel_rfl
theorem rl_methImpl (h : Value) (w : World) : (Go.method 312 126 (.agg #[h]) "Implements").run Tryz.prog w = .ok (168, .agg #[h]) w := by kernel_rfl
theorem rl_methAssign (h : Value) (w : World) : (Go.method 312 126 (.agg #[h]) "AssignableTo").run Tryz.prog w = .ok (165, .agg #[h]) w := by kernel_rfl
theorem rl_kind2 (w:World):((ReflectliteType.abiMethod fun t=>(fun a:Nat=>Value.int IntKind.u8 (a:Int)) <$> Rtype.kind t) #[.pointer (some ⟨9,73,none⟩)]).run Tryz.prog w=.ok (.int .u8 22) w:=by kernel_rfl
theorem rl_kind1 (w:World):((ReflectliteType.abiMethod fun t=>(fun a:Nat=>Value.int IntKind.u8 (a:Int)) <$> Rtype.kind t) #[.pointer (some ⟨9,71,none⟩)]).run Tryz.prog w=.ok (.int .u8 22) w:=by kernel_rfl
theorem rl_elem2 (w:World):(ReflectliteType.method ReflectliteType.elem #[.agg #[.pointer (some ⟨9,73,none⟩)]]).run Tryz.prog w=.ok (.iface 126 (.agg #[.pointer (some ⟨9,71,none⟩)])) w:=by kernel_rfl
theorem rl_impl1 (w : World) : (ReflectliteType.relation "Implements" ReflectliteType.implements_ #[.agg #[.pointer (some ⟨9, 71, none⟩)], .iface 126 (.agg #[.pointer (some ⟨9, 30, none⟩)])]).run Tryz.prog w = .ok (.bool true) w := by kernel_rfl
theorem rl_typeOfC (v:Value) (w:World):(ReflectliteType.typeOf #[.iface 33 v]).run Tryz.prog w=.ok (.iface 126 (.agg #[.pointer (some ⟨9,33,none⟩)])) w:=by kernel_rfl
theorem rl_assignC (w : World) : (ReflectliteType.relation "AssignableTo" ReflectliteType.assignableTo #[.agg #[.pointer (some ⟨9, 33, none⟩)], .iface 126 (.agg #[.pointer (some ⟨9, 71, none⟩)])]).run Tryz.prog w = .ok (.bool false) w := by kernel_rfl
theorem rl_valueOf1 (e:Addr) (w:World):(ReflectliteValue.unpack (.iface 71 (.pointer (some e)))).run Tryz.prog w
  = .ok (.agg #[.pointer (some ⟨9,71,none⟩),.pointer (some ⟨w.heap.size,0,none⟩),.int .u64 150]) (w.alloc (.cells #[.pointer (some e)] 71)):=by kernel_rfl
theorem rl_parts2 (a:Addr) (w:World):(ReflectliteValue.parts (.agg #[.pointer (some ⟨9,73,none⟩),.pointer (some a),.int .u64 150])).run Tryz.prog w=.ok (some (73,a,150)) w:=by kernel_rfl
theorem rl_method (z:Sem Value) (f:TypeId→Addr→Nat→Nat→Sem Value) (v:Value):ReflectliteValue.method z f #[v]=(do match ← ReflectliteValue.parts v with|none=>z|some (t,a,fl)=>f t a fl (fl % 32)):=rfl
theorem rl_isNil2 (a p:Addr) (W:World) (ha:W.cell? a=some (.pointer (some p))) :
  (ReflectliteValue.method (ReflectliteValue.valueError "reflectlite.Value.IsNil" 0) ReflectliteValue.isNil #[.agg #[.pointer (some ⟨9, 73, none⟩), .pointer (some a), .int .u64 150]]).run Tryz.prog W = .ok (.bool false) W := by
 rw [rl_method]
 simp only [Sem.run_bind,rl_parts2,Result.andThen]
 simp [ReflectliteValue.isNil,loadVar,isAgg,underlying,Tryz.underlying73,ha,Result.andThen]
theorem ta_AsC (v:Value) (xT:TypeId) (w:World):(Instr.typeAssert (.iface 33 v) xT 131 true).run Tryz.prog w=.ok (.tuple #[.nilIface,.bool false]) w:=run_typeAssert_lacksB Tryz.underlying131 (by kernel_rfl) (by kernel_rfl) v xT w
theorem ta_UnC (v:Value) (xT:TypeId) (w:World):(Instr.typeAssert (.iface 33 v) xT 134 true).run Tryz.prog w=.ok (.tuple #[.nilIface,.bool false]) w:=run_typeAssert_lacksB Tryz.underlying134 (by kernel_rfl) (by kernel_rfl) v xT w
theorem ta_UsC (v:Value) (xT:TypeId) (w:World):(Instr.typeAssert (.iface 33 v) xT 136 true).run Tryz.prog w=.ok (.tuple #[.nilIface,.bool false]) w:=run_typeAssert_lacksB Tryz.underlying136 (by kernel_rfl) (by kernel_rfl) v xT w
set_option maxRecDepth 100000 in
set_option maxHeartbeats 4000000 in
theorem as_miss {c:Int} {t:Addr} {w:World} (G:GlsE w) :
  Calls Tryz.prog 40 #[.iface 33 (.int .i64 c),.iface 73 (.pointer (some t))] w fun ev w'=>ev=.returned (.bool false)∧Below w.heap.size w w':=by
 obtain ⟨hg,hone⟩:=G
 have h6:=@run_callFunc_extern Tryz.prog 64 _ (fun args=>ReflectliteValue.unpack (args.getD 0 (.tuple #[]))) Tryz.func64 (by kernel_rfl) (by kernel_rfl) (by kernel_rfl) (by kernel_rfl)
 have h7 := @run_callFunc_extern Tryz.prog 65 _ (ReflectliteValue.methodAny (ReflectliteValue.valueError "reflectlite.Value.Type" 0) (fun t _ _ _ => ReflectliteType.toType t)) Tryz.func65 (by kernel_rfl) (by kernel_rfl) (by kernel_rfl) (by kernel_rfl)
 have h8 := @run_callFunc_extern Tryz.prog 66 _ (ReflectliteValue.method (ReflectliteValue.valueError "reflectlite.Value.IsNil" 0) ReflectliteValue.isNil) Tryz.func66 (by kernel_rfl) (by kernel_rfl) (by kernel_rfl) (by kernel_rfl)
 have h27:=@run_callFunc_extern Tryz.prog 155 _ (ReflectliteType.abiMethod fun t=>do pure (.int .u8 (← Rtype.kind t))) Tryz.func155 (by kernel_rfl) (by kernel_rfl) (by kernel_rfl) (by kernel_rfl)
 have h37:=@run_callFunc_extern Tryz.prog 167 _ (ReflectliteType.method ReflectliteType.elem) Tryz.func167 (by kernel_rfl) (by kernel_rfl) (by kernel_rfl) (by kernel_rfl)
 have h38 := @run_callFunc_extern Tryz.prog 168 _ (ReflectliteType.relation "Implements" ReflectliteType.implements_) Tryz.func168 (by kernel_rfl) (by kernel_rfl) (by kernel_rfl) (by kernel_rfl)
 have h10:=@run_callFunc_extern Tryz.prog 86 _ ReflectliteType.typeOf Tryz.func86 (by kernel_rfl) (by kernel_rfl) (by kernel_rfl) (by kernel_rfl)
 have h35 := @run_callFunc_extern Tryz.prog 165 _ (ReflectliteType.relation "AssignableTo" ReflectliteType.assignableTo) Tryz.func165 (by kernel_rfl) (by kernel_rfl) (by kernel_rfl) (by kernel_rfl)
 have h11 := @run_callFunc_extern Tryz.prog 87 _ (ReflectliteValue.method (ReflectliteValue.valueError "reflectlite.Value.Elem" 0) ReflectliteValue.elem) Tryz.func87 (by kernel_rfl) (by kernel_rfl) (by kernel_rfl) (by kernel_rfl)
 have h12:=@run_callFunc_extern Tryz.prog 88 _ ReflectliteValue.set Tryz.func88 (by kernel_rfl) (by kernel_rfl) (by kernel_rfl) (by kernel_rfl)
 have tO:=rl_typeOfC
 have mA:=rl_methAssign
 have a1:=rl_assignC
 have v1:=rl_valueOf1
 have f6:=rl_valueOf2
 have f7:=rl_type2
 have mK:=rl_methKind
 have mE:=rl_methElem
 have mI:=rl_methImpl
 have k2:=rl_kind2
 have k1:=rl_kind1
 have e2:=rl_elem2
 have i1:=rl_impl1
 have ta1:=ta_AsC
 have ta2:=ta_UnC
 have ta3:=ta_UsC
 have hlt:3 < w.heap.size:=by omega
 have A1:=Blk.new w [.pointer (some t)] 73 w.heap.size rfl
 have n8:=rl_isNil2 ⟨w.heap.size,0,none⟩ t ((w.alloc (.cells #[.pointer (some t)] 73)).alloc (.cells #[.pointer (some ⟨9,73,none⟩),.pointer (some ⟨w.heap.size,0,none⟩),.int .u64 150] 99)) ((A1.alloc _).cell 0 _ rfl)
 have hg2:((w.alloc (.cells #[.pointer (some t)] 73)).alloc (.cells #[.pointer (some ⟨9,73,none⟩),.pointer (some ⟨w.heap.size,0,none⟩),.int .u64 150] 99)).cell? ⟨3,0,none⟩=some (.iface 126 (.agg #[.pointer (some ⟨9,30,none⟩)])):=by
  rw [World.cell?_alloc_lt _ _ ⟨3,0,none⟩ (Nat.lt_of_lt_of_le hlt (by simp)),World.cell?_alloc_lt _ _ ⟨3,0,none⟩ hlt];exact hg
 have bel:Below w.heap.size w (((w.alloc (.cells #[.pointer (some t)] 73)).alloc (.cells #[.pointer (some ⟨9,73,none⟩),.pointer (some ⟨w.heap.size,0,none⟩),.int .u64 150] 99)).alloc (.cells #[.pointer (some ⟨9,73,none⟩),.pointer (some ⟨w.heap.size,0,none⟩),.int .u64 150] 99)):=(((Below.refl _ _).alloc (Nat.le_refl _) _).alloc (by simp) _).alloc (by simp;omega) _
 clear A1
 have HB:Hid _:=bel
 clear bel
 go_enter Tryz.func40,Tryz.ntmps40
 go_wp2
 refine wp_loop_rounds 1 ?_
 rw [rounds_succ]
 go_wp2
 go_ret
 exact ⟨rfl,HB.out⟩
theorem eq_code (c d:Int) (w:World):(binOp .eql 30 (.iface 33 (.int .i64 c)) (.iface 33 (.int .i64 d))).run Tryz.prog w=.ok (.bool (decide (c=d))) w:=by kernel_rfl
theorem eq_codenil (d:Int) (w:World):(binOp .eql 30 (.iface 33 (.int .i64 d)) .nilIface).run Tryz.prog w=.ok (.bool false) w:=by kernel_rfl
theorem GlsE.below {w w':World} (G:GlsE w) (hb:Below w.heap.size w w'):GlsE w':=⟨(hb.cell (p:=⟨3,0,none⟩) (by have:=G.2;show 3 < _;omega)).trans G.1,Nat.lt_of_lt_of_le G.2 hb.size⟩
theorem eq_nilcode (_:Int) (w:World):(binOp .eql 30 .nilIface .nilIface).run Tryz.prog w=.ok (.bool true) w:=by kernel_rfl
set_option maxRecDepth 100000 in
theorem con_CodeOf {c:Nat} {w:World} (h1:1≤c) (h2:c≤21) :
  Calls Tryz.prog 42 #[.iface 33 (.int .i64 (c:Int))] w fun ev w'=>ev=.returned (.int .i64 (c:Int))∧w'=w:=by
 have q:=eq_codenil
 go_enter Tryz.func42,Tryz.ntmps42
 go_wp2_with fail
 go_loop [3] (fun cv=>∃ k:Nat,1≤k∧k≤c∧cv=.int .i64 k) (fun cv=>22 - (intOf cv).toNat)
 case atStart=>exact ⟨1,by omega,h1,rfl⟩
 case round =>
  obtain ⟨k,k1,k2,rfl⟩:=hrel
  have g1:(k:Int)≤21:=by omega
  by_cases h:c=k
  ·have q4:∀ w:World,(binOp .eql 30 (.iface 33 (.int .i64 (c:Int))) (.iface 33 (.int .i64 (k:Int)))).run Tryz.prog w=.ok (.bool true) w:=fun w=>by rw [eq_code,decide_eq_true (by omega)]
   have HC:Hid (c=k):=h
   clear h
   go_wp2_with fail
   go_ret
   exact ⟨by rw [HC.out];rfl,rfl⟩
  ·have q4:∀ w:World,(binOp .eql 30 (.iface 33 (.int .i64 (c:Int))) (.iface 33 (.int .i64 (k:Int)))).run Tryz.prog w=.ok (.bool false) w:=fun w=>by rw [eq_code,decide_eq_false (by omega)]
   go_wp2_with fail
   go_round
   case rel=>exact ⟨k + 1,by omega,by omega,by go_num⟩
   case measure=>simp [intOf];omega
end Go.Proofs.YtlkljfnenonfgaaGreatDoor
