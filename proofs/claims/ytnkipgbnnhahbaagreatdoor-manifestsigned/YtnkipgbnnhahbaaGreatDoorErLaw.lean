/- errors.As at a variable of *api.Spot; errors.Is of an error of api's. errors.As: a hit at a *api.Spot; a miss at an api.Code. errors.Is of a *api.Spot, of an api.Code. What the laws ask of errors: Is, Code. -/
import Derived.Test.YtnkipgbnnhahbaaGreatDoorNum
import Derived.Test.YtnkipgbnnhahbaaGreatDoorDrPar
import Derived.Test.YtnkipgbnnhahbaaGreatDoorRows
import Derived.LaidEql
import Derived.Stop.Asserts
import Derived.RowKitTokens
import Derived.Deep.WholeRow
import Derived.Deep.RegionHeld3
import Derived.Deep.DeepCutAuto
import Derived.Deep.DeepFit
namespace Go.Proofs.YtnkipgbnnhahbaaGreatDoor
open Go.RowKit Go.Extern.Stop Go.Stop Go.Extern
/-- errors' own variable -/
def GlsE (w:World):Prop:=w.cell? ⟨0,0,none⟩=some (.iface 153 (.agg #[.pointer (some ⟨2,30,none⟩)]))∧0 < w.heap.size
theorem rl_valueOf2 (t:Addr) (w:World):(ReflectliteValue.unpack (.iface 100 (.pointer (some t)))).run Tryz.prog w
  = .ok (.agg #[.pointer (some ⟨2,100,none⟩),.pointer (some ⟨w.heap.size,0,none⟩),.int .u64 150]) (w.alloc (.cells #[.pointer (some t)] 100)):=by kernel_rfl
theorem rl_type2 (a : Addr) (w : World) : (ReflectliteValue.methodAny (ReflectliteValue.valueError "reflectlite.Value.Type" 0) (fun t _ _ _ => ReflectliteType.toType t) #[.agg #[.pointer (some ⟨2, 100, none⟩), .pointer (some a), .int .u64 150]]).run Tryz.prog w
  = .ok (.iface 153 (.agg #[.pointer (some ⟨2,100,none⟩)])) w:=by kernel_rfl
theorem rl_methKind (h : Value) (w : World) : (Go.method 309 153 (.agg #[h]) "Kind").run Tryz.prog w = .ok (118, h) w := by kernel_rfl
theorem rl_methElem (h : Value) (w : World) : (Go.method 309 153 (.agg #[h]) "Elem").run Tryz.prog w = .ok (130, .agg #[h]) w := by kernel_rfl
theorem rl_methImpl (h : Value) (w : World) : (Go.method 309 153 (.agg #[h]) "Implements").run Tryz.prog w = .ok (131, .agg #[h]) w := by kernel_rfl
theorem rl_methAssign (h : Value) (w : World) : (Go.method 309 153 (.agg #[h]) "AssignableTo").run Tryz.prog w = .ok (128, .agg #[h]) w := by kernel_rfl
theorem rl_methComp (h : Value) (w : World) : (Go.method 309 153 (.agg #[h]) "Comparable").run Tryz.prog w = .ok (129, .agg #[h]) w := by kernel_rfl
theorem rl_kind2 (w:World):((ReflectliteType.abiMethod fun t=>(fun a:Nat=>Value.int IntKind.u8 (a:Int)) <$> Rtype.kind t) #[.pointer (some ⟨2,100,none⟩)]).run Tryz.prog w=.ok (.int .u8 22) w:=by kernel_rfl
theorem rl_kind1 (w:World):((ReflectliteType.abiMethod fun t=>(fun a:Nat=>Value.int IntKind.u8 (a:Int)) <$> Rtype.kind t) #[.pointer (some ⟨2,98,none⟩)]).run Tryz.prog w=.ok (.int .u8 22) w:=by kernel_rfl
theorem rl_elem2 (w:World):(ReflectliteType.method ReflectliteType.elem #[.agg #[.pointer (some ⟨2,100,none⟩)]]).run Tryz.prog w=.ok (.iface 153 (.agg #[.pointer (some ⟨2,98,none⟩)])) w:=by kernel_rfl
theorem rl_impl1 (w : World) : (ReflectliteType.relation "Implements" ReflectliteType.implements_ #[.agg #[.pointer (some ⟨2, 98, none⟩)], .iface 153 (.agg #[.pointer (some ⟨2, 30, none⟩)])]).run Tryz.prog w = .ok (.bool true) w := by kernel_rfl
theorem rl_typeOf1 (v:Value) (w:World):(ReflectliteType.typeOf #[.iface 98 v]).run Tryz.prog w=.ok (.iface 153 (.agg #[.pointer (some ⟨2,98,none⟩)])) w:=by kernel_rfl
theorem rl_typeOfC (v:Value) (w:World):(ReflectliteType.typeOf #[.iface 46 v]).run Tryz.prog w=.ok (.iface 153 (.agg #[.pointer (some ⟨2,46,none⟩)])) w:=by kernel_rfl
theorem rl_assign1 (w : World) : (ReflectliteType.relation "AssignableTo" ReflectliteType.assignableTo #[.agg #[.pointer (some ⟨2, 98, none⟩)], .iface 153 (.agg #[.pointer (some ⟨2, 98, none⟩)])]).run Tryz.prog w = .ok (.bool true) w := by kernel_rfl
theorem rl_valueOf1 (e:Addr) (w:World):(ReflectliteValue.unpack (.iface 98 (.pointer (some e)))).run Tryz.prog w
  = .ok (.agg #[.pointer (some ⟨2,98,none⟩),.pointer (some ⟨w.heap.size,0,none⟩),.int .u64 150]) (w.alloc (.cells #[.pointer (some e)] 98)):=by kernel_rfl
theorem rl_parts2 (a:Addr) (w:World):(ReflectliteValue.parts (.agg #[.pointer (some ⟨2,100,none⟩),.pointer (some a),.int .u64 150])).run Tryz.prog w=.ok (some (100,a,150)) w:=by kernel_rfl
theorem rl_parts1a (a:Addr) (w:World):(ReflectliteValue.parts (.agg #[.pointer (some ⟨2,98,none⟩),.pointer (some a),.int .u64 406])).run Tryz.prog w=.ok (some (98,a,406)) w:=by kernel_rfl
theorem rl_parts1 (a:Addr) (w:World):(ReflectliteValue.parts (.agg #[.pointer (some ⟨2,98,none⟩),.pointer (some a),.int .u64 150])).run Tryz.prog w=.ok (some (98,a,150)) w:=by kernel_rfl
theorem rl_method (z:Sem Value) (f:TypeId→Addr→Nat→Nat→Sem Value) (v:Value):ReflectliteValue.method z f #[v]=(do match ← ReflectliteValue.parts v with|none=>z|some (t,a,fl)=>f t a fl (fl % 32)):=rfl
theorem rl_isNil2 (a p:Addr) (W:World) (ha:W.cell? a=some (.pointer (some p))) :
  (ReflectliteValue.method (ReflectliteValue.valueError "reflectlite.Value.IsNil" 0) ReflectliteValue.isNil #[.agg #[.pointer (some ⟨2, 100, none⟩), .pointer (some a), .int .u64 150]]).run Tryz.prog W = .ok (.bool false) W := by
 rw [rl_method]
 simp only [Sem.run_bind,rl_parts2,Result.andThen]
 simp [ReflectliteValue.isNil,loadVar,isAgg,underlying,Tryz.underlying100,ha,Result.andThen]
theorem rl_elemOf2 (w:World):(Rtype.elem? 100).run Tryz.prog w=.ok (some 98) w:=by kernel_rfl
theorem rl_mk1 (p:Addr) (w:World):(ReflectliteValue.mk 98 p ReflectliteValue.flagAddr).run Tryz.prog w=.ok (.agg #[.pointer (some ⟨2,98,none⟩),.pointer (some p),.int .u64 406]) w:=by kernel_rfl
theorem rl_elemV2 (a p:Addr) (W:World) (ha:W.cell? a=some (.pointer (some p))) :
    (ReflectliteValue.method (ReflectliteValue.valueError "reflectlite.Value.Elem" 0) ReflectliteValue.elem #[.agg #[.pointer (some ⟨2, 100, none⟩), .pointer (some a), .int .u64 150]]).run Tryz.prog W
      = .ok (.agg #[.pointer (some ⟨2,98,none⟩),.pointer (some p),.int .u64 406]) W:=by
  rw [rl_method]
  simp only [Sem.run_bind,rl_parts2,Result.andThen]
  simp [ReflectliteValue.elem,loadVar,isAgg,underlying,Tryz.underlying100,ha,Result.andThen,rl_elemOf2,rl_mk1]
theorem rl_direct1 (w:World):(Rtype.directlyAssignable 98 98).run Tryz.prog w=.ok true w:=by kernel_rfl
theorem ta_UnC (v:Value) (xT:TypeId) (w:World):(Instr.typeAssert (.iface 46 v) xT 160 true).run Tryz.prog w=.ok (.tuple #[.nilIface,.bool false]) w:=run_typeAssert_lacksB Tryz.underlying160 (by kernel_rfl) (by kernel_rfl) v xT w
theorem ta_UnS (v:Value) (xT:TypeId) (w:World):(Instr.typeAssert (.iface 98 v) xT 160 true).run Tryz.prog w=.ok (.tuple #[.iface 98 v,.bool true]) w:=run_typeAssert_hasB Tryz.underlying160 (by kernel_rfl) v xT w
theorem ta_UsC (v:Value) (xT:TypeId) (w:World):(Instr.typeAssert (.iface 46 v) xT 162 true).run Tryz.prog w=.ok (.tuple #[.nilIface,.bool false]) w:=run_typeAssert_lacksB Tryz.underlying162 (by kernel_rfl) (by kernel_rfl) v xT w
theorem ta_IsC (v:Value) (xT:TypeId) (w:World):(Instr.typeAssert (.iface 46 v) xT 165 true).run Tryz.prog w=.ok (.tuple #[.nilIface,.bool false]) w:=run_typeAssert_lacksB Tryz.underlying165 (by kernel_rfl) (by kernel_rfl) v xT w
theorem ta_IsS (v:Value) (xT:TypeId) (w:World):(Instr.typeAssert (.iface 98 v) xT 165 true).run Tryz.prog w=.ok (.tuple #[.nilIface,.bool false]) w:=run_typeAssert_lacksB Tryz.underlying165 (by kernel_rfl) (by kernel_rfl) v xT w
theorem call_comp (w:World):(callFunc 129 #[.agg #[.pointer (some ⟨2,46,none⟩)]]).run Tryz.prog w=.ok (.value (.bool true)) w:=by kernel_rfl
theorem m_unwrap (v : Value) (w : World) : (Go.method 309 98 v "Unwrap").run Tryz.prog w = .ok (123, v) w := by kernel_rfl
theorem two_size (a b:Value):(#[a,b]:Array Value).size=2:=rfl
theorem rl_set1 (ta b e:Addr) (old:Value) (W:World) (hb:W.cell? b=some (.pointer (some e))) (ht:W.cell? ta=some old) (hf:W.frozen? ta=false) :
    (ReflectliteValue.set #[.agg #[.pointer (some ⟨2,98,none⟩),.pointer (some ta),.int .u64 406],.agg #[.pointer (some ⟨2,98,none⟩),.pointer (some b),.int .u64 150]]).run Tryz.prog W
      = .ok (.tuple #[]) (W.setCell ta (.pointer (some e))):=by
  delta ReflectliteValue.set
  delta ReflectliteValue.set.match_3
  simp only []
  rw [dif_pos (two_size _ _)]
  simp only [Array.getLit,List.getElem_toArray,List.getElem_cons_zero,List.getElem_cons_succ]
  simp only [Sem.run_bind,rl_parts1a,rl_parts1,Result.andThen]
  simp [ReflectliteValue.flagAddr,loadVar,isAgg,underlying,Tryz.underlying98,hb,Result.andThen,rl_direct1,storeVar,Value.cells,storeCells,Addr.add]
  rw [run_store Tryz.prog W ta _ _ (by rfl)]
  simp [ht,hf]
set_option maxRecDepth 100000 in
set_option maxHeartbeats 4000000 in
theorem as_hit {e t:Addr} {old:Value} {w:World} (G:GlsE w) (ht0:w.cell? t=some old) (hf0:w.frozen? t=false) :
  Calls Tryz.prog 48 #[.iface 98 (.pointer (some e)),.iface 100 (.pointer (some t))] w fun ev w'=>ev=.returned (.bool true)∧∃ W,w'=W.setCell t (.pointer (some e))∧Below w.heap.size w W:=by
 obtain ⟨hg,hone⟩:=G
 have h6:=@run_callFunc_extern Tryz.prog 75 _ (fun args=>ReflectliteValue.unpack (args.getD 0 (.tuple #[]))) Tryz.func75 (by kernel_rfl) (by kernel_rfl) (by kernel_rfl) (by kernel_rfl)
 have h7 := @run_callFunc_extern Tryz.prog 76 _ (ReflectliteValue.methodAny (ReflectliteValue.valueError "reflectlite.Value.Type" 0) (fun t _ _ _ => ReflectliteType.toType t)) Tryz.func76 (by kernel_rfl) (by kernel_rfl) (by kernel_rfl) (by kernel_rfl)
 have h8 := @run_callFunc_extern Tryz.prog 77 _ (ReflectliteValue.method (ReflectliteValue.valueError "reflectlite.Value.IsNil" 0) ReflectliteValue.isNil) Tryz.func77 (by kernel_rfl) (by kernel_rfl) (by kernel_rfl) (by kernel_rfl)
 have h27:=@run_callFunc_extern Tryz.prog 118 _ (ReflectliteType.abiMethod fun t=>do pure (.int .u8 (← Rtype.kind t))) Tryz.func118 (by kernel_rfl) (by kernel_rfl) (by kernel_rfl) (by kernel_rfl)
 have h37:=@run_callFunc_extern Tryz.prog 130 _ (ReflectliteType.method ReflectliteType.elem) Tryz.func130 (by kernel_rfl) (by kernel_rfl) (by kernel_rfl) (by kernel_rfl)
 have h38 := @run_callFunc_extern Tryz.prog 131 _ (ReflectliteType.relation "Implements" ReflectliteType.implements_) Tryz.func131 (by kernel_rfl) (by kernel_rfl) (by kernel_rfl) (by kernel_rfl)
 have h10:=@run_callFunc_extern Tryz.prog 79 _ ReflectliteType.typeOf Tryz.func79 (by kernel_rfl) (by kernel_rfl) (by kernel_rfl) (by kernel_rfl)
 have h35 := @run_callFunc_extern Tryz.prog 128 _ (ReflectliteType.relation "AssignableTo" ReflectliteType.assignableTo) Tryz.func128 (by kernel_rfl) (by kernel_rfl) (by kernel_rfl) (by kernel_rfl)
 have h11 := @run_callFunc_extern Tryz.prog 91 _ (ReflectliteValue.method (ReflectliteValue.valueError "reflectlite.Value.Elem" 0) ReflectliteValue.elem) Tryz.func91 (by kernel_rfl) (by kernel_rfl) (by kernel_rfl) (by kernel_rfl)
 have h12:=@run_callFunc_extern Tryz.prog 92 _ ReflectliteValue.set Tryz.func92 (by kernel_rfl) (by kernel_rfl) (by kernel_rfl) (by kernel_rfl)
 have tO:=rl_typeOf1
 have mA:=rl_methAssign
 have a1:=rl_assign1
 have v1:=rl_valueOf1
 have f6:=rl_valueOf2
 have f7:=rl_type2
 have mK:=rl_methKind
 have mE:=rl_methElem
 have mI:=rl_methImpl
 have k2:=rl_kind2
 have k1:=rl_kind1
 have e2:=rl_elem2
 have i1:=rl_impl1
 have hlt:0 < w.heap.size:=by omega
 have htl:t.block < w.heap.size:=World.block_lt_of_cell? w _ ht0
 have A1:=Blk.new w [.pointer (some t)] 100 w.heap.size rfl
 have n8:=rl_isNil2 ⟨w.heap.size,0,none⟩ t ((w.alloc (.cells #[.pointer (some t)] 100)).alloc (.cells #[.pointer (some ⟨2,100,none⟩),.pointer (some ⟨w.heap.size,0,none⟩),.int .u64 150] 132)) ((A1.alloc _).cell 0 _ rfl)
 have hg2:((w.alloc (.cells #[.pointer (some t)] 100)).alloc (.cells #[.pointer (some ⟨2,100,none⟩),.pointer (some ⟨w.heap.size,0,none⟩),.int .u64 150] 132)).cell? ⟨0,0,none⟩=some (.iface 153 (.agg #[.pointer (some ⟨2,30,none⟩)])):=by
  rw [World.cell?_alloc_lt _ _ ⟨0,0,none⟩ (Nat.lt_of_lt_of_le hlt (by simp)),World.cell?_alloc_lt _ _ ⟨0,0,none⟩ hlt];exact hg
 have el:=rl_elemV2 ⟨w.heap.size,0,none⟩ t (((w.alloc (.cells #[.pointer (some t)] 100)).alloc (.cells #[.pointer (some ⟨2,100,none⟩),.pointer (some ⟨w.heap.size,0,none⟩),.int .u64 150] 132)).alloc (.cells #[.pointer (some ⟨2,100,none⟩),.pointer (some ⟨w.heap.size,0,none⟩),.int .u64 150] 132)) (((A1.alloc _).alloc _).cell 0 _ rfl)
 have D1:=Blk.new (((w.alloc (.cells #[.pointer (some t)] 100)).alloc (.cells #[.pointer (some ⟨2,100,none⟩),.pointer (some ⟨w.heap.size,0,none⟩),.int .u64 150] 132)).alloc (.cells #[.pointer (some ⟨2,100,none⟩),.pointer (some ⟨w.heap.size,0,none⟩),.int .u64 150] 132)) [.pointer (some e)] 98 (w.heap.size + 1 + 1 + 1) (by simp)
 have bel:Below w.heap.size w ((((w.alloc (.cells #[.pointer (some t)] 100)).alloc (.cells #[.pointer (some ⟨2,100,none⟩),.pointer (some ⟨w.heap.size,0,none⟩),.int .u64 150] 132)).alloc (.cells #[.pointer (some ⟨2,100,none⟩),.pointer (some ⟨w.heap.size,0,none⟩),.int .u64 150] 132)).alloc (.cells #[.pointer (some e)] 98)):=((((Below.refl _ _).alloc (Nat.le_refl _) _).alloc (by simp) _).alloc (by simp;omega) _).alloc (by simp;omega) _
 have st:=rl_set1 t ⟨w.heap.size + 1 + 1 + 1,0,none⟩ e old ((((w.alloc (.cells #[.pointer (some t)] 100)).alloc (.cells #[.pointer (some ⟨2,100,none⟩),.pointer (some ⟨w.heap.size,0,none⟩),.int .u64 150] 132)).alloc (.cells #[.pointer (some ⟨2,100,none⟩),.pointer (some ⟨w.heap.size,0,none⟩),.int .u64 150] 132)).alloc (.cells #[.pointer (some e)] 98))
  (D1.cell 0 _ rfl) ((bel.cell htl).trans ht0) ((bel.frozen htl).trans hf0)
 clear A1 D1
 have HB:Hid _:=bel
 clear bel
 go_enter Tryz.func48,Tryz.ntmps48
 go_wp2
 refine wp_loop_rounds 1 ?_
 rw [rounds_succ]
 go_wp2
 go_ret
 exact ⟨rfl,_,rfl,HB.out⟩
theorem eq_code (c d:Int) (w:World):(binOp .eql 30 (.iface 46 (.int .i64 c)) (.iface 46 (.int .i64 d))).run Tryz.prog w=.ok (.bool (decide (c=d))) w:=by kernel_rfl
theorem eq_spotcode (a:Addr) (d:Int) (w:World):(binOp .eql 30 (.iface 98 (.pointer (some a))) (.iface 46 (.int .i64 d))).run Tryz.prog w=.ok (.bool false) w:=by kernel_rfl
theorem eq_spotnil (a:Addr) (w:World):(binOp .eql 30 (.iface 98 (.pointer (some a))) .nilIface).run Tryz.prog w=.ok (.bool false) w:=by kernel_rfl
theorem eq_codenil (d:Int) (w:World):(binOp .eql 30 (.iface 46 (.int .i64 d)) .nilIface).run Tryz.prog w=.ok (.bool false) w:=by kernel_rfl
set_option maxRecDepth 100000 in
set_option maxHeartbeats 4000000 in
theorem is_spot {g:Nat} {At c d:Int} {w:World} (B:Blk w g [.int .i64 At,.iface 46 (.int .i64 c)]) :
  Calls Tryz.prog 49 #[.iface 98 (.pointer (some ⟨g,0,none⟩)),.iface 46 (.int .i64 d)] w fun ev w'=>ev=.returned (.bool (decide (c=d)))∧w'=w:=by
 have h10:=@run_callFunc_extern Tryz.prog 79 _ ReflectliteType.typeOf Tryz.func79 (by kernel_rfl) (by kernel_rfl) (by kernel_rfl) (by kernel_rfl)
 have tO:=rl_typeOfC
 have mC:=rl_methComp
 have cC:=call_comp
 have q1:=eq_spotcode
 have q2:=eq_spotnil
 have q3:=eq_codenil
 have t1:=ta_IsS
 have t2:=ta_UnS
 have t3:=ta_IsC
 have t4:=ta_UnC
 have t5:=ta_UsC
 have mU:=m_unwrap
 have c1:=B.cell 1 _ rfl
 have lt:=B.lt
 by_cases h:c=d
 ·have q4:∀ w:World,(binOp .eql 30 (.iface 46 (.int .i64 c)) (.iface 46 (.int .i64 d))).run Tryz.prog w=.ok (.bool true) w:=fun w=>by rw [eq_code,decide_eq_true h]
  rw [decide_eq_true h]
  clear h
  go_enter Tryz.func49,Tryz.ntmps49
  go_wp2
  refine wp_loop_rounds 2 ?_
  rw [rounds_succ]
  go_wp2
  rw [rounds_succ]
  go_wp2
  go_ret
  exact ⟨rfl,rfl⟩
 ·have q4:∀ w:World,(binOp .eql 30 (.iface 46 (.int .i64 c)) (.iface 46 (.int .i64 d))).run Tryz.prog w=.ok (.bool false) w:=fun w=>by rw [eq_code,decide_eq_false h]
  rw [decide_eq_false h]
  clear h
  go_enter Tryz.func49,Tryz.ntmps49
  go_wp2
  refine wp_loop_rounds 2 ?_
  rw [rounds_succ]
  go_wp2
  rw [rounds_succ]
  go_wp2
  go_ret
  exact ⟨rfl,rfl⟩
theorem ne_spot (a:Addr) (w:World):(binOp .neq 30 (.iface 98 (.pointer (some a))) (.iface 98 (.pointer (some a)))).run Tryz.prog w=.ok (.bool false) w:=by
 have c1:(Tryz.prog.info? 98).map (·.comparable)=some true:=by kernel_rfl
 have c2:(Tryz.prog.info? 103).isSome=true:=by kernel_rfl
 obtain ⟨i,hi,e1⟩:=Option.map_eq_some_iff.1 c1
 obtain ⟨j,hj⟩:=Option.isSome_iff_exists.1 c2
 simp only [binOp]
 simp [Op.equal,Op.maxDepth,run_equalIn_iface_ptr_same w 9998 a Tryz.underlying30 Tryz.underlying98 hi e1 hj]
set_option maxRecDepth 100000 in
set_option maxHeartbeats 4000000 in
theorem con_IsSpot {g:Nat} {At c d at_:Int} {w:World} (G:GlsE w) (B:Blk w g [.int .i64 At,.iface 46 (.int .i64 c)]) :
  Calls Tryz.prog 24 #[.iface 98 (.pointer (some ⟨g,0,none⟩)),.int .i64 at_,.int .i64 d] w fun ev w'=>ev=.returned (.bool (decide (c=d) && decide (At=at_)))∧Below w.heap.size w w':=by
 have T0:=Blk.new w [.pointer none] 98 w.heap.size rfl
 have bel:Below w.heap.size w (w.alloc (.cells #[.pointer none] 98)):=(Below.refl _ _).alloc (Nat.le_refl _) _
 have lg:=B.lt
 replace B:=B.alloc (.cells #[.pointer none] 98)
 have G2:GlsE (w.alloc (.cells #[.pointer none] 98)):=⟨(bel.cell (p:=⟨0,0,none⟩) (by have:=G.2;show 0 < _;omega)).trans G.1,Nat.lt_of_lt_of_le G.2 bel.size⟩
 go_enter Tryz.func24,Tryz.ntmps24
 go_upto_region 2 with fail
 generalize w.alloc (Obj.cells #[.pointer none] 98)=W at *
 go_wp2_with fail
 refine (as_hit G2 (T0.cell 0 _ rfl) (T0.frozen 0)).mono ?_
 rintro e w1 ⟨rfl,W1,rfl,hb⟩
 replace T0:=(T0.later hb).set 0 (.pointer (some ⟨g,0,none⟩))
 replace B:=(B.later hb).other ⟨w.heap.size,0,none⟩ (.pointer (some ⟨g,0,none⟩)) (by show g≠w.heap.size;omega)
 replace bel:=(bel.trans (hb.mono bel.size)).setCell (p:=⟨w.heap.size,0,none⟩) (Nat.le_refl _) (.pointer (some ⟨g,0,none⟩))
 clear hb G2 G
 generalize W1.setCell ⟨w.heap.size,0,none⟩ (.pointer (some ⟨g,0,none⟩))=W2 at *
 have t0:=T0.cell 0 _ rfl
 have lt:=T0.lt
 have q1:=ne_spot
 go_wp2_with fail
 refine (is_spot (d:=d) B).mono ?_
 rintro e w3 ⟨rfl,rfl⟩
 have c0:=B.cell 0 _ rfl
 have c1:=B.cell 1 _ rfl
 have lb:=B.lt
 by_cases h:c=d
 ·have q4:∀ w:World,(binOp .eql 30 (.iface 46 (.int .i64 c)) (.iface 46 (.int .i64 d))).run Tryz.prog w=.ok (.bool true) w:=fun w=>by rw [eq_code,decide_eq_true h]
  rw [decide_eq_true h]
  have HC:Hid (c=d):=h
  clear h
  by_cases h2:At=at_
  ·have H2:Hid (At=at_):=h2
   go_wp2_with fail
   go_ret
   exact ⟨by rw [decide_eq_true HC.out,decide_eq_true H2.out];rfl,bel⟩
  ·have H2:Hid (¬ At=at_):=h2
   go_wp2_with fail
   go_ret
   exact ⟨by rw [decide_eq_false H2.out,Bool.and_false];rfl,bel⟩
 ·rw [decide_eq_false h]
  have HC:Hid (¬ c=d):=h
  clear h
  go_wp2_with fail
  go_ret
  exact ⟨by rw [decide_eq_false HC.out,Bool.false_and];rfl,bel⟩
theorem GlsE.below {w w':World} (G:GlsE w) (hb:Below w.heap.size w w'):GlsE w':=⟨(hb.cell (p:=⟨0,0,none⟩) (by have:=G.2;show 0 < _;omega)).trans G.1,Nat.lt_of_lt_of_le G.2 hb.size⟩
theorem eq_nilcode (_:Int) (w:World):(binOp .eql 30 .nilIface .nilIface).run Tryz.prog w=.ok (.bool true) w:=by kernel_rfl
set_option maxRecDepth 100000 in
theorem con_CodeNil {w:World} :
  Calls Tryz.prog 23 #[.nilIface] w fun ev w'=>ev=.returned (.int .i64 0)∧w'=w:=by
 have q:=eq_nilcode 0
 go_enter Tryz.func23,Tryz.ntmps23
 go_wp2_with fail
 go_ret
 exact ⟨rfl,rfl⟩
set_option maxRecDepth 100000 in
theorem con_CodeOf {c:Nat} {w:World} (h1:1≤c) (h2:c≤21) :
  Calls Tryz.prog 23 #[.iface 46 (.int .i64 (c:Int))] w fun ev w'=>ev=.returned (.int .i64 (c:Int))∧w'=w:=by
 have q:=eq_codenil
 go_enter Tryz.func23,Tryz.ntmps23
 go_wp2_with fail
 go_loop [3] (fun cv=>∃ k:Nat,1≤k∧k≤c∧cv=.int .i64 k) (fun cv=>22 - (intOf cv).toNat)
 case atStart=>exact ⟨1,by omega,h1,rfl⟩
 case round =>
  obtain ⟨k,k1,k2,rfl⟩:=hrel
  have g1:(k:Int)≤21:=by omega
  by_cases h:c=k
  ·have q4:∀ w:World,(binOp .eql 30 (.iface 46 (.int .i64 (c:Int))) (.iface 46 (.int .i64 (k:Int)))).run Tryz.prog w=.ok (.bool true) w:=fun w=>by rw [eq_code,decide_eq_true (by omega)]
   have HC:Hid (c=k):=h
   clear h
   go_wp2_with fail
   go_ret
   exact ⟨by rw [HC.out];rfl,rfl⟩
  ·have q4:∀ w:World,(binOp .eql 30 (.iface 46 (.int .i64 (c:Int))) (.iface 46 (.int .i64 (k:Int)))).run Tryz.prog w=.ok (.bool false) w:=fun w=>by rw [eq_code,decide_eq_false (by omega)]
   go_wp2_with fail
   go_round
   case rel=>exact ⟨k + 1,by omega,by omega,by go_num⟩
   case measure=>simp [intOf];omega
end Go.Proofs.YtnkipgbnnhahbaaGreatDoor
