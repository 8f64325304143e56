/- errors.As at a variable of *api.Spot; errors.Is of an error of api's. -/
import Derived.Test.YtnkipgbnnhahbaaDoorBase
import Derived.Test.YtnkipgbnnhahbaaDoorRows
import Derived.LaidEql
import Derived.Stop.Asserts
import Derived.RowKitTokens
namespace Go.Proofs.YtnkipgbnnhahbaaDoor
open Go.RowKit Go.Extern.Stop Go.Stop Go.Extern
/-- errors' own variable -/
def GlsE (w:World):Prop:=w.cell? ⟨0,0,none⟩=some (.iface 100 (.agg #[.pointer (some ⟨1,27,none⟩)]))∧0 < w.heap.size
theorem rl_valueOf2 (t:Addr) (w:World):(ReflectliteValue.unpack (.iface 68 (.pointer (some t)))).run Tryd.prog w
  = .ok (.agg #[.pointer (some ⟨1,68,none⟩),.pointer (some ⟨w.heap.size,0,none⟩),.int .u64 150]) (w.alloc (.cells #[.pointer (some t)] 68)):=by kernel_rfl
theorem rl_type2 (a : Addr) (w : World) : (ReflectliteValue.methodAny (ReflectliteValue.valueError "reflectlite.Value.Type" 0) (fun t _ _ _ => ReflectliteType.toType t) #[.agg #[.pointer (some ⟨1, 68, none⟩), .pointer (some a), .int .u64 150]]).run Tryd.prog w
  = .ok (.iface 100 (.agg #[.pointer (some ⟨1,68,none⟩)])) w:=by kernel_rfl
theorem rl_methKind (h : Value) (w : World) : (Go.method 245 100 (.agg #[h]) "Kind").run Tryd.prog w = .ok (59, h) w := by kernel_rfl
theorem rl_methElem (h : Value) (w : World) : (Go.method 245 100 (.agg #[h]) "Elem").run Tryd.prog w = .ok (71, .agg #[h]) w := by kernel_rfl
theorem rl_methImpl (h : Value) (w : World) : (Go.method 245 100 (.agg #[h]) "Implements").run Tryd.prog w = .ok (72, .agg #[h]) w := by kernel_rfl
theorem rl_methAssign (h : Value) (w : World) : (Go.method 245 100 (.agg #[h]) "AssignableTo").run Tryd.prog w = .ok (69, .agg #[h]) w := by kernel_rfl
theorem rl_methComp (h : Value) (w : World) : (Go.method 245 100 (.agg #[h]) "Comparable").run Tryd.prog w = .ok (70, .agg #[h]) w := by kernel_rfl
theorem rl_kind2 (w:World):((ReflectliteType.abiMethod fun t=>(fun a:Nat=>Value.int IntKind.u8 (a:Int)) <$> Rtype.kind t) #[.pointer (some ⟨1,68,none⟩)]).run Tryd.prog w=.ok (.int .u8 22) w:=by kernel_rfl
theorem rl_kind1 (w:World):((ReflectliteType.abiMethod fun t=>(fun a:Nat=>Value.int IntKind.u8 (a:Int)) <$> Rtype.kind t) #[.pointer (some ⟨1,66,none⟩)]).run Tryd.prog w=.ok (.int .u8 22) w:=by kernel_rfl
theorem rl_elem2 (w:World):(ReflectliteType.method ReflectliteType.elem #[.agg #[.pointer (some ⟨1,68,none⟩)]]).run Tryd.prog w=.ok (.iface 100 (.agg #[.pointer (some ⟨1,66,none⟩)])) w:=by kernel_rfl
theorem rl_impl1 (w : World) : (ReflectliteType.relation "Implements" ReflectliteType.implements_ #[.agg #[.pointer (some ⟨1, 66, none⟩)], .iface 100 (.agg #[.pointer (some ⟨1, 27, none⟩)])]).run Tryd.prog w = .ok (.bool true) w := by kernel_rfl
theorem rl_typeOf1 (v:Value) (w:World):(ReflectliteType.typeOf #[.iface 66 v]).run Tryd.prog w=.ok (.iface 100 (.agg #[.pointer (some ⟨1,66,none⟩)])) w:=by kernel_rfl
theorem rl_typeOfC (v:Value) (w:World):(ReflectliteType.typeOf #[.iface 39 v]).run Tryd.prog w=.ok (.iface 100 (.agg #[.pointer (some ⟨1,39,none⟩)])) w:=by kernel_rfl
theorem rl_assign1 (w : World) : (ReflectliteType.relation "AssignableTo" ReflectliteType.assignableTo #[.agg #[.pointer (some ⟨1, 66, none⟩)], .iface 100 (.agg #[.pointer (some ⟨1, 66, none⟩)])]).run Tryd.prog w = .ok (.bool true) w := by kernel_rfl
theorem rl_valueOf1 (e:Addr) (w:World):(ReflectliteValue.unpack (.iface 66 (.pointer (some e)))).run Tryd.prog w
  = .ok (.agg #[.pointer (some ⟨1,66,none⟩),.pointer (some ⟨w.heap.size,0,none⟩),.int .u64 150]) (w.alloc (.cells #[.pointer (some e)] 66)):=by kernel_rfl
theorem rl_parts2 (a:Addr) (w:World):(ReflectliteValue.parts (.agg #[.pointer (some ⟨1,68,none⟩),.pointer (some a),.int .u64 150])).run Tryd.prog w=.ok (some (68,a,150)) w:=by kernel_rfl
theorem rl_parts1a (a:Addr) (w:World):(ReflectliteValue.parts (.agg #[.pointer (some ⟨1,66,none⟩),.pointer (some a),.int .u64 406])).run Tryd.prog w=.ok (some (66,a,406)) w:=by kernel_rfl
theorem rl_parts1 (a:Addr) (w:World):(ReflectliteValue.parts (.agg #[.pointer (some ⟨1,66,none⟩),.pointer (some a),.int .u64 150])).run Tryd.prog w=.ok (some (66,a,150)) w:=by kernel_rfl
theorem rl_method (z:Sem Value) (f:TypeId→Addr→Nat→Nat→Sem Value) (v:Value):ReflectliteValue.method z f #[v]=(do match ← ReflectliteValue.parts v with|none=>z|some (t,a,fl)=>f t a fl (fl % 32)):=rfl
theorem rl_isNil2 (a p:Addr) (W:World) (ha:W.cell? a=some (.pointer (some p))) :
  (ReflectliteValue.method (ReflectliteValue.valueError "reflectlite.Value.IsNil" 0) ReflectliteValue.isNil #[.agg #[.pointer (some ⟨1, 68, none⟩), .pointer (some a), .int .u64 150]]).run Tryd.prog W = .ok (.bool false) W := by
 rw [rl_method]
 simp only [Sem.run_bind,rl_parts2,Result.andThen]
 simp [ReflectliteValue.isNil,loadVar,isAgg,underlying,Tryd.underlying68,ha,Result.andThen]
theorem rl_elemOf2 (w:World):(Rtype.elem? 68).run Tryd.prog w=.ok (some 66) w:=by kernel_rfl
theorem rl_mk1 (p:Addr) (w:World):(ReflectliteValue.mk 66 p ReflectliteValue.flagAddr).run Tryd.prog w=.ok (.agg #[.pointer (some ⟨1,66,none⟩),.pointer (some p),.int .u64 406]) w:=by kernel_rfl
theorem rl_elemV2 (a p:Addr) (W:World) (ha:W.cell? a=some (.pointer (some p))) :
    (ReflectliteValue.method (ReflectliteValue.valueError "reflectlite.Value.Elem" 0) ReflectliteValue.elem #[.agg #[.pointer (some ⟨1, 68, none⟩), .pointer (some a), .int .u64 150]]).run Tryd.prog W
      = .ok (.agg #[.pointer (some ⟨1,66,none⟩),.pointer (some p),.int .u64 406]) W:=by
  rw [rl_method]
  simp only [Sem.run_bind,rl_parts2,Result.andThen]
  simp [ReflectliteValue.elem,loadVar,isAgg,underlying,Tryd.underlying68,ha,Result.andThen,rl_elemOf2,rl_mk1]
theorem rl_direct1 (w:World):(Rtype.directlyAssignable 66 66).run Tryd.prog w=.ok true w:=by kernel_rfl
theorem ta_UnC (v:Value) (xT:TypeId) (w:World):(Instr.typeAssert (.iface 39 v) xT 107 true).run Tryd.prog w=.ok (.tuple #[.nilIface,.bool false]) w:=run_typeAssert_lacksB Tryd.underlying107 (by kernel_rfl) (by kernel_rfl) v xT w
theorem ta_UnS (v:Value) (xT:TypeId) (w:World):(Instr.typeAssert (.iface 66 v) xT 107 true).run Tryd.prog w=.ok (.tuple #[.iface 66 v,.bool true]) w:=run_typeAssert_hasB Tryd.underlying107 (by kernel_rfl) v xT w
theorem ta_UsC (v:Value) (xT:TypeId) (w:World):(Instr.typeAssert (.iface 39 v) xT 109 true).run Tryd.prog w=.ok (.tuple #[.nilIface,.bool false]) w:=run_typeAssert_lacksB Tryd.underlying109 (by kernel_rfl) (by kernel_rfl) v xT w
theorem ta_IsC (v:Value) (xT:TypeId) (w:World):(Instr.typeAssert (.iface 39 v) xT 112 true).run Tryd.prog w=.ok (.tuple #[.nilIface,.bool false]) w:=run_typeAssert_lacksB Tryd.underlying112 (by kernel_rfl) (by kernel_rfl) v xT w
theorem ta_IsS (v:Value) (xT:TypeId) (w:World):(Instr.typeAssert (.iface 66 v) xT 112 true).run Tryd.prog w=.ok (.tuple #[.nilIface,.bool false]) w:=run_typeAssert_lacksB Tryd.underlying112 (by kernel_rfl) (by kernel_rfl) v xT w
theorem call_comp (w:World):(callFunc 70 #[.agg #[.pointer (some ⟨1,39,none⟩)]]).run Tryd.prog w=.ok (.value (.bool true)) w:=by kernel_rfl
theorem m_unwrap (v : Value) (w : World) : (Go.method 245 66 v "Unwrap").run Tryd.prog w = .ok (64, v) w := by kernel_rfl
theorem two_size (a b:Value):(#[a,b]:Array Value).size=2:=rfl
theorem rl_set1 (ta b e:Addr) (old:Value) (W:World) (hb:W.cell? b=some (.pointer (some e))) (ht:W.cell? ta=some old) (hf:W.frozen? ta=false) :
    (ReflectliteValue.set #[.agg #[.pointer (some ⟨1,66,none⟩),.pointer (some ta),.int .u64 406],.agg #[.pointer (some ⟨1,66,none⟩),.pointer (some b),.int .u64 150]]).run Tryd.prog W
      = .ok (.tuple #[]) (W.setCell ta (.pointer (some e))):=by
  delta ReflectliteValue.set
  delta ReflectliteValue.set.match_3
  simp only []
  rw [dif_pos (two_size _ _)]
  simp only [Array.getLit,List.getElem_toArray,List.getElem_cons_zero,List.getElem_cons_succ]
  simp only [Sem.run_bind,rl_parts1a,rl_parts1,Result.andThen]
  simp [ReflectliteValue.flagAddr,loadVar,isAgg,underlying,Tryd.underlying66,hb,Result.andThen,rl_direct1,storeVar,Value.cells,storeCells,Addr.add]
  rw [run_store Tryd.prog W ta _ _ (by rfl)]
  simp [ht,hf]
end Go.Proofs.YtnkipgbnnhahbaaDoor
