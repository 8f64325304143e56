import Derived.Test.YtohcdbifhnfcbaaGreatDoorBase
import Derived.Test.YtohcdbifhnfcbaaGreatDoorRows
import Derived.LaidEql
import Derived.Stop.Asserts
import Derived.RowKitTokens
import Derived.Deep.WholeRow
import Derived.Deep.RegionHeld3
import Derived.Deep.DeepCutAuto
import Derived.Deep.DeepFit
namespace Go.Proofs.YtohcdbifhnfcbaaGreatDoor
open Go.RowKit Go.Extern.Stop Go.Stop Go.Extern
set_option linter.unusedSimpArgs false
set_option maxRecDepth 100000
set_option maxHeartbeats 4000000
def ZjW (w:World):Prop:=w.cell? ⟨0,0,none⟩=some (.iface 191 (.agg #[.pointer (some ⟨2,35,none⟩)]))∧0<w.heap.size
theorem ZiS (t:Addr) (w:World):(ReflectliteValue.unpack (.iface 101 (.pointer (some t)))).run Tryz.prog w
  = .ok (.agg #[.pointer (some ⟨2,101,none⟩),.pointer (some ⟨w.heap.size,0,none⟩),.int .u64 150]) (w.alloc (.cells #[.pointer (some t)] 101)):=by kernel_rfl
theorem Zpm (a : Addr) (w : World) : (ReflectliteValue.methodAny (ReflectliteValue.valueError "reflectlite.Value.Type" 0) (fun t _ _ _ => ReflectliteType.toType t) #[.agg #[.pointer (some ⟨2, 101, none⟩), .pointer (some a), .int .u64 150]]).run Tryz.prog w
  = .ok (.iface 191 (.agg #[.pointer (some ⟨2,101,none⟩)])) w:=by kernel_rfl
theorem ZiQ (h : Value) (w : World) : (Go.method 375 191 (.agg #[h]) "Kind").run Tryz.prog w = .ok (180, h) w := by kernel_rfl
theorem ZiO (h : Value) (w : World) : (Go.method 375 191 (.agg #[h]) "Elem").run Tryz.prog w = .ok (192, .agg #[h]) w := by kernel_rfl
theorem ZiP (h : Value) (w : World) : (Go.method 375 191 (.agg #[h]) "Implements").run Tryz.prog w = .ok (193, .agg #[h]) w := by kernel_rfl
theorem Zg9 (h : Value) (w : World) : (Go.method 375 191 (.agg #[h]) "AssignableTo").run Tryz.prog w = .ok (190, .agg #[h]) w := by kernel_rfl
theorem ZiN (h : Value) (w : World) : (Go.method 375 191 (.agg #[h]) "Comparable").run Tryz.prog w = .ok (191, .agg #[h]) w := by kernel_rfl
theorem Zpl (w:World):((ReflectliteType.abiMethod fun t=>(fun a:Nat=>Value.int IntKind.u8 (a:Int)) <$> Rtype.kind t) #[.pointer (some ⟨2,101,none⟩)]).run Tryz.prog w=.ok (.int .u8 22) w:=by kernel_rfl
theorem Zpk (w:World):((ReflectliteType.abiMethod fun t=>(fun a:Nat=>Value.int IntKind.u8 (a:Int)) <$> Rtype.kind t) #[.pointer (some ⟨2,99,none⟩)]).run Tryz.prog w=.ok (.int .u8 22) w:=by kernel_rfl
theorem Zpi (w:World):(ReflectliteType.method ReflectliteType.elem #[.agg #[.pointer (some ⟨2,101,none⟩)]]).run Tryz.prog w=.ok (.iface 191 (.agg #[.pointer (some ⟨2,99,none⟩)])) w:=by kernel_rfl
theorem Zpj (w : World) : (ReflectliteType.relation "Implements" ReflectliteType.implements_ #[.agg #[.pointer (some ⟨2, 99, none⟩)], .iface 191 (.agg #[.pointer (some ⟨2, 35, none⟩)])]).run Tryz.prog w = .ok (.bool true) w := by kernel_rfl
theorem ZkY (v:Value) (w:World):(ReflectliteType.typeOf #[.iface 99 v]).run Tryz.prog w=.ok (.iface 191 (.agg #[.pointer (some ⟨2,99,none⟩)])) w:=by kernel_rfl
theorem ZkZ (v:Value) (w:World):(ReflectliteType.typeOf #[.iface 46 v]).run Tryz.prog w=.ok (.iface 191 (.agg #[.pointer (some ⟨2,46,none⟩)])) w:=by kernel_rfl
theorem ZkU (w : World) : (ReflectliteType.relation "AssignableTo" ReflectliteType.assignableTo #[.agg #[.pointer (some ⟨2, 99, none⟩)], .iface 191 (.agg #[.pointer (some ⟨2, 99, none⟩)])]).run Tryz.prog w = .ok (.bool true) w := by kernel_rfl
theorem ZiR (e:Addr) (w:World):(ReflectliteValue.unpack (.iface 99 (.pointer (some e)))).run Tryz.prog w
  = .ok (.agg #[.pointer (some ⟨2,99,none⟩),.pointer (some ⟨w.heap.size,0,none⟩),.int .u64 150]) (w.alloc (.cells #[.pointer (some e)] 99)):=by kernel_rfl
theorem Zh8 (a:Addr) (w:World):(ReflectliteValue.parts (.agg #[.pointer (some ⟨2,101,none⟩),.pointer (some a),.int .u64 150])).run Tryz.prog w=.ok (some (101,a,150)) w:=by kernel_rfl
theorem ZkX (a:Addr) (w:World):(ReflectliteValue.parts (.agg #[.pointer (some ⟨2,99,none⟩),.pointer (some a),.int .u64 406])).run Tryz.prog w=.ok (some (99,a,406)) w:=by kernel_rfl
theorem Zm1 (a:Addr) (w:World):(ReflectliteValue.parts (.agg #[.pointer (some ⟨2,99,none⟩),.pointer (some a),.int .u64 150])).run Tryz.prog w=.ok (some (99,a,150)) w:=by kernel_rfl
theorem Zh7 (z:Sem Value) (f:TypeId→Addr→Nat→Nat→Sem Value) (v:Value):ReflectliteValue.method z f #[v]=(do match ← ReflectliteValue.parts v with|none=>z|some (t,a,fl)=>f t a fl (fl%32)):=rfl
theorem Zm0 (a p:Addr) (W:World) (ha:W.cell? a=some (.pointer (some p))) :
  (ReflectliteValue.method (ReflectliteValue.valueError "reflectlite.Value.IsNil" 0) ReflectliteValue.isNil #[.agg #[.pointer (some ⟨2, 101, none⟩), .pointer (some a), .int .u64 150]]).run Tryz.prog W = .ok (.bool false) W := by
 rw[Zh7];simp only[Sem.run_bind,Zh8,Result.andThen];simp[ReflectliteValue.isNil,loadVar,isAgg,underlying,Tryz.underlying101,ha,Result.andThen]
theorem ZkW (w:World):(Rtype.elem? 101).run Tryz.prog w=.ok (some 99) w:=by kernel_rfl
theorem rl_mk1 (p:Addr) (w:World):(ReflectliteValue.mk 99 p ReflectliteValue.flagAddr).run Tryz.prog w=.ok (.agg #[.pointer (some ⟨2,99,none⟩),.pointer (some p),.int .u64 406]) w:=by kernel_rfl
theorem ZmZ (a p:Addr) (W:World) (ha:W.cell? a=some (.pointer (some p))) :
    (ReflectliteValue.method (ReflectliteValue.valueError "reflectlite.Value.Elem" 0) ReflectliteValue.elem #[.agg #[.pointer (some ⟨2, 101, none⟩), .pointer (some a), .int .u64 150]]).run Tryz.prog W
      = .ok (.agg #[.pointer (some ⟨2,99,none⟩),.pointer (some p),.int .u64 406]) W:=by
  rw[Zh7];simp only[Sem.run_bind,Zh8,Result.andThen];simp[ReflectliteValue.elem,loadVar,isAgg,underlying,Tryz.underlying101,ha,Result.andThen,ZkW,rl_mk1]
theorem ZkV (w:World):(Rtype.directlyAssignable 99 99).run Tryz.prog w=.ok true w:=by kernel_rfl
theorem ta_UnC (v:Value) (xT:TypeId) (w:World):(Instr.typeAssert (.iface 46 v) xT 198 true).run Tryz.prog w=.ok (.tuple #[.nilIface,.bool false]) w:=run_typeAssert_lacksB Tryz.underlying198 (by kernel_rfl) (by kernel_rfl) v xT w
theorem ta_UnS (v:Value) (xT:TypeId) (w:World):(Instr.typeAssert (.iface 99 v) xT 198 true).run Tryz.prog w=.ok (.tuple #[.iface 99 v,.bool true]) w:=run_typeAssert_hasB Tryz.underlying198 (by kernel_rfl) v xT w
theorem ta_UsC (v:Value) (xT:TypeId) (w:World):(Instr.typeAssert (.iface 46 v) xT 200 true).run Tryz.prog w=.ok (.tuple #[.nilIface,.bool false]) w:=run_typeAssert_lacksB Tryz.underlying200 (by kernel_rfl) (by kernel_rfl) v xT w
theorem ta_IsC (v:Value) (xT:TypeId) (w:World):(Instr.typeAssert (.iface 46 v) xT 203 true).run Tryz.prog w=.ok (.tuple #[.nilIface,.bool false]) w:=run_typeAssert_lacksB Tryz.underlying203 (by kernel_rfl) (by kernel_rfl) v xT w
theorem ta_IsS (v:Value) (xT:TypeId) (w:World):(Instr.typeAssert (.iface 99 v) xT 203 true).run Tryz.prog w=.ok (.tuple #[.nilIface,.bool false]) w:=run_typeAssert_lacksB Tryz.underlying203 (by kernel_rfl) (by kernel_rfl) v xT w
theorem ZlI (w:World):(callFunc 191 #[.agg #[.pointer (some ⟨2,46,none⟩)]]).run Tryz.prog w=.ok (.value (.bool true)) w:=by kernel_rfl
theorem ZoH (v : Value) (w : World) : (Go.method 375 99 v "Unwrap").run Tryz.prog w = .ok (185, v) w := by kernel_rfl
theorem ZpJ (a b:Value):(#[a,b]:Array Value).size=2:=rfl
theorem Zq6 (ta b e:Addr) (old:Value) (W:World) (hb:W.cell? b=some (.pointer (some e))) (ht:W.cell? ta=some old) (hf:W.frozen? ta=false) :
    (ReflectliteValue.set #[.agg #[.pointer (some ⟨2,99,none⟩),.pointer (some ta),.int .u64 406],.agg #[.pointer (some ⟨2,99,none⟩),.pointer (some b),.int .u64 150]]).run Tryz.prog W
      = .ok (.tuple #[]) (W.setCell ta (.pointer (some e))):=by
  delta ReflectliteValue.set
  delta ReflectliteValue.set.match_3
  simp only[];rw[dif_pos (ZpJ _ _)];simp only[Array.getLit,List.getElem_toArray,List.getElem_cons_zero,List.getElem_cons_succ];simp only[Sem.run_bind,ZkX,Zm1,Result.andThen];simp[ReflectliteValue.flagAddr,loadVar,isAgg,underlying,Tryz.underlying99,hb,Result.andThen,ZkV,storeVar,Value.cells,storeCells,Addr.add];rw[run_store Tryz.prog W ta _ _ (by rfl)];simp[ht,hf]
theorem as_hit {e t:Addr} {old:Value} {w:World} (G:ZjW w) (ht0:w.cell? t=some old) (hf0:w.frozen? t=false) :
  Calls Tryz.prog 48 #[.iface 99 (.pointer (some e)),.iface 101 (.pointer (some t))] w fun ev w'=>ev=.returned (.bool true)∧∃ W,w'=W.setCell t (.pointer (some e))∧Below w.heap.size w W:=by
 obtain ⟨hg,hone⟩:=G;have h6:=@run_callFunc_extern Tryz.prog 85 _ (fun args=>ReflectliteValue.unpack (args.getD 0 (.tuple #[]))) Tryz.func85 (by kernel_rfl) (by kernel_rfl) (by kernel_rfl) (by kernel_rfl);have h7 := @run_callFunc_extern Tryz.prog 86 _ (ReflectliteValue.methodAny (ReflectliteValue.valueError "reflectlite.Value.Type" 0) (fun t _ _ _ => ReflectliteType.toType t)) Tryz.func86 (by kernel_rfl) (by kernel_rfl) (by kernel_rfl) (by kernel_rfl)
 have h8 := @run_callFunc_extern Tryz.prog 87 _ (ReflectliteValue.method (ReflectliteValue.valueError "reflectlite.Value.IsNil" 0) ReflectliteValue.isNil) Tryz.func87 (by kernel_rfl) (by kernel_rfl) (by kernel_rfl) (by kernel_rfl)
 have h27:=@run_callFunc_extern Tryz.prog 180 _ (ReflectliteType.abiMethod fun t=>do pure (.int .u8 (← Rtype.kind t))) Tryz.func180 (by kernel_rfl) (by kernel_rfl) (by kernel_rfl) (by kernel_rfl);have h37:=@run_callFunc_extern Tryz.prog 192 _ (ReflectliteType.method ReflectliteType.elem) Tryz.func192 (by kernel_rfl) (by kernel_rfl) (by kernel_rfl) (by kernel_rfl);have h38 := @run_callFunc_extern Tryz.prog 193 _ (ReflectliteType.relation "Implements" ReflectliteType.implements_) Tryz.func193 (by kernel_rfl) (by kernel_rfl) (by kernel_rfl) (by kernel_rfl)
 have h10:=@run_callFunc_extern Tryz.prog 89 _ ReflectliteType.typeOf Tryz.func89 (by kernel_rfl) (by kernel_rfl) (by kernel_rfl) (by kernel_rfl);have h35 := @run_callFunc_extern Tryz.prog 190 _ (ReflectliteType.relation "AssignableTo" ReflectliteType.assignableTo) Tryz.func190 (by kernel_rfl) (by kernel_rfl) (by kernel_rfl) (by kernel_rfl)
 have h11 := @run_callFunc_extern Tryz.prog 120 _ (ReflectliteValue.method (ReflectliteValue.valueError "reflectlite.Value.Elem" 0) ReflectliteValue.elem) Tryz.func120 (by kernel_rfl) (by kernel_rfl) (by kernel_rfl) (by kernel_rfl)
 have h12:=@run_callFunc_extern Tryz.prog 121 _ ReflectliteValue.set Tryz.func121 (by kernel_rfl) (by kernel_rfl) (by kernel_rfl) (by kernel_rfl);have tO:=ZkY;have mA:=Zg9;have a1:=ZkU;have v1:=ZiR;have f6:=ZiS;have f7:=Zpm;have mK:=ZiQ;have mE:=ZiO;have mI:=ZiP;have k2:=Zpl;have k1:=Zpk;have e2:=Zpi;have i1:=Zpj;have hlt:0<w.heap.size:=by omega
 have htl:t.block<w.heap.size:=World.block_lt_of_cell? w _ ht0;have A1:=Blk.new w [.pointer (some t)] 101 w.heap.size rfl;have n8:=Zm0 ⟨w.heap.size,0,none⟩ t ((w.alloc (.cells #[.pointer (some t)] 101)).alloc (.cells #[.pointer (some ⟨2,101,none⟩),.pointer (some ⟨w.heap.size,0,none⟩),.int .u64 150] 154)) ((A1.alloc _).cell 0 _ rfl);have hg2:((w.alloc (.cells #[.pointer (some t)] 101)).alloc (.cells #[.pointer (some ⟨2,101,none⟩),.pointer (some ⟨w.heap.size,0,none⟩),.int .u64 150] 154)).cell? ⟨0,0,none⟩=some (.iface 191 (.agg #[.pointer (some ⟨2,35,none⟩)])):=by
  rw[World.cell?_alloc_lt _ _ ⟨0,0,none⟩ (Nat.lt_of_lt_of_le hlt (by simp)),World.cell?_alloc_lt _ _ ⟨0,0,none⟩ hlt];exact hg
 have el:=ZmZ ⟨w.heap.size,0,none⟩ t (((w.alloc (.cells #[.pointer (some t)] 101)).alloc (.cells #[.pointer (some ⟨2,101,none⟩),.pointer (some ⟨w.heap.size,0,none⟩),.int .u64 150] 154)).alloc (.cells #[.pointer (some ⟨2,101,none⟩),.pointer (some ⟨w.heap.size,0,none⟩),.int .u64 150] 154)) (((A1.alloc _).alloc _).cell 0 _ rfl);have D1:=Blk.new (((w.alloc (.cells #[.pointer (some t)] 101)).alloc (.cells #[.pointer (some ⟨2,101,none⟩),.pointer (some ⟨w.heap.size,0,none⟩),.int .u64 150] 154)).alloc (.cells #[.pointer (some ⟨2,101,none⟩),.pointer (some ⟨w.heap.size,0,none⟩),.int .u64 150] 154)) [.pointer (some e)] 99 (w.heap.size+1+1+1) (by simp);have bel:Below w.heap.size w ((((w.alloc (.cells #[.pointer (some t)] 101)).alloc (.cells #[.pointer (some ⟨2,101,none⟩),.pointer (some ⟨w.heap.size,0,none⟩),.int .u64 150] 154)).alloc (.cells #[.pointer (some ⟨2,101,none⟩),.pointer (some ⟨w.heap.size,0,none⟩),.int .u64 150] 154)).alloc (.cells #[.pointer (some e)] 99)):=((((Below.refl _ _).alloc (Nat.le_refl _) _).alloc (by simp) _).alloc (by simp;omega) _).alloc (by simp;omega) _;have st:=Zq6 t ⟨w.heap.size+1+1+1,0,none⟩ e old ((((w.alloc (.cells #[.pointer (some t)] 101)).alloc (.cells #[.pointer (some ⟨2,101,none⟩),.pointer (some ⟨w.heap.size,0,none⟩),.int .u64 150] 154)).alloc (.cells #[.pointer (some ⟨2,101,none⟩),.pointer (some ⟨w.heap.size,0,none⟩),.int .u64 150] 154)).alloc (.cells #[.pointer (some e)] 99))
  (D1.cell 0 _ rfl) ((bel.cell htl).trans ht0) ((bel.frozen htl).trans hf0)
 clear A1 D1;have HB:Hid _:=bel;clear bel;go_enter Tryz.func48,Tryz.ntmps48;go_wp2;refine wp_loop_rounds 1 ?_;rw[rounds_succ];go_wp2;go_ret;exact ⟨rfl,_,rfl,HB.out⟩
theorem ZfG (c d:Int) (w:World):(binOp .eql 35 (.iface 46 (.int .i64 c)) (.iface 46 (.int .i64 d))).run Tryz.prog w=.ok (.bool (decide (c=d))) w:=by kernel_rfl
theorem Zis (a:Addr) (d:Int) (w:World):(binOp .eql 35 (.iface 99 (.pointer (some a))) (.iface 46 (.int .i64 d))).run Tryz.prog w=.ok (.bool false) w:=by kernel_rfl
theorem Zku (a:Addr) (w:World):(binOp .eql 35 (.iface 99 (.pointer (some a))) .nilIface).run Tryz.prog w=.ok (.bool false) w:=by kernel_rfl
theorem Zgl (d:Int) (w:World):(binOp .eql 35 (.iface 46 (.int .i64 d)) .nilIface).run Tryz.prog w=.ok (.bool false) w:=by kernel_rfl
theorem ZqJ {g:Nat} {At c d:Int} {w:World} (B:Blk w g [.int .i64 At,.iface 46 (.int .i64 c)]) :
  Calls Tryz.prog 49 #[.iface 99 (.pointer (some ⟨g,0,none⟩)),.iface 46 (.int .i64 d)] w fun ev w'=>ev=.returned (.bool (decide (c=d)))∧w'=w:=by
 have h10:=@run_callFunc_extern Tryz.prog 89 _ ReflectliteType.typeOf Tryz.func89 (by kernel_rfl) (by kernel_rfl) (by kernel_rfl) (by kernel_rfl);have tO:=ZkZ;have mC:=ZiN;have cC:=ZlI;have q1:=Zis;have q2:=Zku;have q3:=Zgl;have t1:=ta_IsS;have t2:=ta_UnS;have t3:=ta_IsC;have t4:=ta_UnC;have t5:=ta_UsC;have mU:=ZoH;have c1:=B.cell 1 _ rfl;have lt:=B.lt
 by_cases h:c=d
 ·have q4:∀ w:World,(binOp .eql 35 (.iface 46 (.int .i64 c)) (.iface 46 (.int .i64 d))).run Tryz.prog w=.ok (.bool true) w:=fun w=>by rw[ZfG,decide_eq_true h]
  rw[decide_eq_true h];clear h;go_enter Tryz.func49,Tryz.ntmps49;go_wp2;refine wp_loop_rounds 2 ?_;rw[rounds_succ];go_wp2;rw[rounds_succ];go_wp2;go_ret;exact ⟨rfl,rfl⟩
 ·have q4:∀ w:World,(binOp .eql 35 (.iface 46 (.int .i64 c)) (.iface 46 (.int .i64 d))).run Tryz.prog w=.ok (.bool false) w:=fun w=>by rw[ZfG,decide_eq_false h]
  rw[decide_eq_false h];clear h;go_enter Tryz.func49,Tryz.ntmps49;go_wp2;refine wp_loop_rounds 2 ?_;rw[rounds_succ];go_wp2;rw[rounds_succ];go_wp2;go_ret;exact ⟨rfl,rfl⟩
theorem ZqN (a:Addr) (w:World):(binOp .neq 35 (.iface 99 (.pointer (some a))) (.iface 99 (.pointer (some a)))).run Tryz.prog w=.ok (.bool false) w:=by
 have c1:(Tryz.prog.info? 99).map (·.comparable)=some true:=by kernel_rfl
 have c2:(Tryz.prog.info? 104).isSome=true:=by kernel_rfl
 obtain⟨i,hi,e1⟩:=Option.map_eq_some_iff.1 c1;obtain ⟨j,hj⟩:=Option.isSome_iff_exists.1 c2;simp only[binOp];simp[Op.equal,Op.maxDepth,run_equalIn_iface_ptr_same w 9998 a Tryz.underlying35 Tryz.underlying99 hi e1 hj]
theorem Zko {g:Nat} {At c d at_:Int} {w:World} (G:ZjW w) (B:Blk w g [.int .i64 At,.iface 46 (.int .i64 c)]) :
  Calls Tryz.prog 19 #[.iface 99 (.pointer (some ⟨g,0,none⟩)),.int .i64 at_,.int .i64 d] w fun ev w'=>ev=.returned (.bool (decide (c=d) && decide (At=at_)))∧Below w.heap.size w w':=by
 have T0:=Blk.new w [.pointer none] 99 w.heap.size rfl;have bel:=bal w (.cells #[.pointer none] 99);have lg:=B.lt;replace B:=B.alloc (.cells #[.pointer none] 99);have G2:ZjW (w.alloc (.cells #[.pointer none] 99)):=⟨(bel.cell (p:=⟨0,0,none⟩) (by have:=G.2;show 0<_;omega)).trans G.1,Nat.lt_of_lt_of_le G.2 bel.size⟩;go_enter Tryz.func19,Tryz.ntmps19;go_upto_region 2 with fail;generalize w.alloc (Obj.cells #[.pointer none] 99)=W at *;go_wp2_with fail;refine (as_hit G2 (T0.cell 0 _ rfl) (T0.frozen 0)).mono ?_;rintro e w1 ⟨rfl,W1,rfl,hb⟩;replace T0:=(T0.later hb).set 0 (.pointer (some ⟨g,0,none⟩));replace B:=(B.later hb).other ⟨w.heap.size,0,none⟩ (.pointer (some ⟨g,0,none⟩)) (by show g≠w.heap.size;omega);replace bel:=(bel.trans (hb.mono bel.size)).setCell (p:=⟨w.heap.size,0,none⟩) (Nat.le_refl _) (.pointer (some ⟨g,0,none⟩));clear hb G2 G;generalize W1.setCell ⟨w.heap.size,0,none⟩ (.pointer (some ⟨g,0,none⟩))=W2 at *;have t0:=T0.cell 0 _ rfl;have lt:=T0.lt;have q1:=ZqN;go_wp2_with fail;refine (ZqJ (d:=d) B).mono ?_;rintro e w3 ⟨rfl,rfl⟩;have c0:=B.cell 0 _ rfl;have c1:=B.cell 1 _ rfl;have lb:=B.lt
 by_cases h:c=d
 ·have q4:∀ w:World,(binOp .eql 35 (.iface 46 (.int .i64 c)) (.iface 46 (.int .i64 d))).run Tryz.prog w=.ok (.bool true) w:=fun w=>by rw[ZfG,decide_eq_true h]
  rw[decide_eq_true h];have HC:Hid (c=d):=h;clear h
  by_cases h2:At=at_
  ·have H2:Hid (At=at_):=h2
   go_wp2_with fail;go_ret;exact ⟨by rw[decide_eq_true HC.out,decide_eq_true H2.out];rfl,bel⟩
  ·have H2:Hid (¬ At=at_):=h2
   go_wp2_with fail;go_ret;exact ⟨by rw[decide_eq_false H2.out,Bool.and_false];rfl,bel⟩
 ·rw[decide_eq_false h]
  have HC:Hid (¬ c=d):=h;clear h;go_wp2_with fail;go_ret;exact ⟨by rw[decide_eq_false HC.out,Bool.false_and];rfl,bel⟩
theorem ZjW.below {w w':World} (G:ZjW w) (hb:Below w.heap.size w w'):ZjW w':=⟨(hb.cell (p:=⟨0,0,none⟩) (by have:=G.2;show 0<_;omega)).trans G.1,Nat.lt_of_lt_of_le G.2 hb.size⟩
theorem Zkt (_:Int) (w:World):(binOp .eql 35 .nilIface .nilIface).run Tryz.prog w=.ok (.bool true) w:=by kernel_rfl
theorem Ziq {w:World} :
  Calls Tryz.prog 18 #[.nilIface] w fun ev w'=>ev=.returned (.int .i64 0)∧w'=w:=by
 have q:=Zkt 0;go_enter Tryz.func18,Tryz.ntmps18;go_wp2_with fail;go_ret;exact ⟨rfl,rfl⟩
theorem Zkm {c:Nat} {w:World} (h1:1≤c) (h2:c≤21) :
  Calls Tryz.prog 18 #[.iface 46 (.int .i64 (c:Int))] w fun ev w'=>ev=.returned (.int .i64 (c:Int))∧w'=w:=by
 have q:=Zgl;go_enter Tryz.func18,Tryz.ntmps18;go_wp2_with fail;go_loop [3] (fun cv=>∃ k:Nat,1≤k∧k≤c∧cv=.int .i64 k) (fun cv=>22-(intOf cv).toNat)
 case atStart=>exact ⟨1,by omega,h1,rfl⟩
 case round =>
  obtain⟨k,k1,k2,rfl⟩:=hrel;have g1:(k:Int)≤21:=by omega
  by_cases h:c=k
  ·have q4:∀ w:World,(binOp .eql 35 (.iface 46 (.int .i64 (c:Int))) (.iface 46 (.int .i64 (k:Int)))).run Tryz.prog w=.ok (.bool true) w:=fun w=>by rw[ZfG,decide_eq_true (by omega)]
   have HC:Hid (c=k):=h;clear h;go_wp2_with fail;go_ret;exact ⟨by rw[HC.out];rfl,rfl⟩
  ·have q4:∀ w:World,(binOp .eql 35 (.iface 46 (.int .i64 (c:Int))) (.iface 46 (.int .i64 (k:Int)))).run Tryz.prog w=.ok (.bool false) w:=fun w=>by rw[ZfG,decide_eq_false (by omega)]
   go_wp2_with fail;go_round
   case rel=>exact ⟨k+1,by omega,by omega,by go_num⟩
   case measure=>simp[intOf];omega
end Go.Proofs.YtohcdbifhnfcbaaGreatDoor
