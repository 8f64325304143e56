/- errors.Is of a *api.Spot, of an api.Code. -/
import Derived.Test.YtnkipgbnnhahbaaDoorCtBase
import Derived.Test.YtnkipgbnnhahbaaDoorErAs
import Derived.Test.YtnkipgbnnhahbaaDoorRows
namespace Go.Proofs.YtnkipgbnnhahbaaDoor
open Go.RowKit Go.Extern.Stop Go.Stop Go.Extern
theorem eq_code (c d:Int) (w:World):(binOp .eql 27 (.iface 39 (.int .i64 c)) (.iface 39 (.int .i64 d))).run Tryd.prog w=.ok (.bool (decide (c=d))) w:=by kernel_rfl
theorem eq_spotcode (a:Addr) (d:Int) (w:World):(binOp .eql 27 (.iface 66 (.pointer (some a))) (.iface 39 (.int .i64 d))).run Tryd.prog w=.ok (.bool false) w:=by kernel_rfl
theorem eq_spotnil (a:Addr) (w:World):(binOp .eql 27 (.iface 66 (.pointer (some a))) .nilIface).run Tryd.prog w=.ok (.bool false) w:=by kernel_rfl
theorem eq_codenil (d:Int) (w:World):(binOp .eql 27 (.iface 39 (.int .i64 d)) .nilIface).run Tryd.prog w=.ok (.bool false) w:=by kernel_rfl
set_option maxRecDepth 100000 in
set_option maxHeartbeats 4000000 in
theorem is_spot {g:Nat} {At c d:Int} {w:World} (B:Blk w g [.int .i64 At,.iface 39 (.int .i64 c)]) :
  Calls Tryd.prog 26 #[.iface 66 (.pointer (some ⟨g,0,none⟩)),.iface 39 (.int .i64 d)] w fun ev w'=>ev=.returned (.bool (decide (c=d)))∧w'=w:=by
 have h10:=@run_callFunc_extern Tryd.prog 37 _ ReflectliteType.typeOf Tryd.func37 (by kernel_rfl) (by kernel_rfl) (by kernel_rfl) (by kernel_rfl)
 have tO:=rl_typeOfC
 have mC:=rl_methComp
 have cC:=call_comp
 have q1:=eq_spotcode
 have q2:=eq_spotnil
 have q3:=eq_codenil
 have t1:=ta_IsS
 have t2:=ta_UnS
 have t3:=ta_IsC
 have t4:=ta_UnC
 have t5:=ta_UsC
 have mU:=m_unwrap
 have c1:=B.cell 1 _ rfl
 have lt:=B.lt
 by_cases h:c=d
 ·have q4:∀ w:World,(binOp .eql 27 (.iface 39 (.int .i64 c)) (.iface 39 (.int .i64 d))).run Tryd.prog w=.ok (.bool true) w:=fun w=>by rw [eq_code,decide_eq_true h]
  rw [decide_eq_true h]
  clear h
  go_enter Tryd.func26,Tryd.ntmps26
  go_wp2
  refine wp_loop_rounds 2 ?_
  rw [rounds_succ]
  go_wp2
  rw [rounds_succ]
  go_wp2
  go_ret
  exact ⟨rfl,rfl⟩
 ·have q4:∀ w:World,(binOp .eql 27 (.iface 39 (.int .i64 c)) (.iface 39 (.int .i64 d))).run Tryd.prog w=.ok (.bool false) w:=fun w=>by rw [eq_code,decide_eq_false h]
  rw [decide_eq_false h]
  clear h
  go_enter Tryd.func26,Tryd.ntmps26
  go_wp2
  refine wp_loop_rounds 2 ?_
  rw [rounds_succ]
  go_wp2
  rw [rounds_succ]
  go_wp2
  go_ret
  exact ⟨rfl,rfl⟩
end Go.Proofs.YtnkipgbnnhahbaaDoor
