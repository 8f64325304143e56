/- What the laws ask of errors: Is, Code. -/
import Derived.Test.YtnkipgbnnhahbaaDoorErHit
import Derived.Test.YtnkipgbnnhahbaaDoorCtBase
import Derived.Test.YtnkipgbnnhahbaaDoorErAs
import Derived.Test.YtnkipgbnnhahbaaDoorErIs
import Derived.Test.YtnkipgbnnhahbaaDoorRows
import Derived.Deep.WholeRow
import Derived.Deep.RegionHeld3
import Derived.Deep.DeepCutAuto
import Derived.Deep.DeepFit
namespace Go.Proofs.YtnkipgbnnhahbaaDoor
open Go.RowKit Go.Extern.Stop Go.Stop Go.Extern
theorem ne_spot (a:Addr) (w:World):(binOp .neq 27 (.iface 66 (.pointer (some a))) (.iface 66 (.pointer (some a)))).run Tryd.prog w=.ok (.bool false) w:=by
 have c1:(Tryd.prog.info? 66).map (·.comparable)=some true:=by kernel_rfl
 have c2:(Tryd.prog.info? 71).isSome=true:=by kernel_rfl
 obtain ⟨i,hi,e1⟩:=Option.map_eq_some_iff.1 c1
 obtain ⟨j,hj⟩:=Option.isSome_iff_exists.1 c2
 simp only [binOp]
 simp [Op.equal,Op.maxDepth,run_equalIn_iface_ptr_same w 9998 a Tryd.underlying27 Tryd.underlying66 hi e1 hj]
set_option maxRecDepth 100000 in
set_option maxHeartbeats 4000000 in
theorem con_IsSpot {g:Nat} {At c d at_:Int} {w:World} (G:GlsE w) (B:Blk w g [.int .i64 At,.iface 39 (.int .i64 c)]) :
  Calls Tryd.prog 15 #[.iface 66 (.pointer (some ⟨g,0,none⟩)),.int .i64 at_,.int .i64 d] w fun ev w'=>ev=.returned (.bool (decide (c=d) && decide (At=at_)))∧Below w.heap.size w w':=by
 have T0:=Blk.new w [.pointer none] 66 w.heap.size rfl
 have bel:Below w.heap.size w (w.alloc (.cells #[.pointer none] 66)):=(Below.refl _ _).alloc (Nat.le_refl _) _
 have lg:=B.lt
 replace B:=B.alloc (.cells #[.pointer none] 66)
 have G2:GlsE (w.alloc (.cells #[.pointer none] 66)):=⟨(bel.cell (p:=⟨0,0,none⟩) (by have:=G.2;show 0 < _;omega)).trans G.1,Nat.lt_of_lt_of_le G.2 bel.size⟩
 go_enter Tryd.func15,Tryd.ntmps15
 go_upto_region 2 with fail
 generalize w.alloc (Obj.cells #[.pointer none] 66)=W at *
 go_wp2_with fail
 refine (as_hit G2 (T0.cell 0 _ rfl) (T0.frozen 0)).mono ?_
 rintro e w1 ⟨rfl,W1,rfl,hb⟩
 replace T0:=(T0.later hb).set 0 (.pointer (some ⟨g,0,none⟩))
 replace B:=(B.later hb).other ⟨w.heap.size,0,none⟩ (.pointer (some ⟨g,0,none⟩)) (by show g≠w.heap.size;omega)
 replace bel:=(bel.trans (hb.mono bel.size)).setCell (p:=⟨w.heap.size,0,none⟩) (Nat.le_refl _) (.pointer (some ⟨g,0,none⟩))
 clear hb G2 G
 generalize W1.setCell ⟨w.heap.size,0,none⟩ (.pointer (some ⟨g,0,none⟩))=W2 at *
 have t0:=T0.cell 0 _ rfl
 have lt:=T0.lt
 have q1:=ne_spot
 go_wp2_with fail
 refine (is_spot (d:=d) B).mono ?_
 rintro e w3 ⟨rfl,rfl⟩
 have c0:=B.cell 0 _ rfl
 have c1:=B.cell 1 _ rfl
 have lb:=B.lt
 by_cases h:c=d
 ·have q4:∀ w:World,(binOp .eql 27 (.iface 39 (.int .i64 c)) (.iface 39 (.int .i64 d))).run Tryd.prog w=.ok (.bool true) w:=fun w=>by rw [eq_code,decide_eq_true h]
  rw [decide_eq_true h]
  have HC:Hid (c=d):=h
  clear h
  by_cases h2:At=at_
  ·have H2:Hid (At=at_):=h2
   go_wp2_with fail
   go_ret
   exact ⟨by rw [decide_eq_true HC.out,decide_eq_true H2.out];rfl,bel⟩
  ·have H2:Hid (¬ At=at_):=h2
   go_wp2_with fail
   go_ret
   exact ⟨by rw [decide_eq_false H2.out,Bool.and_false];rfl,bel⟩
 ·rw [decide_eq_false h]
  have HC:Hid (¬ c=d):=h
  clear h
  go_wp2_with fail
  go_ret
  exact ⟨by rw [decide_eq_false HC.out,Bool.false_and];rfl,bel⟩
theorem GlsE.below {w w':World} (G:GlsE w) (hb:Below w.heap.size w w'):GlsE w':=⟨(hb.cell (p:=⟨0,0,none⟩) (by have:=G.2;show 0 < _;omega)).trans G.1,Nat.lt_of_lt_of_le G.2 hb.size⟩
theorem eq_nilcode (_:Int) (w:World):(binOp .eql 27 .nilIface .nilIface).run Tryd.prog w=.ok (.bool true) w:=by kernel_rfl
set_option maxRecDepth 100000 in
theorem con_CodeNil {w:World} :
  Calls Tryd.prog 14 #[.nilIface] w fun ev w'=>ev=.returned (.int .i64 0)∧w'=w:=by
 have q:=eq_nilcode 0
 go_enter Tryd.func14,Tryd.ntmps14
 go_wp2_with fail
 go_ret
 exact ⟨rfl,rfl⟩
set_option maxRecDepth 100000 in
theorem con_CodeOf {c:Nat} {w:World} (h1:1≤c) (h2:c≤21) :
  Calls Tryd.prog 14 #[.iface 39 (.int .i64 (c:Int))] w fun ev w'=>ev=.returned (.int .i64 (c:Int))∧w'=w:=by
 have q:=eq_codenil
 go_enter Tryd.func14,Tryd.ntmps14
 go_wp2_with fail
 go_loop [3] (fun cv=>∃ k:Nat,1≤k∧k≤c∧cv=.int .i64 k) (fun cv=>22 - (intOf cv).toNat)
 case atStart=>exact ⟨1,by omega,h1,rfl⟩
 case round =>
  obtain ⟨k,k1,k2,rfl⟩:=hrel
  have g1:(k:Int)≤21:=by omega
  by_cases h:c=k
  ·have q4:∀ w:World,(binOp .eql 27 (.iface 39 (.int .i64 (c:Int))) (.iface 39 (.int .i64 (k:Int)))).run Tryd.prog w=.ok (.bool true) w:=fun w=>by rw [eq_code,decide_eq_true (by omega)]
   have HC:Hid (c=k):=h
   clear h
   go_wp2_with fail
   go_ret
   exact ⟨by rw [HC.out];rfl,rfl⟩
  ·have q4:∀ w:World,(binOp .eql 27 (.iface 39 (.int .i64 (c:Int))) (.iface 39 (.int .i64 (k:Int)))).run Tryd.prog w=.ok (.bool false) w:=fun w=>by rw [eq_code,decide_eq_false (by omega)]
   go_wp2_with fail
   go_round
   case rel=>exact ⟨k + 1,by omega,by omega,by go_num⟩
   case measure=>simp [intOf];omega
end Go.Proofs.YtnkipgbnnhahbaaDoor
