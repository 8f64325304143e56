/- The law's up. -/
import Derived.Test.YtnkipgbnnhahbaaDoorMfDec
import Derived.Test.YtnkipgbnnhahbaaDoorMfFits
import Derived.Test.YtnkipgbnnhahbaaDoorNmBase
import Derived.Test.YtnkipgbnnhahbaaDoorErLaw
import Derived.Test.YtnkipgbnnhahbaaDoorNlSet
import Derived.Test.YtnkipgbnnhahbaaDoorRows
import Derived.ChangeArms
import Derived.ChangeOld
import Derived.Lib.ConvBytes
import Derived.Laws.AppendOwn
import Derived.Deep.WholeRow
import Derived.Deep.RegionHeld3
import Derived.Deep.DeepCutAuto
import Derived.Deep.DeepFit
import Derived.Deep.OwnRows
import Derived.Deep.AppendLies
import Derived.Great.BuildSlice
import Derived.Laws.Rows
import Derived.BigQuiet
namespace Go.Proofs.YtnkipgbnnhahbaaDoor
open Go.RowKit
theorem eq_codeM (c d:Int):∀ w:World,(binOp .eql 27 (.iface 39 (.int .i64 c)) (.iface 39 (.int .i64 d))).run Tryd.prog w=.ok (.bool (decide (c=d))) w:=fun w=>by
 have:(binOp .eql 27 (.iface 39 (.int .i64 c)) (.iface 39 (.int .i64 d))).run Tryd.prog w=.ok (.bool (decide (c=d))) w:=by kernel_rfl
 exact this
theorem eq_nilM:∀ w:World,(binOp .eql 27 .nilIface .nilIface).run Tryd.prog w=.ok (.bool true) w:=fun _=>by kernel_rfl
theorem bs_nilM (w:World):Bs w (.slice none 0 0) []:=⟨none,0,rfl,Nat.zero_le _,Nat.zero_le _,fun h=>absurd h (Nat.lt_irrefl 0)⟩
set_option linter.unusedSimpArgs false in
set_option maxRecDepth 100000 in
set_option maxHeartbeats 1000000 in
theorem con_up20 {w:World}:Calls Tryd.prog 4 #[] w fun e w'=>e=.returned (.bool true)∧Below w.heap.size w w':=by
 have hz:=zero_mf.out
 have Bm:=Blk.new w [.int .i64 1,.int .i64 0,.int .i64 16,.int .i64 5,.slice none 0 0,.slice none 0 0,.slice none 0 0] 25 w.heap.size rfl
 have bel:Below w.heap.size w (w.alloc (.cells #[.int .i64 1,.int .i64 0,.int .i64 16,.int .i64 5,.slice none 0 0,.slice none 0 0,.slice none 0 0] 25)):=(Below.refl _ _).alloc (Nat.le_refl _) _
 go_enter Tryd.func4,Tryd.ntmps4
 go_upto_region 2 with (first|((with_reducible show wpList _ _ _ ({ dst:=_,op:=.store _ _ _,type:=_,pos:=_,after:=_,guard:=_ } :: _) _ _);refine wpList_store_row rfl 25 _ _ rfl w.heap.size #[.int .i64 1,.int .i64 0,.int .i64 16,.int .i64 5,.slice none 0 0,.slice none 0 0,.slice none 0 0] rfl rfl 25 _ (heap_alloc_last _ _) (by rw [size_mf];rfl) rfl (by simp [Value.oneCell']) ?_;rw [World.setRow_alloc_new])|fail)
 generalize w.alloc (.cells #[.int .i64 1,.int .i64 0,.int .i64 16,.int .i64 5,.slice none 0 0,.slice none 0 0,.slice none 0 0] 25)=V1 at *
 have HB:Hid (Bs (V1.alloc (.cells (u8s [48,0]).toArray 5)) (.slice (some ⟨V1.heap.size,0,none⟩) 2 2) [48,0]):=Blk.bs (P:=[48,0]) (Blk.new V1 (u8s [48,0]) 5 V1.heap.size rfl) rfl (by decide)
 replace Bm:=Bm.alloc (.cells (u8s [48,0]).toArray 5)
 replace bel:=below_alloc (o:=.cells (u8s [48,0]).toArray 5) bel
 go_wp2_with fail
 refine (con_MDecode HB.out (byt_of _ (fun j hj=>by match j,hj with|0,_=>decide|1,_=>decide))).mono ?_
 rintro e w1 ⟨hb,-,hno,-⟩
 obtain rfl:=hno (.mk 0 16 true [] []) (by rfl) (by rfl)
 replace Bm:=Bm.later hb
 replace bel:=below_step bel hb
 clear hb hno
 replace Bm:=Bm.alloc (.cells #[.int .i64 0,.int .i64 0,.int .i64 0,.int .i64 0,.slice none 0 0,.slice none 0 0,.slice none 0 0] 25)
 replace bel:=below_alloc (o:=.cells #[.int .i64 0,.int .i64 0,.int .i64 0,.int .i64 0,.slice none 0 0,.slice none 0 0,.slice none 0 0] 25) bel
 go_upto_region 3 with (first|((with_reducible show wpList _ _ _ ({ dst:=_,op:=.store _ _ _,type:=_,pos:=_,after:=_,guard:=_ } :: _) _ _);refine wpList_store_row rfl 25 _ _ rfl w1.heap.size #[.int .i64 0,.int .i64 0,.int .i64 0,.int .i64 0,.slice none 0 0,.slice none 0 0,.slice none 0 0] rfl rfl 25 _ (heap_alloc_last _ _) (by rw [size_mf];rfl) rfl (by simp [Value.oneCell']) ?_;rw [World.setRow_alloc_new])|fail)
 clear hz
 generalize w1.alloc (.cells #[.int .i64 0,.int .i64 0,.int .i64 0,.int .i64 0,.slice none 0 0,.slice none 0 0,.slice none 0 0] 25)=V2 at *
 have hld:(loadVar 25 ⟨w.heap.size,0,none⟩).run Tryd.prog V2=.ok (.agg #[.int .i64 1,.int .i64 0,.int .i64 16,.int .i64 5,.slice none 0 0,.slice none 0 0,.slice none 0 0]) V2:=Bm.load Tryd.underlying25 rfl size_mf rfl
 have l0:=Bm.lt
 go_wp2_with (first|((with_reducible show wpList _ _ _ ({ dst:=_,op:=.load _ _,type:=_,pos:=_,after:=_,guard:=_ } :: _) _ _);refine wpList_load_run (by rfl) (by rfl) (by rfl) hld ?_)|fail)
 refine (con_Fits (cs:=[.int .i64 1,.int .i64 0,.int .i64 16,.int .i64 5,.slice none 0 0,.slice none 0 0,.slice none 0 0]) (m:=⟨1,0,16,5,[],[],[]⟩) ⟨_,_,_,rfl,bs_nilM _,bs_nilM _,bs_nilM _⟩ ⟨by unfold i64B;simp,fun j=>by simp,fun j=>by simp,fun j=>by simp⟩ (by unfold i64B;omega)).mono ?_
 rintro e w2 ⟨rfl,hb⟩
 rw [show erN (fitN ⟨1,0,16,5,[],[],[]⟩ 20)=.iface 39 (.int .i64 20) from rfl]
 replace bel:=below_step bel hb
 clear hb hld l0 Bm
 have q1:∀ w:World,(binOp .eql 27 (.iface 39 (.int .i64 20)) (.iface 39 (.int .i64 20))).run Tryd.prog w=.ok (.bool true) w:=fun w=>eq_codeM 20 20 w
 have q2:∀ w:World,(binOp .eql 27 (.iface 39 (.int .i64 7)) (.iface 39 (.int .i64 7))).run Tryd.prog w=.ok (.bool true) w:=fun w=>eq_codeM 7 7 w
 go_wp2_with fail
 go_ret
 exact ⟨rfl,bel⟩
end Go.Proofs.YtnkipgbnnhahbaaDoor
