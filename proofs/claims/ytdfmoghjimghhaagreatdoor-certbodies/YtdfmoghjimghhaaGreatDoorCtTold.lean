import Derived.Test.YtdfmoghjimghhaaGreatDoorClUp0
import Derived.Test.YtdfmoghjimghhaaGreatDoorClEl
import Derived.Test.YtdfmoghjimghhaaGreatDoorRows
import Derived.Deep.OwnRows
import Derived.Deep.AppendLies
import Derived.Great.BuildSlice
import Derived.Laws.Rows
import Derived.BigQuiet
import Derived.Deep.WholeRow
import Derived.Deep.RegionHeld3
import Derived.Deep.DeepCutAuto
import Derived.Deep.DeepFit
namespace Go.Proofs.YtdfmoghjimghhaaGreatDoor
open Go.RowKit
theorem Zic (c:Int):∀ w:World,(binOp .eql 39 (.iface 53 (.int .i64 c)) (.iface 53 (.int .i64 c))).run Tryz.prog w=.ok (.bool true) w:=fun w=>by
 have:(binOp .eql 39 (.iface 53 (.int .i64 c)) (.iface 53 (.int .i64 c))).run Tryz.prog w=.ok (.bool (decide (c=c))) w:=by kernel_rfl
 rw[this];simp
set_option linter.unusedSimpArgs false in
set_option maxRecDepth 100000 in
set_option maxHeartbeats 1000000 in
theorem Zmk {w:World}:Calls Tryz.prog 7 #[] w fun e w'=>e=.returned (.bool true)∧Below w.heap.size w w':=by
 have HB:Hid (Bs (w.alloc (.cells (u8s [48,0]).toArray 5)) (.slice (some ⟨w.heap.size,0,none⟩) 2 2) [48,0]):=Blk.bs (P:=[48,0]) (Blk.new w (u8s [48,0]) 5 w.heap.size rfl) rfl (by decide);have bel:=bal w (.cells (u8s [48,0]).toArray 5);go_enter Tryz.func7,Tryz.ntmps7;go_wp2_with fail;refine (Zkb HB.out).mono ?_;rintro e w1 ⟨rfl,hb⟩;replace bel:=Zaa bel hb;clear hb;have hz:=Zff.out;replace bel:=Zaf (o:=.cells zC.toArray 35) bel;have Bc:=Blk.new w1 zC 35 w1.heap.size rfl;go_upto_region 2 with (first|((with_reducible show wpList _ _ _ ({ dst:=_,op:=.store _ _ _,type:=_,pos:=_,after:=_,guard:=_ } :: _) _ _);refine wpList_store_row rfl 35 _ _ rfl w1.heap.size zC.toArray rfl rfl 35 _ (heap_alloc_last _ _) (by rw[ZcR,Zcw]) (by first|rfl|(rw[Zcw];rfl)) Zgm ?_;rw[World.setRow_alloc_new])|fail);obtain ⟨gc,hgc⟩:∃ g,g=w1.heap.size:=⟨_,rfl⟩;rw[← hgc] at Bc ⊢;generalize w1.alloc (.cells zC.toArray 35)=V1 at *;clear hgc;clear Bc;go_wp2_with fail;refine Zi8.mono ?_;rintro e w2 ⟨rfl,hb⟩;replace bel:=Zaa bel hb;clear hb;have q7:=Zic 7;have q1:=Zic 1;go_wp2_with fail;go_ret;exact ⟨rfl,bel⟩
end Go.Proofs.YtdfmoghjimghhaaGreatDoor
