/- The law's up. -/
import Derived.Test.YtlkljfnenonfgaaGreatDoorEiUp0
import Derived.Test.YtlkljfnenonfgaaGreatDoorEdG
import Derived.Test.YtlkljfnenonfgaaGreatDoorAeCodeX
import Derived.Test.YtlkljfnenonfgaaGreatDoorRows
import Derived.Deep.OwnRows
import Derived.Deep.AppendLies
import Derived.Great.BuildSlice
import Derived.Laws.Rows
import Derived.BigQuiet
import Derived.Deep.WholeRow
import Derived.Deep.RegionHeld3
import Derived.Deep.DeepCutAuto
import Derived.Deep.DeepFit
namespace Go.Proofs.YtlkljfnenonfgaaGreatDoor
open Go.RowKit
theorem info_X:(Tryz.prog.info? 5).map (fun i=>(i.zero,i.size,i.bytes))=some (some (.int .u8 0),1,1):=by kernel_rfl
theorem mk_X:∀ w:World,(Instr.makeSlice 27 (.int .i64 32) (.int .i64 32)).run Tryz.prog w=.ok (.slice (some ⟨w.heap.size,0,none⟩) 32 32) (w.alloc (.cells (u8s (List.replicate 32 0)).toArray 5)):=fun w=>by
 have:=run_make_row' 27 5 (.int .u8 0) 1 Tryz.underlying27 info_X rfl .i64 .i64 32 (by omega) (by omega) w
 rw [made_zero] at this
 exact this
set_option linter.unusedSimpArgs false in
set_option maxRecDepth 100000 in
set_option maxHeartbeats 1000000 in
theorem con_up15 {w:World} (G:GlsX w):Calls Tryz.prog 6 #[] w fun e w'=>e=.returned (.bool true)∧Below w.heap.size w w':=by
 have HG:Hid (GlsX w):=G
 clear G
 obtain ⟨CZ,hCZ⟩:∃ c,(u8s (List.replicate 32 0)).toArray=c:=⟨_,rfl⟩
 have mk:=mk_X
 rw [hCZ] at mk
 have HCZ:Hid ((u8s (List.replicate 32 0)).toArray=CZ):=hCZ
 clear hCZ
 have hz:=zero_u.out
 have hzp:=zero_p.out
 go_enter Tryz.func6,Tryz.ntmps6
 have bel:Below w.heap.size w (w.alloc (.cells CZ 5)):=(Below.refl _ _).alloc (Nat.le_refl _) _
 have hBs:Bs (w.alloc (.cells CZ 5)) (.slice (some ⟨w.heap.size,0,none⟩) 32 32) (List.replicate 32 0):=by rw [← HCZ.out];exact (Blk.new w (u8s (List.replicate 32 0)) 5 w.heap.size rfl).bs (by simp) (by unfold maxLen;omega)
 go_wp2_with fail
 refine (con_Wrap0 (HG.out.below bel) hBs (by simp)).mono ?_
 rintro e w1 ⟨ao,cap,rfl,hb⟩
 replace bel:=below_step bel hb
 clear hb hBs mk hzp
 go_wp2_with fail
 refine (con_Unwrap0 (HG.out.below bel)).mono ?_
 rintro e w2 ⟨ao2,cap2,rfl,hb⟩
 replace bel:=below_step bel hb
 clear hb hz
 have q1:=iface_eqX 4
 have q2:=iface_eqX 1
 go_wp2_with fail
 go_ret
 exact ⟨rfl,bel⟩
end Go.Proofs.YtlkljfnenonfgaaGreatDoor
