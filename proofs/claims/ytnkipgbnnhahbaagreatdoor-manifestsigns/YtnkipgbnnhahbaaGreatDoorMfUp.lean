/- Fits: what the program answers. The law's up. -/
import Derived.Test.YtnkipgbnnhahbaaGreatDoorMfOf
import Derived.Test.YtnkipgbnnhahbaaGreatDoorClWr
import Derived.Test.YtnkipgbnnhahbaaGreatDoorDrDep
import Derived.Test.YtnkipgbnnhahbaaGreatDoorMfDec
import Derived.Test.YtnkipgbnnhahbaaGreatDoorErLaw
import Derived.Test.YtnkipgbnnhahbaaGreatDoorRows
import Derived.Deep.OwnRows
import Derived.Deep.AppendLies
import Derived.Great.BuildSlice
import Derived.Laws.Rows
import Derived.BigQuiet
import Derived.Deep.WholeRow
import Derived.Deep.RegionHeld3
import Derived.Deep.DeepCutAuto
import Derived.Deep.DeepFit
namespace Go.Proofs.YtnkipgbnnhahbaaGreatDoor
open Go.RowKit
/-- what is amiss with a manifest in a memory: an error's number, or 0 -/
def fitN (m:Mf) (ram:Int):Nat:=if m.ver < 1∨64 < m.ver then 16 else if m.ln < 1∨m.ld < 0∨¬ m.ld % 16=0∨ram < m.ln∨ram - m.ln < m.ld then 20 else 0
theorem fitN_v {m:Mf} {ram:Int} (h:m.ver < 1∨64 < m.ver):fitN m ram=16:=if_pos h
theorem fitN_p {m:Mf} {ram:Int} (h:¬ (m.ver < 1∨64 < m.ver)) (k:m.ln < 1∨m.ld < 0∨¬ m.ld % 16=0∨ram < m.ln∨ram - m.ln < m.ld):fitN m ram=20:=(if_neg h).trans (if_pos k)
theorem fitN_0 {m:Mf} {ram:Int} (h:¬ (m.ver < 1∨64 < m.ver)) (k:¬ (m.ln < 1∨m.ld < 0∨¬ m.ld % 16=0∨ram < m.ln∨ram - m.ln < m.ld)):fitN m ram=0:=(if_neg h).trans (if_neg k)
theorem tmod16 {a:Int} (h:0≤a):Int.tmod a 16=a % 16:=Int.tmod_eq_emod_of_nonneg h
set_option linter.unusedSimpArgs false in
set_option maxRecDepth 100000 in
set_option maxHeartbeats 1000000 in
theorem con_Fits {m:Mf} {cs:List Value} {ram:Int} {w:World} (h:MfAt w m cs) (wf:WfM m) (hr:i64B ram):Calls Tryz.prog 13 #[.agg cs.toArray,.int .i64 ram] w fun e w'=>e=.returned (erN (fitN m ram))∧Below w.heap.size w w':=by
 obtain ⟨nv,wv,dv,rfl,-,-,-⟩:=h
 have HWf:Hid (i64B m.ver∧i64B m.cls∧i64B m.ld∧i64B m.ln):=wf.1
 obtain ⟨ver,cls,ld,ln,nb,wb,db⟩:=m
 simp only at HWf ⊢
 have HRm:Hid (i64B ram):=hr
 clear wf hr
 obtain ⟨cs,hcs⟩:∃ cs:List Value,[.int .i64 ver,.int .i64 cls,.int .i64 ld,.int .i64 ln,nv,wv,dv]=cs:=⟨_,rfl⟩
 have HC:Hid ([.int .i64 ver,.int .i64 cls,.int .i64 ld,.int .i64 ln,nv,wv,dv]=cs):=hcs
 rw [hcs]
 clear hcs
 have B0:=Blk.new w cs 49 w.heap.size rfl
 have bel:Below w.heap.size w (w.alloc (.cells cs.toArray 49)):=(Below.refl _ _).alloc (Nat.le_refl _) _
 go_enter Tryz.func13,Tryz.ntmps13
 go_upto_region 1 with fail
 generalize w.alloc (.cells cs.toArray 49)=W at *
 have e0:=B0.cell 0 (.int .i64 ver) (by rw [← HC.out];rfl)
 have e2:=B0.cell 2 (.int .i64 ld) (by rw [← HC.out];rfl)
 have e3:=B0.cell 3 (.int .i64 ln) (by rw [← HC.out];rfl)
 have l0:=B0.lt
 by_cases c1:ver < 1
 ·have H:Hid (fitN (⟨ver,cls,ld,ln,nb,wb,db⟩:Mf) ram=16):=fitN_v (.inl c1)
  go_wp2_with fail
  go_ret
  exact ⟨by rw [H.out];rfl,bel⟩
 by_cases c2:64 < ver
 ·have H:Hid (fitN (⟨ver,cls,ld,ln,nb,wb,db⟩:Mf) ram=16):=fitN_v (.inr c2)
  have g2:(64:Int) < ver:=c2
  go_wp2_with fail
  go_ret
  exact ⟨by rw [H.out];rfl,bel⟩
 have HV:Hid (¬ (ver < 1∨64 < ver)):=fun h=>by omega
 by_cases c3:ln < 1
 ·have H:Hid (fitN (⟨ver,cls,ld,ln,nb,wb,db⟩:Mf) ram=20):=fitN_p HV.out (by show ln < 1∨ld < 0∨¬ ld % 16=0∨ram < ln∨ram - ln < ld;omega)
  go_wp2_with fail
  go_ret
  exact ⟨by rw [H.out];rfl,bel⟩
 by_cases c4:ld < 0
 ·have H:Hid (fitN (⟨ver,cls,ld,ln,nb,wb,db⟩:Mf) ram=20):=fitN_p HV.out (by show ln < 1∨ld < 0∨¬ ld % 16=0∨ram < ln∨ram - ln < ld;omega)
  go_wp2_with fail
  go_ret
  exact ⟨by rw [H.out];rfl,bel⟩
 have hm:=tmod16 (a:=ld) (by omega)
 obtain ⟨r,hr⟩:∃ r,Int.tmod ld 16=r:=⟨_,rfl⟩
 rw [hr] at hm
 by_cases c5:r=0
 rotate_left
 ·have d1:(r == 0)=false:=by rw [beq_eq_false_iff_ne];exact c5
  have d2:(r != 0)=true:=by rw [bne,d1];rfl
  have H:Hid (fitN (⟨ver,cls,ld,ln,nb,wb,db⟩:Mf) ram=20):=fitN_p HV.out (by show ln < 1∨ld < 0∨¬ ld % 16=0∨ram < ln∨ram - ln < ld;omega)
  go_wp2_with fail
  go_ret
  exact ⟨by rw [H.out];rfl,bel⟩
 have d1:(r != 0)=false:=by rw [c5];rfl
 by_cases c6:ram < ln
 ·have H:Hid (fitN (⟨ver,cls,ld,ln,nb,wb,db⟩:Mf) ram=20):=fitN_p HV.out (by show ln < 1∨ld < 0∨¬ ld % 16=0∨ram < ln∨ram - ln < ld;omega)
  go_wp2_with fail
  go_ret
  exact ⟨by rw [H.out];rfl,bel⟩
 have gs:IntKind.i64.wrap (ram - ln)=ram - ln:=by
  have h1:=HRm.out
  have h2:=HWf.out.2.2.2
  unfold i64B at h1 h2
  rw [IntKind.wrap_i64]
  omega
 by_cases c7:ram - ln < ld
 ·have H:Hid (fitN (⟨ver,cls,ld,ln,nb,wb,db⟩:Mf) ram=20):=fitN_p HV.out (by show ln < 1∨ld < 0∨¬ ld % 16=0∨ram < ln∨ram - ln < ld;omega)
  go_wp2_with fail
  go_ret
  exact ⟨by rw [H.out];rfl,bel⟩
 have H:Hid (fitN (⟨ver,cls,ld,ln,nb,wb,db⟩:Mf) ram=0):=fitN_0 HV.out (by show ¬ (ln < 1∨ld < 0∨¬ ld % 16=0∨ram < ln∨ram - ln < ld);omega)
 go_wp2_with fail
 go_ret
 exact ⟨by rw [H.out];rfl,bel⟩
theorem eq_codeM (c d:Int):∀ w:World,(binOp .eql 30 (.iface 46 (.int .i64 c)) (.iface 46 (.int .i64 d))).run Tryz.prog w=.ok (.bool (decide (c=d))) w:=fun w=>by
 have:(binOp .eql 30 (.iface 46 (.int .i64 c)) (.iface 46 (.int .i64 d))).run Tryz.prog w=.ok (.bool (decide (c=d))) w:=by kernel_rfl
 exact this
theorem eq_nilM:∀ w:World,(binOp .eql 30 .nilIface .nilIface).run Tryz.prog w=.ok (.bool true) w:=fun _=>by kernel_rfl
theorem bs_nilM (w:World):Bs w (.slice none 0 0) []:=⟨none,0,rfl,Nat.zero_le _,Nat.zero_le _,fun h=>absurd h (Nat.lt_irrefl 0)⟩
set_option linter.unusedSimpArgs false in
set_option maxRecDepth 100000 in
set_option maxHeartbeats 1000000 in
theorem con_up20 {w:World}:Calls Tryz.prog 5 #[] w fun e w'=>e=.returned (.bool true)∧Below w.heap.size w w':=by
 have hz:=zero_mf.out
 have Bm:=Blk.new w [.int .i64 1,.int .i64 0,.int .i64 16,.int .i64 5,.slice none 0 0,.slice none 0 0,.slice none 0 0] 49 w.heap.size rfl
 have bel:Below w.heap.size w (w.alloc (.cells #[.int .i64 1,.int .i64 0,.int .i64 16,.int .i64 5,.slice none 0 0,.slice none 0 0,.slice none 0 0] 49)):=(Below.refl _ _).alloc (Nat.le_refl _) _
 go_enter Tryz.func5,Tryz.ntmps5
 go_upto_region 2 with (first|((with_reducible show wpList _ _ _ ({ dst:=_,op:=.store _ _ _,type:=_,pos:=_,after:=_,guard:=_ } :: _) _ _);refine wpList_store_row rfl 49 _ _ rfl w.heap.size #[.int .i64 1,.int .i64 0,.int .i64 16,.int .i64 5,.slice none 0 0,.slice none 0 0,.slice none 0 0] rfl rfl 49 _ (heap_alloc_last _ _) (by rw [size_mf];rfl) rfl (by simp [Value.oneCell']) ?_;rw [World.setRow_alloc_new])|fail)
 generalize w.alloc (.cells #[.int .i64 1,.int .i64 0,.int .i64 16,.int .i64 5,.slice none 0 0,.slice none 0 0,.slice none 0 0] 49)=V1 at *
 have HB:Hid (Bs (V1.alloc (.cells (u8s [48,0]).toArray 5)) (.slice (some ⟨V1.heap.size,0,none⟩) 2 2) [48,0]):=Blk.bs (P:=[48,0]) (Blk.new V1 (u8s [48,0]) 5 V1.heap.size rfl) rfl (by decide)
 replace Bm:=Bm.alloc (.cells (u8s [48,0]).toArray 5)
 replace bel:=below_alloc (o:=.cells (u8s [48,0]).toArray 5) bel
 go_wp2_with fail
 refine (con_MDecode HB.out (byt_of _ (fun j hj=>by match j,hj with|0,_=>decide|1,_=>decide))).mono ?_
 rintro e w1 ⟨hb,-,hno,-⟩
 obtain rfl:=hno (.mk 0 16 true [] []) (by rfl) (by rfl)
 replace Bm:=Bm.later hb
 replace bel:=below_step bel hb
 clear hb hno
 replace Bm:=Bm.alloc (.cells #[.int .i64 0,.int .i64 0,.int .i64 0,.int .i64 0,.slice none 0 0,.slice none 0 0,.slice none 0 0] 49)
 replace bel:=below_alloc (o:=.cells #[.int .i64 0,.int .i64 0,.int .i64 0,.int .i64 0,.slice none 0 0,.slice none 0 0,.slice none 0 0] 49) bel
 go_upto_region 3 with (first|((with_reducible show wpList _ _ _ ({ dst:=_,op:=.store _ _ _,type:=_,pos:=_,after:=_,guard:=_ } :: _) _ _);refine wpList_store_row rfl 49 _ _ rfl w1.heap.size #[.int .i64 0,.int .i64 0,.int .i64 0,.int .i64 0,.slice none 0 0,.slice none 0 0,.slice none 0 0] rfl rfl 49 _ (heap_alloc_last _ _) (by rw [size_mf];rfl) rfl (by simp [Value.oneCell']) ?_;rw [World.setRow_alloc_new])|fail)
 clear hz
 generalize w1.alloc (.cells #[.int .i64 0,.int .i64 0,.int .i64 0,.int .i64 0,.slice none 0 0,.slice none 0 0,.slice none 0 0] 49)=V2 at *
 have hld:(loadVar 49 ⟨w.heap.size,0,none⟩).run Tryz.prog V2=.ok (.agg #[.int .i64 1,.int .i64 0,.int .i64 16,.int .i64 5,.slice none 0 0,.slice none 0 0,.slice none 0 0]) V2:=Bm.load Tryz.underlying49 rfl size_mf rfl
 have l0:=Bm.lt
 go_wp2_with (first|((with_reducible show wpList _ _ _ ({ dst:=_,op:=.load _ _,type:=_,pos:=_,after:=_,guard:=_ } :: _) _ _);refine wpList_load_run (by rfl) (by rfl) (by rfl) hld ?_)|fail)
 refine (con_Fits (cs:=[.int .i64 1,.int .i64 0,.int .i64 16,.int .i64 5,.slice none 0 0,.slice none 0 0,.slice none 0 0]) (m:=⟨1,0,16,5,[],[],[]⟩) ⟨_,_,_,rfl,bs_nilM _,bs_nilM _,bs_nilM _⟩ ⟨by unfold i64B;simp,fun j=>by simp,fun j=>by simp,fun j=>by simp⟩ (by unfold i64B;omega)).mono ?_
 rintro e w2 ⟨rfl,hb⟩
 rw [show erN (fitN ⟨1,0,16,5,[],[],[]⟩ 20)=.iface 46 (.int .i64 20) from rfl]
 replace bel:=below_step bel hb
 clear hb hld l0 Bm
 have q1:∀ w:World,(binOp .eql 30 (.iface 46 (.int .i64 20)) (.iface 46 (.int .i64 20))).run Tryz.prog w=.ok (.bool true) w:=fun w=>eq_codeM 20 20 w
 have q2:∀ w:World,(binOp .eql 30 (.iface 46 (.int .i64 7)) (.iface 46 (.int .i64 7))).run Tryz.prog w=.ok (.bool true) w:=fun w=>eq_codeM 7 7 w
 go_wp2_with fail
 go_ret
 exact ⟨rfl,bel⟩
end Go.Proofs.YtnkipgbnnhahbaaGreatDoor
