/- The law ManifestFits. -/
import Derived.Test.YtnkipgbnnhahbaaMfUp
import Derived.Test.YtnkipgbnnhahbaaRows
import Derived.Deep.OwnRows
import Derived.Deep.AppendLies
import Derived.Great.BuildSlice
import Derived.Laws.Rows
import Derived.BigQuiet
import Derived.Deep.WholeRow
import Derived.Deep.RegionHeld3
import Derived.Deep.DeepCutAuto
import Derived.Deep.DeepFit
namespace Go.Proofs.Ytnkipgbnnhahbaa
open Go.RowKit
set_option linter.unusedSimpArgs false in
set_option maxRecDepth 100000 in
set_option maxHeartbeats 1000000 in
theorem law_manifestFits {m:Mf} {cs:List Value} {ram:Int} {w:World} (h:MfAt w m cs) (wf:WfM m) (hr:i64B ram):Calls Try.prog 4 #[.agg cs.toArray,.int .i64 ram] w fun e w'=>e=.returned (.bool true)∧Below w.heap.size w w':=by
 have HF:Hid (MfAt w m cs):=h
 have HWf:Hid (WfM m):=wf
 have HRm:Hid (i64B ram):=hr
 have HL7:Hid (cs.length=7):=h.len
 obtain ⟨na,nc,wa,wc,da,dc,⟨q0,q1,q2,q3⟩,-,-,-,-⟩:=h.open
 have HQ:Hid (cs[0]?=some (.int .i64 m.ver)∧cs[2]?=some (.int .i64 m.ld)∧cs[3]?=some (.int .i64 m.ln)):=⟨q0,q2,q3⟩
 clear q0 q1 q2 q3 h wf hr
 have B0:=Blk.new w cs 24 w.heap.size rfl
 have bel:Below w.heap.size w (w.alloc (.cells cs.toArray 24)):=(Below.refl _ _).alloc (Nat.le_refl _) _
 go_enter Try.func4,Try.ntmps4
 go_upto_region 1 with fail
 generalize w.alloc (.cells cs.toArray 24)=W at *
 go_wp2_with fail
 refine con_up20.mono ?_
 rintro e w1 ⟨rfl,hb⟩
 replace B0:=B0.later hb
 replace bel:=below_step bel hb
 clear hb
 have hld:(loadVar 24 ⟨w.heap.size,0,none⟩).run Try.prog w1=.ok (.agg cs.toArray) w1:=B0.load Try.underlying24 rfl size_mf HL7.out
 have l0:=B0.lt
 go_wp2_with (first|((with_reducible show wpList _ _ _ ({ dst:=_,op:=.load _ _,type:=_,pos:=_,after:=_,guard:=_ } :: _) _ _);refine wpList_load_run (by rfl) (by rfl) (by rfl) hld ?_)|fail)
 refine (con_Fits (HF.out.later bel) HWf.out HRm.out).mono ?_
 rintro e w2 ⟨rfl,hb⟩
 replace B0:=B0.later hb
 replace bel:=below_step bel hb
 clear hb hld l0
 obtain ⟨N,hN⟩:∃ z,fitN m ram=z:=⟨_,rfl⟩
 have HN:Hid (fitN m ram=N):=hN
 rw [hN]
 clear hN
 have q0:=HQ.out.1
 have q2:=HQ.out.2.1
 have q3:=HQ.out.2.2
 have wv:=HWf.out.1
 obtain ⟨ver,hver⟩:∃ z,m.ver=z:=⟨_,rfl⟩
 obtain ⟨ldn,hldn⟩:∃ z,m.ld=z:=⟨_,rfl⟩
 obtain ⟨lnn,hlnn⟩:∃ z,m.ln=z:=⟨_,rfl⟩
 have HM:Hid (m.ver=ver∧m.ld=ldn∧m.ln=lnn):=⟨hver,hldn,hlnn⟩
 rw [hver] at q0
 rw [hldn] at q2
 rw [hlnn] at q3
 have e0:=B0.cell 0 _ q0
 have e2:=B0.cell 2 _ q2
 have e3:=B0.cell 3 _ q3
 have l0:=B0.lt
 clear hver hldn hlnn q0 q2 q3 wv
 by_cases c1:ver < 1
 ·have hn:N=16:=by rw [← HN.out];exact fitN_v (.inl (by rw [HM.out.1];exact c1))
  subst hn
  rw [show erN 16=.iface 38 (.int .i64 16) from rfl]
  have q:∀ w:World,(binOp .eql 27 (.iface 38 (.int .i64 16)) (.iface 38 (.int .i64 16))).run Try.prog w=.ok (.bool true) w:=fun w=>eq_codeM 16 16 w
  go_wp2_with fail
  go_ret
  exact ⟨rfl,bel⟩
 by_cases c2:64 < ver
 ·have g2:(64:Int) < ver:=c2
  have hn:N=16:=by rw [← HN.out];exact fitN_v (.inr (by rw [HM.out.1];exact c2))
  subst hn
  rw [show erN 16=.iface 38 (.int .i64 16) from rfl]
  have q:∀ w:World,(binOp .eql 27 (.iface 38 (.int .i64 16)) (.iface 38 (.int .i64 16))).run Try.prog w=.ok (.bool true) w:=fun w=>eq_codeM 16 16 w
  go_wp2_with fail
  go_ret
  exact ⟨rfl,bel⟩
 have HV:Hid (¬ (m.ver < 1∨64 < m.ver)):=fun h=>by rw [HM.out.1] at h;omega
 by_cases c3:1≤lnn
 rotate_left
 ·have hn:N=20:=by rw [← HN.out];exact fitN_p HV.out (by rw [HM.out.2.1,HM.out.2.2];omega)
  subst hn
  rw [show erN 20=.iface 38 (.int .i64 20) from rfl]
  have q:∀ w:World,(binOp .eql 27 (.iface 38 (.int .i64 20)) (.iface 38 (.int .i64 20))).run Try.prog w=.ok (.bool true) w:=fun w=>eq_codeM 20 20 w
  go_wp2_with fail
  go_ret
  exact ⟨rfl,bel⟩
 by_cases c4:0≤ldn
 rotate_left
 ·have hn:N=20:=by rw [← HN.out];exact fitN_p HV.out (by rw [HM.out.2.1,HM.out.2.2];omega)
  subst hn
  rw [show erN 20=.iface 38 (.int .i64 20) from rfl]
  have q:∀ w:World,(binOp .eql 27 (.iface 38 (.int .i64 20)) (.iface 38 (.int .i64 20))).run Try.prog w=.ok (.bool true) w:=fun w=>eq_codeM 20 20 w
  go_wp2_with fail
  go_ret
  exact ⟨rfl,bel⟩
 have hm:=tmod16 (a:=ldn) c4
 obtain ⟨r,hr⟩:∃ r,Int.tmod ldn 16=r:=⟨_,rfl⟩
 rw [hr] at hm
 by_cases c5:r=0
 rotate_left
 ·have d1:(r == 0)=false:=by rw [beq_eq_false_iff_ne];exact c5
  have hn:N=20:=by rw [← HN.out];exact fitN_p HV.out (by rw [HM.out.2.1,HM.out.2.2];omega)
  subst hn
  rw [show erN 20=.iface 38 (.int .i64 20) from rfl]
  have q:∀ w:World,(binOp .eql 27 (.iface 38 (.int .i64 20)) (.iface 38 (.int .i64 20))).run Try.prog w=.ok (.bool true) w:=fun w=>eq_codeM 20 20 w
  go_wp2_with fail
  go_ret
  exact ⟨rfl,bel⟩
 have d1:(r == 0)=true:=by rw [c5];rfl
 by_cases c6:lnn≤ram
 rotate_left
 ·have hn:N=20:=by rw [← HN.out];exact fitN_p HV.out (by rw [HM.out.2.1,HM.out.2.2];omega)
  subst hn
  rw [show erN 20=.iface 38 (.int .i64 20) from rfl]
  have q:∀ w:World,(binOp .eql 27 (.iface 38 (.int .i64 20)) (.iface 38 (.int .i64 20))).run Try.prog w=.ok (.bool true) w:=fun w=>eq_codeM 20 20 w
  go_wp2_with fail
  go_ret
  exact ⟨rfl,bel⟩
 have gs:IntKind.i64.wrap (ram - lnn)=ram - lnn:=by
  have h1:=HRm.out
  have h2:=HWf.out.1.2.2.2
  rw [HM.out.2.2] at h2
  unfold i64B at h1 h2
  rw [IntKind.wrap_i64]
  omega
 by_cases c7:ldn≤ram - lnn
 rotate_left
 ·have hn:N=20:=by rw [← HN.out];exact fitN_p HV.out (by rw [HM.out.2.1,HM.out.2.2];omega)
  subst hn
  rw [show erN 20=.iface 38 (.int .i64 20) from rfl]
  have q:∀ w:World,(binOp .eql 27 (.iface 38 (.int .i64 20)) (.iface 38 (.int .i64 20))).run Try.prog w=.ok (.bool true) w:=fun w=>eq_codeM 20 20 w
  go_wp2_with fail
  go_ret
  exact ⟨rfl,bel⟩
 have hn:N=0:=by rw [← HN.out];exact fitN_0 HV.out (by rw [HM.out.2.1,HM.out.2.2];omega)
 subst hn
 rw [show erN 0=.nilIface from rfl]
 have q:∀ w:World,(binOp .eql 27 (.nilIface) (.nilIface)).run Try.prog w=.ok (.bool true) w:=fun w=>eq_nilM w
 go_wp2_with fail
 go_ret
 exact ⟨rfl,bel⟩
end Go.Proofs.Ytnkipgbnnhahbaa
