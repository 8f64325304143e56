/- Fits: what the program answers. -/
import Derived.Test.YtnkipgbnnhahbaaDoorMfSpec
import Derived.Test.YtnkipgbnnhahbaaDoorCtTl
import Derived.Test.YtnkipgbnnhahbaaDoorNmBase
import Derived.Test.YtnkipgbnnhahbaaDoorRows
import Derived.Deep.OwnRows
import Derived.Deep.AppendLies
import Derived.Great.BuildSlice
import Derived.Laws.Rows
import Derived.BigQuiet
import Derived.Deep.WholeRow
import Derived.Deep.RegionHeld3
import Derived.Deep.DeepCutAuto
import Derived.Deep.DeepFit
namespace Go.Proofs.YtnkipgbnnhahbaaDoor
open Go.RowKit
/-- what is amiss with a manifest in a memory: an error's number, or 0 -/
def fitN (m:Mf) (ram:Int):Nat:=if m.ver < 1∨64 < m.ver then 16 else if m.ln < 1∨m.ld < 0∨¬ m.ld % 16=0∨ram < m.ln∨ram - m.ln < m.ld then 20 else 0
theorem fitN_v {m:Mf} {ram:Int} (h:m.ver < 1∨64 < m.ver):fitN m ram=16:=if_pos h
theorem fitN_p {m:Mf} {ram:Int} (h:¬ (m.ver < 1∨64 < m.ver)) (k:m.ln < 1∨m.ld < 0∨¬ m.ld % 16=0∨ram < m.ln∨ram - m.ln < m.ld):fitN m ram=20:=(if_neg h).trans (if_pos k)
theorem fitN_0 {m:Mf} {ram:Int} (h:¬ (m.ver < 1∨64 < m.ver)) (k:¬ (m.ln < 1∨m.ld < 0∨¬ m.ld % 16=0∨ram < m.ln∨ram - m.ln < m.ld)):fitN m ram=0:=(if_neg h).trans (if_neg k)
theorem tmod16 {a:Int} (h:0≤a):Int.tmod a 16=a % 16:=Int.tmod_eq_emod_of_nonneg h
set_option linter.unusedSimpArgs false in
set_option maxRecDepth 100000 in
set_option maxHeartbeats 1000000 in
theorem con_Fits {m:Mf} {cs:List Value} {ram:Int} {w:World} (h:MfAt w m cs) (wf:WfM m) (hr:i64B ram):Calls Tryd.prog 10 #[.agg cs.toArray,.int .i64 ram] w fun e w'=>e=.returned (erN (fitN m ram))∧Below w.heap.size w w':=by
 obtain ⟨nv,wv,dv,rfl,-,-,-⟩:=h
 have HWf:Hid (i64B m.ver∧i64B m.cls∧i64B m.ld∧i64B m.ln):=wf.1
 obtain ⟨ver,cls,ld,ln,nb,wb,db⟩:=m
 simp only at HWf ⊢
 have HRm:Hid (i64B ram):=hr
 clear wf hr
 obtain ⟨cs,hcs⟩:∃ cs:List Value,[.int .i64 ver,.int .i64 cls,.int .i64 ld,.int .i64 ln,nv,wv,dv]=cs:=⟨_,rfl⟩
 have HC:Hid ([.int .i64 ver,.int .i64 cls,.int .i64 ld,.int .i64 ln,nv,wv,dv]=cs):=hcs
 rw [hcs]
 clear hcs
 have B0:=Blk.new w cs 25 w.heap.size rfl
 have bel:Below w.heap.size w (w.alloc (.cells cs.toArray 25)):=(Below.refl _ _).alloc (Nat.le_refl _) _
 go_enter Tryd.func10,Tryd.ntmps10
 go_upto_region 1 with fail
 generalize w.alloc (.cells cs.toArray 25)=W at *
 have e0:=B0.cell 0 (.int .i64 ver) (by rw [← HC.out];rfl)
 have e2:=B0.cell 2 (.int .i64 ld) (by rw [← HC.out];rfl)
 have e3:=B0.cell 3 (.int .i64 ln) (by rw [← HC.out];rfl)
 have l0:=B0.lt
 by_cases c1:ver < 1
 ·have H:Hid (fitN (⟨ver,cls,ld,ln,nb,wb,db⟩:Mf) ram=16):=fitN_v (.inl c1)
  go_wp2_with fail
  go_ret
  exact ⟨by rw [H.out];rfl,bel⟩
 by_cases c2:64 < ver
 ·have H:Hid (fitN (⟨ver,cls,ld,ln,nb,wb,db⟩:Mf) ram=16):=fitN_v (.inr c2)
  have g2:(64:Int) < ver:=c2
  go_wp2_with fail
  go_ret
  exact ⟨by rw [H.out];rfl,bel⟩
 have HV:Hid (¬ (ver < 1∨64 < ver)):=fun h=>by omega
 by_cases c3:ln < 1
 ·have H:Hid (fitN (⟨ver,cls,ld,ln,nb,wb,db⟩:Mf) ram=20):=fitN_p HV.out (by show ln < 1∨ld < 0∨¬ ld % 16=0∨ram < ln∨ram - ln < ld;omega)
  go_wp2_with fail
  go_ret
  exact ⟨by rw [H.out];rfl,bel⟩
 by_cases c4:ld < 0
 ·have H:Hid (fitN (⟨ver,cls,ld,ln,nb,wb,db⟩:Mf) ram=20):=fitN_p HV.out (by show ln < 1∨ld < 0∨¬ ld % 16=0∨ram < ln∨ram - ln < ld;omega)
  go_wp2_with fail
  go_ret
  exact ⟨by rw [H.out];rfl,bel⟩
 have hm:=tmod16 (a:=ld) (by omega)
 obtain ⟨r,hr⟩:∃ r,Int.tmod ld 16=r:=⟨_,rfl⟩
 rw [hr] at hm
 by_cases c5:r=0
 rotate_left
 ·have d1:(r == 0)=false:=by rw [beq_eq_false_iff_ne];exact c5
  have d2:(r != 0)=true:=by rw [bne,d1];rfl
  have H:Hid (fitN (⟨ver,cls,ld,ln,nb,wb,db⟩:Mf) ram=20):=fitN_p HV.out (by show ln < 1∨ld < 0∨¬ ld % 16=0∨ram < ln∨ram - ln < ld;omega)
  go_wp2_with fail
  go_ret
  exact ⟨by rw [H.out];rfl,bel⟩
 have d1:(r != 0)=false:=by rw [c5];rfl
 by_cases c6:ram < ln
 ·have H:Hid (fitN (⟨ver,cls,ld,ln,nb,wb,db⟩:Mf) ram=20):=fitN_p HV.out (by show ln < 1∨ld < 0∨¬ ld % 16=0∨ram < ln∨ram - ln < ld;omega)
  go_wp2_with fail
  go_ret
  exact ⟨by rw [H.out];rfl,bel⟩
 have gs:IntKind.i64.wrap (ram - ln)=ram - ln:=by
  have h1:=HRm.out
  have h2:=HWf.out.2.2.2
  unfold i64B at h1 h2
  rw [IntKind.wrap_i64]
  omega
 by_cases c7:ram - ln < ld
 ·have H:Hid (fitN (⟨ver,cls,ld,ln,nb,wb,db⟩:Mf) ram=20):=fitN_p HV.out (by show ln < 1∨ld < 0∨¬ ld % 16=0∨ram < ln∨ram - ln < ld;omega)
  go_wp2_with fail
  go_ret
  exact ⟨by rw [H.out];rfl,bel⟩
 have H:Hid (fitN (⟨ver,cls,ld,ln,nb,wb,db⟩:Mf) ram=0):=fitN_0 HV.out (by show ¬ (ln < 1∨ld < 0∨¬ ld % 16=0∨ram < ln∨ram - ln < ld);omega)
 go_wp2_with fail
 go_ret
 exact ⟨by rw [H.out];rfl,bel⟩
end Go.Proofs.YtnkipgbnnhahbaaDoor
