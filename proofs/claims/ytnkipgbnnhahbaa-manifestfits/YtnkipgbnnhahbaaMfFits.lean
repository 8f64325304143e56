/- Elements of several, and what der.Write answers, shortly. Fits: what the program answers. -/
import Derived.Test.YtnkipgbnnhahbaaClOpt
import Derived.Test.YtnkipgbnnhahbaaCtBase
import Derived.Test.YtnkipgbnnhahbaaRwT
import Derived.Test.YtnkipgbnnhahbaaDrDep
import Derived.Test.YtnkipgbnnhahbaaDcOut
import Derived.Test.YtnkipgbnnhahbaaMfSpec
import Derived.Test.YtnkipgbnnhahbaaRows
import Derived.ChangeArms
import Derived.ChangeOld
import Derived.Lib.ConvBytes
import Derived.Laws.AppendOwn
import Derived.Deep.WholeRow
import Derived.Deep.RegionHeld3
import Derived.Deep.DeepCutAuto
import Derived.Deep.DeepFit
import Derived.Deep.OwnRows
import Derived.Deep.AppendLies
import Derived.Great.BuildSlice
import Derived.Laws.Rows
import Derived.BigQuiet
namespace Go.Proofs.Ytnkipgbnnhahbaa
open Go.RowKit
theorem kc_n {P:Tl→List Value→Prop}:∀ (i:Nat) (k:Tl),([]:List Tl)[i]?=some k→P k ((([]:List Value).drop (5 * i)).take 5):=fun i k h=>by simp at h
theorem kc_c {P:Tl→List Value→Prop} {T:Tl} {cs xs:List Value} {Ts:List Tl} (h:P T cs) (l:cs.length=5) (hr:∀ (i:Nat) (k:Tl),Ts[i]?=some k→P k ((xs.drop (5 * i)).take 5)):∀ (i:Nat) (k:Tl),(T :: Ts)[i]?=some k→P k (((cs++xs).drop (5 * i)).take 5):=fun i k hk=>by
 match i,hk with
 | 0,hk =>
  simp only [List.getElem?_cons_zero,Option.some.injEq] at hk
  subst hk
  rw [Nat.mul_zero,List.drop_zero,List.take_append_of_le_length (by omega),List.take_of_length_le (by omega)]
  exact h
 | i + 1,hk =>
  rw [List.getElem?_cons_succ] at hk
  have:=hr i k hk
  rw [show 5 * (i + 1)=cs.length + 5 * i by omega,← List.drop_drop,List.drop_left]
  exact this
theorem fill_15 {c0 c1 c2:List Value} (h0:c0.length=5) (h1:c1.length=5) (h2:c2.length=5):Instr.fill (fun i=>some (i * 5,5)) ((Array.range (3 * 5)).map ((Value.agg #[.int .i64 0,.int .i64 0,.bool false,.slice none 0 0,.slice none 0 0]).cells[· % (Value.agg #[.int .i64 0,.int .i64 0,.bool false,.slice none 0 0,.slice none 0 0]).cells.size]!)) [(0,.agg c0.toArray),(1,.agg c1.toArray),(2,.agg c2.toArray)]=some (c0++(c1++(c2++[]))).toArray:=by
 obtain ⟨_,_,_,_,_,rfl⟩:=five h0
 obtain ⟨_,_,_,_,_,rfl⟩:=five h1
 obtain ⟨_,_,_,_,_,rfl⟩:=five h2
 kernel_rfl
/-- an error of this number, or none -/
def erN (n:Nat):Value:=if n=0 then .nilIface else .iface 38 (.int .i64 (n:Int))
theorem erN_0:erN 0=.nilIface:=rfl
theorem erN_s {n:Nat} (h:¬ n=0):erN n=.iface 38 (.int .i64 (n:Int)):=if_neg h
/-- what der.Write answers, shortly -/
theorem c17_Write {T:Tl} {cs:List Value} {w:World} (h:TlAt w T cs) (hl:(bytesT T).length≤1099511627776) :
  Calls Try.prog 13 #[.agg cs.toArray] w fun e w'=>∃ v':Value,e=.returned (.tuple #[v',erN (wrN T)])∧Bs w' v' (wrB T)∧NewV w v'∧Below w.heap.size w w':=by
 refine (c12_Write (smT_of_len hl) h).mono ?_
 rintro e w' ⟨v,er,rfl,hw,hb⟩
 by_cases k:wrN T=0
 ·obtain ⟨hf,rfl⟩:=hw.1 k
  refine ⟨v,by rw [k,erN_0],?_,?_,hb⟩
  ·unfold wrB
   rw [if_pos k]
   exact hf.bs
  ·obtain ⟨g,o,cap,cur,rfl,-,-,h3,-,-⟩:=hf
   exact fun a m c e h0=>by simp only [Value.slice.injEq,Option.some.injEq] at e;rw [← e.1];exact h3
 ·obtain ⟨hf,rfl⟩:=hw.2 k
  refine ⟨v,by rw [erN_s k],?_,?_,hb⟩
  ·unfold wrB
   rw [if_neg k]
   exact hf
  ·obtain ⟨ao,cap,rfl,-,-,-⟩:=hf
   exact fun a m c e h0=>by simp only [Value.slice.injEq] at e;simp at e;omega
/-- what is amiss with a manifest in a memory: an error's number, or 0 -/
def fitN (m:Mf) (ram:Int):Nat:=if m.ver < 1∨64 < m.ver then 16 else if m.ln < 1∨m.ld < 0∨¬ m.ld % 16=0∨ram < m.ln∨ram - m.ln < m.ld then 20 else 0
theorem fitN_v {m:Mf} {ram:Int} (h:m.ver < 1∨64 < m.ver):fitN m ram=16:=if_pos h
theorem fitN_p {m:Mf} {ram:Int} (h:¬ (m.ver < 1∨64 < m.ver)) (k:m.ln < 1∨m.ld < 0∨¬ m.ld % 16=0∨ram < m.ln∨ram - m.ln < m.ld):fitN m ram=20:=(if_neg h).trans (if_pos k)
theorem fitN_0 {m:Mf} {ram:Int} (h:¬ (m.ver < 1∨64 < m.ver)) (k:¬ (m.ln < 1∨m.ld < 0∨¬ m.ld % 16=0∨ram < m.ln∨ram - m.ln < m.ld)):fitN m ram=0:=(if_neg h).trans (if_neg k)
theorem tmod16 {a:Int} (h:0≤a):Int.tmod a 16=a % 16:=Int.tmod_eq_emod_of_nonneg h
set_option linter.unusedSimpArgs false in
set_option maxRecDepth 100000 in
set_option maxHeartbeats 1000000 in
theorem con_Fits {m:Mf} {cs:List Value} {ram:Int} {w:World} (h:MfAt w m cs) (wf:WfM m) (hr:i64B ram):Calls Try.prog 11 #[.agg cs.toArray,.int .i64 ram] w fun e w'=>e=.returned (erN (fitN m ram))∧Below w.heap.size w w':=by
 obtain ⟨nv,wv,dv,rfl,-,-,-⟩:=h
 have HWf:Hid (i64B m.ver∧i64B m.cls∧i64B m.ld∧i64B m.ln):=wf.1
 obtain ⟨ver,cls,ld,ln,nb,wb,db⟩:=m
 simp only at HWf ⊢
 have HRm:Hid (i64B ram):=hr
 clear wf hr
 obtain ⟨cs,hcs⟩:∃ cs:List Value,[.int .i64 ver,.int .i64 cls,.int .i64 ld,.int .i64 ln,nv,wv,dv]=cs:=⟨_,rfl⟩
 have HC:Hid ([.int .i64 ver,.int .i64 cls,.int .i64 ld,.int .i64 ln,nv,wv,dv]=cs):=hcs
 rw [hcs]
 clear hcs
 have B0:=Blk.new w cs 24 w.heap.size rfl
 have bel:Below w.heap.size w (w.alloc (.cells cs.toArray 24)):=(Below.refl _ _).alloc (Nat.le_refl _) _
 go_enter Try.func11,Try.ntmps11
 go_upto_region 1 with fail
 generalize w.alloc (.cells cs.toArray 24)=W at *
 have e0:=B0.cell 0 (.int .i64 ver) (by rw [← HC.out];rfl)
 have e2:=B0.cell 2 (.int .i64 ld) (by rw [← HC.out];rfl)
 have e3:=B0.cell 3 (.int .i64 ln) (by rw [← HC.out];rfl)
 have l0:=B0.lt
 by_cases c1:ver < 1
 ·have H:Hid (fitN (⟨ver,cls,ld,ln,nb,wb,db⟩:Mf) ram=16):=fitN_v (.inl c1)
  go_wp2_with fail
  go_ret
  exact ⟨by rw [H.out];rfl,bel⟩
 by_cases c2:64 < ver
 ·have H:Hid (fitN (⟨ver,cls,ld,ln,nb,wb,db⟩:Mf) ram=16):=fitN_v (.inr c2)
  have g2:(64:Int) < ver:=c2
  go_wp2_with fail
  go_ret
  exact ⟨by rw [H.out];rfl,bel⟩
 have HV:Hid (¬ (ver < 1∨64 < ver)):=fun h=>by omega
 by_cases c3:ln < 1
 ·have H:Hid (fitN (⟨ver,cls,ld,ln,nb,wb,db⟩:Mf) ram=20):=fitN_p HV.out (by show ln < 1∨ld < 0∨¬ ld % 16=0∨ram < ln∨ram - ln < ld;omega)
  go_wp2_with fail
  go_ret
  exact ⟨by rw [H.out];rfl,bel⟩
 by_cases c4:ld < 0
 ·have H:Hid (fitN (⟨ver,cls,ld,ln,nb,wb,db⟩:Mf) ram=20):=fitN_p HV.out (by show ln < 1∨ld < 0∨¬ ld % 16=0∨ram < ln∨ram - ln < ld;omega)
  go_wp2_with fail
  go_ret
  exact ⟨by rw [H.out];rfl,bel⟩
 have hm:=tmod16 (a:=ld) (by omega)
 obtain ⟨r,hr⟩:∃ r,Int.tmod ld 16=r:=⟨_,rfl⟩
 rw [hr] at hm
 by_cases c5:r=0
 rotate_left
 ·have d1:(r == 0)=false:=by rw [beq_eq_false_iff_ne];exact c5
  have d2:(r != 0)=true:=by rw [bne,d1];rfl
  have H:Hid (fitN (⟨ver,cls,ld,ln,nb,wb,db⟩:Mf) ram=20):=fitN_p HV.out (by show ln < 1∨ld < 0∨¬ ld % 16=0∨ram < ln∨ram - ln < ld;omega)
  go_wp2_with fail
  go_ret
  exact ⟨by rw [H.out];rfl,bel⟩
 have d1:(r != 0)=false:=by rw [c5];rfl
 by_cases c6:ram < ln
 ·have H:Hid (fitN (⟨ver,cls,ld,ln,nb,wb,db⟩:Mf) ram=20):=fitN_p HV.out (by show ln < 1∨ld < 0∨¬ ld % 16=0∨ram < ln∨ram - ln < ld;omega)
  go_wp2_with fail
  go_ret
  exact ⟨by rw [H.out];rfl,bel⟩
 have gs:IntKind.i64.wrap (ram - ln)=ram - ln:=by
  have h1:=HRm.out
  have h2:=HWf.out.2.2.2
  unfold i64B at h1 h2
  rw [IntKind.wrap_i64]
  omega
 by_cases c7:ram - ln < ld
 ·have H:Hid (fitN (⟨ver,cls,ld,ln,nb,wb,db⟩:Mf) ram=20):=fitN_p HV.out (by show ln < 1∨ld < 0∨¬ ld % 16=0∨ram < ln∨ram - ln < ld;omega)
  go_wp2_with fail
  go_ret
  exact ⟨by rw [H.out];rfl,bel⟩
 have H:Hid (fitN (⟨ver,cls,ld,ln,nb,wb,db⟩:Mf) ram=0):=fitN_0 HV.out (by show ¬ (ln < 1∨ld < 0∨¬ ld % 16=0∨ram < ln∨ram - ln < ld);omega)
 go_wp2_with fail
 go_ret
 exact ⟨by rw [H.out];rfl,bel⟩
end Go.Proofs.Ytnkipgbnnhahbaa
