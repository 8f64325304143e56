/- What the document reads of a small number's element. -/
import Derived.Test.YtnkipgbnnhahbaaDoorRdRef
import Derived.Test.YtnkipgbnnhahbaaDoorPmSmall
import Derived.Test.YtnkipgbnnhahbaaDoorRdSpec
import Derived.Test.YtnkipgbnnhahbaaDoorRows
import Derived.Deep.OwnRows
import Derived.Deep.AppendLies
import Derived.Great.BuildSlice
import Derived.Laws.Rows
import Derived.BigQuiet
import Derived.Deep.WholeRow
import Derived.Deep.RegionHeld3
import Derived.Deep.DeepCutAuto
import Derived.Deep.DeepFit
namespace Go.Proofs.YtnkipgbnnhahbaaDoor
open Go.RowKit
theorem r13_SmallU {v:Value} {B:List Int} {w:World} (hv:Bs w v B) (b:byt B) (hl:B.length≤140737488355328):Calls Tryd.prog 27 #[v] w fun e w'=>∃ (x cc:Int),e=.returned (.tuple #[.int .i64 x,.int .i64 cc])∧Below w.heap.size w w'∧Hid (cc=0→smallP B=.ok x)∧Hid (¬ cc=0→∃ c,smallP B=.error c):=by
 refine (r13_Small hv b hl).mono ?_
 rintro e w' ⟨h1,h2⟩
 cases h:smallP B with
 | ok n=>exact ⟨n,0,(h1 n h).1,(h1 n h).2,fun _=>rfl,fun h=>absurd rfl h⟩
 | error c =>
  have hc:¬ (c:Int)=0:=by
   unfold smallP at h
   split at h
   ·next hh=>cases h;rcases num_bad hh with rfl|rfl<;>decide
   ·split at h
    ·cases h;decide
    ·cases h
  exact ⟨0,c,(h2 c h).1,(h2 c h).2,fun e=>absurd e hc,fun _=>⟨c,rfl⟩⟩
theorem smlD_mk {c t:Int} {m:Bool} {b:List Int} {ks:List Tl}:smlD (.mk c t m b ks)=if c=0∧t=2∧m=false then okO (smallP b) else none:=rfl
set_option linter.unusedSimpArgs false in
set_option maxRecDepth 100000 in
set_option maxHeartbeats 1000000 in
theorem r16_Small {c t:Int} {m:Bool} {b:List Int} {ks:List Tl} {cs:List Value} {w:World} (h:TlAt w (.mk c t m b ks) cs) (wf:WfT (.mk c t m b ks)) (hsz:b.length≤140737488351232):Calls Tryd.prog 17 #[.agg cs.toArray] w (IntB w (smlD (.mk c t m b ks))):=by
 have HSz:Hid (b.length≤140737488351232):=hsz
 have HBy:Hid (byt b):=by rw [WfT] at wf;exact wf.2.2.1
 clear wf hsz
 have HT9:Hid (TlAt w (.mk c t m b ks) cs):=h
 rw [TlAt] at h
 obtain ⟨bv,ao,kc,hcs,hbv,-,hkm,hkk⟩:=h
 have HBv:Hid (Bs w bv b):=hbv
 obtain ⟨ba,bc,rfl,-,-,-⟩:=hbv
 have HK:Hid (0 < ks.length→∃ g o,ao=some ⟨g,o,none⟩∧KidsAt w ks g o):=hkk
 obtain ⟨BL,hBL⟩:∃ z,b.length=z:=⟨_,rfl⟩
 obtain ⟨KL,hKL⟩:∃ z,ks.length=z:=⟨_,rfl⟩
 have HBL:Hid (b.length=BL):=hBL
 have HKL:Hid (ks.length=KL):=hKL
 have HKM:Hid (kc≤maxLen):=hkm
 rw [hBL] at hcs HBv
 rw [hKL] at hcs HK
 clear hBL hKL hkk hkm
 subst hcs
 have B0:=Blk.new w [.int .i64 c,.int .i64 t,.bool m,.slice ba BL bc,.slice ao KL kc] 32 w.heap.size rfl
 have bel:Below w.heap.size w (w.alloc (.cells #[.int .i64 c,.int .i64 t,.bool m,.slice ba BL bc,.slice ao KL kc] 32)):=(Below.refl _ _).alloc (Nat.le_refl _) _
 go_enter Tryd.func17,Tryd.ntmps17
 go_upto_region 1 with fail
 generalize w.alloc (.cells #[.int .i64 c,.int .i64 t,.bool m,.slice ba BL bc,.slice ao KL kc] 32)=W at *
 have e3:=B0.cell 3 _ rfl
 have l0:=B0.lt
 go_wp2_with fail
 refine (r13_SmallU (HBv.out.later bel) HBy.out (by have:=HSz.out;omega)).mono ?_
 rintro e w1 ⟨x,cc,rfl,hb,HOk,HBd⟩
 replace B0:=B0.later hb
 replace bel:=below_step bel hb
 clear hb e3 l0
 have e0:=B0.cell 0 _ rfl
 have e1:=B0.cell 1 _ rfl
 have e2:=B0.cell 2 _ rfl
 have l0:=B0.lt
 by_cases hq:c=0
 rotate_left
 ·have H:Hid (smlD (.mk c t m b ks)=none):=by show _=_;rw [smlD_mk,if_neg (fun h=>hq h.1)]
  have d1:(c == 0)=false:=by rw [beq_eq_false_iff_ne];exact hq
  clear hq
  go_wp2_with fail
  refine bodyPost_ret (results_tmp2 rfl _ _ _) rfl ?_
  exact IntB.no H.out bel
 subst hq
 by_cases hq:t=2
 rotate_left
 ·have H:Hid (smlD (.mk 0 t m b ks)=none):=by show _=_;rw [smlD_mk,if_neg (fun h=>hq h.2.1)]
  have d1:(t == 2)=false:=by rw [beq_eq_false_iff_ne];exact hq
  clear hq
  go_wp2_with fail
  refine bodyPost_ret (results_tmp2 rfl _ _ _) rfl ?_
  exact IntB.no H.out bel
 subst hq
 by_cases hq:m=false
 rotate_left
 ·have H:Hid (smlD (.mk 0 2 m b ks)=none):=by show _=_;rw [smlD_mk,if_neg (fun h=>hq h.2.2)]
  have hq2:m=true:=by cases m with
   | true=>rfl
   | false=>exact absurd rfl hq
  subst hq2
  clear hq
  go_wp2_with fail
  refine bodyPost_ret (results_tmp2 rfl _ _ _) rfl ?_
  exact IntB.no H.out bel
 subst hq
 by_cases hq:cc=0
 rotate_left
 ·have H:Hid (smlD (.mk 0 2 false b ks)=none):=by show _=_;obtain ⟨c9,hc9⟩:=HBd.out hq;rw [smlD_mk,if_pos ⟨rfl,rfl,rfl⟩,hc9];rfl
  have d1:(cc == 0)=false:=by rw [beq_eq_false_iff_ne];exact hq
  clear hq
  go_wp2_with fail
  refine bodyPost_ret (results_tmp2 rfl _ _ _) rfl ?_
  exact IntB.no H.out bel
 subst hq
 have H:Hid (smlD (.mk 0 2 false b ks)=some x):=by show _=_;rw [smlD_mk,if_pos ⟨rfl,rfl,rfl⟩,HOk.out rfl];rfl
 go_wp2_with fail
 refine bodyPost_ret (results_tmp2 rfl _ _ _) rfl ?_
 exact IntB.yes H.out bel
end Go.Proofs.YtnkipgbnnhahbaaDoor
