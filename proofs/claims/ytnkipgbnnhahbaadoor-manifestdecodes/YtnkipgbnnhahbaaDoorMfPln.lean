/- Lists, plain elements, small numbers, bytes: what manifest reads. -/
import Derived.Test.YtnkipgbnnhahbaaDoorRdSpec
import Derived.Test.YtnkipgbnnhahbaaDoorPrSmall
import Derived.Test.YtnkipgbnnhahbaaDoorDrDep
import Derived.Test.YtnkipgbnnhahbaaDoorRows
import Derived.Deep.OwnRows
import Derived.Deep.AppendLies
import Derived.Great.BuildSlice
import Derived.Laws.Rows
import Derived.BigQuiet
import Derived.Deep.WholeRow
import Derived.Deep.RegionHeld3
import Derived.Deep.DeepCutAuto
import Derived.Deep.DeepFit
namespace Go.Proofs.YtnkipgbnnhahbaaDoor
open Go.RowKit
theorem smlD_kM {c t:Int} {m:Bool} {b:List Int} {ks:List Tl}:smlD (.mk c t m b ks)=if c=0∧t=2∧m=false then okO (smallP b) else none:=rfl
theorem smlD_plain {b:List Int} {n:Int} {ks:List Tl} (h:smallP b=.ok n):smlD (.mk 0 2 false b ks)=some n:=by
 rw [smlD_kM,if_pos ⟨rfl,rfl,rfl⟩,h]
 rfl
theorem smlD_bad {b:List Int} {c:Nat} {ks:List Tl} (h:smallP b=.error c):smlD (.mk 0 2 false b ks)=none:=by
 rw [smlD_kM,if_pos ⟨rfl,rfl,rfl⟩,h]
 rfl
theorem smlD_other {c t:Int} {m:Bool} {b:List Int} {ks:List Tl} (h:¬ (c=0∧t=2∧m=false)):smlD (.mk c t m b ks)=none:=by
 rw [smlD_kM,if_neg h]
set_option linter.unusedSimpArgs false in
set_option maxRecDepth 100000 in
set_option maxHeartbeats 400000 in
theorem c20_isList {c t:Int} {m:Bool} {b:List Int} {ks:List Tl} {cs:List Value} {w:World} (h:TlAt w (.mk c t m b ks) cs) :
  Calls Tryd.prog 20 #[.agg cs.toArray] w fun e w'=>e=.returned (.bool (isList (.mk c t m b ks)))∧Below w.heap.size w w':=by
 rw [TlAt] at h
 obtain ⟨bv,ka,kc,rfl,hbv,-,-,-⟩:=h
 obtain ⟨ba,bc,rfl,-,-,-⟩:=hbv
 have B0:=Blk.new w [.int .i64 c,.int .i64 t,.bool m,.slice ba b.length bc,.slice ka ks.length kc] 32 w.heap.size rfl
 have bel:Below w.heap.size w (w.alloc (.cells #[.int .i64 c,.int .i64 t,.bool m,.slice ba b.length bc,.slice ka ks.length kc] 32)):=(Below.refl _ _).alloc (Nat.le_refl _) _
 go_enter Tryd.func20,Tryd.ntmps20
 go_upto_region 1 with fail
 generalize w.alloc (.cells #[.int .i64 c,.int .i64 t,.bool m,.slice ba b.length bc,.slice ka ks.length kc] 32)=W at *
 have e0:=B0.cell 0 _ rfl
 have e1:=B0.cell 1 _ rfl
 have e2:=B0.cell 2 _ rfl
 have lt0:=B0.lt
 by_cases c1:c=0
 rotate_left
 ·have H:Hid (isList (.mk c t m b ks)=false):=decide_eq_false (fun h=>c1 h.1)
  have d1:(c == 0)=false:=by rw [beq_eq_false_iff_ne];exact c1
  clear c1
  go_wp2_with fail
  go_ret
  exact ⟨by rw [H.out];rfl,bel⟩
 subst c1
 by_cases c2:t=16
 rotate_left
 ·have H:Hid (isList (.mk 0 t m b ks)=false):=decide_eq_false (fun h=>c2 h.2.1)
  have d2:(t == 16)=false:=by rw [beq_eq_false_iff_ne];exact c2
  clear c2
  go_wp2_with fail
  go_ret
  exact ⟨by rw [H.out];rfl,bel⟩
 subst c2
 cases m
 all_goals
  go_wp2_with fail
  go_ret
  exact ⟨rfl,bel⟩
set_option linter.unusedSimpArgs false in
set_option maxRecDepth 100000 in
set_option maxHeartbeats 400000 in
theorem c20_isPlain {c t tg:Int} {m:Bool} {b:List Int} {ks:List Tl} {cs:List Value} {w:World} (h:TlAt w (.mk c t m b ks) cs):Calls Tryd.prog 31 #[.agg cs.toArray,.int .i64 tg] w fun e w'=>e=.returned (.bool (decide (c=0∧t=tg∧m=false)))∧Below w.heap.size w w':=by
 obtain ⟨pb,hpb⟩:∃ z:Bool,decide (c=0∧t=tg∧m=false)=z:=⟨_,rfl⟩
 rw [hpb]
 have HPB:Hid (decide (c=0∧t=tg∧m=false)=pb):=hpb
 clear hpb
 have HT9:Hid (TlAt w (.mk c t m b ks) cs):=h
 rw [TlAt] at h
 obtain ⟨bv,ao,kc,hcs,hbv,-,hkm,hkk⟩:=h
 have HBv:Hid (Bs w bv b):=hbv
 obtain ⟨ba,bc,rfl,-,-,-⟩:=hbv
 have HK:Hid (0 < ks.length→∃ g o,ao=some ⟨g,o,none⟩∧KidsAt w ks g o):=hkk
 obtain ⟨BL,hBL⟩:∃ z,b.length=z:=⟨_,rfl⟩
 obtain ⟨KL,hKL⟩:∃ z,ks.length=z:=⟨_,rfl⟩
 have HBL:Hid (b.length=BL):=hBL
 have HKL:Hid (ks.length=KL):=hKL
 have HKM:Hid (kc≤maxLen):=hkm
 rw [hBL] at hcs HBv
 rw [hKL] at hcs HK
 clear hBL hKL hkk hkm
 subst hcs
 have B0:=Blk.new w [.int .i64 c,.int .i64 t,.bool m,.slice ba BL bc,.slice ao KL kc] 32 w.heap.size rfl
 have bel:Below w.heap.size w (w.alloc (.cells #[.int .i64 c,.int .i64 t,.bool m,.slice ba BL bc,.slice ao KL kc] 32)):=(Below.refl _ _).alloc (Nat.le_refl _) _
 go_enter Tryd.func31,Tryd.ntmps31
 go_upto_region 1 with fail
 generalize w.alloc (.cells #[.int .i64 c,.int .i64 t,.bool m,.slice ba BL bc,.slice ao KL kc] 32)=W at *
 have e0:=B0.cell 0 _ rfl
 have e1:=B0.cell 1 _ rfl
 have e2:=B0.cell 2 _ rfl
 have lt0:=B0.lt
 clear HT9 HBv HK HBL HKL HKM
 by_cases c1:c=0
 rotate_left
 ·have H:Hid (pb=false):=by show _=_;rw [← HPB.out];exact decide_eq_false (fun h=>c1 h.1)
  have d1:(c == 0)=false:=by rw [beq_eq_false_iff_ne];exact c1
  clear c1
  go_wp2_with fail
  go_ret
  exact ⟨by rw [H.out];rfl,bel⟩
 subst c1
 by_cases c2:t=tg
 rotate_left
 ·have H:Hid (pb=false):=by show _=_;rw [← HPB.out];exact decide_eq_false (fun h=>c2 h.2.1)
  have d2:(t == tg)=false:=by rw [beq_eq_false_iff_ne];exact c2
  clear c2
  go_wp2_with fail
  go_ret
  exact ⟨by rw [H.out];rfl,bel⟩
 subst c2
 have d2:(t == t)=true:=beq_self_eq_true _
 cases m
 ·have H:Hid (pb=true):=by show _=_;rw [← HPB.out];exact decide_eq_true ⟨rfl,rfl,rfl⟩
  go_wp2_with fail
  go_ret
  exact ⟨by rw [H.out];rfl,bel⟩
 ·have H:Hid (pb=false):=by show _=_;rw [← HPB.out];exact decide_eq_false (fun h=>by cases h.2.2)
  go_wp2_with fail
  go_ret
  exact ⟨by rw [H.out];rfl,bel⟩
set_option linter.unusedSimpArgs false in
set_option maxRecDepth 100000 in
set_option maxHeartbeats 1000000 in
theorem c20_smallOf {c t:Int} {m:Bool} {b:List Int} {ks:List Tl} {cs:List Value} {w:World} (h:TlAt w (.mk c t m b ks) cs) (wf:WfT (.mk c t m b ks)) (hsz:b.length≤140737488351232):Calls Tryd.prog 21 #[.agg cs.toArray] w (IntO w (smlD (.mk c t m b ks))):=by
 have HSz:Hid (b.length≤140737488351232):=hsz
 have HBy:Hid (byt b):=by rw [WfT] at wf;exact wf.2.2.1
 clear wf hsz
 have HT9:Hid (TlAt w (.mk c t m b ks) cs):=h
 rw [TlAt] at h
 obtain ⟨bv,ao,kc,hcs,hbv,-,hkm,hkk⟩:=h
 have HBv:Hid (Bs w bv b):=hbv
 obtain ⟨ba,bc,rfl,-,-,-⟩:=hbv
 have HK:Hid (0 < ks.length→∃ g o,ao=some ⟨g,o,none⟩∧KidsAt w ks g o):=hkk
 obtain ⟨BL,hBL⟩:∃ z,b.length=z:=⟨_,rfl⟩
 obtain ⟨KL,hKL⟩:∃ z,ks.length=z:=⟨_,rfl⟩
 have HBL:Hid (b.length=BL):=hBL
 have HKL:Hid (ks.length=KL):=hKL
 have HKM:Hid (kc≤maxLen):=hkm
 rw [hBL] at hcs HBv
 rw [hKL] at hcs HK
 clear hBL hKL hkk hkm
 subst hcs
 have B0:=Blk.new w [.int .i64 c,.int .i64 t,.bool m,.slice ba BL bc,.slice ao KL kc] 32 w.heap.size rfl
 have bel:Below w.heap.size w (w.alloc (.cells #[.int .i64 c,.int .i64 t,.bool m,.slice ba BL bc,.slice ao KL kc] 32)):=(Below.refl _ _).alloc (Nat.le_refl _) _
 go_enter Tryd.func21,Tryd.ntmps21
 go_upto_region 1 with fail
 generalize w.alloc (.cells #[.int .i64 c,.int .i64 t,.bool m,.slice ba BL bc,.slice ao KL kc] 32)=W at *
 have hld:(loadVar 32 ⟨w.heap.size,0,none⟩).run Tryd.prog W=.ok (.agg #[.int .i64 c,.int .i64 t,.bool m,.slice ba BL bc,.slice ao KL kc]) W:=B0.load Tryd.underlying32 rfl size_tlv rfl
 have l0:=B0.lt
 go_wp2_with (first|((with_reducible show wpList _ _ _ ({ dst:=_,op:=.load _ _,type:=_,pos:=_,after:=_,guard:=_ } :: _) _ _);refine wpList_load_run (by rfl) (by rfl) (by rfl) hld ?_)|fail)
 refine (c20_isPlain (HT9.out.later bel)).mono ?_
 rintro e w1 ⟨rfl,hb⟩
 replace B0:=B0.later hb
 replace bel:=below_step bel hb
 clear hb hld l0
 by_cases hp:c=0∧t=2∧m=false
 rotate_left
 ·have H:Hid (smlD (.mk c t m b ks)=none):=smlD_other hp
  rw [decide_eq_false hp]
  clear hp
  go_wp2_with fail
  refine bodyPost_ret (results_tmp2 rfl _ _ _) rfl ?_
  exact IntO.bad H.out (errV_code 7) bel
 obtain ⟨rfl,rfl,rfl⟩:=hp
 rw [decide_eq_true (show (0:Int)=0∧(2:Int)=2∧false=false from ⟨rfl,rfl,rfl⟩)]
 have e3:=B0.cell 3 _ rfl
 have l0:=B0.lt
 go_wp2_with fail
 refine (con_Small (HBv.out.later bel) HBy.out HSz.out).mono ?_
 rintro e w2 ⟨hok,hbad⟩
 clear e3 l0
 cases hn:smallP b with
 | error c9 =>
  obtain ⟨rfl,hb⟩:=hbad c9 hn
  have H:Hid (smlD (.mk 0 2 false b ks)=none):=smlD_bad hn
  replace bel:=below_step bel hb
  clear hok hbad hb hn B0
  go_wp2_with fail
  refine bodyPost_ret (results_tmp2 rfl _ _ _) rfl ?_
  exact IntO.bad H.out (errV_code _) bel
 | ok n =>
  obtain ⟨rfl,hb⟩:=hok n hn
  have H:Hid (smlD (.mk 0 2 false b ks)=some n):=smlD_plain hn
  replace bel:=below_step bel hb
  clear hok hbad hb hn B0
  go_wp2_with fail
  refine bodyPost_ret (results_tmp2 rfl _ _ _) rfl ?_
  exact IntO.ok H.out bel
set_option linter.unusedSimpArgs false in
set_option maxRecDepth 100000 in
set_option maxHeartbeats 400000 in
theorem c20_areBytes {c t sz:Int} {m:Bool} {b:List Int} {ks:List Tl} {cs:List Value} {w:World} (h:TlAt w (.mk c t m b ks) cs):Calls Tryd.prog 22 #[.agg cs.toArray,.int .i64 sz] w fun e w'=>e=.returned (.bool (decide (c=0∧t=4∧m=false∧(b.length:Int)=sz)))∧Below w.heap.size w w':=by
 obtain ⟨pb,hpb⟩:∃ z:Bool,decide (c=0∧t=4∧m=false∧(b.length:Int)=sz)=z:=⟨_,rfl⟩
 rw [hpb]
 have HPB:Hid (decide (c=0∧t=4∧m=false∧(b.length:Int)=sz)=pb):=hpb
 clear hpb
 have HT9:Hid (TlAt w (.mk c t m b ks) cs):=h
 rw [TlAt] at h
 obtain ⟨bv,ao,kc,hcs,hbv,-,hkm,hkk⟩:=h
 have HBv:Hid (Bs w bv b):=hbv
 obtain ⟨ba,bc,rfl,-,-,-⟩:=hbv
 have HK:Hid (0 < ks.length→∃ g o,ao=some ⟨g,o,none⟩∧KidsAt w ks g o):=hkk
 obtain ⟨BL,hBL⟩:∃ z,b.length=z:=⟨_,rfl⟩
 obtain ⟨KL,hKL⟩:∃ z,ks.length=z:=⟨_,rfl⟩
 have HBL:Hid (b.length=BL):=hBL
 have HKL:Hid (ks.length=KL):=hKL
 have HKM:Hid (kc≤maxLen):=hkm
 rw [hBL] at hcs HBv
 rw [hKL] at hcs HK
 clear hBL hKL hkk hkm
 subst hcs
 have B0:=Blk.new w [.int .i64 c,.int .i64 t,.bool m,.slice ba BL bc,.slice ao KL kc] 32 w.heap.size rfl
 have bel:Below w.heap.size w (w.alloc (.cells #[.int .i64 c,.int .i64 t,.bool m,.slice ba BL bc,.slice ao KL kc] 32)):=(Below.refl _ _).alloc (Nat.le_refl _) _
 go_enter Tryd.func22,Tryd.ntmps22
 go_upto_region 1 with fail
 generalize w.alloc (.cells #[.int .i64 c,.int .i64 t,.bool m,.slice ba BL bc,.slice ao KL kc] 32)=W at *
 have hld:(loadVar 32 ⟨w.heap.size,0,none⟩).run Tryd.prog W=.ok (.agg #[.int .i64 c,.int .i64 t,.bool m,.slice ba BL bc,.slice ao KL kc]) W:=B0.load Tryd.underlying32 rfl size_tlv rfl
 have l0:=B0.lt
 go_wp2_with (first|((with_reducible show wpList _ _ _ ({ dst:=_,op:=.load _ _,type:=_,pos:=_,after:=_,guard:=_ } :: _) _ _);refine wpList_load_run (by rfl) (by rfl) (by rfl) hld ?_)|fail)
 refine (c20_isPlain (HT9.out.later bel)).mono ?_
 rintro e w1 ⟨rfl,hb⟩
 replace B0:=B0.later hb
 replace bel:=below_step bel hb
 clear hb hld l0
 by_cases hp:c=0∧t=4∧m=false
 rotate_left
 ·have H:Hid (pb=false):=by show _=_;rw [← HPB.out];exact decide_eq_false (fun h=>hp ⟨h.1,h.2.1,h.2.2.1⟩)
  rw [decide_eq_false hp]
  clear hp
  go_wp2_with fail
  go_ret
  exact ⟨by rw [H.out];rfl,bel⟩
 obtain ⟨rfl,rfl,rfl⟩:=hp
 rw [decide_eq_true (show (0:Int)=0∧(4:Int)=4∧false=false from ⟨rfl,rfl,rfl⟩)]
 have e3:=B0.cell 3 _ rfl
 have l0:=B0.lt
 have H:Hid (pb=((BL:Int) == sz)):=by
  show _=_
  rw [← HPB.out,HBL.out]
  by_cases k:(BL:Int)=sz
  ·rw [decide_eq_true ⟨rfl,rfl,rfl,k⟩,beq_iff_eq.2 k]
  ·rw [decide_eq_false (fun h=>k h.2.2.2),beq_eq_false_iff_ne.2 k]
 go_wp2_with fail
 go_ret
 exact ⟨by rw [H.out];rfl,bel⟩
end Go.Proofs.YtnkipgbnnhahbaaDoor
