/- The law's read. -/
import Derived.Test.YtnkipgbnnhahbaaDoorMfSm
import Derived.Test.YtnkipgbnnhahbaaDoorMfDec
import Derived.Test.YtnkipgbnnhahbaaDoorMfSpec
import Derived.Test.YtnkipgbnnhahbaaDoorRdSpec
import Derived.Test.YtnkipgbnnhahbaaDoorRdRef
import Derived.Test.YtnkipgbnnhahbaaDoorMfOf
import Derived.Test.YtnkipgbnnhahbaaDoorEdDecode
import Derived.Test.YtnkipgbnnhahbaaDoorClOpt
import Derived.Test.YtnkipgbnnhahbaaDoorDrDep
import Derived.Test.YtnkipgbnnhahbaaDoorRwT
import Derived.Test.YtnkipgbnnhahbaaDoorRows
import Derived.Deep.OwnRows
import Derived.Deep.AppendLies
import Derived.Great.BuildSlice
import Derived.Laws.Rows
import Derived.BigQuiet
import Derived.Deep.WholeRow
import Derived.Deep.RegionHeld3
import Derived.Deep.DeepCutAuto
import Derived.Deep.DeepFit
namespace Go.Proofs.YtnkipgbnnhahbaaDoor
open Go.RowKit
/-- what read tells -/
def ReadM (w:World) (r:Option Mf) (e:Ending) (w':World):Prop:=Below w.heap.size w w'∧(r=none→∃ cs:List Value,e=.returned (.tuple #[.agg cs.toArray,.bool false])∧cs.length=7∧OneC cs)∧(∀ m,r=some m→∃ cs:List Value,e=.returned (.tuple #[.agg cs.toArray,.bool true])∧MfAt w' m cs)
theorem ReadM.no {w w':World} {r:Option Mf} {cs:List Value} (h:r=none) (hl:cs.length=7) (ho:OneC cs) (hb:Below w.heap.size w w'):ReadM w r (.returned (.tuple #[.agg cs.toArray,.bool false])) w':=⟨hb,fun _=>⟨cs,rfl,hl,ho⟩,fun n q=>(by rw [h] at q;cases q)⟩
theorem ReadM.yes {w w':World} {r:Option Mf} {m:Mf} {cs:List Value} (h:r=some m) (hv:MfAt w' m cs) (hb:Below w.heap.size w w'):ReadM w r (.returned (.tuple #[.agg cs.toArray,.bool true])) w':=⟨hb,fun q=>(by rw [h] at q;cases q),fun m' q=>(by rw [h] at q;cases q;exact ⟨cs,rfl,hv⟩)⟩
theorem IntB.u20 {w w':World} {r:Option Int} {e:Ending} (h:IntB w r e w'):Below w.heap.size w w'∧∃ (x:Int) (bb:Bool),e=.returned (.tuple #[.int .i64 x,.bool bb])∧Hid (bb=true→r=some x)∧Hid (bb=false→r=none):=by
 obtain ⟨hb,h1,h2⟩:=h
 refine ⟨hb,?_⟩
 cases hr:r with
 | none =>
  obtain ⟨x,rfl⟩:=h1 hr
  exact ⟨x,false,rfl,(fun h=>by cases h),fun _=>rfl⟩
 | some x =>
  rw [h2 x hr]
  exact ⟨x,true,rfl,fun _=>rfl,(fun h=>by cases h)⟩
theorem u_Small20 {T:Tl} {cs:List Value} {w:World} (h:TlAt w T cs) (gd:GdT T):Calls Tryd.prog 17 #[.agg cs.toArray] w (IntB w (smlD T)):=by
 obtain ⟨c,t,m,b,ks⟩:=T
 exact r16_Small h gd.wf (by have:=gd.body;omega)
def plain4:Tl→Prop
 | .mk c t m _ _=>c=0∧t=4∧m=false
theorem bytD_p {k:Tl} (h:plain4 k):bytD k=some (bodyF k):=by
 obtain ⟨c,t,m,b,ks⟩:=k
 obtain ⟨rfl,rfl,rfl⟩:=h
 show (if (0:Int)=0∧(4:Int)=4∧false=false then some b else none)=some b
 rw [if_pos ⟨rfl,rfl,rfl⟩]
theorem bytD_n {k:Tl} (h:¬ plain4 k):bytD k=none:=by
 obtain ⟨c,t,m,b,ks⟩:=k
 show (if c=0∧t=4∧m=false then some b else none)=none
 exact if_neg h
theorem mfL_bad4 {ks:List Tl} {k:Tl} {i:Nat} (hl:ks.length=7) (h4:4≤i) (hi:i < 7) (hk:ks[i]?=some k) (h:bytD k=none):mfL ks=none:=by
 obtain ⟨k0,k1,k2,k3,k4,k5,k6,rfl⟩:=list7 hl
 rw [mfL_7]
 refine bind_no20 _ (fun a=>bind_no20 _ (fun b=>bind_no20 _ (fun c=>bind_no20 _ (fun d=>?_))))
 match i,h4,hi with
 | 4,_,_=>cases hk;rw [h];rfl
 | 5,_,_=>cases hk;exact bind_no20 _ (fun x=>by rw [h];rfl)
 | 6,_,_=>cases hk;exact bind_no20 _ (fun x=>bind_no20 _ (fun y=>by rw [h];rfl))
theorem mfL_of {k0 k1 k2 k3 k4 k5 k6:Tl} {a b c d:Int} (h0:smlD k0=some a) (h1:smlD k1=some b) (h2:smlD k2=some c) (h3:smlD k3=some d) (h4:plain4 k4) (h5:plain4 k5) (h6:plain4 k6):mfL [k0,k1,k2,k3,k4,k5,k6]=mfOf a b c d (bodyF k4) (bodyF k5) (bodyF k6):=by
 rw [mfL_7,h0,Option.bind_some,h1,Option.bind_some,h2,Option.bind_some,h3,Option.bind_some,bytD_p h4,Option.bind_some,bytD_p h5,Option.bind_some,bytD_p h6,Option.bind_some]
theorem bld_mf (a b c d:Int) (x y z:Option Addr) (k l m n o p:Nat):∀ w:World,(Instr.build 25 #[(0,.int .i64 a),(1,.int .i64 b),(2,.int .i64 c),(3,.int .i64 d),(4,.slice x k l),(5,.slice y m n),(6,.slice z o p)]).run Tryd.prog w=.ok (.agg #[.int .i64 a,.int .i64 b,.int .i64 c,.int .i64 d,.slice x k l,.slice y m n,.slice z o p]) w:=fun w=>by kernel_rfl
set_option linter.unusedSimpArgs false in
set_option maxRecDepth 100000 in
set_option maxHeartbeats 4000000 in
theorem con_read20 {c t:Int} {m:Bool} {b:List Int} {ks:List Tl} {cs:List Value} {w:World} (h:TlAt w (.mk c t m b ks) cs) (gd:GdT (.mk c t m b ks)):Calls Tryd.prog 9 #[.agg cs.toArray] w (ReadM w (mfD (.mk c t m b ks))):=by
 have HGd:Hid (GdT (.mk c t m b ks)):=gd
 clear gd
 have hz:=zero_mf.out
 have HT9:Hid (TlAt w (.mk c t m b ks) cs):=h
 rw [TlAt] at h
 obtain ⟨bv,ao,kc,hcs,hbv,-,hkm,hkk⟩:=h
 have HBv:Hid (Bs w bv b):=hbv
 obtain ⟨ba,bc,rfl,-,-,-⟩:=hbv
 have HK:Hid (0 < ks.length→∃ g o,ao=some ⟨g,o,none⟩∧KidsAt w ks g o):=hkk
 obtain ⟨BL,hBL⟩:∃ z,b.length=z:=⟨_,rfl⟩
 obtain ⟨KL,hKL⟩:∃ z,ks.length=z:=⟨_,rfl⟩
 have HBL:Hid (b.length=BL):=hBL
 have HKL:Hid (ks.length=KL):=hKL
 have HKM:Hid (kc≤maxLen):=hkm
 rw [hBL] at hcs HBv
 rw [hKL] at hcs HK
 clear hBL hKL hkk hkm
 subst hcs
 have B0:=(Blk.new w [.int .i64 c,.int .i64 t,.bool m,.slice ba BL bc,.slice ao KL kc] 32 w.heap.size rfl).alloc (.cells #[.int .i64 0,.int .i64 0,.int .i64 0,.int .i64 0,.slice none 0 0,.slice none 0 0,.slice none 0 0] 25)
 have R0:=Blk.new (w.alloc (.cells #[.int .i64 c,.int .i64 t,.bool m,.slice ba BL bc,.slice ao KL kc] 32)) [.int .i64 0,.int .i64 0,.int .i64 0,.int .i64 0,.slice none 0 0,.slice none 0 0,.slice none 0 0] 25 (w.heap.size + 1) (by simp)
 have bel:Below w.heap.size w ((w.alloc (.cells #[.int .i64 c,.int .i64 t,.bool m,.slice ba BL bc,.slice ao KL kc] 32)).alloc (.cells #[.int .i64 0,.int .i64 0,.int .i64 0,.int .i64 0,.slice none 0 0,.slice none 0 0,.slice none 0 0] 25)):=((Below.refl _ _).alloc (Nat.le_refl _) _).alloc (by simp) _
 go_enter Tryd.func9,Tryd.ntmps9
 go_upto_region 1 with fail
 generalize (w.alloc (.cells #[.int .i64 c,.int .i64 t,.bool m,.slice ba BL bc,.slice ao KL kc] 32)).alloc (.cells #[.int .i64 0,.int .i64 0,.int .i64 0,.int .i64 0,.slice none 0 0,.slice none 0 0,.slice none 0 0] 25)=W at *
 clear hz
 have hld:(loadVar 32 ⟨w.heap.size,0,none⟩).run Tryd.prog W=.ok (.agg #[.int .i64 c,.int .i64 t,.bool m,.slice ba BL bc,.slice ao KL kc]) W:=B0.load Tryd.underlying32 rfl size_tlv rfl
 have l0:=B0.lt
 have e4:=B0.cell 4 _ rfl
 go_wp2_with (first|((with_reducible show wpList _ _ _ ({ dst:=_,op:=.load _ _,type:=_,pos:=_,after:=_,guard:=_ } :: _) _ _);refine wpList_load_run (by rfl) (by rfl) (by rfl) hld ?_)|fail)
 refine (r16_IsList (HT9.out.later bel)).mono ?_
 rintro e w1 ⟨rfl,hb⟩
 replace B0:=B0.later hb
 replace R0:=R0.later hb
 replace bel:=below_step bel hb
 clear hb hld l0 e4
 have e4:=B0.cell 4 _ rfl
 have l0:=B0.lt
 by_cases hp:c=0∧t=16∧m=true
 rotate_left
 ·have H:Hid (mfD (.mk c t m b ks)=none):=by show _=_;rw [mfD_mk,if_neg hp]
  rw [isL_decM,decide_eq_false hp]
  clear hp
  have hz:=zero_mf.out
  obtain ⟨tR,hR⟩:=R0
  have HR1:Hid _:=hR
  clear hR
  go_wp2_with (first|((with_reducible show wpList _ _ _ ({ dst:=_,op:=.store _ _ _,type:=_,pos:=_,after:=_,guard:=_ } :: _) _ _);refine wpList_store_row rfl 25 _ _ rfl (w.heap.size + 1) #[.int .i64 0,.int .i64 0,.int .i64 0,.int .i64 0,.slice none 0 0,.slice none 0 0,.slice none 0 0] rfl rfl tR _ HR1.out (by rw [size_mf];rfl) rfl (by simp [Value.oneCell']) ?_)|fail)
  refine bodyPost_ret (results_row_tmp rfl _ _ (w.heap.size + 1) tR #[.int .i64 0,.int .i64 0,.int .i64 0,.int .i64 0,.slice none 0 0,.slice none 0 0,.slice none 0 0] (0,0) _ rfl (setRow_heap _ _ _ _ _ _ HR1.out) Tryd.underlying25 rfl (by rw [size_mf];rfl)) rfl ?_
  exact ReadM.no (cs:=[.int .i64 0,.int .i64 0,.int .i64 0,.int .i64 0,.slice none 0 0,.slice none 0 0,.slice none 0 0]) H.out rfl (by simp [OneC,Value.oneCell']) (below_setRow bel (by omega) _)
 have HD:Hid (mfD (.mk c t m b ks)=mfL ks):=by show _=_;rw [mfD_mk,if_pos hp]
 rw [isL_decM,decide_eq_true hp]
 clear hp
 by_cases k7:KL=7
 rotate_left
 ·have H:Hid (mfD (.mk c t m b ks)=none):=by show _=_;rw [HD.out];exact mfL_len (by rw [HKL.out];exact k7)
  have d1:((KL:Int) == 7)=false:=by rw [beq_eq_false_iff_ne];omega
  have d2:((KL:Int) != 7)=true:=by rw [bne,d1];rfl
  clear k7
  have hz:=zero_mf.out
  obtain ⟨tR,hR⟩:=R0
  have HR1:Hid _:=hR
  clear hR
  go_wp2_with (first|((with_reducible show wpList _ _ _ ({ dst:=_,op:=.store _ _ _,type:=_,pos:=_,after:=_,guard:=_ } :: _) _ _);refine wpList_store_row rfl 25 _ _ rfl (w.heap.size + 1) #[.int .i64 0,.int .i64 0,.int .i64 0,.int .i64 0,.slice none 0 0,.slice none 0 0,.slice none 0 0] rfl rfl tR _ HR1.out (by rw [size_mf];rfl) rfl (by simp [Value.oneCell']) ?_)|fail)
  refine bodyPost_ret (results_row_tmp rfl _ _ (w.heap.size + 1) tR #[.int .i64 0,.int .i64 0,.int .i64 0,.int .i64 0,.slice none 0 0,.slice none 0 0,.slice none 0 0] (0,0) _ rfl (setRow_heap _ _ _ _ _ _ HR1.out) Tryd.underlying25 rfl (by rw [size_mf];rfl)) rfl ?_
  exact ReadM.no (cs:=[.int .i64 0,.int .i64 0,.int .i64 0,.int .i64 0,.slice none 0 0,.slice none 0 0,.slice none 0 0]) H.out rfl (by simp [OneC,Value.oneCell']) (below_setRow bel (by omega) _)
 subst k7
 have d1:(((7:Nat):Int) != 7)=false:=by rfl
 obtain ⟨k0,k1,k2,k3,k4,k5,k6,hk7⟩:=list7 HKL.out
 subst hk7
 obtain ⟨g,o,hao,hks⟩:=HK.out (by omega)
 subst hao
 obtain ⟨cs0,hcs0,ht0⟩:=hks.get (i:=0) (k:=k0) rfl
 rw [show 5 * 0=0 from rfl] at hcs0
 rw [Nat.add_zero] at hcs0
 have HT0:Hid (TlAt w k0 cs0):=ht0
 have HC0:Hid (CsAt w g (o) cs0):=hcs0
 have H50:Hid (cs0.length=5):=ht0.five
 clear hcs0 ht0
 obtain ⟨cs1,hcs1,ht1⟩:=hks.get (i:=1) (k:=k1) rfl
 rw [show 5 * 1=5 from rfl] at hcs1
 have HT1:Hid (TlAt w k1 cs1):=ht1
 have HC1:Hid (CsAt w g (o + 5) cs1):=hcs1
 have H51:Hid (cs1.length=5):=ht1.five
 clear hcs1 ht1
 obtain ⟨cs2,hcs2,ht2⟩:=hks.get (i:=2) (k:=k2) rfl
 rw [show 5 * 2=10 from rfl] at hcs2
 have HT2:Hid (TlAt w k2 cs2):=ht2
 have HC2:Hid (CsAt w g (o + 10) cs2):=hcs2
 have H52:Hid (cs2.length=5):=ht2.five
 clear hcs2 ht2
 obtain ⟨cs3,hcs3,ht3⟩:=hks.get (i:=3) (k:=k3) rfl
 rw [show 5 * 3=15 from rfl] at hcs3
 have HT3:Hid (TlAt w k3 cs3):=ht3
 have HC3:Hid (CsAt w g (o + 15) cs3):=hcs3
 have H53:Hid (cs3.length=5):=ht3.five
 clear hcs3 ht3
 obtain ⟨cs4,hcs4,ht4⟩:=hks.get (i:=4) (k:=k4) rfl
 rw [show 5 * 4=20 from rfl] at hcs4
 have HT4:Hid (TlAt w k4 cs4):=ht4
 have HC4:Hid (CsAt w g (o + 20) cs4):=hcs4
 have H54:Hid (cs4.length=5):=ht4.five
 clear hcs4 ht4
 obtain ⟨cs5,hcs5,ht5⟩:=hks.get (i:=5) (k:=k5) rfl
 rw [show 5 * 5=25 from rfl] at hcs5
 have HT5:Hid (TlAt w k5 cs5):=ht5
 have HC5:Hid (CsAt w g (o + 25) cs5):=hcs5
 have H55:Hid (cs5.length=5):=ht5.five
 clear hcs5 ht5
 obtain ⟨cs6,hcs6,ht6⟩:=hks.get (i:=6) (k:=k6) rfl
 rw [show 5 * 6=30 from rfl] at hcs6
 have HT6:Hid (TlAt w k6 cs6):=ht6
 have HC6:Hid (CsAt w g (o + 30) cs6):=hcs6
 have H56:Hid (cs6.length=5):=ht6.five
 clear hcs6 ht6
 have HKs:Hid (KidsAt w [k0,k1,k2,k3,k4,k5,k6] g o):=hks
 clear hks
 go_upto_region 4 with fail
 clear d1 e4 l0
 have hld:(loadVar 32 ⟨g,o,none⟩).run Tryd.prog w1=.ok (.agg cs0.toArray) w1:=tlv_load (HC0.out.later bel) H50.out
 have lg:g < w1.heap.size:=(HC0.out.later bel).1
 have e4:=B0.cell 4 _ rfl
 have l0:=B0.lt
 go_wp2_with (first|((with_reducible show wpList _ _ _ ({ dst:=_,op:=.load _ _,type:=_,pos:=_,after:=_,guard:=_ } :: _) _ _);refine wpList_load_run (by rfl) (by rfl) (by rfl) hld ?_)|fail)
 refine (u_Small20 (HT0.out.later bel) (HGd.out.kid (i:=0) rfl)).mono ?_
 rintro e v0 hr
 obtain ⟨hb,x0,b0,rfl,HY0,HN0⟩:=hr.u20
 replace B0:=B0.later hb
 replace R0:=R0.later hb
 replace bel:=below_step bel hb
 clear hb hr hld lg e4 l0
 have hld:(loadVar 32 ⟨g,o + 5,none⟩).run Tryd.prog v0=.ok (.agg cs1.toArray) v0:=tlv_load (HC1.out.later bel) H51.out
 have lg:g < v0.heap.size:=(HC1.out.later bel).1
 have e4:=B0.cell 4 _ rfl
 have l0:=B0.lt
 go_wp2_with (first|((with_reducible show wpList _ _ _ ({ dst:=_,op:=.load _ _,type:=_,pos:=_,after:=_,guard:=_ } :: _) _ _);refine wpList_load_run (by rfl) (by rfl) (by rfl) hld ?_)|fail)
 refine (u_Small20 (HT1.out.later bel) (HGd.out.kid (i:=1) rfl)).mono ?_
 rintro e v1 hr
 obtain ⟨hb,x1,b1,rfl,HY1,HN1⟩:=hr.u20
 replace B0:=B0.later hb
 replace R0:=R0.later hb
 replace bel:=below_step bel hb
 clear hb hr hld lg e4 l0
 have hld:(loadVar 32 ⟨g,o + 10,none⟩).run Tryd.prog v1=.ok (.agg cs2.toArray) v1:=tlv_load (HC2.out.later bel) H52.out
 have lg:g < v1.heap.size:=(HC2.out.later bel).1
 have e4:=B0.cell 4 _ rfl
 have l0:=B0.lt
 go_wp2_with (first|((with_reducible show wpList _ _ _ ({ dst:=_,op:=.load _ _,type:=_,pos:=_,after:=_,guard:=_ } :: _) _ _);refine wpList_load_run (by rfl) (by rfl) (by rfl) hld ?_)|fail)
 refine (u_Small20 (HT2.out.later bel) (HGd.out.kid (i:=2) rfl)).mono ?_
 rintro e v2 hr
 obtain ⟨hb,x2,b2,rfl,HY2,HN2⟩:=hr.u20
 replace B0:=B0.later hb
 replace R0:=R0.later hb
 replace bel:=below_step bel hb
 clear hb hr hld lg e4 l0
 have hld:(loadVar 32 ⟨g,o + 15,none⟩).run Tryd.prog v2=.ok (.agg cs3.toArray) v2:=tlv_load (HC3.out.later bel) H53.out
 have lg:g < v2.heap.size:=(HC3.out.later bel).1
 have e4:=B0.cell 4 _ rfl
 have l0:=B0.lt
 go_wp2_with (first|((with_reducible show wpList _ _ _ ({ dst:=_,op:=.load _ _,type:=_,pos:=_,after:=_,guard:=_ } :: _) _ _);refine wpList_load_run (by rfl) (by rfl) (by rfl) hld ?_)|fail)
 refine (u_Small20 (HT3.out.later bel) (HGd.out.kid (i:=3) rfl)).mono ?_
 rintro e v3 hr
 obtain ⟨hb,x3,b3,rfl,HY3,HN3⟩:=hr.u20
 replace B0:=B0.later hb
 replace R0:=R0.later hb
 replace bel:=below_step bel hb
 clear hb hr hld lg e4 l0
 go_upto_region 8 with fail
 cases b0 with
 | false =>
  have H:Hid (mfD (.mk c t m b [k0,k1,k2,k3,k4,k5,k6])=none):=by show _=_;rw [HD.out];exact mfL_bad (i:=0) rfl (by omega) rfl (HN0.out rfl)
  have hz:=zero_mf.out
  obtain ⟨tR,hR⟩:=R0
  have HR1:Hid _:=hR
  clear hR
  go_wp2_with (first|((with_reducible show wpList _ _ _ ({ dst:=_,op:=.store _ _ _,type:=_,pos:=_,after:=_,guard:=_ } :: _) _ _);refine wpList_store_row rfl 25 _ _ rfl (w.heap.size + 1) #[.int .i64 0,.int .i64 0,.int .i64 0,.int .i64 0,.slice none 0 0,.slice none 0 0,.slice none 0 0] rfl rfl tR _ HR1.out (by rw [size_mf];rfl) rfl (by simp [Value.oneCell']) ?_)|fail)
  refine bodyPost_ret (results_row_tmp rfl _ _ (w.heap.size + 1) tR #[.int .i64 0,.int .i64 0,.int .i64 0,.int .i64 0,.slice none 0 0,.slice none 0 0,.slice none 0 0] (0,0) _ rfl (setRow_heap _ _ _ _ _ _ HR1.out) Tryd.underlying25 rfl (by rw [size_mf];rfl)) rfl ?_
  exact ReadM.no (cs:=[.int .i64 0,.int .i64 0,.int .i64 0,.int .i64 0,.slice none 0 0,.slice none 0 0,.slice none 0 0]) H.out rfl (by simp [OneC,Value.oneCell']) (below_setRow bel (by omega) _)
 | true =>
 replace HY0:Hid (smlD k0=some x0):=HY0.out rfl
 clear HN0
 cases b1 with
 | false =>
  have H:Hid (mfD (.mk c t m b [k0,k1,k2,k3,k4,k5,k6])=none):=by show _=_;rw [HD.out];exact mfL_bad (i:=1) rfl (by omega) rfl (HN1.out rfl)
  have hz:=zero_mf.out
  obtain ⟨tR,hR⟩:=R0
  have HR1:Hid _:=hR
  clear hR
  go_wp2_with (first|((with_reducible show wpList _ _ _ ({ dst:=_,op:=.store _ _ _,type:=_,pos:=_,after:=_,guard:=_ } :: _) _ _);refine wpList_store_row rfl 25 _ _ rfl (w.heap.size + 1) #[.int .i64 0,.int .i64 0,.int .i64 0,.int .i64 0,.slice none 0 0,.slice none 0 0,.slice none 0 0] rfl rfl tR _ HR1.out (by rw [size_mf];rfl) rfl (by simp [Value.oneCell']) ?_)|fail)
  refine bodyPost_ret (results_row_tmp rfl _ _ (w.heap.size + 1) tR #[.int .i64 0,.int .i64 0,.int .i64 0,.int .i64 0,.slice none 0 0,.slice none 0 0,.slice none 0 0] (0,0) _ rfl (setRow_heap _ _ _ _ _ _ HR1.out) Tryd.underlying25 rfl (by rw [size_mf];rfl)) rfl ?_
  exact ReadM.no (cs:=[.int .i64 0,.int .i64 0,.int .i64 0,.int .i64 0,.slice none 0 0,.slice none 0 0,.slice none 0 0]) H.out rfl (by simp [OneC,Value.oneCell']) (below_setRow bel (by omega) _)
 | true =>
 replace HY1:Hid (smlD k1=some x1):=HY1.out rfl
 clear HN1
 cases b2 with
 | false =>
  have H:Hid (mfD (.mk c t m b [k0,k1,k2,k3,k4,k5,k6])=none):=by show _=_;rw [HD.out];exact mfL_bad (i:=2) rfl (by omega) rfl (HN2.out rfl)
  have hz:=zero_mf.out
  obtain ⟨tR,hR⟩:=R0
  have HR1:Hid _:=hR
  clear hR
  go_wp2_with (first|((with_reducible show wpList _ _ _ ({ dst:=_,op:=.store _ _ _,type:=_,pos:=_,after:=_,guard:=_ } :: _) _ _);refine wpList_store_row rfl 25 _ _ rfl (w.heap.size + 1) #[.int .i64 0,.int .i64 0,.int .i64 0,.int .i64 0,.slice none 0 0,.slice none 0 0,.slice none 0 0] rfl rfl tR _ HR1.out (by rw [size_mf];rfl) rfl (by simp [Value.oneCell']) ?_)|fail)
  refine bodyPost_ret (results_row_tmp rfl _ _ (w.heap.size + 1) tR #[.int .i64 0,.int .i64 0,.int .i64 0,.int .i64 0,.slice none 0 0,.slice none 0 0,.slice none 0 0] (0,0) _ rfl (setRow_heap _ _ _ _ _ _ HR1.out) Tryd.underlying25 rfl (by rw [size_mf];rfl)) rfl ?_
  exact ReadM.no (cs:=[.int .i64 0,.int .i64 0,.int .i64 0,.int .i64 0,.slice none 0 0,.slice none 0 0,.slice none 0 0]) H.out rfl (by simp [OneC,Value.oneCell']) (below_setRow bel (by omega) _)
 | true =>
 replace HY2:Hid (smlD k2=some x2):=HY2.out rfl
 clear HN2
 cases b3 with
 | false =>
  have H:Hid (mfD (.mk c t m b [k0,k1,k2,k3,k4,k5,k6])=none):=by show _=_;rw [HD.out];exact mfL_bad (i:=3) rfl (by omega) rfl (HN3.out rfl)
  have hz:=zero_mf.out
  obtain ⟨tR,hR⟩:=R0
  have HR1:Hid _:=hR
  clear hR
  go_wp2_with (first|((with_reducible show wpList _ _ _ ({ dst:=_,op:=.store _ _ _,type:=_,pos:=_,after:=_,guard:=_ } :: _) _ _);refine wpList_store_row rfl 25 _ _ rfl (w.heap.size + 1) #[.int .i64 0,.int .i64 0,.int .i64 0,.int .i64 0,.slice none 0 0,.slice none 0 0,.slice none 0 0] rfl rfl tR _ HR1.out (by rw [size_mf];rfl) rfl (by simp [Value.oneCell']) ?_)|fail)
  refine bodyPost_ret (results_row_tmp rfl _ _ (w.heap.size + 1) tR #[.int .i64 0,.int .i64 0,.int .i64 0,.int .i64 0,.slice none 0 0,.slice none 0 0,.slice none 0 0] (0,0) _ rfl (setRow_heap _ _ _ _ _ _ HR1.out) Tryd.underlying25 rfl (by rw [size_mf];rfl)) rfl ?_
  exact ReadM.no (cs:=[.int .i64 0,.int .i64 0,.int .i64 0,.int .i64 0,.slice none 0 0,.slice none 0 0,.slice none 0 0]) H.out rfl (by simp [OneC,Value.oneCell']) (below_setRow bel (by omega) _)
 | true =>
 replace HY3:Hid (smlD k3=some x3):=HY3.out rfl
 clear HN3
 go_wp2_with fail
 go_loopw [13] (fun iv wx=>∃ i:Nat,4≤i∧i≤7∧iv=.int .i64 (i:Int)∧Hid (∀ j k,4≤j→j < i→[k0,k1,k2,k3,k4,k5,k6][j]?=some k→plain4 k)∧Blk wx w.heap.size [.int .i64 c,.int .i64 t,.bool m,.slice ba BL bc,.slice (some ⟨g,o,none⟩) 7 kc]∧Blk wx (w.heap.size + 1) [.int .i64 0,.int .i64 0,.int .i64 0,.int .i64 0,.slice none 0 0,.slice none 0 0,.slice none 0 0]∧Below w.heap.size w wx) (fun iv _=>7 - (intOf iv).toNat)
 case atStart=>exact ⟨4,by omega,by omega,rfl,fun j k h1 h2=>absurd h1 (by omega),B0,R0,bel⟩
 case round =>
  clear B0 R0 bel
  obtain ⟨i,hi4,hi7,rfl,HA,B0,R0,bel⟩:=hrel
  by_cases hil:i < 7
  rotate_left
  ·obtain rfl:i=7:=by omega
   have g1:¬ ((7:Nat):Int) < 7:=by omega
   have HP:Hid (plain4 k4∧plain4 k5∧plain4 k6):=⟨HA.out 4 k4 (by omega) (by omega) rfl,HA.out 5 k5 (by omega) (by omega) rfl,HA.out 6 k6 (by omega) (by omega) rfl⟩
   have HDo:Hid (mfD (.mk c t m b [k0,k1,k2,k3,k4,k5,k6])=mfOf x0 x1 x2 x3 (bodyF k4) (bodyF k5) (bodyF k6)):=by show _=_;rw [HD.out];exact mfL_of HY0.out HY1.out HY2.out HY3.out HP.out.1 HP.out.2.1 HP.out.2.2
   clear HA hi4 hi7 hil
   obtain ⟨a4,n4,c4,hc4,hb4⟩:=tl_bodyF HT4.out
   have HBs4:Hid (Bs w (.slice a4 n4 c4) (bodyF k4)):=hb4
   have Hn4:Hid ((bodyF k4).length=n4):=by
    obtain ⟨_,_,e,-⟩:=hb4
    simp only [Value.slice.injEq] at e
    exact e.2.1.symm
   have HCc4:Hid (cs4[3]?=some (.slice a4 n4 c4)):=hc4
   clear hb4 hc4
   obtain ⟨a5,n5,c5,hc5,hb5⟩:=tl_bodyF HT5.out
   have HBs5:Hid (Bs w (.slice a5 n5 c5) (bodyF k5)):=hb5
   have Hn5:Hid ((bodyF k5).length=n5):=by
    obtain ⟨_,_,e,-⟩:=hb5
    simp only [Value.slice.injEq] at e
    exact e.2.1.symm
   have HCc5:Hid (cs5[3]?=some (.slice a5 n5 c5)):=hc5
   clear hb5 hc5
   obtain ⟨a6,n6,c6,hc6,hb6⟩:=tl_bodyF HT6.out
   have HBs6:Hid (Bs w (.slice a6 n6 c6) (bodyF k6)):=hb6
   have Hn6:Hid ((bodyF k6).length=n6):=by
    obtain ⟨_,_,e,-⟩:=hb6
    simp only [Value.slice.injEq] at e
    exact e.2.1.symm
   have HCc6:Hid (cs6[3]?=some (.slice a6 n6 c6)):=hc6
   clear hb6 hc6
   go_upto_region 16 with fail
   clear g1
   obtain ⟨S1,hS1,KB1,KI1,KD1,KL1,KA1⟩:∃ S:World→Prop,Hd S wr∧Hid (∀ wx,Hd S wx→Below wr.heap.size wr wx)∧Hid (∀ wx,Below wr.heap.size wr wx→Hd S wx)∧Hid (∀ wx,Hd S wx→Hd S wx.drew)∧Hid (∀ w1 w2,Hd S w1→Below w1.heap.size w1 w2→Hd S w2)∧Hid (∀ w1 o,Hd S w1→Hd S (w1.alloc o)):=⟨fun wx=>Below wr.heap.size wr wx,Below.refl _ _,fun _ h=>h,fun _ h=>h,fun wx h=>Below.drew h,fun w1 w2 h hb=>below_step h hb,fun w1 o h=>Below.alloc h h.size o⟩
   have HB0:Hid (Blk wr w.heap.size [.int .i64 c,.int .i64 t,.bool m,.slice ba BL bc,.slice (some ⟨g,o,none⟩) 7 kc]):=B0
   have HR0:Hid (Blk wr (w.heap.size + 1) [.int .i64 0,.int .i64 0,.int .i64 0,.int .i64 0,.slice none 0 0,.slice none 0 0,.slice none 0 0]):=R0
   have HBel:Hid (Below w.heap.size w wr):=bel
   have ra:∀ wx,Hd S1 wx→wx.cell? ⟨w.heap.size,4,none⟩=some (.slice (some ⟨g,o,none⟩) 7 kc):=fun wx h=>(HB0.out.later (KB1.out wx h)).cell 4 _ rfl
   have rl:∀ wx,Hd S1 wx→w.heap.size < wx.heap.size:=fun wx h=>(HB0.out.later (KB1.out wx h)).lt
   have rg:∀ wx,Hd S1 wx→g < wx.heap.size:=fun wx h=>(HC4.out.later (below_step HBel.out (KB1.out wx h))).1
   have r4:∀ wx,Hd S1 wx→wx.cell? ⟨g,o + 23,none⟩=some (.slice a4 n4 c4):=fun wx h=>(HC4.out.later (below_step HBel.out (KB1.out wx h))).2 3 _ HCc4.out
   have r5:∀ wx,Hd S1 wx→wx.cell? ⟨g,o + 28,none⟩=some (.slice a5 n5 c5):=fun wx h=>(HC5.out.later (below_step HBel.out (KB1.out wx h))).2 3 _ HCc5.out
   have r6:∀ wx,Hd S1 wx→wx.cell? ⟨g,o + 33,none⟩=some (.slice a6 n6 c6):=fun wx h=>(HC6.out.later (below_step HBel.out (KB1.out wx h))).2 3 _ HCc6.out
   have q7:=bld_mf x0 x1 x2 x3 a4 a5 a6 n4 c4 n5 c5 n6 c6
   clear B0 R0 bel
   refine wp_region_noPanic ?_
   refine wp_region_held_drew (S:=Hd S1) (by kernel_rfl) (KD1.out _ hS1) (fun hHeld=>?_)
   clear hS1
   generalize World.drew _=wd1 at *
   refine wpAnyH_take (i:=0) (v:=?_) rfl (by kernel_rfl) (by kernel_rfl) (by kernel_rfl) (fun _ _ _ h=>h) (Or.inl ⟨by rfl,?_⟩) (by assumption) ?_
   rotate_left
   ·intro w hSw
    go_simp
    with_reducible rfl
   try simp only [Act.put,List.getElem_toArray,List.getElem_cons_zero,List.getElem_cons_succ,List.setIfInBounds_toArray,List.set_cons_zero,List.set_cons_succ]
   refine wpAnyH_take (i:=1) (v:=?_) rfl (by kernel_rfl) (by kernel_rfl) (by kernel_rfl) (fun _ _ _ h=>h) (Or.inl ⟨by rfl,?_⟩) (by assumption) ?_
   rotate_left
   ·intro w hSw
    go_simp
    with_reducible rfl
   try simp only [Act.put,List.getElem_toArray,List.getElem_cons_zero,List.getElem_cons_succ,List.setIfInBounds_toArray,List.set_cons_zero,List.set_cons_succ]
   refine wpAnyH_take (i:=2) (v:=?_) rfl (by kernel_rfl) (by kernel_rfl) (by kernel_rfl) (fun _ _ _ h=>h) (Or.inl ⟨by rfl,?_⟩) (by assumption) ?_
   rotate_left
   ·intro w hSw
    go_simp
    with_reducible rfl
   try simp only [Act.put,List.getElem_toArray,List.getElem_cons_zero,List.getElem_cons_succ,List.setIfInBounds_toArray,List.set_cons_zero,List.set_cons_succ]
   refine wpAnyH_take (i:=3) (v:=?_) rfl (by kernel_rfl) (by kernel_rfl) (by kernel_rfl) (fun _ _ _ h=>h) (Or.inl ⟨by rfl,?_⟩) (by assumption) ?_
   rotate_left
   ·intro w hSw
    go_simp
    with_reducible rfl
   try simp only [Act.put,List.getElem_toArray,List.getElem_cons_zero,List.getElem_cons_succ,List.setIfInBounds_toArray,List.set_cons_zero,List.set_cons_succ]
   refine wpAnyH_take (i:=4) (v:=?_) rfl (by kernel_rfl) (by kernel_rfl) (by kernel_rfl) (fun _ _ _ h=>h) (Or.inl ⟨by rfl,?_⟩) (by assumption) ?_
   rotate_left
   ·intro w hSw
    go_simp
    with_reducible rfl
   try simp only [Act.put,List.getElem_toArray,List.getElem_cons_zero,List.getElem_cons_succ,List.setIfInBounds_toArray,List.set_cons_zero,List.set_cons_succ]
   refine wpAnyH_take (i:=5) (v:=?_) rfl (by kernel_rfl) (by kernel_rfl) (by kernel_rfl) (fun _ _ _ h=>h) (Or.inl ⟨by rfl,?_⟩) (by assumption) ?_
   rotate_left
   ·intro w hSw
    go_simp
    with_reducible rfl
   try simp only [Act.put,List.getElem_toArray,List.getElem_cons_zero,List.getElem_cons_succ,List.setIfInBounds_toArray,List.set_cons_zero,List.set_cons_succ]
   refine wpAnyH_take (i:=6) (v:=?_) rfl (by kernel_rfl) (by kernel_rfl) (by kernel_rfl) (fun _ _ _ h=>h) (Or.inl ⟨by rfl,?_⟩) (by assumption) ?_
   rotate_left
   ·intro w hSw
    go_simp
    with_reducible rfl
   try simp only [Act.put,List.getElem_toArray,List.getElem_cons_zero,List.getElem_cons_succ,List.setIfInBounds_toArray,List.set_cons_zero,List.set_cons_succ]
   refine wpAnyH_take (i:=7) (v:=?_) rfl (by kernel_rfl) (by kernel_rfl) (by kernel_rfl) (fun _ _ _ h=>h) (Or.inl ⟨by rfl,?_⟩) (by assumption) ?_
   rotate_left
   ·intro w hSw
    go_simp
    with_reducible rfl
   try simp only [Act.put,List.getElem_toArray,List.getElem_cons_zero,List.getElem_cons_succ,List.setIfInBounds_toArray,List.set_cons_zero,List.set_cons_succ]
   refine wpAnyH_take (i:=8) (v:=?_) rfl (by kernel_rfl) (by kernel_rfl) (by kernel_rfl) (fun _ _ _ h=>h) (Or.inl ⟨by rfl,?_⟩) (by assumption) ?_
   rotate_left
   ·intro w hSw
    go_simp
    with_reducible rfl
   try simp only [Act.put,List.getElem_toArray,List.getElem_cons_zero,List.getElem_cons_succ,List.setIfInBounds_toArray,List.set_cons_zero,List.set_cons_succ]
   refine wpAnyH_take (i:=9) (v:=?_) rfl (by kernel_rfl) (by kernel_rfl) (by kernel_rfl) (fun _ _ _ h=>h) (Or.inl ⟨by rfl,?_⟩) (by assumption) ?_
   rotate_left
   ·intro w hSw
    go_simp
    with_reducible rfl
   try simp only [Act.put,List.getElem_toArray,List.getElem_cons_zero,List.getElem_cons_succ,List.setIfInBounds_toArray,List.set_cons_zero,List.set_cons_succ]
   refine wpAnyH_take (i:=10) (v:=?_) rfl (by kernel_rfl) (by kernel_rfl) (by kernel_rfl) (fun _ _ _ h=>h) (Or.inl ⟨by rfl,?_⟩) (by assumption) ?_
   rotate_left
   ·intro w hSw
    go_simp
    with_reducible rfl
   try simp only [Act.put,List.getElem_toArray,List.getElem_cons_zero,List.getElem_cons_succ,List.setIfInBounds_toArray,List.set_cons_zero,List.set_cons_succ]
   refine wpAnyH_take (i:=11) (v:=?_) rfl (by kernel_rfl) (by kernel_rfl) (by kernel_rfl) (fun _ _ _ h=>h) (Or.inl ⟨by rfl,?_⟩) (by assumption) ?_
   rotate_left
   ·intro w hSw
    go_simp
    with_reducible rfl
   try simp only [Act.put,List.getElem_toArray,List.getElem_cons_zero,List.getElem_cons_succ,List.setIfInBounds_toArray,List.set_cons_zero,List.set_cons_succ]
   refine wpAnyH_take (i:=12) (v:=?_) rfl (by kernel_rfl) (by kernel_rfl) (by kernel_rfl) (fun _ _ _ h=>h) (Or.inl ⟨by rfl,?_⟩) (by assumption) ?_
   rotate_left
   ·intro w hSw
    go_simp
    with_reducible rfl
   try simp only [Act.put,List.getElem_toArray,List.getElem_cons_zero,List.getElem_cons_succ,List.setIfInBounds_toArray,List.set_cons_zero,List.set_cons_succ]
   refine wpAnyH_take (i:=13) (v:=?_) rfl (by kernel_rfl) (by kernel_rfl) (by kernel_rfl) (fun _ _ _ h=>h) (Or.inl ⟨by rfl,?_⟩) (by assumption) ?_
   rotate_left
   ·intro w hSw
    go_simp
    with_reducible rfl
   try simp only [Act.put,List.getElem_toArray,List.getElem_cons_zero,List.getElem_cons_succ,List.setIfInBounds_toArray,List.set_cons_zero,List.set_cons_succ]
   refine wpAnyH_take (i:=14) (v:=?_) rfl (by kernel_rfl) (by kernel_rfl) (by kernel_rfl) (fun _ _ _ h=>h) (Or.inl ⟨by rfl,?_⟩) (by assumption) ?_
   rotate_left
   ·intro w hSw
    go_simp
    with_reducible rfl
   try simp only [Act.put,List.getElem_toArray,List.getElem_cons_zero,List.getElem_cons_succ,List.setIfInBounds_toArray,List.set_cons_zero,List.set_cons_succ]
   refine wpAnyH_take (i:=15) (v:=?_) rfl (by kernel_rfl) (by kernel_rfl) (by kernel_rfl) (fun _ _ _ h=>h) (Or.inl ⟨by rfl,?_⟩) (by assumption) ?_
   rotate_left
   ·intro w hSw
    go_simp
    with_reducible rfl
   try simp only [Act.put,List.getElem_toArray,List.getElem_cons_zero,List.getElem_cons_succ,List.setIfInBounds_toArray,List.set_cons_zero,List.set_cons_succ]
   refine wpAnyH_take (i:=16) (v:=?_) rfl (by kernel_rfl) (by kernel_rfl) (by kernel_rfl) (fun _ _ _ h=>h) (Or.inl ⟨by rfl,?_⟩) (by assumption) ?_
   rotate_left
   ·intro w hSw
    go_simp
    with_reducible rfl
   try simp only [Act.put,List.getElem_toArray,List.getElem_cons_zero,List.getElem_cons_succ,List.setIfInBounds_toArray,List.set_cons_zero,List.set_cons_succ]
   refine wpAnyH_take (i:=17) (v:=?_) rfl (by kernel_rfl) (by kernel_rfl) (by kernel_rfl) (fun _ _ _ h=>h) (Or.inl ⟨by rfl,?_⟩) (by assumption) ?_
   rotate_left
   ·intro w hSw
    go_simp
    with_reducible rfl
   try simp only [Act.put,List.getElem_toArray,List.getElem_cons_zero,List.getElem_cons_succ,List.setIfInBounds_toArray,List.set_cons_zero,List.set_cons_succ]
   refine wpAnyH_take (i:=18) (v:=?_) rfl (by kernel_rfl) (by kernel_rfl) (by kernel_rfl) (fun _ _ _ h=>h) (Or.inl ⟨by rfl,?_⟩) (by assumption) ?_
   rotate_left
   ·intro w hSw
    go_simp
    with_reducible rfl
   try simp only [Act.put,List.getElem_toArray,List.getElem_cons_zero,List.getElem_cons_succ,List.setIfInBounds_toArray,List.set_cons_zero,List.set_cons_succ]
   refine wpAnyH_take (i:=19) (v:=.agg #[.int .i64 x0,.int .i64 x1,.int .i64 x2,.int .i64 x3,.slice a4 n4 c4,.slice a5 n5 c5,.slice a6 n6 c6]) rfl (by kernel_rfl) (by kernel_rfl) (by kernel_rfl) (fun _ _ _ h=>h) (Or.inl ⟨by rfl,fun wx h=>exec_build14 rfl rfl (q7 wx)⟩) (by assumption) ?_
   try simp only [Act.put,List.getElem_toArray,List.getElem_cons_zero,List.getElem_cons_succ,List.setIfInBounds_toArray,List.set_cons_zero,List.set_cons_succ]
   refine wpAnyH_ready (rs:=[20]) (by kernel_rfl) (by simp) ?_
   refine AllReadyH.cons rfl (fun K hK=>?_) ?_
   ·have HHa:Hid (Hd S1 wd1):=hHeld
    have hz:=zero_mf.out
    go_simp
    refine hK.out _ _ ?_ (fun hHeld2=>?_)
    ·exact KA1.out _ _ hHeld
    ·clear hK K
     try clear hHeld
     have hHeld:=hHeld2
     clear hHeld2
     try simp only [Act.put,List.getElem_toArray,List.getElem_cons_zero,List.getElem_cons_succ,List.setIfInBounds_toArray,List.set_cons_zero,List.set_cons_succ]
     clear hz
     have Zm:=Blk.new wd1 [.int .i64 0,.int .i64 0,.int .i64 0,.int .i64 0,.slice none 0 0,.slice none 0 0,.slice none 0 0] 25 wd1.heap.size rfl
     obtain ⟨gm,hgm⟩:∃ g,g=wd1.heap.size:=⟨_,rfl⟩
     have lgm:wr.heap.size≤gm:=by rw [hgm];exact (KB1.out _ HHa.out).size
     rw [← hgm] at Zm ⊢
     clear hgm HHa
     generalize (wd1.alloc (.cells #[.int .i64 0,.int .i64 0,.int .i64 0,.int .i64 0,.slice none 0 0,.slice none 0 0,.slice none 0 0] 25))=wm at *
     refine wpAnyH_ready (rs:=[21]) (by kernel_rfl) (by simp) ?_
     refine AllReadyH.cons rfl (fun K hK=>?_) ?_
     ·obtain ⟨ms,hms⟩:∃ ms:List Value,[.int .i64 x0,.int .i64 x1,.int .i64 x2,.int .i64 x3,.slice a4 n4 c4,.slice a5 n5 c5,.slice a6 n6 c6]=ms:=⟨_,rfl⟩
      have HMs:Hid ([.int .i64 x0,.int .i64 x1,.int .i64 x2,.int .i64 x3,.slice a4 n4 c4,.slice a5 n5 c5,.slice a6 n6 c6]=ms):=hms
      have hma:#[.int .i64 x0,.int .i64 x1,.int .i64 x2,.int .i64 x3,.slice a4 n4 c4,.slice a5 n5 c5,.slice a6 n6 c6]=ms.toArray:=by rw [← hms]
      have HSm:Hid (ms.toArray.size=7):=by show _=_;rw [← hms];rfl
      have HOm:Hid (OneC ms):=by show OneC ms;subst hms;simp [OneC,Value.oneCell']
      have Y:Blk (wm.setRow gm ms.toArray) gm ms:=Zm.put
      rw [hma]
      clear hms
      obtain ⟨tzm,htzm⟩:=Zm
      rw [if_pos (by rfl)]
      refine wp_store_row 25 _ _ rfl gm ms.toArray rfl rfl tzm _ htzm (by rw [size_mf,HSm.out]) (by rw [HSm.out];rfl) HOm.out ?_
      refine hK.out _ _ ?_ (fun hHeld2=>?_)
      ·exact KI1.out _ (below_setRow (KB1.out _ hHeld) lgm _)
      ·clear hK K hHeld htzm
       have hHeld:=hHeld2
       clear hHeld2
       try simp only [Act.put,List.getElem_toArray,List.getElem_cons_zero,List.getElem_cons_succ,List.setIfInBounds_toArray,List.set_cons_zero,List.set_cons_succ]
       have Bm:=Y
       clear Y
       have hmb:=HMs.out
       subst hmb
       clear HMs hma
       refine wpAnyH_done (by kernel_rfl) ?_ _
       refine NoPanic.normal ?_
       have st:=KB1.out _ hHeld
       have B0:=HB0.out.later st
       have R0:=HR0.out.later st
       have bel:=below_step HBel.out st
       have lR:=HR0.out.lt
       clear hHeld ra rl rg r4 r5 r6 q7 st HB0 HR0 HBel
       generalize (wm.setRow gm #[.int .i64 x0,.int .i64 x1,.int .i64 x2,.int .i64 x3,.slice a4 n4 c4,.slice a5 n5 c5,.slice a6 n6 c6])=V at *
       go_upto_region 17 with fail
       have HGm:Hid (w.heap.size + 1 < gm):=Nat.lt_of_lt_of_le lR lgm
       have hdr:Below V.heap.size V V.drew:=Below.drew (Below.refl _ _)
       replace Bm:=Bm.later hdr
       replace R0:=R0.later hdr
       replace bel:=below_step bel hdr
       clear hdr lR lgm B0
       obtain ⟨S2,hS2,KB2,KI2⟩:∃ S:World→Prop,Hd S V.drew∧Hid (∀ wx,Hd S wx→Blk wx gm [.int .i64 x0,.int .i64 x1,.int .i64 x2,.int .i64 x3,.slice a4 n4 c4,.slice a5 n5 c5,.slice a6 n6 c6])∧Hid (∀ wx,Blk wx gm [.int .i64 x0,.int .i64 x1,.int .i64 x2,.int .i64 x3,.slice a4 n4 c4,.slice a5 n5 c5,.slice a6 n6 c6]→Hd S wx):=⟨fun wx=>Blk wx gm [.int .i64 x0,.int .i64 x1,.int .i64 x2,.int .i64 x3,.slice a4 n4 c4,.slice a5 n5 c5,.slice a6 n6 c6],Bm,fun _ h=>h,fun _ h=>h⟩
       have rm:Hid (∀ wx,Hd S2 wx→(loadVar 25 ⟨gm,0,none⟩).run Tryd.prog wx=.ok (.agg ([.int .i64 x0,.int .i64 x1,.int .i64 x2,.int .i64 x3,.slice a4 n4 c4,.slice a5 n5 c5,.slice a6 n6 c6]).toArray) wx):=fun wx h=>(KB2.out wx h).load Tryd.underlying25 rfl size_mf rfl
       have lm:∀ wx,Hd S2 wx→gm < wx.heap.size:=fun wx h=>(KB2.out wx h).lt
       have r4:∀ wx,Hd S2 wx→wx.cell? ⟨gm,4,none⟩=some (.slice a4 n4 c4):=fun wx h=>(KB2.out wx h).cell 4 _ rfl
       have r5:∀ wx,Hd S2 wx→wx.cell? ⟨gm,5,none⟩=some (.slice a5 n5 c5):=fun wx h=>(KB2.out wx h).cell 5 _ rfl
       have r6:∀ wx,Hd S2 wx→wx.cell? ⟨gm,6,none⟩=some (.slice a6 n6 c6):=fun wx h=>(KB2.out wx h).cell 6 _ rfl
       by_cases k12:n4=12
       rotate_left
       ·have H:Hid (mfD (.mk c t m b [k0,k1,k2,k3,k4,k5,k6])=none):=by show _=_;rw [HDo.out];exact if_neg (fun h=>k12 (by rw [← Hn4.out];exact h.1))
        have d0:((n4:Int) == 12)=false:=by rw [beq_eq_false_iff_ne];omega
        clear k12
        refine wp_region_noPanic ?_
        refine wp_region_held_drew (S:=Hd S2) (by kernel_rfl) hS2 (fun hHeld=>?_)
        clear hS2 Bm
        generalize World.drew _=wd2 at *
        refine wpAnyH_take (i:=0) (v:=.agg ([.int .i64 x0,.int .i64 x1,.int .i64 x2,.int .i64 x3,.slice a4 n4 c4,.slice a5 n5 c5,.slice a6 n6 c6]).toArray) rfl (by kernel_rfl) (by kernel_rfl) (by kernel_rfl) (fun _ _ _ h=>h) (Or.inl ⟨by rfl,fun wx h=>exec_load rfl rfl (rm.out wx h)⟩) (by assumption) ?_
        try simp only [Act.put,List.getElem_toArray,List.getElem_cons_zero,List.getElem_cons_succ,List.setIfInBounds_toArray,List.set_cons_zero,List.set_cons_succ]
        refine wpAnyH_take (i:=1) (v:=?_) rfl (by kernel_rfl) (by kernel_rfl) (by kernel_rfl) (fun _ _ _ h=>h) (Or.inl ⟨by rfl,?_⟩) (by assumption) ?_
        rotate_left
        ·intro w hSw
         go_simp
         with_reducible rfl
        try simp only [Act.put,List.getElem_toArray,List.getElem_cons_zero,List.getElem_cons_succ,List.setIfInBounds_toArray,List.set_cons_zero,List.set_cons_succ]
        refine wpAnyH_take (i:=2) (v:=?_) rfl (by kernel_rfl) (by kernel_rfl) (by kernel_rfl) (fun _ _ _ h=>h) (Or.inl ⟨by rfl,?_⟩) (by assumption) ?_
        rotate_left
        ·intro w hSw
         go_simp
         with_reducible rfl
        try simp only [Act.put,List.getElem_toArray,List.getElem_cons_zero,List.getElem_cons_succ,List.setIfInBounds_toArray,List.set_cons_zero,List.set_cons_succ]
        refine wpAnyH_take (i:=3) (v:=?_) rfl (by kernel_rfl) (by kernel_rfl) (by kernel_rfl) (fun _ _ _ h=>h) (Or.inl ⟨by rfl,?_⟩) (by assumption) ?_
        rotate_left
        ·intro w hSw
         go_simp
         with_reducible rfl
        try simp only [Act.put,List.getElem_toArray,List.getElem_cons_zero,List.getElem_cons_succ,List.setIfInBounds_toArray,List.set_cons_zero,List.set_cons_succ]
        refine wpAnyH_take (i:=4) (v:=?_) rfl (by kernel_rfl) (by kernel_rfl) (by kernel_rfl) (fun _ _ _ h=>h) (Or.inl ⟨by rfl,?_⟩) (by assumption) ?_
        rotate_left
        ·intro w hSw
         go_simp
         with_reducible rfl
        try simp only [Act.put,List.getElem_toArray,List.getElem_cons_zero,List.getElem_cons_succ,List.setIfInBounds_toArray,List.set_cons_zero,List.set_cons_succ]
        refine wpAnyH_take (i:=5) (v:=?_) rfl (by kernel_rfl) (by kernel_rfl) (by kernel_rfl) (fun _ _ _ h=>h) (Or.inl ⟨by rfl,?_⟩) (by assumption) ?_
        rotate_left
        ·intro w hSw
         go_simp
         with_reducible rfl
        try simp only [Act.put,List.getElem_toArray,List.getElem_cons_zero,List.getElem_cons_succ,List.setIfInBounds_toArray,List.set_cons_zero,List.set_cons_succ]
        refine wpAnyH_take (i:=6) (v:=undef) rfl (by kernel_rfl) (by kernel_rfl) (by kernel_rfl) (fun _ _ _ h=>h) (Or.inr ⟨by rfl,rfl⟩) (by assumption) ?_
        try simp only [Act.put,List.getElem_toArray,List.getElem_cons_zero,List.getElem_cons_succ,List.setIfInBounds_toArray,List.set_cons_zero,List.set_cons_succ]
        refine wpAnyH_take (i:=7) (v:=undef) rfl (by kernel_rfl) (by kernel_rfl) (by kernel_rfl) (fun _ _ _ h=>h) (Or.inr ⟨by rfl,rfl⟩) (by assumption) ?_
        try simp only [Act.put,List.getElem_toArray,List.getElem_cons_zero,List.getElem_cons_succ,List.setIfInBounds_toArray,List.set_cons_zero,List.set_cons_succ]
        refine wpAnyH_take (i:=8) (v:=undef) rfl (by kernel_rfl) (by kernel_rfl) (by kernel_rfl) (fun _ _ _ h=>h) (Or.inr ⟨by rfl,rfl⟩) (by assumption) ?_
        try simp only [Act.put,List.getElem_toArray,List.getElem_cons_zero,List.getElem_cons_succ,List.setIfInBounds_toArray,List.set_cons_zero,List.set_cons_succ]
        refine wpAnyH_take (i:=9) (v:=undef) rfl (by kernel_rfl) (by kernel_rfl) (by kernel_rfl) (fun _ _ _ h=>h) (Or.inr ⟨by rfl,rfl⟩) (by assumption) ?_
        try simp only [Act.put,List.getElem_toArray,List.getElem_cons_zero,List.getElem_cons_succ,List.setIfInBounds_toArray,List.set_cons_zero,List.set_cons_succ]
        refine wpAnyH_take (i:=10) (v:=?_) rfl (by kernel_rfl) (by kernel_rfl) (by kernel_rfl) (fun _ _ _ h=>h) (Or.inl ⟨by rfl,?_⟩) (by assumption) ?_
        rotate_left
        ·intro w hSw
         go_simp
         with_reducible rfl
        try simp only [Act.put,List.getElem_toArray,List.getElem_cons_zero,List.getElem_cons_succ,List.setIfInBounds_toArray,List.set_cons_zero,List.set_cons_succ]
        refine wpAnyH_take (i:=11) (v:=?_) rfl (by kernel_rfl) (by kernel_rfl) (by kernel_rfl) (fun _ _ _ h=>h) (Or.inl ⟨by rfl,?_⟩) (by assumption) ?_
        rotate_left
        ·intro w hSw
         go_simp
         with_reducible rfl
        try simp only [Act.put,List.getElem_toArray,List.getElem_cons_zero,List.getElem_cons_succ,List.setIfInBounds_toArray,List.set_cons_zero,List.set_cons_succ]
        refine wpAnyH_take (i:=12) (v:=undef) rfl (by kernel_rfl) (by kernel_rfl) (by kernel_rfl) (fun _ _ _ h=>h) (Or.inr ⟨by rfl,rfl⟩) (by assumption) ?_
        try simp only [Act.put,List.getElem_toArray,List.getElem_cons_zero,List.getElem_cons_succ,List.setIfInBounds_toArray,List.set_cons_zero,List.set_cons_succ]
        refine wpAnyH_take (i:=13) (v:=undef) rfl (by kernel_rfl) (by kernel_rfl) (by kernel_rfl) (fun _ _ _ h=>h) (Or.inr ⟨by rfl,rfl⟩) (by assumption) ?_
        try simp only [Act.put,List.getElem_toArray,List.getElem_cons_zero,List.getElem_cons_succ,List.setIfInBounds_toArray,List.set_cons_zero,List.set_cons_succ]
        refine wpAnyH_take (i:=14) (v:=undef) rfl (by kernel_rfl) (by kernel_rfl) (by kernel_rfl) (fun _ _ _ h=>h) (Or.inr ⟨by rfl,rfl⟩) (by assumption) ?_
        try simp only [Act.put,List.getElem_toArray,List.getElem_cons_zero,List.getElem_cons_succ,List.setIfInBounds_toArray,List.set_cons_zero,List.set_cons_succ]
        refine wpAnyH_take (i:=15) (v:=undef) rfl (by kernel_rfl) (by kernel_rfl) (by kernel_rfl) (fun _ _ _ h=>h) (Or.inr ⟨by rfl,rfl⟩) (by assumption) ?_
        try simp only [Act.put,List.getElem_toArray,List.getElem_cons_zero,List.getElem_cons_succ,List.setIfInBounds_toArray,List.set_cons_zero,List.set_cons_succ]
        refine wpAnyH_take (i:=16) (v:=?_) rfl (by kernel_rfl) (by kernel_rfl) (by kernel_rfl) (fun _ _ _ h=>h) (Or.inl ⟨by rfl,?_⟩) (by assumption) ?_
        rotate_left
        ·intro w hSw
         go_simp
         with_reducible rfl
        try simp only [Act.put,List.getElem_toArray,List.getElem_cons_zero,List.getElem_cons_succ,List.setIfInBounds_toArray,List.set_cons_zero,List.set_cons_succ]
        refine wpAnyH_ready (rs:=[17]) (by kernel_rfl) (by simp) ?_
        refine AllReadyH.cons rfl (fun K hK=>?_) ?_
        ·have Y:Blk (wd2.setRow (w.heap.size + 1) ([.int .i64 x0,.int .i64 x1,.int .i64 x2,.int .i64 x3,.slice a4 n4 c4,.slice a5 n5 c5,.slice a6 n6 c6]).toArray) (w.heap.size + 1) [.int .i64 x0,.int .i64 x1,.int .i64 x2,.int .i64 x3,.slice a4 n4 c4,.slice a5 n5 c5,.slice a6 n6 c6]:=R0.put
         obtain ⟨tR,hR⟩:=R0
         rw [if_pos (by rfl)]
         refine wp_store_row 25 _ _ rfl (w.heap.size + 1) ([.int .i64 x0,.int .i64 x1,.int .i64 x2,.int .i64 x3,.slice a4 n4 c4,.slice a5 n5 c5,.slice a6 n6 c6]).toArray rfl rfl tR _ hR (by rw [size_mf];rfl) rfl (by simp [Value.oneCell']) ?_
         refine hK.out _ _ ?_ (fun hHeld2=>?_)
         ·exact KI2.out _ ((KB2.out _ hHeld).row (by have:=HGm.out;omega))
         ·clear hK K hHeld hR
          have hHeld:=hHeld2
          clear hHeld2
          try simp only [Act.put,List.getElem_toArray,List.getElem_cons_zero,List.getElem_cons_succ,List.setIfInBounds_toArray,List.set_cons_zero,List.set_cons_succ]
          refine wpAnyH_take (i:=18) (v:=?_) rfl (by kernel_rfl) (by kernel_rfl) (by kernel_rfl) (fun _ _ _ h=>h) (Or.inl ⟨by rfl,?_⟩) (by assumption) ?_
          rotate_left
          ·intro w hSw
           go_simp
           with_reducible rfl
          try simp only [Act.put,List.getElem_toArray,List.getElem_cons_zero,List.getElem_cons_succ,List.setIfInBounds_toArray,List.set_cons_zero,List.set_cons_succ]
          refine wpAnyH_done (by kernel_rfl) ?_ _
          refine NoPanic.normal ?_
          have hbl:=below_setRow bel (show w.heap.size≤w.heap.size + 1 by omega) ([.int .i64 x0,.int .i64 x1,.int .i64 x2,.int .i64 x3,.slice a4 n4 c4,.slice a5 n5 c5,.slice a6 n6 c6]).toArray
          obtain ⟨t9,h9⟩:=Y
          go_wp2_with fail
          refine bodyPost_ret (results_row_tmp rfl _ _ (w.heap.size + 1) t9 ([.int .i64 x0,.int .i64 x1,.int .i64 x2,.int .i64 x3,.slice a4 n4 c4,.slice a5 n5 c5,.slice a6 n6 c6]).toArray (0,0) _ rfl h9 Tryd.underlying25 rfl (by rw [size_mf];rfl)) rfl ?_
          exact ReadM.no (cs:=[.int .i64 x0,.int .i64 x1,.int .i64 x2,.int .i64 x3,.slice a4 n4 c4,.slice a5 n5 c5,.slice a6 n6 c6]) H.out rfl (by simp [OneC,Value.oneCell']) hbl
        exact AllReadyH.nil
       subst k12
       have e0:(((12:Nat):Int) == 12)=true:=rfl
       by_cases k145:n5=145
       rotate_left
       ·have H:Hid (mfD (.mk c t m b [k0,k1,k2,k3,k4,k5,k6])=none):=by show _=_;rw [HDo.out];exact if_neg (fun h=>k145 (by rw [← Hn5.out];exact h.2.1))
        have d1:((n5:Int) == 145)=false:=by rw [beq_eq_false_iff_ne];omega
        clear k145
        refine wp_region_noPanic ?_
        refine wp_region_held_drew (S:=Hd S2) (by kernel_rfl) hS2 (fun hHeld=>?_)
        clear hS2 Bm
        generalize World.drew _=wd2 at *
        refine wpAnyH_take (i:=0) (v:=.agg ([.int .i64 x0,.int .i64 x1,.int .i64 x2,.int .i64 x3,.slice a4 12 c4,.slice a5 n5 c5,.slice a6 n6 c6]).toArray) rfl (by kernel_rfl) (by kernel_rfl) (by kernel_rfl) (fun _ _ _ h=>h) (Or.inl ⟨by rfl,fun wx h=>exec_load rfl rfl (rm.out wx h)⟩) (by assumption) ?_
        try simp only [Act.put,List.getElem_toArray,List.getElem_cons_zero,List.getElem_cons_succ,List.setIfInBounds_toArray,List.set_cons_zero,List.set_cons_succ]
        refine wpAnyH_take (i:=1) (v:=?_) rfl (by kernel_rfl) (by kernel_rfl) (by kernel_rfl) (fun _ _ _ h=>h) (Or.inl ⟨by rfl,?_⟩) (by assumption) ?_
        rotate_left
        ·intro w hSw
         go_simp
         with_reducible rfl
        try simp only [Act.put,List.getElem_toArray,List.getElem_cons_zero,List.getElem_cons_succ,List.setIfInBounds_toArray,List.set_cons_zero,List.set_cons_succ]
        refine wpAnyH_take (i:=2) (v:=?_) rfl (by kernel_rfl) (by kernel_rfl) (by kernel_rfl) (fun _ _ _ h=>h) (Or.inl ⟨by rfl,?_⟩) (by assumption) ?_
        rotate_left
        ·intro w hSw
         go_simp
         with_reducible rfl
        try simp only [Act.put,List.getElem_toArray,List.getElem_cons_zero,List.getElem_cons_succ,List.setIfInBounds_toArray,List.set_cons_zero,List.set_cons_succ]
        refine wpAnyH_take (i:=3) (v:=?_) rfl (by kernel_rfl) (by kernel_rfl) (by kernel_rfl) (fun _ _ _ h=>h) (Or.inl ⟨by rfl,?_⟩) (by assumption) ?_
        rotate_left
        ·intro w hSw
         go_simp
         with_reducible rfl
        try simp only [Act.put,List.getElem_toArray,List.getElem_cons_zero,List.getElem_cons_succ,List.setIfInBounds_toArray,List.set_cons_zero,List.set_cons_succ]
        refine wpAnyH_take (i:=4) (v:=?_) rfl (by kernel_rfl) (by kernel_rfl) (by kernel_rfl) (fun _ _ _ h=>h) (Or.inl ⟨by rfl,?_⟩) (by assumption) ?_
        rotate_left
        ·intro w hSw
         go_simp
         with_reducible rfl
        try simp only [Act.put,List.getElem_toArray,List.getElem_cons_zero,List.getElem_cons_succ,List.setIfInBounds_toArray,List.set_cons_zero,List.set_cons_succ]
        refine wpAnyH_take (i:=5) (v:=?_) rfl (by kernel_rfl) (by kernel_rfl) (by kernel_rfl) (fun _ _ _ h=>h) (Or.inl ⟨by rfl,?_⟩) (by assumption) ?_
        rotate_left
        ·intro w hSw
         go_simp
         with_reducible rfl
        try simp only [Act.put,List.getElem_toArray,List.getElem_cons_zero,List.getElem_cons_succ,List.setIfInBounds_toArray,List.set_cons_zero,List.set_cons_succ]
        refine wpAnyH_take (i:=6) (v:=?_) rfl (by kernel_rfl) (by kernel_rfl) (by kernel_rfl) (fun _ _ _ h=>h) (Or.inl ⟨by rfl,?_⟩) (by assumption) ?_
        rotate_left
        ·intro w hSw
         go_simp
         with_reducible rfl
        try simp only [Act.put,List.getElem_toArray,List.getElem_cons_zero,List.getElem_cons_succ,List.setIfInBounds_toArray,List.set_cons_zero,List.set_cons_succ]
        refine wpAnyH_take (i:=7) (v:=?_) rfl (by kernel_rfl) (by kernel_rfl) (by kernel_rfl) (fun _ _ _ h=>h) (Or.inl ⟨by rfl,?_⟩) (by assumption) ?_
        rotate_left
        ·intro w hSw
         go_simp
         with_reducible rfl
        try simp only [Act.put,List.getElem_toArray,List.getElem_cons_zero,List.getElem_cons_succ,List.setIfInBounds_toArray,List.set_cons_zero,List.set_cons_succ]
        refine wpAnyH_take (i:=8) (v:=?_) rfl (by kernel_rfl) (by kernel_rfl) (by kernel_rfl) (fun _ _ _ h=>h) (Or.inl ⟨by rfl,?_⟩) (by assumption) ?_
        rotate_left
        ·intro w hSw
         go_simp
         with_reducible rfl
        try simp only [Act.put,List.getElem_toArray,List.getElem_cons_zero,List.getElem_cons_succ,List.setIfInBounds_toArray,List.set_cons_zero,List.set_cons_succ]
        refine wpAnyH_take (i:=9) (v:=?_) rfl (by kernel_rfl) (by kernel_rfl) (by kernel_rfl) (fun _ _ _ h=>h) (Or.inl ⟨by rfl,?_⟩) (by assumption) ?_
        rotate_left
        ·intro w hSw
         go_simp
         with_reducible rfl
        try simp only [Act.put,List.getElem_toArray,List.getElem_cons_zero,List.getElem_cons_succ,List.setIfInBounds_toArray,List.set_cons_zero,List.set_cons_succ]
        refine wpAnyH_take (i:=10) (v:=?_) rfl (by kernel_rfl) (by kernel_rfl) (by kernel_rfl) (fun _ _ _ h=>h) (Or.inl ⟨by rfl,?_⟩) (by assumption) ?_
        rotate_left
        ·intro w hSw
         go_simp
         with_reducible rfl
        try simp only [Act.put,List.getElem_toArray,List.getElem_cons_zero,List.getElem_cons_succ,List.setIfInBounds_toArray,List.set_cons_zero,List.set_cons_succ]
        refine wpAnyH_take (i:=11) (v:=?_) rfl (by kernel_rfl) (by kernel_rfl) (by kernel_rfl) (fun _ _ _ h=>h) (Or.inl ⟨by rfl,?_⟩) (by assumption) ?_
        rotate_left
        ·intro w hSw
         go_simp
         with_reducible rfl
        try simp only [Act.put,List.getElem_toArray,List.getElem_cons_zero,List.getElem_cons_succ,List.setIfInBounds_toArray,List.set_cons_zero,List.set_cons_succ]
        refine wpAnyH_take (i:=12) (v:=undef) rfl (by kernel_rfl) (by kernel_rfl) (by kernel_rfl) (fun _ _ _ h=>h) (Or.inr ⟨by rfl,rfl⟩) (by assumption) ?_
        try simp only [Act.put,List.getElem_toArray,List.getElem_cons_zero,List.getElem_cons_succ,List.setIfInBounds_toArray,List.set_cons_zero,List.set_cons_succ]
        refine wpAnyH_take (i:=13) (v:=undef) rfl (by kernel_rfl) (by kernel_rfl) (by kernel_rfl) (fun _ _ _ h=>h) (Or.inr ⟨by rfl,rfl⟩) (by assumption) ?_
        try simp only [Act.put,List.getElem_toArray,List.getElem_cons_zero,List.getElem_cons_succ,List.setIfInBounds_toArray,List.set_cons_zero,List.set_cons_succ]
        refine wpAnyH_take (i:=14) (v:=undef) rfl (by kernel_rfl) (by kernel_rfl) (by kernel_rfl) (fun _ _ _ h=>h) (Or.inr ⟨by rfl,rfl⟩) (by assumption) ?_
        try simp only [Act.put,List.getElem_toArray,List.getElem_cons_zero,List.getElem_cons_succ,List.setIfInBounds_toArray,List.set_cons_zero,List.set_cons_succ]
        refine wpAnyH_take (i:=15) (v:=undef) rfl (by kernel_rfl) (by kernel_rfl) (by kernel_rfl) (fun _ _ _ h=>h) (Or.inr ⟨by rfl,rfl⟩) (by assumption) ?_
        try simp only [Act.put,List.getElem_toArray,List.getElem_cons_zero,List.getElem_cons_succ,List.setIfInBounds_toArray,List.set_cons_zero,List.set_cons_succ]
        refine wpAnyH_take (i:=16) (v:=?_) rfl (by kernel_rfl) (by kernel_rfl) (by kernel_rfl) (fun _ _ _ h=>h) (Or.inl ⟨by rfl,?_⟩) (by assumption) ?_
        rotate_left
        ·intro w hSw
         go_simp
         with_reducible rfl
        try simp only [Act.put,List.getElem_toArray,List.getElem_cons_zero,List.getElem_cons_succ,List.setIfInBounds_toArray,List.set_cons_zero,List.set_cons_succ]
        refine wpAnyH_ready (rs:=[17]) (by kernel_rfl) (by simp) ?_
        refine AllReadyH.cons rfl (fun K hK=>?_) ?_
        ·have Y:Blk (wd2.setRow (w.heap.size + 1) ([.int .i64 x0,.int .i64 x1,.int .i64 x2,.int .i64 x3,.slice a4 12 c4,.slice a5 n5 c5,.slice a6 n6 c6]).toArray) (w.heap.size + 1) [.int .i64 x0,.int .i64 x1,.int .i64 x2,.int .i64 x3,.slice a4 12 c4,.slice a5 n5 c5,.slice a6 n6 c6]:=R0.put
         obtain ⟨tR,hR⟩:=R0
         rw [if_pos (by rfl)]
         refine wp_store_row 25 _ _ rfl (w.heap.size + 1) ([.int .i64 x0,.int .i64 x1,.int .i64 x2,.int .i64 x3,.slice a4 12 c4,.slice a5 n5 c5,.slice a6 n6 c6]).toArray rfl rfl tR _ hR (by rw [size_mf];rfl) rfl (by simp [Value.oneCell']) ?_
         refine hK.out _ _ ?_ (fun hHeld2=>?_)
         ·exact KI2.out _ ((KB2.out _ hHeld).row (by have:=HGm.out;omega))
         ·clear hK K hHeld hR
          have hHeld:=hHeld2
          clear hHeld2
          try simp only [Act.put,List.getElem_toArray,List.getElem_cons_zero,List.getElem_cons_succ,List.setIfInBounds_toArray,List.set_cons_zero,List.set_cons_succ]
          refine wpAnyH_take (i:=18) (v:=?_) rfl (by kernel_rfl) (by kernel_rfl) (by kernel_rfl) (fun _ _ _ h=>h) (Or.inl ⟨by rfl,?_⟩) (by assumption) ?_
          rotate_left
          ·intro w hSw
           go_simp
           with_reducible rfl
          try simp only [Act.put,List.getElem_toArray,List.getElem_cons_zero,List.getElem_cons_succ,List.setIfInBounds_toArray,List.set_cons_zero,List.set_cons_succ]
          refine wpAnyH_done (by kernel_rfl) ?_ _
          refine NoPanic.normal ?_
          have hbl:=below_setRow bel (show w.heap.size≤w.heap.size + 1 by omega) ([.int .i64 x0,.int .i64 x1,.int .i64 x2,.int .i64 x3,.slice a4 12 c4,.slice a5 n5 c5,.slice a6 n6 c6]).toArray
          obtain ⟨t9,h9⟩:=Y
          go_wp2_with fail
          refine bodyPost_ret (results_row_tmp rfl _ _ (w.heap.size + 1) t9 ([.int .i64 x0,.int .i64 x1,.int .i64 x2,.int .i64 x3,.slice a4 12 c4,.slice a5 n5 c5,.slice a6 n6 c6]).toArray (0,0) _ rfl h9 Tryd.underlying25 rfl (by rw [size_mf];rfl)) rfl ?_
          exact ReadM.no (cs:=[.int .i64 x0,.int .i64 x1,.int .i64 x2,.int .i64 x3,.slice a4 12 c4,.slice a5 n5 c5,.slice a6 n6 c6]) H.out rfl (by simp [OneC,Value.oneCell']) hbl
        exact AllReadyH.nil
       subst k145
       have e1:(((145:Nat):Int) == 145)=true:=rfl
       by_cases k48:n6=48
       rotate_left
       ·have H:Hid (mfD (.mk c t m b [k0,k1,k2,k3,k4,k5,k6])=none):=by show _=_;rw [HDo.out];exact if_neg (fun h=>k48 (by rw [← Hn6.out];exact h.2.2))
        have d2:((n6:Int) == 48)=false:=by rw [beq_eq_false_iff_ne];omega
        clear k48
        refine wp_region_noPanic ?_
        refine wp_region_held_drew (S:=Hd S2) (by kernel_rfl) hS2 (fun hHeld=>?_)
        clear hS2 Bm
        generalize World.drew _=wd2 at *
        refine wpAnyH_take (i:=0) (v:=.agg ([.int .i64 x0,.int .i64 x1,.int .i64 x2,.int .i64 x3,.slice a4 12 c4,.slice a5 145 c5,.slice a6 n6 c6]).toArray) rfl (by kernel_rfl) (by kernel_rfl) (by kernel_rfl) (fun _ _ _ h=>h) (Or.inl ⟨by rfl,fun wx h=>exec_load rfl rfl (rm.out wx h)⟩) (by assumption) ?_
        try simp only [Act.put,List.getElem_toArray,List.getElem_cons_zero,List.getElem_cons_succ,List.setIfInBounds_toArray,List.set_cons_zero,List.set_cons_succ]
        refine wpAnyH_take (i:=1) (v:=?_) rfl (by kernel_rfl) (by kernel_rfl) (by kernel_rfl) (fun _ _ _ h=>h) (Or.inl ⟨by rfl,?_⟩) (by assumption) ?_
        rotate_left
        ·intro w hSw
         go_simp
         with_reducible rfl
        try simp only [Act.put,List.getElem_toArray,List.getElem_cons_zero,List.getElem_cons_succ,List.setIfInBounds_toArray,List.set_cons_zero,List.set_cons_succ]
        refine wpAnyH_take (i:=2) (v:=?_) rfl (by kernel_rfl) (by kernel_rfl) (by kernel_rfl) (fun _ _ _ h=>h) (Or.inl ⟨by rfl,?_⟩) (by assumption) ?_
        rotate_left
        ·intro w hSw
         go_simp
         with_reducible rfl
        try simp only [Act.put,List.getElem_toArray,List.getElem_cons_zero,List.getElem_cons_succ,List.setIfInBounds_toArray,List.set_cons_zero,List.set_cons_succ]
        refine wpAnyH_take (i:=3) (v:=?_) rfl (by kernel_rfl) (by kernel_rfl) (by kernel_rfl) (fun _ _ _ h=>h) (Or.inl ⟨by rfl,?_⟩) (by assumption) ?_
        rotate_left
        ·intro w hSw
         go_simp
         with_reducible rfl
        try simp only [Act.put,List.getElem_toArray,List.getElem_cons_zero,List.getElem_cons_succ,List.setIfInBounds_toArray,List.set_cons_zero,List.set_cons_succ]
        refine wpAnyH_take (i:=4) (v:=?_) rfl (by kernel_rfl) (by kernel_rfl) (by kernel_rfl) (fun _ _ _ h=>h) (Or.inl ⟨by rfl,?_⟩) (by assumption) ?_
        rotate_left
        ·intro w hSw
         go_simp
         with_reducible rfl
        try simp only [Act.put,List.getElem_toArray,List.getElem_cons_zero,List.getElem_cons_succ,List.setIfInBounds_toArray,List.set_cons_zero,List.set_cons_succ]
        refine wpAnyH_take (i:=5) (v:=?_) rfl (by kernel_rfl) (by kernel_rfl) (by kernel_rfl) (fun _ _ _ h=>h) (Or.inl ⟨by rfl,?_⟩) (by assumption) ?_
        rotate_left
        ·intro w hSw
         go_simp
         with_reducible rfl
        try simp only [Act.put,List.getElem_toArray,List.getElem_cons_zero,List.getElem_cons_succ,List.setIfInBounds_toArray,List.set_cons_zero,List.set_cons_succ]
        refine wpAnyH_take (i:=6) (v:=?_) rfl (by kernel_rfl) (by kernel_rfl) (by kernel_rfl) (fun _ _ _ h=>h) (Or.inl ⟨by rfl,?_⟩) (by assumption) ?_
        rotate_left
        ·intro w hSw
         go_simp
         with_reducible rfl
        try simp only [Act.put,List.getElem_toArray,List.getElem_cons_zero,List.getElem_cons_succ,List.setIfInBounds_toArray,List.set_cons_zero,List.set_cons_succ]
        refine wpAnyH_take (i:=7) (v:=?_) rfl (by kernel_rfl) (by kernel_rfl) (by kernel_rfl) (fun _ _ _ h=>h) (Or.inl ⟨by rfl,?_⟩) (by assumption) ?_
        rotate_left
        ·intro w hSw
         go_simp
         with_reducible rfl
        try simp only [Act.put,List.getElem_toArray,List.getElem_cons_zero,List.getElem_cons_succ,List.setIfInBounds_toArray,List.set_cons_zero,List.set_cons_succ]
        refine wpAnyH_take (i:=8) (v:=?_) rfl (by kernel_rfl) (by kernel_rfl) (by kernel_rfl) (fun _ _ _ h=>h) (Or.inl ⟨by rfl,?_⟩) (by assumption) ?_
        rotate_left
        ·intro w hSw
         go_simp
         with_reducible rfl
        try simp only [Act.put,List.getElem_toArray,List.getElem_cons_zero,List.getElem_cons_succ,List.setIfInBounds_toArray,List.set_cons_zero,List.set_cons_succ]
        refine wpAnyH_take (i:=9) (v:=?_) rfl (by kernel_rfl) (by kernel_rfl) (by kernel_rfl) (fun _ _ _ h=>h) (Or.inl ⟨by rfl,?_⟩) (by assumption) ?_
        rotate_left
        ·intro w hSw
         go_simp
         with_reducible rfl
        try simp only [Act.put,List.getElem_toArray,List.getElem_cons_zero,List.getElem_cons_succ,List.setIfInBounds_toArray,List.set_cons_zero,List.set_cons_succ]
        refine wpAnyH_take (i:=10) (v:=?_) rfl (by kernel_rfl) (by kernel_rfl) (by kernel_rfl) (fun _ _ _ h=>h) (Or.inl ⟨by rfl,?_⟩) (by assumption) ?_
        rotate_left
        ·intro w hSw
         go_simp
         with_reducible rfl
        try simp only [Act.put,List.getElem_toArray,List.getElem_cons_zero,List.getElem_cons_succ,List.setIfInBounds_toArray,List.set_cons_zero,List.set_cons_succ]
        refine wpAnyH_take (i:=11) (v:=?_) rfl (by kernel_rfl) (by kernel_rfl) (by kernel_rfl) (fun _ _ _ h=>h) (Or.inl ⟨by rfl,?_⟩) (by assumption) ?_
        rotate_left
        ·intro w hSw
         go_simp
         with_reducible rfl
        try simp only [Act.put,List.getElem_toArray,List.getElem_cons_zero,List.getElem_cons_succ,List.setIfInBounds_toArray,List.set_cons_zero,List.set_cons_succ]
        refine wpAnyH_take (i:=12) (v:=?_) rfl (by kernel_rfl) (by kernel_rfl) (by kernel_rfl) (fun _ _ _ h=>h) (Or.inl ⟨by rfl,?_⟩) (by assumption) ?_
        rotate_left
        ·intro w hSw
         go_simp
         with_reducible rfl
        try simp only [Act.put,List.getElem_toArray,List.getElem_cons_zero,List.getElem_cons_succ,List.setIfInBounds_toArray,List.set_cons_zero,List.set_cons_succ]
        refine wpAnyH_take (i:=13) (v:=?_) rfl (by kernel_rfl) (by kernel_rfl) (by kernel_rfl) (fun _ _ _ h=>h) (Or.inl ⟨by rfl,?_⟩) (by assumption) ?_
        rotate_left
        ·intro w hSw
         go_simp
         with_reducible rfl
        try simp only [Act.put,List.getElem_toArray,List.getElem_cons_zero,List.getElem_cons_succ,List.setIfInBounds_toArray,List.set_cons_zero,List.set_cons_succ]
        refine wpAnyH_take (i:=14) (v:=?_) rfl (by kernel_rfl) (by kernel_rfl) (by kernel_rfl) (fun _ _ _ h=>h) (Or.inl ⟨by rfl,?_⟩) (by assumption) ?_
        rotate_left
        ·intro w hSw
         go_simp
         with_reducible rfl
        try simp only [Act.put,List.getElem_toArray,List.getElem_cons_zero,List.getElem_cons_succ,List.setIfInBounds_toArray,List.set_cons_zero,List.set_cons_succ]
        refine wpAnyH_take (i:=15) (v:=?_) rfl (by kernel_rfl) (by kernel_rfl) (by kernel_rfl) (fun _ _ _ h=>h) (Or.inl ⟨by rfl,?_⟩) (by assumption) ?_
        rotate_left
        ·intro w hSw
         go_simp
         with_reducible rfl
        try simp only [Act.put,List.getElem_toArray,List.getElem_cons_zero,List.getElem_cons_succ,List.setIfInBounds_toArray,List.set_cons_zero,List.set_cons_succ]
        refine wpAnyH_take (i:=16) (v:=?_) rfl (by kernel_rfl) (by kernel_rfl) (by kernel_rfl) (fun _ _ _ h=>h) (Or.inl ⟨by rfl,?_⟩) (by assumption) ?_
        rotate_left
        ·intro w hSw
         go_simp
         with_reducible rfl
        try simp only [Act.put,List.getElem_toArray,List.getElem_cons_zero,List.getElem_cons_succ,List.setIfInBounds_toArray,List.set_cons_zero,List.set_cons_succ]
        refine wpAnyH_ready (rs:=[17]) (by kernel_rfl) (by simp) ?_
        refine AllReadyH.cons rfl (fun K hK=>?_) ?_
        ·have Y:Blk (wd2.setRow (w.heap.size + 1) ([.int .i64 x0,.int .i64 x1,.int .i64 x2,.int .i64 x3,.slice a4 12 c4,.slice a5 145 c5,.slice a6 n6 c6]).toArray) (w.heap.size + 1) [.int .i64 x0,.int .i64 x1,.int .i64 x2,.int .i64 x3,.slice a4 12 c4,.slice a5 145 c5,.slice a6 n6 c6]:=R0.put
         obtain ⟨tR,hR⟩:=R0
         rw [if_pos (by rfl)]
         refine wp_store_row 25 _ _ rfl (w.heap.size + 1) ([.int .i64 x0,.int .i64 x1,.int .i64 x2,.int .i64 x3,.slice a4 12 c4,.slice a5 145 c5,.slice a6 n6 c6]).toArray rfl rfl tR _ hR (by rw [size_mf];rfl) rfl (by simp [Value.oneCell']) ?_
         refine hK.out _ _ ?_ (fun hHeld2=>?_)
         ·exact KI2.out _ ((KB2.out _ hHeld).row (by have:=HGm.out;omega))
         ·clear hK K hHeld hR
          have hHeld:=hHeld2
          clear hHeld2
          try simp only [Act.put,List.getElem_toArray,List.getElem_cons_zero,List.getElem_cons_succ,List.setIfInBounds_toArray,List.set_cons_zero,List.set_cons_succ]
          refine wpAnyH_take (i:=18) (v:=?_) rfl (by kernel_rfl) (by kernel_rfl) (by kernel_rfl) (fun _ _ _ h=>h) (Or.inl ⟨by rfl,?_⟩) (by assumption) ?_
          rotate_left
          ·intro w hSw
           go_simp
           with_reducible rfl
          try simp only [Act.put,List.getElem_toArray,List.getElem_cons_zero,List.getElem_cons_succ,List.setIfInBounds_toArray,List.set_cons_zero,List.set_cons_succ]
          refine wpAnyH_done (by kernel_rfl) ?_ _
          refine NoPanic.normal ?_
          have hbl:=below_setRow bel (show w.heap.size≤w.heap.size + 1 by omega) ([.int .i64 x0,.int .i64 x1,.int .i64 x2,.int .i64 x3,.slice a4 12 c4,.slice a5 145 c5,.slice a6 n6 c6]).toArray
          obtain ⟨t9,h9⟩:=Y
          go_wp2_with fail
          refine bodyPost_ret (results_row_tmp rfl _ _ (w.heap.size + 1) t9 ([.int .i64 x0,.int .i64 x1,.int .i64 x2,.int .i64 x3,.slice a4 12 c4,.slice a5 145 c5,.slice a6 n6 c6]).toArray (0,0) _ rfl h9 Tryd.underlying25 rfl (by rw [size_mf];rfl)) rfl ?_
          exact ReadM.no (cs:=[.int .i64 x0,.int .i64 x1,.int .i64 x2,.int .i64 x3,.slice a4 12 c4,.slice a5 145 c5,.slice a6 n6 c6]) H.out rfl (by simp [OneC,Value.oneCell']) hbl
        exact AllReadyH.nil
       subst k48
       have e2:(((48:Nat):Int) == 48)=true:=rfl
       have H:Hid (mfD (.mk c t m b [k0,k1,k2,k3,k4,k5,k6])=some ⟨x0,x1,x2,x3,bodyF k4,bodyF k5,bodyF k6⟩):=by show _=_;rw [HDo.out];exact if_pos ⟨Hn4.out,Hn5.out,Hn6.out⟩
       refine wp_region_noPanic ?_
       refine wp_region_held_drew (S:=Hd S2) (by kernel_rfl) hS2 (fun hHeld=>?_)
       clear hS2 Bm
       generalize World.drew _=wd2 at *
       refine wpAnyH_take (i:=0) (v:=.agg ([.int .i64 x0,.int .i64 x1,.int .i64 x2,.int .i64 x3,.slice a4 12 c4,.slice a5 145 c5,.slice a6 48 c6]).toArray) rfl (by kernel_rfl) (by kernel_rfl) (by kernel_rfl) (fun _ _ _ h=>h) (Or.inl ⟨by rfl,fun wx h=>exec_load rfl rfl (rm.out wx h)⟩) (by assumption) ?_
       try simp only [Act.put,List.getElem_toArray,List.getElem_cons_zero,List.getElem_cons_succ,List.setIfInBounds_toArray,List.set_cons_zero,List.set_cons_succ]
       refine wpAnyH_take (i:=1) (v:=?_) rfl (by kernel_rfl) (by kernel_rfl) (by kernel_rfl) (fun _ _ _ h=>h) (Or.inl ⟨by rfl,?_⟩) (by assumption) ?_
       rotate_left
       ·intro w hSw
        go_simp
        with_reducible rfl
       try simp only [Act.put,List.getElem_toArray,List.getElem_cons_zero,List.getElem_cons_succ,List.setIfInBounds_toArray,List.set_cons_zero,List.set_cons_succ]
       refine wpAnyH_take (i:=2) (v:=?_) rfl (by kernel_rfl) (by kernel_rfl) (by kernel_rfl) (fun _ _ _ h=>h) (Or.inl ⟨by rfl,?_⟩) (by assumption) ?_
       rotate_left
       ·intro w hSw
        go_simp
        with_reducible rfl
       try simp only [Act.put,List.getElem_toArray,List.getElem_cons_zero,List.getElem_cons_succ,List.setIfInBounds_toArray,List.set_cons_zero,List.set_cons_succ]
       refine wpAnyH_take (i:=3) (v:=?_) rfl (by kernel_rfl) (by kernel_rfl) (by kernel_rfl) (fun _ _ _ h=>h) (Or.inl ⟨by rfl,?_⟩) (by assumption) ?_
       rotate_left
       ·intro w hSw
        go_simp
        with_reducible rfl
       try simp only [Act.put,List.getElem_toArray,List.getElem_cons_zero,List.getElem_cons_succ,List.setIfInBounds_toArray,List.set_cons_zero,List.set_cons_succ]
       refine wpAnyH_take (i:=4) (v:=?_) rfl (by kernel_rfl) (by kernel_rfl) (by kernel_rfl) (fun _ _ _ h=>h) (Or.inl ⟨by rfl,?_⟩) (by assumption) ?_
       rotate_left
       ·intro w hSw
        go_simp
        with_reducible rfl
       try simp only [Act.put,List.getElem_toArray,List.getElem_cons_zero,List.getElem_cons_succ,List.setIfInBounds_toArray,List.set_cons_zero,List.set_cons_succ]
       refine wpAnyH_take (i:=5) (v:=?_) rfl (by kernel_rfl) (by kernel_rfl) (by kernel_rfl) (fun _ _ _ h=>h) (Or.inl ⟨by rfl,?_⟩) (by assumption) ?_
       rotate_left
       ·intro w hSw
        go_simp
        with_reducible rfl
       try simp only [Act.put,List.getElem_toArray,List.getElem_cons_zero,List.getElem_cons_succ,List.setIfInBounds_toArray,List.set_cons_zero,List.set_cons_succ]
       refine wpAnyH_take (i:=6) (v:=?_) rfl (by kernel_rfl) (by kernel_rfl) (by kernel_rfl) (fun _ _ _ h=>h) (Or.inl ⟨by rfl,?_⟩) (by assumption) ?_
       rotate_left
       ·intro w hSw
        go_simp
        with_reducible rfl
       try simp only [Act.put,List.getElem_toArray,List.getElem_cons_zero,List.getElem_cons_succ,List.setIfInBounds_toArray,List.set_cons_zero,List.set_cons_succ]
       refine wpAnyH_take (i:=7) (v:=?_) rfl (by kernel_rfl) (by kernel_rfl) (by kernel_rfl) (fun _ _ _ h=>h) (Or.inl ⟨by rfl,?_⟩) (by assumption) ?_
       rotate_left
       ·intro w hSw
        go_simp
        with_reducible rfl
       try simp only [Act.put,List.getElem_toArray,List.getElem_cons_zero,List.getElem_cons_succ,List.setIfInBounds_toArray,List.set_cons_zero,List.set_cons_succ]
       refine wpAnyH_take (i:=8) (v:=?_) rfl (by kernel_rfl) (by kernel_rfl) (by kernel_rfl) (fun _ _ _ h=>h) (Or.inl ⟨by rfl,?_⟩) (by assumption) ?_
       rotate_left
       ·intro w hSw
        go_simp
        with_reducible rfl
       try simp only [Act.put,List.getElem_toArray,List.getElem_cons_zero,List.getElem_cons_succ,List.setIfInBounds_toArray,List.set_cons_zero,List.set_cons_succ]
       refine wpAnyH_take (i:=9) (v:=?_) rfl (by kernel_rfl) (by kernel_rfl) (by kernel_rfl) (fun _ _ _ h=>h) (Or.inl ⟨by rfl,?_⟩) (by assumption) ?_
       rotate_left
       ·intro w hSw
        go_simp
        with_reducible rfl
       try simp only [Act.put,List.getElem_toArray,List.getElem_cons_zero,List.getElem_cons_succ,List.setIfInBounds_toArray,List.set_cons_zero,List.set_cons_succ]
       refine wpAnyH_take (i:=10) (v:=?_) rfl (by kernel_rfl) (by kernel_rfl) (by kernel_rfl) (fun _ _ _ h=>h) (Or.inl ⟨by rfl,?_⟩) (by assumption) ?_
       rotate_left
       ·intro w hSw
        go_simp
        with_reducible rfl
       try simp only [Act.put,List.getElem_toArray,List.getElem_cons_zero,List.getElem_cons_succ,List.setIfInBounds_toArray,List.set_cons_zero,List.set_cons_succ]
       refine wpAnyH_take (i:=11) (v:=?_) rfl (by kernel_rfl) (by kernel_rfl) (by kernel_rfl) (fun _ _ _ h=>h) (Or.inl ⟨by rfl,?_⟩) (by assumption) ?_
       rotate_left
       ·intro w hSw
        go_simp
        with_reducible rfl
       try simp only [Act.put,List.getElem_toArray,List.getElem_cons_zero,List.getElem_cons_succ,List.setIfInBounds_toArray,List.set_cons_zero,List.set_cons_succ]
       refine wpAnyH_take (i:=12) (v:=?_) rfl (by kernel_rfl) (by kernel_rfl) (by kernel_rfl) (fun _ _ _ h=>h) (Or.inl ⟨by rfl,?_⟩) (by assumption) ?_
       rotate_left
       ·intro w hSw
        go_simp
        with_reducible rfl
       try simp only [Act.put,List.getElem_toArray,List.getElem_cons_zero,List.getElem_cons_succ,List.setIfInBounds_toArray,List.set_cons_zero,List.set_cons_succ]
       refine wpAnyH_take (i:=13) (v:=?_) rfl (by kernel_rfl) (by kernel_rfl) (by kernel_rfl) (fun _ _ _ h=>h) (Or.inl ⟨by rfl,?_⟩) (by assumption) ?_
       rotate_left
       ·intro w hSw
        go_simp
        with_reducible rfl
       try simp only [Act.put,List.getElem_toArray,List.getElem_cons_zero,List.getElem_cons_succ,List.setIfInBounds_toArray,List.set_cons_zero,List.set_cons_succ]
       refine wpAnyH_take (i:=14) (v:=?_) rfl (by kernel_rfl) (by kernel_rfl) (by kernel_rfl) (fun _ _ _ h=>h) (Or.inl ⟨by rfl,?_⟩) (by assumption) ?_
       rotate_left
       ·intro w hSw
        go_simp
        with_reducible rfl
       try simp only [Act.put,List.getElem_toArray,List.getElem_cons_zero,List.getElem_cons_succ,List.setIfInBounds_toArray,List.set_cons_zero,List.set_cons_succ]
       refine wpAnyH_take (i:=15) (v:=?_) rfl (by kernel_rfl) (by kernel_rfl) (by kernel_rfl) (fun _ _ _ h=>h) (Or.inl ⟨by rfl,?_⟩) (by assumption) ?_
       rotate_left
       ·intro w hSw
        go_simp
        with_reducible rfl
       try simp only [Act.put,List.getElem_toArray,List.getElem_cons_zero,List.getElem_cons_succ,List.setIfInBounds_toArray,List.set_cons_zero,List.set_cons_succ]
       refine wpAnyH_take (i:=16) (v:=?_) rfl (by kernel_rfl) (by kernel_rfl) (by kernel_rfl) (fun _ _ _ h=>h) (Or.inl ⟨by rfl,?_⟩) (by assumption) ?_
       rotate_left
       ·intro w hSw
        go_simp
        with_reducible rfl
       try simp only [Act.put,List.getElem_toArray,List.getElem_cons_zero,List.getElem_cons_succ,List.setIfInBounds_toArray,List.set_cons_zero,List.set_cons_succ]
       refine wpAnyH_ready (rs:=[17]) (by kernel_rfl) (by simp) ?_
       refine AllReadyH.cons rfl (fun K hK=>?_) ?_
       ·have Y:Blk (wd2.setRow (w.heap.size + 1) ([.int .i64 x0,.int .i64 x1,.int .i64 x2,.int .i64 x3,.slice a4 12 c4,.slice a5 145 c5,.slice a6 48 c6]).toArray) (w.heap.size + 1) [.int .i64 x0,.int .i64 x1,.int .i64 x2,.int .i64 x3,.slice a4 12 c4,.slice a5 145 c5,.slice a6 48 c6]:=R0.put
        obtain ⟨tR,hR⟩:=R0
        rw [if_pos (by rfl)]
        refine wp_store_row 25 _ _ rfl (w.heap.size + 1) ([.int .i64 x0,.int .i64 x1,.int .i64 x2,.int .i64 x3,.slice a4 12 c4,.slice a5 145 c5,.slice a6 48 c6]).toArray rfl rfl tR _ hR (by rw [size_mf];rfl) rfl (by simp [Value.oneCell']) ?_
        refine hK.out _ _ ?_ (fun hHeld2=>?_)
        ·exact KI2.out _ ((KB2.out _ hHeld).row (by have:=HGm.out;omega))
        ·clear hK K hHeld hR
         have hHeld:=hHeld2
         clear hHeld2
         try simp only [Act.put,List.getElem_toArray,List.getElem_cons_zero,List.getElem_cons_succ,List.setIfInBounds_toArray,List.set_cons_zero,List.set_cons_succ]
         refine wpAnyH_take (i:=18) (v:=?_) rfl (by kernel_rfl) (by kernel_rfl) (by kernel_rfl) (fun _ _ _ h=>h) (Or.inl ⟨by rfl,?_⟩) (by assumption) ?_
         rotate_left
         ·intro w hSw
          go_simp
          with_reducible rfl
         try simp only [Act.put,List.getElem_toArray,List.getElem_cons_zero,List.getElem_cons_succ,List.setIfInBounds_toArray,List.set_cons_zero,List.set_cons_succ]
         refine wpAnyH_done (by kernel_rfl) ?_ _
         refine NoPanic.normal ?_
         have hbl:=below_setRow bel (show w.heap.size≤w.heap.size + 1 by omega) ([.int .i64 x0,.int .i64 x1,.int .i64 x2,.int .i64 x3,.slice a4 12 c4,.slice a5 145 c5,.slice a6 48 c6]).toArray
         obtain ⟨t9,h9⟩:=Y
         go_wp2_with fail
         refine bodyPost_ret (results_row_tmp rfl _ _ (w.heap.size + 1) t9 ([.int .i64 x0,.int .i64 x1,.int .i64 x2,.int .i64 x3,.slice a4 12 c4,.slice a5 145 c5,.slice a6 48 c6]).toArray (0,0) _ rfl h9 Tryd.underlying25 rfl (by rw [size_mf];rfl)) rfl ?_
         exact ReadM.yes (cs:=[.int .i64 x0,.int .i64 x1,.int .i64 x2,.int .i64 x3,.slice a4 12 c4,.slice a5 145 c5,.slice a6 48 c6]) H.out ⟨_,_,_,rfl,HBs4.out.later hbl,HBs5.out.later hbl,HBs6.out.later hbl⟩ hbl
       exact AllReadyH.nil
     exact AllReadyH.nil
   exact AllReadyH.nil
  obtain ⟨k,hkk⟩:∃ k,[k0,k1,k2,k3,k4,k5,k6][i]?=some k:=⟨_,List.getElem?_eq_getElem (by simp;omega)⟩
  obtain ⟨es,hcs1,ht1⟩:=HKs.out.get hkk
  have HKK:Hid ([k0,k1,k2,k3,k4,k5,k6][i]?=some k):=hkk
  have hld:(loadVar 32 ⟨g,o + i * 5,none⟩).run Tryd.prog wr=.ok (.agg es.toArray) wr:=tlv_load (by rw [Nat.mul_comm];exact hcs1.later bel) ht1.five
  have lg:g < wr.heap.size:=(hcs1.later bel).1
  obtain ⟨c1,t1,m1,bd1,ks1⟩:=k
  rw [TlAt] at ht1
  obtain ⟨bv1,ao1,kc1,rfl,hbv1,-,-,-⟩:=ht1
  obtain ⟨ba1,bc1,rfl,-,-,-⟩:=hbv1
  obtain ⟨BL1,hBL1⟩:∃ z,bd1.length=z:=⟨_,rfl⟩
  obtain ⟨KL1,hKL1⟩:∃ z,ks1.length=z:=⟨_,rfl⟩
  rw [hBL1,hKL1] at hld
  clear hkk hcs1 hBL1 hKL1
  have e4:=B0.cell 4 _ rfl
  have l0:=B0.lt
  have g1:(i:Int) < 7:=by omega
  have g2:(0:Int)≤(i:Int):=by omega
  have gi:IntKind.i64.wrap ((i:Int) + 1)=(i:Int) + 1:=by rw [IntKind.wrap_i64];omega
  have hz:=zero_tlv.out
  replace B0:=B0.alloc (.cells #[.int .i64 c1,.int .i64 t1,.bool m1,.slice ba1 BL1 bc1,.slice ao1 KL1 kc1] 32)
  replace R0:=R0.alloc (.cells #[.int .i64 c1,.int .i64 t1,.bool m1,.slice ba1 BL1 bc1,.slice ao1 KL1 kc1] 32)
  replace bel:=below_alloc (o:=.cells #[.int .i64 c1,.int .i64 t1,.bool m1,.slice ba1 BL1 bc1,.slice ao1 KL1 kc1] 32) bel
  have Bk:=Blk.new wr [.int .i64 c1,.int .i64 t1,.bool m1,.slice ba1 BL1 bc1,.slice ao1 KL1 kc1] 32 wr.heap.size rfl
  go_upto_region 14 with (first|((with_reducible show wpList _ _ _ ({ dst:=_,op:=.load _ _,type:=_,pos:=_,after:=_,guard:=_ } :: _) _ _);refine wpList_load_run (by rfl) (by rfl) (by rfl) hld ?_)|((with_reducible show wpList _ _ _ ({ dst:=_,op:=.store _ _ _,type:=_,pos:=_,after:=_,guard:=_ } :: _) _ _);refine wpList_store_row rfl 32 _ _ rfl wr.heap.size #[.int .i64 c1,.int .i64 t1,.bool m1,.slice ba1 BL1 bc1,.slice ao1 KL1 kc1] rfl rfl 32 _ (heap_alloc_last _ _) (by rw [size_tlv];rfl) rfl (by simp [Value.oneCell']) ?_;rw [World.setRow_alloc_new])|fail)
  clear hz hld lg e4 l0
  obtain ⟨gk,hgk⟩:∃ g,g=wr.heap.size:=⟨_,rfl⟩
  rw [← hgk] at Bk ⊢
  generalize wr.alloc (.cells #[.int .i64 c1,.int .i64 t1,.bool m1,.slice ba1 BL1 bc1,.slice ao1 KL1 kc1] 32)=V9 at *
  clear hgk
  have f0:=Bk.cell 0 _ rfl
  have f1:=Bk.cell 1 _ rfl
  have f2:=Bk.cell 2 _ rfl
  have lk:=Bk.lt
  by_cases c0:c1=0
  rotate_left
  ·have H:Hid (mfD (.mk c t m b [k0,k1,k2,k3,k4,k5,k6])=none):=by show _=_;rw [HD.out];exact mfL_bad4 rfl hi4 hil HKK.out (bytD_n (fun h=>c0 h.1))
   have d1:(c1 == 0)=false:=by rw [beq_eq_false_iff_ne];exact c0
   have d2:(c1 != 0)=true:=by rw [bne,d1];rfl
   clear c0
   have hz:=zero_mf.out
   obtain ⟨tR,hR⟩:=R0
   have HR1:Hid _:=hR
   clear hR
   go_wp2_with (first|((with_reducible show wpList _ _ _ ({ dst:=_,op:=.store _ _ _,type:=_,pos:=_,after:=_,guard:=_ } :: _) _ _);refine wpList_store_row rfl 25 _ _ rfl (w.heap.size + 1) #[.int .i64 0,.int .i64 0,.int .i64 0,.int .i64 0,.slice none 0 0,.slice none 0 0,.slice none 0 0] rfl rfl tR _ HR1.out (by rw [size_mf];rfl) rfl (by simp [Value.oneCell']) ?_)|fail)
   refine bodyPost_ret (results_row_tmp rfl _ _ (w.heap.size + 1) tR #[.int .i64 0,.int .i64 0,.int .i64 0,.int .i64 0,.slice none 0 0,.slice none 0 0,.slice none 0 0] (0,0) _ rfl (setRow_heap _ _ _ _ _ _ HR1.out) Tryd.underlying25 rfl (by rw [size_mf];rfl)) rfl ?_
   exact ReadM.no (cs:=[.int .i64 0,.int .i64 0,.int .i64 0,.int .i64 0,.slice none 0 0,.slice none 0 0,.slice none 0 0]) H.out rfl (by simp [OneC,Value.oneCell']) (below_setRow bel (by omega) _)
  subst c0
  by_cases c4:t1=4
  rotate_left
  ·have H:Hid (mfD (.mk c t m b [k0,k1,k2,k3,k4,k5,k6])=none):=by show _=_;rw [HD.out];exact mfL_bad4 rfl hi4 hil HKK.out (bytD_n (fun h=>c4 h.2.1))
   have d0:((0:Int) != 0)=false:=rfl
   have d1:(t1 == 4)=false:=by rw [beq_eq_false_iff_ne];exact c4
   have d2:(t1 != 4)=true:=by rw [bne,d1];rfl
   clear c4
   have hz:=zero_mf.out
   obtain ⟨tR,hR⟩:=R0
   have HR1:Hid _:=hR
   clear hR
   go_wp2_with (first|((with_reducible show wpList _ _ _ ({ dst:=_,op:=.store _ _ _,type:=_,pos:=_,after:=_,guard:=_ } :: _) _ _);refine wpList_store_row rfl 25 _ _ rfl (w.heap.size + 1) #[.int .i64 0,.int .i64 0,.int .i64 0,.int .i64 0,.slice none 0 0,.slice none 0 0,.slice none 0 0] rfl rfl tR _ HR1.out (by rw [size_mf];rfl) rfl (by simp [Value.oneCell']) ?_)|fail)
   refine bodyPost_ret (results_row_tmp rfl _ _ (w.heap.size + 1) tR #[.int .i64 0,.int .i64 0,.int .i64 0,.int .i64 0,.slice none 0 0,.slice none 0 0,.slice none 0 0] (0,0) _ rfl (setRow_heap _ _ _ _ _ _ HR1.out) Tryd.underlying25 rfl (by rw [size_mf];rfl)) rfl ?_
   exact ReadM.no (cs:=[.int .i64 0,.int .i64 0,.int .i64 0,.int .i64 0,.slice none 0 0,.slice none 0 0,.slice none 0 0]) H.out rfl (by simp [OneC,Value.oneCell']) (below_setRow bel (by omega) _)
  subst c4
  have d0:((0:Int) != 0)=false:=rfl
  have d4:((4:Int) != 4)=false:=rfl
  cases m1 with
  | true =>
   have H:Hid (mfD (.mk c t m b [k0,k1,k2,k3,k4,k5,k6])=none):=by show _=_;rw [HD.out];exact mfL_bad4 rfl hi4 hil HKK.out (bytD_n (fun h=>by cases h.2.2))
   have hz:=zero_mf.out
   obtain ⟨tR,hR⟩:=R0
   have HR1:Hid _:=hR
   clear hR
   go_wp2_with (first|((with_reducible show wpList _ _ _ ({ dst:=_,op:=.store _ _ _,type:=_,pos:=_,after:=_,guard:=_ } :: _) _ _);refine wpList_store_row rfl 25 _ _ rfl (w.heap.size + 1) #[.int .i64 0,.int .i64 0,.int .i64 0,.int .i64 0,.slice none 0 0,.slice none 0 0,.slice none 0 0] rfl rfl tR _ HR1.out (by rw [size_mf];rfl) rfl (by simp [Value.oneCell']) ?_)|fail)
   refine bodyPost_ret (results_row_tmp rfl _ _ (w.heap.size + 1) tR #[.int .i64 0,.int .i64 0,.int .i64 0,.int .i64 0,.slice none 0 0,.slice none 0 0,.slice none 0 0] (0,0) _ rfl (setRow_heap _ _ _ _ _ _ HR1.out) Tryd.underlying25 rfl (by rw [size_mf];rfl)) rfl ?_
   exact ReadM.no (cs:=[.int .i64 0,.int .i64 0,.int .i64 0,.int .i64 0,.slice none 0 0,.slice none 0 0,.slice none 0 0]) H.out rfl (by simp [OneC,Value.oneCell']) (below_setRow bel (by omega) _)
  | false =>
  have HAn:Hid (∀ j k,4≤j→j < i + 1→[k0,k1,k2,k3,k4,k5,k6][j]?=some k→plain4 k):=fun j k h1 h2 h3=>by
   by_cases e:j < i
   ·exact HA.out j k h1 e h3
   ·obtain rfl:j=i:=by omega
    rw [HKK.out] at h3
    cases h3
    exact ⟨rfl,rfl,rfl⟩
  clear HA
  go_wp2_with fail
  go_roundw
  case rel=>exact ⟨i + 1,by omega,by omega,by go_num,HAn,B0,R0,bel⟩
  case measure=>simp [intOf];omega
end Go.Proofs.YtnkipgbnnhahbaaDoor
