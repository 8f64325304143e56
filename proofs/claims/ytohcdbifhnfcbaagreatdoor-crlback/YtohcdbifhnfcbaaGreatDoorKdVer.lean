/- The document's lists. The document's identifiers. The document's serial numbers. The document's times. The document's version; serial numbers and times, with a truth. -/
import Derived.Test.YtohcdbifhnfcbaaGreatDoorKrUp0
import Derived.Test.YtohcdbifhnfcbaaGreatDoorDrTG
import Derived.Test.YtohcdbifhnfcbaaGreatDoorDrDG
import Derived.Test.YtohcdbifhnfcbaaGreatDoorDcG1
import Derived.Test.YtohcdbifhnfcbaaGreatDoorClWr
import Derived.Test.YtohcdbifhnfcbaaGreatDoorPmOidO
import Derived.Test.YtohcdbifhnfcbaaGreatDoorPmOidN
import Derived.Test.YtohcdbifhnfcbaaGreatDoorPmNumO
import Derived.Test.YtohcdbifhnfcbaaGreatDoorPmTofR
import Derived.Test.YtohcdbifhnfcbaaGreatDoorKrSpec
import Derived.Test.YtohcdbifhnfcbaaGreatDoorCtElm
import Derived.Test.YtohcdbifhnfcbaaGreatDoorRows
import Derived.Deep.OwnRows
import Derived.Deep.AppendLies
import Derived.Great.BuildSlice
import Derived.Laws.Rows
import Derived.BigQuiet
import Derived.Deep.WholeRow
import Derived.Deep.RegionHeld3
import Derived.Deep.DeepCutAuto
import Derived.Deep.DeepFit
namespace Go.Proofs.YtohcdbifhnfcbaaGreatDoor
open Go.RowKit
set_option linter.unusedSimpArgs false
set_option maxRecDepth 100000
set_option maxHeartbeats 1000000
theorem r16_List {ka:Option Addr} {n kc:Nat} {w:World}:Calls Tryz.prog 33 #[.slice ka n kc] w fun e w'=>e=.returned (.agg #[.int .i64 0,.int .i64 16,.bool true,.slice none 0 0,.slice ka n kc])∧Below w.heap.size w w':=by
 have R0:=Blk.new w [.int .i64 0,.int .i64 0,.bool false,.slice none 0 0,.slice none 0 0] 53 w.heap.size rfl
 have bel:=bal w (.cells #[.int .i64 0,.int .i64 0,.bool false,.slice none 0 0,.slice none 0 0] 53)
 have hz:=zero_tlv.out
 go_enter Tryz.func33,Tryz.ntmps33
 go_upto_region 1 with fail
 have lW:=bel.size
 generalize w.alloc (.cells #[.int .i64 0,.int .i64 0,.bool false,.slice none 0 0,.slice none 0 0] 53)=W at *
 obtain ⟨tR,hR⟩:=R0
 have HR1:Hid _:=hR
 clear hR
 go_wp2_with (first|((with_reducible show wpList _ _ _ ({ dst:=_,op:=.store _ _ _,type:=_,pos:=_,after:=_,guard:=_ } :: _) _ _);refine wpList_store_row rfl 53 _ _ rfl w.heap.size #[.int .i64 0,.int .i64 16,.bool true,.slice none 0 0,.slice ka n kc] rfl rfl tR _ HR1.out (by rw [size_tlv];rfl) rfl (by simp [Value.oneCell']) ?_)|fail)
 refine bodyPost_ret (results_cell_row rfl _ _ w.heap.size tR #[.int .i64 0,.int .i64 16,.bool true,.slice none 0 0,.slice ka n kc] (0,0) _ rfl (setRow_heap _ _ _ _ _ _ HR1.out) Tryz.underlying53 rfl (by rw [size_tlv];rfl)) rfl ?_
 exact ⟨rfl,below_setRow bel (by omega) _⟩
theorem r16_Oid {v:Value} {L:List Int} {w:World} (hv:Us w v L) (b:wrd L) :
  Calls Tryz.prog 63 #[v] w fun e w'=>∃ cs:List Value,e=.returned (.agg cs.toArray)∧Dep (fun g=>w.heap.size≤g) w' (oidT L) cs∧Below w.heap.size w w':=by
 have HV:Hid (Us w v L):=hv
 obtain ⟨ao,cap,rfl,-,-,-⟩:=hv
 have R0:=Blk.new w [.int .i64 0,.int .i64 0,.bool false,.slice none 0 0,.slice none 0 0] 53 w.heap.size rfl
 have bel:=bal w (.cells #[.int .i64 0,.int .i64 0,.bool false,.slice none 0 0,.slice none 0 0] 53)
 have hz:=zero_tlv.out
 go_enter Tryz.func63,Tryz.ntmps63
 go_upto_region 1 with fail
 have lW:=bel.size
 generalize w.alloc (.cells #[.int .i64 0,.int .i64 0,.bool false,.slice none 0 0,.slice none 0 0] 53)=W at *
 have lR:=R0.lt
 go_wp2_with fail
 refine (r13_OidOfN (HV.out.later bel) b).mono ?_
 rintro e w1 ⟨hok,hbad⟩
 have HX:∃ (ba:Option Addr) (n bc:Nat) (cc:Int),e=.returned (.tuple #[.slice ba n bc,.int .i64 cc])∧Hid (Dep (fun g=>W.heap.size≤g) w1 (oidT L) [.int .i64 0,.int .i64 6,.bool false,.slice ba n bc,.slice none 0 0])∧Below W.heap.size W w1:=by
  cases ho:oidOf L with
  | ok X =>
   obtain ⟨v',rfl,h1,h2,hb⟩:=hok X ho
   have hd:=leaf_new h1 h2 0 6 false
   obtain ⟨ba,bc,rfl,-,-,-⟩:=id h1
   exact ⟨ba,_,bc,0,rfl,by show Dep _ _ _ _;unfold oidT;rw [ho];exact hd,hb⟩
  | error c =>
   obtain ⟨rfl,hb⟩:=hbad c ho
   exact ⟨none,0,0,_,rfl,by show Dep _ _ _ _;unfold oidT;rw [ho];exact leaf_new (b:=[]) ⟨none,0,rfl,Nat.zero_le _,Nat.zero_le _,fun h=>absurd h (Nat.lt_irrefl 0)⟩ (fun a m c e=>by cases e) 0 6 false,hb⟩
 obtain ⟨ba,n,bc,cc,rfl,HD,hb⟩:=HX
 replace R0:=R0.later hb
 replace bel:=below_step bel hb
 clear hok hbad hb
 obtain ⟨tR,hR⟩:=R0
 have HR1:Hid _:=hR
 clear hR
 go_wp2_with (first|((with_reducible show wpList _ _ _ ({ dst:=_,op:=.store _ _ _,type:=_,pos:=_,after:=_,guard:=_ } :: _) _ _);refine wpList_store_row rfl 53 _ _ rfl w.heap.size #[.int .i64 0,.int .i64 6,.bool false,.slice ba n bc,.slice none 0 0] rfl rfl tR _ HR1.out (by rw [size_tlv];rfl) rfl (by simp [Value.oneCell']) ?_)|fail)
 refine bodyPost_ret (results_cell_row rfl _ _ w.heap.size tR #[.int .i64 0,.int .i64 6,.bool false,.slice ba n bc,.slice none 0 0] (0,0) _ rfl (setRow_heap _ _ _ _ _ _ HR1.out) Tryz.underlying53 rfl (by rw [size_tlv];rfl)) rfl ?_
 exact ⟨_,rfl,dep_ret HD.out lR lW,below_setRow bel (by omega) _⟩
theorem r16_Algorithm {w:World}:Calls Tryz.prog 30 #[] w fun e w'=>∃ cs:List Value,e=.returned (.agg cs.toArray)∧Dep (fun g=>w.heap.size≤g) w' algT cs∧Below w.heap.size w w':=by
 have R0:=Blk.new w [.int .i64 0,.int .i64 0,.bool false,.slice none 0 0,.slice none 0 0] 53 w.heap.size rfl
 have bel:=bal w (.cells #[.int .i64 0,.int .i64 0,.bool false,.slice none 0 0,.slice none 0 0] 53)
 have hz:=zero_tlv.out
 go_enter Tryz.func30,Tryz.ntmps30
 go_upto_region 1 with fail
 have lW:=bel.size
 generalize w.alloc (.cells #[.int .i64 0,.int .i64 0,.bool false,.slice none 0 0,.slice none 0 0] 53)=W at *
 clear hz
 have lR:=R0.lt
 obtain ⟨N0,hN0⟩:∃ n,n=W.heap.size:=⟨_,rfl⟩
 have st:Below W.heap.size W W:=Below.refl _ _
 rw [← hN0] at lR lW
 obtain ⟨jt,hjt,ht0,ht1,ht2⟩:=info_partsD info_tlv
 have HU1:Hid (Us (W.alloc (.cells #[.int .u64 1,.int .u64 2,.int .u64 840,.int .u64 10045,.int .u64 4,.int .u64 3,.int .u64 3] 27)) (.slice (some ⟨W.heap.size,0,none⟩) 7 7) [1,2,840,10045,4,3,3]):=us_blk (Blk.new W (us [1,2,840,10045,4,3,3]) 27 W.heap.size rfl) rfl (by decide)
 replace R0:=R0.alloc (.cells #[.int .u64 1,.int .u64 2,.int .u64 840,.int .u64 10045,.int .u64 4,.int .u64 3,.int .u64 3] 27)
 replace st:=below_alloc (o:=.cells #[.int .u64 1,.int .u64 2,.int .u64 840,.int .u64 10045,.int .u64 4,.int .u64 3,.int .u64 3] 27) st
 replace bel:=below_alloc (o:=.cells #[.int .u64 1,.int .u64 2,.int .u64 840,.int .u64 10045,.int .u64 4,.int .u64 3,.int .u64 3] 27) bel
 go_wp2_with fail
 refine (r16_Oid HU1.out (wrd_mem (by decide))).mono ?_
 rintro e w1 ⟨cs,rfl,hd1,hb⟩
 have HD1:Hid (Dep (fun g=>N0≤g) w1 (oidT [1,2,840,10045,4,3,3]) cs):=hd1.next (Agr.refl _ _) (fun _ h _=>by rw [hN0];exact Nat.le_trans st.size h)
 have HL1:Hid (cs.length=5):=hd1.now.five
 replace R0:=R0.later hb
 replace st:=below_step st hb
 replace bel:=below_step bel hb
 clear hd1
 have HF:Hid _:=fill_5 HL1.out
 have HT:Hid (Dep (fun g=>N0≤g) (w1.alloc (.cells cs.toArray 53)) algT [.int .i64 0,.int .i64 16,.bool true,.slice none 0 0,.slice (some ⟨w1.heap.size,0,none⟩) 1 1]):=list_dep (ks:=[oidT [1,2,840,10045,4,3,3]]) HL1.out (by rw [hN0];exact st.size) (by decide) (one_kid (P:=Dep (fun g=>N0≤g) w1) HD1.out HL1.out) 0 16 true
 replace R0:=R0.alloc (.cells cs.toArray 53)
 replace bel:=below_alloc (o:=.cells cs.toArray 53) bel
 have hz:=zero_tlv.out
 obtain ⟨tR,hR⟩:=R0
 have HR1:Hid _:=hR
 clear hR
 go_wp2_with (first|((with_reducible show wpList _ _ _ ({ dst:=_,op:=.buildSlice _ _ _,type:=_,pos:=_,after:=_,guard:=_ } :: _) _ _);refine Go.wpList_buildSlice rfl 51 53 1 _ rfl cs.toArray jt _ Tryz.underlying51 hjt ht0 (by rw [ht1];decide) (by rw [ht1];decide) (by rw [ht1];refine (congrArg _ (?_:_=[(0,Value.agg cs.toArray)])).trans HF.out;kernel_rfl) ?_)|((with_reducible show wpList _ _ _ ({ dst:=_,op:=.store _ _ _,type:=_,pos:=_,after:=_,guard:=_ } :: _) _ _);refine wpList_store_row rfl 53 _ _ rfl w.heap.size #[.int .i64 0,.int .i64 16,.bool true,.slice none 0 0,.slice (some ⟨w1.heap.size,0,none⟩) 1 1] rfl rfl tR _ HR1.out (by rw [size_tlv];rfl) rfl (by simp [Value.oneCell']) ?_)|fail)
 refine bodyPost_ret (results_cell_row rfl _ _ w.heap.size tR #[.int .i64 0,.int .i64 16,.bool true,.slice none 0 0,.slice (some ⟨w1.heap.size,0,none⟩) 1 1] (0,0) _ rfl (setRow_heap _ _ _ _ _ _ HR1.out) Tryz.underlying53 rfl (by rw [size_tlv];rfl)) rfl ?_
 exact ⟨_,rfl,dep_ret HT.out lR lW,below_setRow bel (by omega) _⟩
theorem r16_SerialElement {v:Value} {n:List Int} {w:World} (hv:Bs w v n) (b:byt n) :
  Calls Tryz.prog 32 #[v] w fun e w'=>(serT n=none→e=.returned (.tuple #[.agg #[.int .i64 0,.int .i64 0,.bool false,.slice none 0 0,.slice none 0 0],.bool false])∧Below w.heap.size w w')∧(∀ T,serT n=some T→∃ cs:List Value,e=.returned (.tuple #[.agg cs.toArray,.bool true])∧Dep (fun g=>w.heap.size≤g) w' T cs∧Below w.heap.size w w'):=by
 have HV:Hid (Bs w v n):=hv
 have HB:Hid (byt n):=b
 obtain ⟨ao,cap,rfl,h1,h2,h3⟩:=hv
 unfold maxLen at h1
 obtain ⟨N,hN⟩:∃ N,n.length=N:=⟨_,rfl⟩
 have HN:Hid (n.length=N):=hN
 rw [hN] at HV h2 h3 ⊢
 clear b hN
 have R0:=Blk.new w [.int .i64 0,.int .i64 0,.bool false,.slice none 0 0,.slice none 0 0] 53 w.heap.size rfl
 have bel:=bal w (.cells #[.int .i64 0,.int .i64 0,.bool false,.slice none 0 0,.slice none 0 0] 53)
 have hz:=zero_tlv.out
 go_enter Tryz.func32,Tryz.ntmps32
 go_upto_region 1 with fail
 have lW:=bel.size
 generalize w.alloc (.cells #[.int .i64 0,.int .i64 0,.bool false,.slice none 0 0,.slice none 0 0] 53)=W at *
 have lR:=R0.lt
 clear hz
 by_cases c1:N < 1
 ·have H:Hid (serT n=none):=by show _=_;unfold serT;rw [if_pos (.inl (by rw [HN.out];exact c1))]
  have g1:(N:Int) < 1:=by omega
  clear c1 h3
  obtain ⟨tR,hR⟩:=R0
  have HR1:Hid _:=hR
  clear hR
  have hz:=zero_tlv.out
  go_wp2_with (first|((with_reducible show wpList _ _ _ ({ dst:=_,op:=.store _ _ _,type:=_,pos:=_,after:=_,guard:=_ } :: _) _ _);refine wpList_store_row rfl 53 _ _ rfl w.heap.size #[.int .i64 0,.int .i64 0,.bool false,.slice none 0 0,.slice none 0 0] rfl rfl tR _ HR1.out (by rw [size_tlv];rfl) rfl (by simp [Value.oneCell']) ?_)|fail)
  refine bodyPost_ret (results_row_tmp rfl _ _ w.heap.size tR #[.int .i64 0,.int .i64 0,.bool false,.slice none 0 0,.slice none 0 0] (0,0) _ rfl (setRow_heap _ _ _ _ _ _ HR1.out) Tryz.underlying53 rfl (by rw [size_tlv];rfl)) rfl ?_
  exact ⟨fun _=>⟨rfl,below_setRow bel (by omega) _⟩,fun T hT=>by rw [H.out] at hT;cases hT⟩
 have g1:¬ (N:Int) < 1:=by omega
 by_cases c2:20 < N
 ·have H:Hid (serT n=none):=by show _=_;unfold serT;rw [if_pos (.inr (.inl (by rw [HN.out];exact c2)))]
  have g2:(20:Int) < (N:Int):=by omega
  clear c1 c2 h3
  obtain ⟨tR,hR⟩:=R0
  have HR1:Hid _:=hR
  clear hR
  have hz:=zero_tlv.out
  go_wp2_with (first|((with_reducible show wpList _ _ _ ({ dst:=_,op:=.store _ _ _,type:=_,pos:=_,after:=_,guard:=_ } :: _) _ _);refine wpList_store_row rfl 53 _ _ rfl w.heap.size #[.int .i64 0,.int .i64 0,.bool false,.slice none 0 0,.slice none 0 0] rfl rfl tR _ HR1.out (by rw [size_tlv];rfl) rfl (by simp [Value.oneCell']) ?_)|fail)
  refine bodyPost_ret (results_row_tmp rfl _ _ w.heap.size tR #[.int .i64 0,.int .i64 0,.bool false,.slice none 0 0,.slice none 0 0] (0,0) _ rfl (setRow_heap _ _ _ _ _ _ HR1.out) Tryz.underlying53 rfl (by rw [size_tlv];rfl)) rfl ?_
  exact ⟨fun _=>⟨rfl,below_setRow bel (by omega) _⟩,fun T hT=>by rw [H.out] at hT;cases hT⟩
 have g2:¬ (20:Int) < (N:Int):=by omega
 obtain ⟨b0,o0,ea,l0,hc⟩:=h3 (by omega)
 subst ea
 obtain ⟨x,hx⟩:∃ x,n.getD 0 0=x:=⟨_,rfl⟩
 have x0:W.cell? ⟨b0,o0,none⟩=some (.int .u8 x):=by
  have h:=hc 0 (by omega)
  rw [hx,Nat.add_zero] at h
  exact (bel.cell (p:=⟨b0,o0,none⟩) l0).trans h
 have lw0:b0 < W.heap.size:=Nat.lt_of_lt_of_le l0 lW
 have g3:(0:Int) < (N:Int):=by omega
 have HX:Hid (n.getD 0 0=x):=hx
 clear hc hx
 by_cases c3:x=0
 ·have H:Hid (serT n=none):=by show _=_;unfold serT;rw [if_pos (.inr (.inr (by rw [HX.out];exact c3)))]
  subst c3
  clear c1 c2
  obtain ⟨tR,hR⟩:=R0
  have HR1:Hid _:=hR
  clear hR
  have hz:=zero_tlv.out
  go_wp2_with (first|((with_reducible show wpList _ _ _ ({ dst:=_,op:=.store _ _ _,type:=_,pos:=_,after:=_,guard:=_ } :: _) _ _);refine wpList_store_row rfl 53 _ _ rfl w.heap.size #[.int .i64 0,.int .i64 0,.bool false,.slice none 0 0,.slice none 0 0] rfl rfl tR _ HR1.out (by rw [size_tlv];rfl) rfl (by simp [Value.oneCell']) ?_)|fail)
  refine bodyPost_ret (results_row_tmp rfl _ _ w.heap.size tR #[.int .i64 0,.int .i64 0,.bool false,.slice none 0 0,.slice none 0 0] (0,0) _ rfl (setRow_heap _ _ _ _ _ _ HR1.out) Tryz.underlying53 rfl (by rw [size_tlv];rfl)) rfl ?_
  exact ⟨fun _=>⟨rfl,below_setRow bel (by omega) _⟩,fun T hT=>by rw [H.out] at hT;cases hT⟩
 have d1:(x == 0)=false:=by rw [beq_eq_false_iff_ne];exact c3
 have H:Hid (serT n=some (.mk 0 2 false (orNil (numOf n)) [])):=by show _=_;unfold serT;rw [if_neg (by rw [HN.out,HX.out];rintro (h|h|h);exact c1 h;exact c2 h;exact c3 h)]
 clear c1 c2 c3
 go_wp2_with fail
 refine (r13_NumberOfN (HV.out.later bel) HB.out (by rw [HN.out];omega)).mono ?_
 rintro e w1 ⟨hok,hbad⟩
 have HX1:∃ (ba:Option Addr) (m bc:Nat) (cc:Int),e=.returned (.tuple #[.slice ba m bc,.int .i64 cc])∧Hid (Dep (fun g=>W.heap.size≤g) w1 (.mk 0 2 false (orNil (numOf n)) []) [.int .i64 0,.int .i64 2,.bool false,.slice ba m bc,.slice none 0 0])∧Below W.heap.size W w1:=by
  cases ho:numOf n with
  | ok X =>
   obtain ⟨v',rfl,k1,k2,hb⟩:=hok X ho
   have hd:=leaf_new k1 k2 0 2 false
   obtain ⟨ba,bc,rfl,-,-,-⟩:=id k1
   exact ⟨ba,_,bc,0,rfl,hd,hb⟩
  | error c =>
   obtain ⟨rfl,hb⟩:=hbad c ho
   exact ⟨none,0,0,_,rfl,leaf_new (b:=[]) ⟨none,0,rfl,Nat.zero_le _,Nat.zero_le _,fun h=>absurd h (Nat.lt_irrefl 0)⟩ (fun a m c e=>by cases e) 0 2 false,hb⟩
 obtain ⟨ba,m,bc,cc,rfl,HD,hb⟩:=HX1
 replace R0:=R0.later hb
 replace bel:=below_step bel hb
 clear hok hbad hb x0
 obtain ⟨tR,hR⟩:=R0
 have HR1:Hid _:=hR
 clear hR
 have hz:=zero_tlv.out
 go_wp2_with (first|((with_reducible show wpList _ _ _ ({ dst:=_,op:=.store _ _ _,type:=_,pos:=_,after:=_,guard:=_ } :: _) _ _);refine wpList_store_row rfl 53 _ _ rfl w.heap.size #[.int .i64 0,.int .i64 2,.bool false,.slice ba m bc,.slice none 0 0] rfl rfl tR _ HR1.out (by rw [size_tlv];rfl) rfl (by simp [Value.oneCell']) ?_)|fail)
 refine bodyPost_ret (results_row_tmp rfl _ _ w.heap.size tR #[.int .i64 0,.int .i64 2,.bool false,.slice ba m bc,.slice none 0 0] (0,0) _ rfl (setRow_heap _ _ _ _ _ _ HR1.out) Tryz.underlying53 rfl (by rw [size_tlv];rfl)) rfl ?_
 exact ⟨fun hT=>(by rw [H.out] at hT;cases hT),fun T hT=>by rw [H.out] at hT;cases hT;exact ⟨_,rfl,dep_ret HD.out lR lW,below_setRow bel (by omega) _⟩⟩
theorem time_err {t:Int} {c:Nat} (h:timeOf t=.error c):¬ c=0:=by
 unfold timeOf at h
 repeat' split at h
 all_goals first|(cases h;decide)|cases h
theorem r16_TimeElement {t:Int} {w:World} (ht:-9223372036854775808≤t∧t≤9223372036854775807) :
  Calls Tryz.prog 27 #[.int .i64 t] w fun e w'=>(timT t=none→e=.returned (.tuple #[.agg #[.int .i64 0,.int .i64 0,.bool false,.slice none 0 0,.slice none 0 0],.bool false])∧Below w.heap.size w w')∧(∀ T,timT t=some T→∃ cs:List Value,e=.returned (.tuple #[.agg cs.toArray,.bool true])∧Dep (fun g=>w.heap.size≤g) w' T cs∧Below w.heap.size w w'):=by
 have R0:=Blk.new w [.int .i64 0,.int .i64 0,.bool false,.slice none 0 0,.slice none 0 0] 53 w.heap.size rfl
 have bel:=bal w (.cells #[.int .i64 0,.int .i64 0,.bool false,.slice none 0 0,.slice none 0 0] 53)
 have hz:=zero_tlv.out
 go_enter Tryz.func27,Tryz.ntmps27
 go_upto_region 1 with fail
 have lW:=bel.size
 generalize w.alloc (.cells #[.int .i64 0,.int .i64 0,.bool false,.slice none 0 0,.slice none 0 0] 53)=W at *
 have lR:=R0.lt
 clear hz
 go_wp2_with fail
 refine (r13_TimeOfN ht).mono ?_
 rintro e w1 ⟨hok,hbad⟩
 cases ho:timeOf t with
 | ok aX =>
  obtain ⟨ta,X⟩:=aX
  obtain ⟨v',rfl,k1,k2,hb⟩:=hok ta X ho
  have HD:Hid (Dep (fun g=>W.heap.size≤g) w1 (.mk 0 ta false X []) [.int .i64 0,.int .i64 ta,.bool false,v',.slice none 0 0]):=leaf_new k1 k2 0 ta false
  obtain ⟨ba,bc,rfl,-,-,-⟩:=k1
  obtain ⟨m,hm⟩:∃ m,X.length=m:=⟨_,rfl⟩
  rw [hm] at HD ⊢
  have H:Hid (timT t=some (.mk 0 ta false X [])):=by show _=_;unfold timT;rw [ho]
  replace R0:=R0.later hb
  replace bel:=below_step bel hb
  clear hok hbad hb k2 hm ho
  obtain ⟨tR,hR⟩:=R0
  have HR1:Hid _:=hR
  clear hR
  have hz:=zero_tlv.out
  go_wp2_with (first|((with_reducible show wpList _ _ _ ({ dst:=_,op:=.store _ _ _,type:=_,pos:=_,after:=_,guard:=_ } :: _) _ _);refine wpList_store_row rfl 53 _ _ rfl w.heap.size #[.int .i64 0,.int .i64 ta,.bool false,.slice ba m bc,.slice none 0 0] rfl rfl tR _ HR1.out (by rw [size_tlv];rfl) rfl (by simp [Value.oneCell']) ?_)|fail)
  refine bodyPost_ret (results_row_tmp rfl _ _ w.heap.size tR #[.int .i64 0,.int .i64 ta,.bool false,.slice ba m bc,.slice none 0 0] (0,0) _ rfl (setRow_heap _ _ _ _ _ _ HR1.out) Tryz.underlying53 rfl (by rw [size_tlv];rfl)) rfl ?_
  exact ⟨fun hT=>(by rw [H.out] at hT;cases hT),fun T hT=>by rw [H.out] at hT;cases hT;exact ⟨_,rfl,dep_ret HD.out lR lW,below_setRow bel (by omega) _⟩⟩
 | error c =>
  obtain ⟨rfl,hb⟩:=hbad c ho
  have H:Hid (timT t=none):=by show _=_;unfold timT;rw [ho]
  have hc:¬ c=0:=time_err ho
  have d1:((c:Int) == 0)=false:=by rw [beq_eq_false_iff_ne];omega
  replace R0:=R0.later hb
  replace bel:=below_step bel hb
  clear hok hbad hb ho hc
  obtain ⟨tR,hR⟩:=R0
  have HR1:Hid _:=hR
  clear hR
  have hz:=zero_tlv.out
  go_wp2_with (first|((with_reducible show wpList _ _ _ ({ dst:=_,op:=.store _ _ _,type:=_,pos:=_,after:=_,guard:=_ } :: _) _ _);refine wpList_store_row rfl 53 _ _ rfl w.heap.size #[.int .i64 0,.int .i64 0,.bool false,.slice none 0 0,.slice none 0 0] rfl rfl tR _ HR1.out (by rw [size_tlv];rfl) rfl (by simp [Value.oneCell']) ?_)|fail)
  refine bodyPost_ret (results_row_tmp rfl _ _ w.heap.size tR #[.int .i64 0,.int .i64 0,.bool false,.slice none 0 0,.slice none 0 0] (0,0) _ rfl (setRow_heap _ _ _ _ _ _ HR1.out) Tryz.underlying53 rfl (by rw [size_tlv];rfl)) rfl ?_
  exact ⟨fun _=>⟨rfl,below_setRow bel (by omega) _⟩,fun T hT=>by rw [H.out] at hT;cases hT⟩
theorem r18_version {w:World}:Calls Tryz.prog 29 #[] w fun e w'=>∃ cs:List Value,e=.returned (.agg cs.toArray)∧Dep (fun g=>w.heap.size≤g) w' (intT 1) cs∧Below w.heap.size w w':=by
 have R0:=Blk.new w [.int .i64 0,.int .i64 0,.bool false,.slice none 0 0,.slice none 0 0] 53 w.heap.size rfl
 have bel:=bal w (.cells #[.int .i64 0,.int .i64 0,.bool false,.slice none 0 0,.slice none 0 0] 53)
 have hz:=zero_tlv.out
 go_enter Tryz.func29,Tryz.ntmps29
 go_upto_region 1 with fail
 have lW:=bel.size
 generalize w.alloc (.cells #[.int .i64 0,.int .i64 0,.bool false,.slice none 0 0,.slice none 0 0] 53)=W at *
 have lR:=R0.lt
 have B1:=Blk.new W [.int .u8 1] 5 W.heap.size rfl
 replace R0:=R0.alloc (.cells #[.int .u8 1] 5)
 replace bel:=below_alloc (o:=.cells #[.int .u8 1] 5) bel
 have HB1:Hid (Blk (W.alloc (.cells #[.int .u8 1] 5)) W.heap.size [.int .u8 1]):=B1
 have hlt:w.heap.size < W.heap.size:=lR
 clear B1
 obtain ⟨tR,hR⟩:=R0
 have HR1:Hid _:=hR
 clear hR
 go_wp2_with (first|((with_reducible show wpList _ _ _ ({ dst:=_,op:=.store _ _ _,type:=_,pos:=_,after:=_,guard:=_ } :: _) _ _);refine wpList_store_row rfl 53 _ _ rfl w.heap.size #[.int .i64 0,.int .i64 2,.bool false,.slice (some ⟨W.heap.size,0,none⟩) 1 1,.slice none 0 0] rfl rfl tR _ HR1.out (by rw [size_tlv];rfl) rfl (by simp [Value.oneCell']) ?_)|fail)
 refine bodyPost_ret (results_cell_row rfl _ _ w.heap.size tR #[.int .i64 0,.int .i64 2,.bool false,.slice (some ⟨W.heap.size,0,none⟩) 1 1,.slice none 0 0] (0,0) _ rfl (setRow_heap _ _ _ _ _ _ HR1.out) Tryz.underlying53 rfl (by rw [size_tlv];rfl)) rfl ?_
 exact ⟨_,rfl,leaf_S (Blk.bs (P:=[1]) (HB1.out.row (by omega)) rfl (by decide)) (fun a m c e _=>by simp only [Value.slice.injEq,Option.some.injEq] at e;rw [← e.1];exact Nat.le_of_lt hlt) 0 2 false,below_setRow bel (by omega) _⟩
/-- an element, or none, with a truth that tells it -/
def OptR (w:World) (r:Option Tl) (e:Ending) (w':World):Prop:=∃ (cs:List Value) (b:Bool),e=.returned (.tuple #[.agg cs.toArray,.bool b])∧cs.length=5∧OneC cs∧(b=true→∃ T,r=some T∧Dep (fun g=>w.heap.size≤g) w' T cs)∧(b=false→r=none)∧Below w.heap.size w w'
theorem OptR.of {w w':World} {r:Option Tl} {e:Ending} (h1:r=none→e=.returned (.tuple #[.agg #[.int .i64 0,.int .i64 0,.bool false,.slice none 0 0,.slice none 0 0],.bool false])∧Below w.heap.size w w') (h2:∀ T,r=some T→∃ cs:List Value,e=.returned (.tuple #[.agg cs.toArray,.bool true])∧Dep (fun g=>w.heap.size≤g) w' T cs∧Below w.heap.size w w'):OptR w r e w':=by
 cases r with
 | none =>
  obtain ⟨rfl,hb⟩:=h1 rfl
  exact ⟨[.int .i64 0,.int .i64 0,.bool false,.slice none 0 0,.slice none 0 0],false,rfl,rfl,(by simp [OneC,Value.oneCell']),fun h=>(by cases h),fun _=>rfl,hb⟩
 | some T =>
  obtain ⟨cs,rfl,hd,hb⟩:=h2 T rfl
  exact ⟨cs,true,rfl,hd.now.five,hd.now.ones,fun _=>⟨T,rfl,hd⟩,fun h=>(by cases h),hb⟩
theorem k18_Serial {v:Value} {n:List Int} {w:World} (hv:Bs w v n) (b:byt n):Calls Tryz.prog 32 #[v] w (OptR w (serT n)):=(r16_SerialElement hv b).mono (fun _ _ h=>OptR.of h.1 h.2)
theorem k18_Time {t t2:Int} {w:World} (e:t=t2) (ht:-9223372036854775808≤t∧t < 9223372036854775808):Calls Tryz.prog 27 #[.int .i64 t2] w (OptR w (timT t)):=by
 subst e
 exact (r16_TimeElement (by omega)).mono (fun _ _ h=>OptR.of h.1 h.2)
theorem k18_Element {v:Value} {n:List Pn} {w:World} (hn:NmAt w v n) (wn:WfN n) (hmay:mayN n=true):Calls Tryz.prog 31 #[v] w fun e w'=>∃ cs:List Value,e=.returned (.agg cs.toArray)∧Dep (fun g=>w.heap.size≤g) w' (elemN n) cs∧Below w.heap.size w w':=by
 refine (r16_Element hn wn hmay).mono ?_
 rintro e w' ⟨kv,xs,rfl,h1,h2,hb⟩
 exact ⟨_,rfl,ElemR.tl h1 h2,hb⟩
theorem k16_ListL {ka:Option Addr} {n kc:Nat} {w:World}:Calls Tryz.prog 33 #[.slice ka n kc] w fun e w'=>∃ cs:List Value,e=.returned (.agg cs.toArray)∧Hid (cs=[.int .i64 0,.int .i64 16,.bool true,.slice none 0 0,.slice ka n kc])∧Below w.heap.size w w':=r16_List.mono (fun _ _ ⟨h,hb⟩=>⟨_,h,rfl,hb⟩)
end Go.Proofs.YtohcdbifhnfcbaaGreatDoor
