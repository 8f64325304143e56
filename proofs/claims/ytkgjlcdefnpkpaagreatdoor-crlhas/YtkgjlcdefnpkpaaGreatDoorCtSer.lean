/- The document's serial numbers. -/
import Derived.Test.YtkgjlcdefnpkpaaGreatDoorKrUp0
import Derived.Test.YtkgjlcdefnpkpaaGreatDoorCtOid
import Derived.Test.YtkgjlcdefnpkpaaGreatDoorPmNumO
import Derived.Test.YtkgjlcdefnpkpaaGreatDoorPmNG
import Derived.Test.YtkgjlcdefnpkpaaGreatDoorDrTG
import Derived.Test.YtkgjlcdefnpkpaaGreatDoorDrDG
import Derived.Test.YtkgjlcdefnpkpaaGreatDoorCtRG
import Derived.Test.YtkgjlcdefnpkpaaGreatDoorRows
import Derived.Deep.OwnRows
import Derived.Deep.AppendLies
import Derived.Great.BuildSlice
import Derived.Laws.Rows
import Derived.BigQuiet
import Derived.Deep.WholeRow
import Derived.Deep.RegionHeld3
import Derived.Deep.DeepCutAuto
import Derived.Deep.DeepFit
namespace Go.Proofs.YtkgjlcdefnpkpaaGreatDoor
open Go.RowKit
set_option linter.unusedSimpArgs false in
set_option maxRecDepth 100000 in
set_option maxHeartbeats 1000000 in
theorem r16_SerialElement {v:Value} {n:List Int} {w:World} (hv:Bs w v n) (b:byt n) :
  Calls Tryz.prog 27 #[v] w fun e w'=>(serT n=none→e=.returned (.tuple #[.agg #[.int .i64 0,.int .i64 0,.bool false,.slice none 0 0,.slice none 0 0],.bool false])∧Below w.heap.size w w')∧(∀ T,serT n=some T→∃ cs:List Value,e=.returned (.tuple #[.agg cs.toArray,.bool true])∧Dep (fun g=>w.heap.size≤g) w' T cs∧Below w.heap.size w w'):=by
 have HV:Hid (Bs w v n):=hv
 have HB:Hid (byt n):=b
 obtain ⟨ao,cap,rfl,h1,h2,h3⟩:=hv
 unfold maxLen at h1
 obtain ⟨N,hN⟩:∃ N,n.length=N:=⟨_,rfl⟩
 have HN:Hid (n.length=N):=hN
 rw [hN] at HV h2 h3 ⊢
 clear b hN
 have R0:=Blk.new w [.int .i64 0,.int .i64 0,.bool false,.slice none 0 0,.slice none 0 0] 60 w.heap.size rfl
 have bel:Below w.heap.size w (w.alloc (.cells #[.int .i64 0,.int .i64 0,.bool false,.slice none 0 0,.slice none 0 0] 60)):=(Below.refl _ _).alloc (Nat.le_refl _) _
 have hz:=zero_tlv.out
 go_enter Tryz.func27,Tryz.ntmps27
 go_upto_region 1 with fail
 have lW:=bel.size
 generalize w.alloc (.cells #[.int .i64 0,.int .i64 0,.bool false,.slice none 0 0,.slice none 0 0] 60)=W at *
 have lR:=R0.lt
 clear hz
 by_cases c1:N < 1
 ·have H:Hid (serT n=none):=by show _=_;unfold serT;rw [if_pos (.inl (by rw [HN.out];exact c1))]
  have g1:(N:Int) < 1:=by omega
  clear c1 h3
  obtain ⟨tR,hR⟩:=R0
  have HR1:Hid _:=hR
  clear hR
  have hz:=zero_tlv.out
  go_wp2_with (first|((with_reducible show wpList _ _ _ ({ dst:=_,op:=.store _ _ _,type:=_,pos:=_,after:=_,guard:=_ } :: _) _ _);refine wpList_store_row rfl 60 _ _ rfl w.heap.size #[.int .i64 0,.int .i64 0,.bool false,.slice none 0 0,.slice none 0 0] rfl rfl tR _ HR1.out (by rw [size_tlv];rfl) rfl (by simp [Value.oneCell']) ?_)|fail)
  refine bodyPost_ret (results_row_tmp rfl _ _ w.heap.size tR #[.int .i64 0,.int .i64 0,.bool false,.slice none 0 0,.slice none 0 0] (0,0) _ rfl (setRow_heap _ _ _ _ _ _ HR1.out) Tryz.underlying60 rfl (by rw [size_tlv];rfl)) rfl ?_
  exact ⟨fun _=>⟨rfl,below_setRow bel (by omega) _⟩,fun T hT=>by rw [H.out] at hT;cases hT⟩
 have g1:¬ (N:Int) < 1:=by omega
 by_cases c2:20 < N
 ·have H:Hid (serT n=none):=by show _=_;unfold serT;rw [if_pos (.inr (.inl (by rw [HN.out];exact c2)))]
  have g2:(20:Int) < (N:Int):=by omega
  clear c1 c2 h3
  obtain ⟨tR,hR⟩:=R0
  have HR1:Hid _:=hR
  clear hR
  have hz:=zero_tlv.out
  go_wp2_with (first|((with_reducible show wpList _ _ _ ({ dst:=_,op:=.store _ _ _,type:=_,pos:=_,after:=_,guard:=_ } :: _) _ _);refine wpList_store_row rfl 60 _ _ rfl w.heap.size #[.int .i64 0,.int .i64 0,.bool false,.slice none 0 0,.slice none 0 0] rfl rfl tR _ HR1.out (by rw [size_tlv];rfl) rfl (by simp [Value.oneCell']) ?_)|fail)
  refine bodyPost_ret (results_row_tmp rfl _ _ w.heap.size tR #[.int .i64 0,.int .i64 0,.bool false,.slice none 0 0,.slice none 0 0] (0,0) _ rfl (setRow_heap _ _ _ _ _ _ HR1.out) Tryz.underlying60 rfl (by rw [size_tlv];rfl)) rfl ?_
  exact ⟨fun _=>⟨rfl,below_setRow bel (by omega) _⟩,fun T hT=>by rw [H.out] at hT;cases hT⟩
 have g2:¬ (20:Int) < (N:Int):=by omega
 obtain ⟨b0,o0,ea,l0,hc⟩:=h3 (by omega)
 subst ea
 obtain ⟨x,hx⟩:∃ x,n.getD 0 0=x:=⟨_,rfl⟩
 have x0:W.cell? ⟨b0,o0,none⟩=some (.int .u8 x):=by
  have h:=hc 0 (by omega)
  rw [hx,Nat.add_zero] at h
  exact (bel.cell (p:=⟨b0,o0,none⟩) l0).trans h
 have lw0:b0 < W.heap.size:=Nat.lt_of_lt_of_le l0 lW
 have g3:(0:Int) < (N:Int):=by omega
 have HX:Hid (n.getD 0 0=x):=hx
 clear hc hx
 by_cases c3:x=0
 ·have H:Hid (serT n=none):=by show _=_;unfold serT;rw [if_pos (.inr (.inr (by rw [HX.out];exact c3)))]
  subst c3
  clear c1 c2
  obtain ⟨tR,hR⟩:=R0
  have HR1:Hid _:=hR
  clear hR
  have hz:=zero_tlv.out
  go_wp2_with (first|((with_reducible show wpList _ _ _ ({ dst:=_,op:=.store _ _ _,type:=_,pos:=_,after:=_,guard:=_ } :: _) _ _);refine wpList_store_row rfl 60 _ _ rfl w.heap.size #[.int .i64 0,.int .i64 0,.bool false,.slice none 0 0,.slice none 0 0] rfl rfl tR _ HR1.out (by rw [size_tlv];rfl) rfl (by simp [Value.oneCell']) ?_)|fail)
  refine bodyPost_ret (results_row_tmp rfl _ _ w.heap.size tR #[.int .i64 0,.int .i64 0,.bool false,.slice none 0 0,.slice none 0 0] (0,0) _ rfl (setRow_heap _ _ _ _ _ _ HR1.out) Tryz.underlying60 rfl (by rw [size_tlv];rfl)) rfl ?_
  exact ⟨fun _=>⟨rfl,below_setRow bel (by omega) _⟩,fun T hT=>by rw [H.out] at hT;cases hT⟩
 have d1:(x == 0)=false:=by rw [beq_eq_false_iff_ne];exact c3
 have H:Hid (serT n=some (.mk 0 2 false (orNil (numOf n)) [])):=by show _=_;unfold serT;rw [if_neg (by rw [HN.out,HX.out];rintro (h|h|h);exact c1 h;exact c2 h;exact c3 h)]
 clear c1 c2 c3
 go_wp2_with fail
 refine (r13_NumberOfN (HV.out.later bel) HB.out (by rw [HN.out];omega)).mono ?_
 rintro e w1 ⟨hok,hbad⟩
 have HX1:∃ (ba:Option Addr) (m bc:Nat) (cc:Int),e=.returned (.tuple #[.slice ba m bc,.int .i64 cc])∧Hid (Dep (fun g=>W.heap.size≤g) w1 (.mk 0 2 false (orNil (numOf n)) []) [.int .i64 0,.int .i64 2,.bool false,.slice ba m bc,.slice none 0 0])∧Below W.heap.size W w1:=by
  cases ho:numOf n with
  | ok X =>
   obtain ⟨v',rfl,k1,k2,hb⟩:=hok X ho
   have hd:=leaf_new k1 k2 0 2 false
   obtain ⟨ba,bc,rfl,-,-,-⟩:=id k1
   exact ⟨ba,_,bc,0,rfl,hd,hb⟩
  | error c =>
   obtain ⟨rfl,hb⟩:=hbad c ho
   exact ⟨none,0,0,_,rfl,leaf_new (b:=[]) ⟨none,0,rfl,Nat.zero_le _,Nat.zero_le _,fun h=>absurd h (Nat.lt_irrefl 0)⟩ (fun a m c e=>by cases e) 0 2 false,hb⟩
 obtain ⟨ba,m,bc,cc,rfl,HD,hb⟩:=HX1
 replace R0:=R0.later hb
 replace bel:=below_step bel hb
 clear hok hbad hb x0
 obtain ⟨tR,hR⟩:=R0
 have HR1:Hid _:=hR
 clear hR
 have hz:=zero_tlv.out
 go_wp2_with (first|((with_reducible show wpList _ _ _ ({ dst:=_,op:=.store _ _ _,type:=_,pos:=_,after:=_,guard:=_ } :: _) _ _);refine wpList_store_row rfl 60 _ _ rfl w.heap.size #[.int .i64 0,.int .i64 2,.bool false,.slice ba m bc,.slice none 0 0] rfl rfl tR _ HR1.out (by rw [size_tlv];rfl) rfl (by simp [Value.oneCell']) ?_)|fail)
 refine bodyPost_ret (results_row_tmp rfl _ _ w.heap.size tR #[.int .i64 0,.int .i64 2,.bool false,.slice ba m bc,.slice none 0 0] (0,0) _ rfl (setRow_heap _ _ _ _ _ _ HR1.out) Tryz.underlying60 rfl (by rw [size_tlv];rfl)) rfl ?_
 exact ⟨fun hT=>(by rw [H.out] at hT;cases hT),fun T hT=>by rw [H.out] at hT;cases hT;exact ⟨_,rfl,dep_ret HD.out lR lW,below_setRow bel (by omega) _⟩⟩
end Go.Proofs.YtkgjlcdefnpkpaaGreatDoor
