/- A serial number's and a time's element: what the program answers. -/
import Derived.Test.YtkgjlcdefnpkpaaGreatDoorCtSize
import Derived.Test.YtkgjlcdefnpkpaaGreatDoorKrEl
import Derived.Test.YtkgjlcdefnpkpaaGreatDoorPrG
import Derived.Test.YtkgjlcdefnpkpaaGreatDoorPrTimeOf
import Derived.Test.YtkgjlcdefnpkpaaGreatDoorNlSG
import Derived.Test.YtkgjlcdefnpkpaaGreatDoorRows
import Derived.Deep.OwnRows
import Derived.Deep.AppendLies
import Derived.Great.BuildSlice
import Derived.Laws.Rows
import Derived.BigQuiet
import Derived.Deep.WholeRow
import Derived.Deep.RegionHeld3
import Derived.Deep.DeepCutAuto
import Derived.Deep.DeepFit
namespace Go.Proofs.YtkgjlcdefnpkpaaGreatDoor
open Go.RowKit
set_option linter.unusedSimpArgs false in
set_option maxRecDepth 100000 in
set_option maxHeartbeats 400000 in
theorem c18_isSerial {v:Value} {n:List Int} {w:World} (hv:Bs w v n):Calls Tryz.prog 129 #[v] w fun e w'=>e=.returned (.bool (serB n))∧w'=w:=by
 obtain ⟨ao,cap,rfl,h2,h1,h3⟩:=hv
 obtain ⟨L,hL⟩:∃ L,n.length=L:=⟨_,rfl⟩
 have HL:Hid (n.length=L):=hL
 rw [hL] at h1 h3 ⊢
 clear hL
 go_enter Tryz.func129,Tryz.ntmps129
 by_cases c1:0 < L
 rotate_left
 ·have H:Hid (serB n=false):=decide_eq_false (fun h=>h (.inl (by rw [HL.out];omega)))
  have g1:¬ (0:Int) < (L:Int):=by omega
  clear c1 h3
  go_wp2_with fail
  go_ret
  exact ⟨by rw [H.out];rfl,rfl⟩
 obtain ⟨b,o,rfl,hb,hc⟩:=h3 c1
 have g1:(0:Int) < (L:Int):=by omega
 by_cases c2:L≤20
 rotate_left
 ·have H:Hid (serB n=false):=decide_eq_false (fun h=>h (.inr (.inl (by rw [HL.out];omega))))
  have g2:¬ (L:Int)≤20:=by omega
  clear c1 c2 hc h3
  go_wp2_with fail
  go_ret
  exact ⟨by rw [H.out];rfl,rfl⟩
 have g2:(L:Int)≤20:=by omega
 have e0:=hc 0 c1
 rw [Nat.add_zero] at e0
 obtain ⟨x,hx⟩:∃ x,n.getD 0 0=x:=⟨_,rfl⟩
 have HX:Hid (n.getD 0 0=x):=hx
 rw [hx] at e0
 clear hx hc h3
 by_cases c3:x=0
 ·have H:Hid (serB n=false):=decide_eq_false (fun h=>h (.inr (.inr (by rw [HX.out];exact c3))))
  subst c3
  clear c1 c2
  go_wp2_with fail
  go_ret
  exact ⟨by rw [H.out];rfl,rfl⟩
 ·have H:Hid (serB n=true):=decide_eq_true (fun h=>by rw [HL.out,HX.out] at h;omega)
  have d1:(x == 0)=false:=by rw [beq_eq_false_iff_ne];exact c3
  have d2:(x != 0)=true:=by rw [bne,d1];rfl
  clear c1 c2 c3
  go_wp2_with fail
  go_ret
  exact ⟨by rw [H.out];rfl,rfl⟩
set_option linter.unusedSimpArgs false in
set_option maxRecDepth 100000 in
set_option maxHeartbeats 1000000 in
theorem c18_serialElement {v:Value} {n:List Int} {w:World} (hv:Bs w v n) (b:byt n) (hl:n.length≤140737488351232):Calls Tryz.prog 84 #[v] w (ElR w (serT n)):=by
 have HV:Hid (Bs w v n):=hv
 have HB:Hid (byt n):=b
 have HLn:Hid (n.length≤140737488351232):=hl
 obtain ⟨ao,cap,rfl,-,-,-⟩:=hv
 clear b hl
 have R0:=Blk.new w [.int .i64 0,.int .i64 0,.bool false,.slice none 0 0,.slice none 0 0] 60 w.heap.size rfl
 have bel:Below w.heap.size w (w.alloc (.cells #[.int .i64 0,.int .i64 0,.bool false,.slice none 0 0,.slice none 0 0] 60)):=(Below.refl _ _).alloc (Nat.le_refl _) _
 have hz:=zero_tlv.out
 go_enter Tryz.func84,Tryz.ntmps84
 go_upto_region 1 with fail
 have lW:=bel.size
 generalize w.alloc (.cells #[.int .i64 0,.int .i64 0,.bool false,.slice none 0 0,.slice none 0 0] 60)=W at *
 have lR:=R0.lt
 obtain ⟨N0,hN0⟩:∃ n,n=W.heap.size:=⟨_,rfl⟩
 rw [← hN0] at lR lW
 have hs:N0≤W.heap.size:=by omega
 clear hz
 go_wp2_with fail
 refine (c18_isSerial (HV.out.later bel)).mono ?_
 rintro e w1 ⟨rfl,hw1⟩
 rw [hw1]
 clear hw1 w1
 cases hsb:serB n with
 | false =>
  have H:Hid (serT n=none):=serT_no hsb
  clear hsb
  have hz:=zero_tlv.out
  obtain ⟨tR,hR⟩:=R0
  have HR1:Hid _:=hR
  clear hR
  go_wp2_with (first|((with_reducible show wpList _ _ _ ({ dst:=_,op:=.store _ _ _,type:=_,pos:=_,after:=_,guard:=_ } :: _) _ _);refine wpList_store_row rfl 60 _ _ rfl (w.heap.size) #[.int .i64 0,.int .i64 0,.bool false,.slice none 0 0,.slice none 0 0] rfl rfl tR _ HR1.out (by rw [size_tlv];rfl) rfl (by simp [Value.oneCell']) ?_)|fail)
  refine bodyPost_ret (results_row_tmp rfl _ _ (w.heap.size) tR #[.int .i64 0,.int .i64 0,.bool false,.slice none 0 0,.slice none 0 0] (0,0) _ rfl (setRow_heap _ _ _ _ _ _ HR1.out) Tryz.underlying60 rfl (by rw [size_tlv];rfl)) rfl ?_
  exact ElR.bad H.out (below_setRow bel (by omega) _)
 | true =>
  obtain ⟨X,hX,hS⟩:=serT_yes hsb
  have H:Hid (serT n=some (.mk 0 2 false X [])):=hS
  have HX:Hid (numOf n=.ok X):=hX
  clear hsb hX hS
  go_wp2_with fail
  refine (con_NumberOf (HV.out.later bel) HB.out HLn.out).mono ?_
  rintro e w2 ⟨hok,-⟩
  obtain ⟨v2,rfl,hv2,hn2,hb⟩:=hok X HX.out
  have HB2:Hid (Bs w2 v2 X):=hv2
  have HN2:Hid (NewV W v2):=hn2
  obtain ⟨va,vc,hv3,-,-,-⟩:=id hv2
  obtain ⟨L2,hL2⟩:∃ z,X.length=z:=⟨_,rfl⟩
  rw [hL2] at hv3
  subst hv3
  replace R0:=R0.later hb
  replace bel:=below_step bel hb
  clear hb hok hv2 hn2 hL2
  have q:=ne_nilL
  go_wp2_with fail
  refine c18_plain.mono ?_
  rintro e w3 ⟨rfl,hb⟩
  have HT:Hid (Dep (fun g=>N0≤g) w3 (.mk 0 2 false X []) [.int .i64 0,.int .i64 2,.bool false,.slice va L2 vc,.slice none 0 0]):=by rw [hN0];exact leaf_new (HB2.out.later hb) HN2.out 0 2 false
  replace R0:=R0.later hb
  replace bel:=below_step bel hb
  clear hb HB2 HN2
  obtain ⟨tR,hR⟩:=R0
  have HR1:Hid _:=hR
  clear hR
  go_wp2_with (first|((with_reducible show wpList _ _ _ ({ dst:=_,op:=.store _ _ _,type:=_,pos:=_,after:=_,guard:=_ } :: _) _ _);refine wpList_store_row rfl 60 _ _ rfl (w.heap.size) #[.int .i64 0,.int .i64 2,.bool false,.slice va L2 vc,.slice none 0 0] rfl rfl tR _ HR1.out (by rw [size_tlv];rfl) rfl (by simp [Value.oneCell']) ?_)|fail)
  refine bodyPost_ret (results_row_tmp rfl _ _ (w.heap.size) tR #[.int .i64 0,.int .i64 2,.bool false,.slice va L2 vc,.slice none 0 0] (0,0) _ rfl (setRow_heap _ _ _ _ _ _ HR1.out) Tryz.underlying60 rfl (by rw [size_tlv];rfl)) rfl ?_
  exact ElR.ok (cs:=[.int .i64 0,.int .i64 2,.bool false,.slice va L2 vc,.slice none 0 0]) H.out (dep_ret HT.out lR lW) (below_setRow bel (by omega) _)
set_option linter.unusedSimpArgs false in
set_option maxRecDepth 100000 in
set_option maxHeartbeats 1000000 in
theorem c18_timeElement {t:Int} {w:World} (ht:-9223372036854775808≤t∧t≤9223372036854775807):Calls Tryz.prog 45 #[.int .i64 t] w (ElR w (timT t)):=by
 have HTb:Hid (-9223372036854775808≤t∧t≤9223372036854775807):=ht
 clear ht
 have R0:=Blk.new w [.int .i64 0,.int .i64 0,.bool false,.slice none 0 0,.slice none 0 0] 60 w.heap.size rfl
 have bel:Below w.heap.size w (w.alloc (.cells #[.int .i64 0,.int .i64 0,.bool false,.slice none 0 0,.slice none 0 0] 60)):=(Below.refl _ _).alloc (Nat.le_refl _) _
 have hz:=zero_tlv.out
 go_enter Tryz.func45,Tryz.ntmps45
 go_upto_region 1 with fail
 have lW:=bel.size
 generalize w.alloc (.cells #[.int .i64 0,.int .i64 0,.bool false,.slice none 0 0,.slice none 0 0] 60)=W at *
 have lR:=R0.lt
 obtain ⟨N0,hN0⟩:∃ n,n=W.heap.size:=⟨_,rfl⟩
 rw [← hN0] at lR lW
 have hs:N0≤W.heap.size:=by omega
 clear hz
 go_wp2_with fail
 refine (con_TimeOf HTb.out).mono ?_
 rintro e w2 ⟨hok,hbad⟩
 cases ht:timeOf t with
 | error c =>
  obtain ⟨va,vc,rfl,hb⟩:=hbad c ht
  have H:Hid (timT t=none):=timT_no ht
  replace R0:=R0.later hb
  replace bel:=below_step bel hb
  clear hok hbad hb ht
  have q:=ne_codeL (c:Int)
  have hz:=zero_tlv.out
  obtain ⟨tR,hR⟩:=R0
  have HR1:Hid _:=hR
  clear hR
  go_wp2_with (first|((with_reducible show wpList _ _ _ ({ dst:=_,op:=.store _ _ _,type:=_,pos:=_,after:=_,guard:=_ } :: _) _ _);refine wpList_store_row rfl 60 _ _ rfl (w.heap.size) #[.int .i64 0,.int .i64 0,.bool false,.slice none 0 0,.slice none 0 0] rfl rfl tR _ HR1.out (by rw [size_tlv];rfl) rfl (by simp [Value.oneCell']) ?_)|fail)
  refine bodyPost_ret (results_row_tmp rfl _ _ (w.heap.size) tR #[.int .i64 0,.int .i64 0,.bool false,.slice none 0 0,.slice none 0 0] (0,0) _ rfl (setRow_heap _ _ _ _ _ _ HR1.out) Tryz.underlying60 rfl (by rw [size_tlv];rfl)) rfl ?_
  exact ElR.bad H.out (below_setRow bel (by omega) _)
 | ok q9 =>
  obtain ⟨a9,X⟩:=q9
  obtain ⟨v2,rfl,hv2,hn2,hb⟩:=hok a9 X ht
  have H:Hid (timT t=some (.mk 0 a9 false X [])):=timT_yes ht
  have HB2:Hid (Bs w2 v2 X):=hv2
  have HN2:Hid (NewV W v2):=hn2
  obtain ⟨va,vc,hv3,-,-,-⟩:=id hv2
  obtain ⟨L2,hL2⟩:∃ z,X.length=z:=⟨_,rfl⟩
  rw [hL2] at hv3
  subst hv3
  replace R0:=R0.later hb
  replace bel:=below_step bel hb
  clear hb hok hbad ht hv2 hn2 hL2
  have q:=ne_nilL
  go_wp2_with fail
  refine c18_plain.mono ?_
  rintro e w3 ⟨rfl,hb⟩
  have HT:Hid (Dep (fun g=>N0≤g) w3 (.mk 0 a9 false X []) [.int .i64 0,.int .i64 a9,.bool false,.slice va L2 vc,.slice none 0 0]):=by rw [hN0];exact leaf_new (HB2.out.later hb) HN2.out 0 a9 false
  replace R0:=R0.later hb
  replace bel:=below_step bel hb
  clear hb HB2 HN2
  obtain ⟨tR,hR⟩:=R0
  have HR1:Hid _:=hR
  clear hR
  go_wp2_with (first|((with_reducible show wpList _ _ _ ({ dst:=_,op:=.store _ _ _,type:=_,pos:=_,after:=_,guard:=_ } :: _) _ _);refine wpList_store_row rfl 60 _ _ rfl (w.heap.size) #[.int .i64 0,.int .i64 a9,.bool false,.slice va L2 vc,.slice none 0 0] rfl rfl tR _ HR1.out (by rw [size_tlv];rfl) rfl (by simp [Value.oneCell']) ?_)|fail)
  refine bodyPost_ret (results_row_tmp rfl _ _ (w.heap.size) tR #[.int .i64 0,.int .i64 a9,.bool false,.slice va L2 vc,.slice none 0 0] (0,0) _ rfl (setRow_heap _ _ _ _ _ _ HR1.out) Tryz.underlying60 rfl (by rw [size_tlv];rfl)) rfl ?_
  exact ElR.ok (cs:=[.int .i64 0,.int .i64 a9,.bool false,.slice va L2 vc,.slice none 0 0]) H.out (dep_ret HT.out lR lW) (below_setRow bel (by omega) _)
end Go.Proofs.YtkgjlcdefnpkpaaGreatDoor
