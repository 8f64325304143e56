/- The document's lists. The document's identifiers. -/
import Derived.Test.YtkgjlcdefnpkpaaGreatDoorKrUp0
import Derived.Test.YtkgjlcdefnpkpaaGreatDoorDrTG
import Derived.Test.YtkgjlcdefnpkpaaGreatDoorDrDG
import Derived.Test.YtkgjlcdefnpkpaaGreatDoorCtRG
import Derived.Test.YtkgjlcdefnpkpaaGreatDoorCtSize
import Derived.Test.YtkgjlcdefnpkpaaGreatDoorPmOidO
import Derived.Test.YtkgjlcdefnpkpaaGreatDoorPmNG
import Derived.Test.YtkgjlcdefnpkpaaGreatDoorRows
import Derived.Deep.OwnRows
import Derived.Deep.AppendLies
import Derived.Great.BuildSlice
import Derived.Laws.Rows
import Derived.BigQuiet
import Derived.Deep.WholeRow
import Derived.Deep.RegionHeld3
import Derived.Deep.DeepCutAuto
import Derived.Deep.DeepFit
namespace Go.Proofs.YtkgjlcdefnpkpaaGreatDoor
open Go.RowKit
set_option linter.unusedSimpArgs false in
set_option maxRecDepth 100000 in
set_option maxHeartbeats 400000 in
theorem r16_List {ka:Option Addr} {n kc:Nat} {w:World}:Calls Tryz.prog 28 #[.slice ka n kc] w fun e w'=>e=.returned (.agg #[.int .i64 0,.int .i64 16,.bool true,.slice none 0 0,.slice ka n kc])∧Below w.heap.size w w':=by
 have R0:=Blk.new w [.int .i64 0,.int .i64 0,.bool false,.slice none 0 0,.slice none 0 0] 60 w.heap.size rfl
 have bel:Below w.heap.size w (w.alloc (.cells #[.int .i64 0,.int .i64 0,.bool false,.slice none 0 0,.slice none 0 0] 60)):=(Below.refl _ _).alloc (Nat.le_refl _) _
 have hz:=zero_tlv.out
 go_enter Tryz.func28,Tryz.ntmps28
 go_upto_region 1 with fail
 have lW:=bel.size
 generalize w.alloc (.cells #[.int .i64 0,.int .i64 0,.bool false,.slice none 0 0,.slice none 0 0] 60)=W at *
 obtain ⟨tR,hR⟩:=R0
 have HR1:Hid _:=hR
 clear hR
 go_wp2_with (first|((with_reducible show wpList _ _ _ ({ dst:=_,op:=.store _ _ _,type:=_,pos:=_,after:=_,guard:=_ } :: _) _ _);refine wpList_store_row rfl 60 _ _ rfl w.heap.size #[.int .i64 0,.int .i64 16,.bool true,.slice none 0 0,.slice ka n kc] rfl rfl tR _ HR1.out (by rw [size_tlv];rfl) rfl (by simp [Value.oneCell']) ?_)|fail)
 refine bodyPost_ret (results_cell_row rfl _ _ w.heap.size tR #[.int .i64 0,.int .i64 16,.bool true,.slice none 0 0,.slice ka n kc] (0,0) _ rfl (setRow_heap _ _ _ _ _ _ HR1.out) Tryz.underlying60 rfl (by rw [size_tlv];rfl)) rfl ?_
 exact ⟨rfl,below_setRow bel (by omega) _⟩
set_option linter.unusedSimpArgs false in
set_option maxRecDepth 100000 in
set_option maxHeartbeats 400000 in
theorem r16_Oid {v:Value} {L:List Int} {w:World} (hv:Us w v L) (b:wrd L) :
  Calls Tryz.prog 53 #[v] w fun e w'=>∃ cs:List Value,e=.returned (.agg cs.toArray)∧Dep (fun g=>w.heap.size≤g) w' (oidT L) cs∧Below w.heap.size w w':=by
 have HV:Hid (Us w v L):=hv
 obtain ⟨ao,cap,rfl,-,-,-⟩:=hv
 have R0:=Blk.new w [.int .i64 0,.int .i64 0,.bool false,.slice none 0 0,.slice none 0 0] 60 w.heap.size rfl
 have bel:Below w.heap.size w (w.alloc (.cells #[.int .i64 0,.int .i64 0,.bool false,.slice none 0 0,.slice none 0 0] 60)):=(Below.refl _ _).alloc (Nat.le_refl _) _
 have hz:=zero_tlv.out
 go_enter Tryz.func53,Tryz.ntmps53
 go_upto_region 1 with fail
 have lW:=bel.size
 generalize w.alloc (.cells #[.int .i64 0,.int .i64 0,.bool false,.slice none 0 0,.slice none 0 0] 60)=W at *
 have lR:=R0.lt
 go_wp2_with fail
 refine (r13_OidOfN (HV.out.later bel) b).mono ?_
 rintro e w1 ⟨hok,hbad⟩
 have HX:∃ (ba:Option Addr) (n bc:Nat) (cc:Int),e=.returned (.tuple #[.slice ba n bc,.int .i64 cc])∧Hid (Dep (fun g=>W.heap.size≤g) w1 (oidT L) [.int .i64 0,.int .i64 6,.bool false,.slice ba n bc,.slice none 0 0])∧Below W.heap.size W w1:=by
  cases ho:oidOf L with
  | ok X =>
   obtain ⟨v',rfl,h1,h2,hb⟩:=hok X ho
   have hd:=leaf_new h1 h2 0 6 false
   obtain ⟨ba,bc,rfl,-,-,-⟩:=id h1
   exact ⟨ba,_,bc,0,rfl,by show Dep _ _ _ _;unfold oidT;rw [ho];exact hd,hb⟩
  | error c =>
   obtain ⟨rfl,hb⟩:=hbad c ho
   exact ⟨none,0,0,_,rfl,by show Dep _ _ _ _;unfold oidT;rw [ho];exact leaf_new (b:=[]) ⟨none,0,rfl,Nat.zero_le _,Nat.zero_le _,fun h=>absurd h (Nat.lt_irrefl 0)⟩ (fun a m c e=>by cases e) 0 6 false,hb⟩
 obtain ⟨ba,n,bc,cc,rfl,HD,hb⟩:=HX
 replace R0:=R0.later hb
 replace bel:=below_step bel hb
 clear hok hbad hb
 obtain ⟨tR,hR⟩:=R0
 have HR1:Hid _:=hR
 clear hR
 go_wp2_with (first|((with_reducible show wpList _ _ _ ({ dst:=_,op:=.store _ _ _,type:=_,pos:=_,after:=_,guard:=_ } :: _) _ _);refine wpList_store_row rfl 60 _ _ rfl w.heap.size #[.int .i64 0,.int .i64 6,.bool false,.slice ba n bc,.slice none 0 0] rfl rfl tR _ HR1.out (by rw [size_tlv];rfl) rfl (by simp [Value.oneCell']) ?_)|fail)
 refine bodyPost_ret (results_cell_row rfl _ _ w.heap.size tR #[.int .i64 0,.int .i64 6,.bool false,.slice ba n bc,.slice none 0 0] (0,0) _ rfl (setRow_heap _ _ _ _ _ _ HR1.out) Tryz.underlying60 rfl (by rw [size_tlv];rfl)) rfl ?_
 exact ⟨_,rfl,dep_ret HD.out lR lW,below_setRow bel (by omega) _⟩
set_option linter.unusedSimpArgs false in
set_option maxRecDepth 100000 in
set_option maxHeartbeats 400000 in
theorem r16_Algorithm {w:World}:Calls Tryz.prog 25 #[] w fun e w'=>∃ cs:List Value,e=.returned (.agg cs.toArray)∧Dep (fun g=>w.heap.size≤g) w' algT cs∧Below w.heap.size w w':=by
 have R0:=Blk.new w [.int .i64 0,.int .i64 0,.bool false,.slice none 0 0,.slice none 0 0] 60 w.heap.size rfl
 have bel:Below w.heap.size w (w.alloc (.cells #[.int .i64 0,.int .i64 0,.bool false,.slice none 0 0,.slice none 0 0] 60)):=(Below.refl _ _).alloc (Nat.le_refl _) _
 have hz:=zero_tlv.out
 go_enter Tryz.func25,Tryz.ntmps25
 go_upto_region 1 with fail
 have lW:=bel.size
 generalize w.alloc (.cells #[.int .i64 0,.int .i64 0,.bool false,.slice none 0 0,.slice none 0 0] 60)=W at *
 clear hz
 have lR:=R0.lt
 obtain ⟨N0,hN0⟩:∃ n,n=W.heap.size:=⟨_,rfl⟩
 have st:Below W.heap.size W W:=Below.refl _ _
 rw [← hN0] at lR lW
 obtain ⟨jt,hjt,ht0,ht1,ht2⟩:=info_partsD info_tlv
 have HU1:Hid (Us (W.alloc (.cells #[.int .u64 1,.int .u64 2,.int .u64 840,.int .u64 10045,.int .u64 4,.int .u64 3,.int .u64 3] 26)) (.slice (some ⟨W.heap.size,0,none⟩) 7 7) [1,2,840,10045,4,3,3]):=us_blk (Blk.new W (us [1,2,840,10045,4,3,3]) 26 W.heap.size rfl) rfl (by decide)
 replace R0:=R0.alloc (.cells #[.int .u64 1,.int .u64 2,.int .u64 840,.int .u64 10045,.int .u64 4,.int .u64 3,.int .u64 3] 26)
 replace st:=below_alloc (o:=.cells #[.int .u64 1,.int .u64 2,.int .u64 840,.int .u64 10045,.int .u64 4,.int .u64 3,.int .u64 3] 26) st
 replace bel:=below_alloc (o:=.cells #[.int .u64 1,.int .u64 2,.int .u64 840,.int .u64 10045,.int .u64 4,.int .u64 3,.int .u64 3] 26) bel
 go_wp2_with fail
 refine (r16_Oid HU1.out (wrd_mem (by decide))).mono ?_
 rintro e w1 ⟨cs,rfl,hd1,hb⟩
 have HD1:Hid (Dep (fun g=>N0≤g) w1 (oidT [1,2,840,10045,4,3,3]) cs):=hd1.next (Agr.refl _ _) (fun _ h _=>by rw [hN0];exact Nat.le_trans st.size h)
 have HL1:Hid (cs.length=5):=hd1.now.five
 replace R0:=R0.later hb
 replace st:=below_step st hb
 replace bel:=below_step bel hb
 clear hd1
 have HF:Hid _:=fill_5 HL1.out
 have HT:Hid (Dep (fun g=>N0≤g) (w1.alloc (.cells cs.toArray 60)) algT [.int .i64 0,.int .i64 16,.bool true,.slice none 0 0,.slice (some ⟨w1.heap.size,0,none⟩) 1 1]):=list_dep (ks:=[oidT [1,2,840,10045,4,3,3]]) HL1.out (by rw [hN0];exact st.size) (by decide) (one_kid (P:=Dep (fun g=>N0≤g) w1) HD1.out HL1.out) 0 16 true
 replace R0:=R0.alloc (.cells cs.toArray 60)
 replace bel:=below_alloc (o:=.cells cs.toArray 60) bel
 have hz:=zero_tlv.out
 obtain ⟨tR,hR⟩:=R0
 have HR1:Hid _:=hR
 clear hR
 go_wp2_with (first|((with_reducible show wpList _ _ _ ({ dst:=_,op:=.buildSlice _ _ _,type:=_,pos:=_,after:=_,guard:=_ } :: _) _ _);refine Go.wpList_buildSlice rfl 58 60 1 _ rfl cs.toArray jt _ Tryz.underlying58 hjt ht0 (by rw [ht1];decide) (by rw [ht1];decide) (by rw [ht1];refine (congrArg _ (?_:_=[(0,Value.agg cs.toArray)])).trans HF.out;kernel_rfl) ?_)|((with_reducible show wpList _ _ _ ({ dst:=_,op:=.store _ _ _,type:=_,pos:=_,after:=_,guard:=_ } :: _) _ _);refine wpList_store_row rfl 60 _ _ rfl w.heap.size #[.int .i64 0,.int .i64 16,.bool true,.slice none 0 0,.slice (some ⟨w1.heap.size,0,none⟩) 1 1] rfl rfl tR _ HR1.out (by rw [size_tlv];rfl) rfl (by simp [Value.oneCell']) ?_)|fail)
 refine bodyPost_ret (results_cell_row rfl _ _ w.heap.size tR #[.int .i64 0,.int .i64 16,.bool true,.slice none 0 0,.slice (some ⟨w1.heap.size,0,none⟩) 1 1] (0,0) _ rfl (setRow_heap _ _ _ _ _ _ HR1.out) Tryz.underlying60 rfl (by rw [size_tlv];rfl)) rfl ?_
 exact ⟨_,rfl,dep_ret HT.out lR lW,below_setRow bel (by omega) _⟩
end Go.Proofs.YtkgjlcdefnpkpaaGreatDoor
