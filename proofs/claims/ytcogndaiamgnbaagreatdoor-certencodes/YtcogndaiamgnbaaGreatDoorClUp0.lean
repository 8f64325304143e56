/- Certificates as they are read, as functions. Decode of two bytes, Body of the zero certificate: what the program answers. -/
import Derived.Test.YtcogndaiamgnbaaGreatDoorClOpt
import Derived.Test.YtcogndaiamgnbaaGreatDoorPmNG
import Derived.Test.YtcogndaiamgnbaaGreatDoorBase
import Derived.Test.YtcogndaiamgnbaaGreatDoorPmOidN
import Derived.Test.YtcogndaiamgnbaaGreatDoorFrom
import Derived.Test.YtcogndaiamgnbaaGreatDoorCCode
import Derived.Test.YtcogndaiamgnbaaGreatDoorClSer
import Derived.Test.YtcogndaiamgnbaaGreatDoorDcG3
import Derived.Test.YtcogndaiamgnbaaGreatDoorDrTG
import Derived.Test.YtcogndaiamgnbaaGreatDoorDrDG
import Derived.Test.YtcogndaiamgnbaaGreatDoorCtRG
import Derived.Test.YtcogndaiamgnbaaGreatDoorRows
import Derived.Deep.OwnRows
import Derived.Deep.AppendLies
import Derived.Deep.WholeRow
import Derived.Deep.RegionHeld3
import Derived.Deep.DeepCutAuto
import Derived.Deep.DeepFit
import Derived.Great.BuildSlice
import Derived.Laws.Rows
import Derived.BigQuiet
namespace Go.Proofs.YtcogndaiamgnbaaGreatDoor
open Go.RowKit
open Classical
def isList:Tl→Bool
 | .mk c t m _ _=>decide (c=0∧t=16∧m=true)
/-- the zero certificate's cells -/
def zC:List Value:=[.slice none 0 0,.slice none 0 0,.slice none 0 0,.int .i64 0,.int .i64 0,.int .u64 0,.int .u64 0,.int .u64 0,.int .u64 0,.int .u64 0,.int .u64 0,.int .u64 0,.int .u64 0,.int .u64 0,.int .u64 0,.int .u64 0,.int .u64 0,.bool false,.bool false,.int .i64 0,.int .i64 0,.slice none 0 0,.slice none 0 0,.slice none 0 0,.bool false,.slice none 0 0,.int .u64 0,.int .u64 0,.int .u64 0,.int .u64 0,.int .u64 0,.int .u64 0,.int .u64 0,.int .u64 0,.int .u64 0,.int .u64 0,.int .u64 0,.int .u64 0]
theorem zC_len:zC.length=38:=rfl
theorem zC_size:zC.toArray.size=38:=rfl
theorem zC_ones:OneC zC:=by unfold zC;simp [OneC,Value.oneCell']
theorem zero_ct:Hid (∀ w:World,(zeroValue 35).run Tryz.prog w=.ok (.agg zC.toArray) w):=fun w=>by kernel_rfl
theorem parse_480:parseP [48,0]=.ok (.mk 0 16 true [] []):=by rfl
theorem size_ctU:(Tryz.prog.info? 35).map (·.size)=some 38:=by kernel_rfl
set_option linter.unusedSimpArgs false in
set_option maxRecDepth 100000 in
set_option maxHeartbeats 400000 in
theorem c17_isList {c t:Int} {m:Bool} {b:List Int} {ks:List Tl} {cs:List Value} {w:World} (h:TlAt w (.mk c t m b ks) cs) :
  Calls Tryz.prog 84 #[.agg cs.toArray] w fun e w'=>e=.returned (.bool (isList (.mk c t m b ks)))∧Below w.heap.size w w':=by
 rw [TlAt] at h
 obtain ⟨bv,ka,kc,rfl,hbv,-,-,-⟩:=h
 obtain ⟨ba,bc,rfl,-,-,-⟩:=hbv
 have B0:=Blk.new w [.int .i64 c,.int .i64 t,.bool m,.slice ba b.length bc,.slice ka ks.length kc] 60 w.heap.size rfl
 have bel:Below w.heap.size w (w.alloc (.cells #[.int .i64 c,.int .i64 t,.bool m,.slice ba b.length bc,.slice ka ks.length kc] 60)):=(Below.refl _ _).alloc (Nat.le_refl _) _
 go_enter Tryz.func84,Tryz.ntmps84
 go_upto_region 1 with fail
 generalize w.alloc (.cells #[.int .i64 c,.int .i64 t,.bool m,.slice ba b.length bc,.slice ka ks.length kc] 60)=W at *
 have e0:=B0.cell 0 _ rfl
 have e1:=B0.cell 1 _ rfl
 have e2:=B0.cell 2 _ rfl
 have lt0:=B0.lt
 by_cases c1:c=0
 rotate_left
 ·have H:Hid (isList (.mk c t m b ks)=false):=decide_eq_false (fun h=>c1 h.1)
  have d1:(c == 0)=false:=by rw [beq_eq_false_iff_ne];exact c1
  clear c1
  go_wp2_with fail
  go_ret
  exact ⟨by rw [H.out];rfl,bel⟩
 subst c1
 by_cases c2:t=16
 rotate_left
 ·have H:Hid (isList (.mk 0 t m b ks)=false):=decide_eq_false (fun h=>c2 h.2.1)
  have d2:(t == 16)=false:=by rw [beq_eq_false_iff_ne];exact c2
  clear c2
  go_wp2_with fail
  go_ret
  exact ⟨by rw [H.out];rfl,bel⟩
 subst c2
 cases m
 all_goals
  go_wp2_with fail
  go_ret
  exact ⟨rfl,bel⟩
set_option linter.unusedSimpArgs false in
set_option maxRecDepth 100000 in
set_option maxHeartbeats 1000000 in
theorem c17_certOf0 {cs:List Value} {w:World} (h:TlAt w (.mk 0 16 true [] []) cs):Calls Tryz.prog 47 #[.agg cs.toArray] w fun e w'=>e=.returned (.tuple #[.agg zC.toArray,.iface 57 (.int .i64 7)])∧Below w.heap.size w w':=by
 have h9:=h
 rw [TlAt] at h
 obtain ⟨bv,ka,kc,rfl,hbv,-,-,-⟩:=h
 obtain ⟨ba,bc,rfl,-,-,-⟩:=hbv
 have HT:Hid (TlAt w (.mk 0 16 true [] []) [.int .i64 0,.int .i64 16,.bool true,.slice ba 0 bc,.slice ka 0 kc]):=h9
 replace HT:Hid (TlAt w (.mk 0 16 true [] []) [.int .i64 0,.int .i64 16,.bool true,.slice ba 0 bc,.slice ka 0 kc]):=HT
 clear h9
 have B0:=(Blk.new w [.int .i64 0,.int .i64 16,.bool true,.slice ba 0 bc,.slice ka 0 kc] 60 w.heap.size rfl).alloc (.cells zC.toArray 35)
 have R0:=Blk.new (w.alloc (.cells #[.int .i64 0,.int .i64 16,.bool true,.slice ba 0 bc,.slice ka 0 kc] 60)) zC 35 (w.heap.size + 1) (by simp)
 have bel:Below w.heap.size w ((w.alloc (.cells #[.int .i64 0,.int .i64 16,.bool true,.slice ba 0 bc,.slice ka 0 kc] 60)).alloc (.cells zC.toArray 35)):=((Below.refl _ _).alloc (Nat.le_refl _) _).alloc (by simp) _
 have hz:=zero_ct.out
 go_enter Tryz.func47,Tryz.ntmps47
 go_upto_region 1 with fail
 clear hz
 generalize (w.alloc (.cells #[.int .i64 0,.int .i64 16,.bool true,.slice ba 0 bc,.slice ka 0 kc] 60)).alloc (.cells zC.toArray 35)=W at *
 have l0:=B0.lt
 obtain ⟨S1,hS1,KB1,KI1,KD1,KL1,KA1⟩:∃ S:World→Prop,Hd S W∧Hid (∀ wx,Hd S wx→Below W.heap.size W wx)∧Hid (∀ wx,Below W.heap.size W wx→Hd S wx)∧Hid (∀ wx,Hd S wx→Hd S wx.drew)∧Hid (∀ w1 w2,Hd S w1→Below w1.heap.size w1 w2→Hd S w2)∧Hid (∀ w1 o,Hd S w1→Hd S (w1.alloc o)):=⟨fun wx=>Below W.heap.size W wx,Below.refl _ _,fun _ h=>h,fun _ h=>h,fun wx h=>Below.drew h,fun w1 w2 h hb=>below_step h hb,fun w1 o h=>Below.alloc h h.size o⟩
 have HB0:Hid (Blk W w.heap.size [.int .i64 0,.int .i64 16,.bool true,.slice ba 0 bc,.slice ka 0 kc]):=B0
 have HR0:Hid (Blk W (w.heap.size + 1) zC):=R0
 have HBel:Hid (Below w.heap.size w W):=bel
 have rt:Hid (∀ wx,Hd S1 wx→(loadVar 60 ⟨w.heap.size,0,none⟩).run Tryz.prog wx=.ok (.agg #[.int .i64 0,.int .i64 16,.bool true,.slice ba 0 bc,.slice ka 0 kc]) wx):=fun wx h=>(HB0.out.later (KB1.out wx h)).load Tryz.underlying60 rfl size_tlv rfl
 have ra:∀ wx,Hd S1 wx→wx.cell? ⟨w.heap.size,4,none⟩=some (.slice ka 0 kc):=fun wx h=>(HB0.out.later (KB1.out wx h)).cell 4 _ rfl
 have rl:∀ wx,Hd S1 wx→w.heap.size < wx.heap.size:=fun wx h=>(HB0.out.later (KB1.out wx h)).lt
 clear B0 R0 bel l0
 refine wp_region_noPanic ?_
 refine wp_region_held_drew (S:=Hd S1) (by kernel_rfl) (KD1.out _ hS1) (fun hHeld=>?_)
 clear hS1
 generalize World.drew _=wd1 at *
 refine wpAnyH_take (i:=0) (v:=.agg #[.int .i64 0,.int .i64 16,.bool true,.slice ba 0 bc,.slice ka 0 kc]) rfl (by kernel_rfl) (by kernel_rfl) (by kernel_rfl) (fun _ _ _ h=>h) (Or.inl ⟨by rfl,fun wx h=>exec_load rfl rfl (rt.out wx h)⟩) (by assumption) ?_
 try simp only [Act.put,List.getElem_toArray,List.getElem_cons_zero,List.getElem_cons_succ,List.setIfInBounds_toArray,List.set_cons_zero,List.set_cons_succ]
 refine wpAnyH_ready (rs:=[1]) (by kernel_rfl) (by simp) ?_
 refine AllReadyH.cons rfl (fun K hK=>?_) ?_
 ·go_simp
  refine (c17_isList (HT.out.later (below_step HBel.out (KB1.out _ hHeld)))).mono ?_
  rintro e z1 ⟨rfl,hb⟩
  refine hK.out _ _ ?_ (fun hHeld2=>?_)
  ·exact KL1.out _ _ hHeld hb
  ·clear hK K
   try clear hHeld
   have hHeld:=hHeld2
   clear hHeld2
   try simp only [Act.put,List.getElem_toArray,List.getElem_cons_zero,List.getElem_cons_succ,List.setIfInBounds_toArray,List.set_cons_zero,List.set_cons_succ]
   clear hb
   rw [show isList (.mk 0 16 true [] [])=true from rfl]
   refine wpAnyH_take (i:=2) (v:=?_) rfl (by kernel_rfl) (by kernel_rfl) (by kernel_rfl) (fun _ _ _ h=>h) (Or.inl ⟨by rfl,?_⟩) (by assumption) ?_
   rotate_left
   ·intro w hSw
    go_simp
    with_reducible rfl
   try simp only [Act.put,List.getElem_toArray,List.getElem_cons_zero,List.getElem_cons_succ,List.setIfInBounds_toArray,List.set_cons_zero,List.set_cons_succ]
   refine wpAnyH_take (i:=3) (v:=?_) rfl (by kernel_rfl) (by kernel_rfl) (by kernel_rfl) (fun _ _ _ h=>h) (Or.inl ⟨by rfl,?_⟩) (by assumption) ?_
   rotate_left
   ·intro w hSw
    go_simp
    with_reducible rfl
   try simp only [Act.put,List.getElem_toArray,List.getElem_cons_zero,List.getElem_cons_succ,List.setIfInBounds_toArray,List.set_cons_zero,List.set_cons_succ]
   refine wpAnyH_take (i:=4) (v:=?_) rfl (by kernel_rfl) (by kernel_rfl) (by kernel_rfl) (fun _ _ _ h=>h) (Or.inl ⟨by rfl,?_⟩) (by assumption) ?_
   rotate_left
   ·intro w hSw
    go_simp
    with_reducible rfl
   try simp only [Act.put,List.getElem_toArray,List.getElem_cons_zero,List.getElem_cons_succ,List.setIfInBounds_toArray,List.set_cons_zero,List.set_cons_succ]
   refine wpAnyH_take (i:=5) (v:=?_) rfl (by kernel_rfl) (by kernel_rfl) (by kernel_rfl) (fun _ _ _ h=>h) (Or.inl ⟨by rfl,?_⟩) (by assumption) ?_
   rotate_left
   ·intro w hSw
    go_simp
    with_reducible rfl
   try simp only [Act.put,List.getElem_toArray,List.getElem_cons_zero,List.getElem_cons_succ,List.setIfInBounds_toArray,List.set_cons_zero,List.set_cons_succ]
   refine wpAnyH_take (i:=6) (v:=?_) rfl (by kernel_rfl) (by kernel_rfl) (by kernel_rfl) (fun _ _ _ h=>h) (Or.inl ⟨by rfl,?_⟩) (by assumption) ?_
   rotate_left
   ·intro w hSw
    go_simp
    with_reducible rfl
   try simp only [Act.put,List.getElem_toArray,List.getElem_cons_zero,List.getElem_cons_succ,List.setIfInBounds_toArray,List.set_cons_zero,List.set_cons_succ]
   refine wpAnyH_take (i:=7) (v:=?_) rfl (by kernel_rfl) (by kernel_rfl) (by kernel_rfl) (fun _ _ _ h=>h) (Or.inl ⟨by rfl,?_⟩) (by assumption) ?_
   rotate_left
   ·intro w hSw
    go_simp
    with_reducible rfl
   try simp only [Act.put,List.getElem_toArray,List.getElem_cons_zero,List.getElem_cons_succ,List.setIfInBounds_toArray,List.set_cons_zero,List.set_cons_succ]
   refine wpAnyH_take (i:=8) (v:=?_) rfl (by kernel_rfl) (by kernel_rfl) (by kernel_rfl) (fun _ _ _ h=>h) (Or.inl ⟨by rfl,?_⟩) (by assumption) ?_
   rotate_left
   ·intro w hSw
    go_simp
    with_reducible rfl
   try simp only [Act.put,List.getElem_toArray,List.getElem_cons_zero,List.getElem_cons_succ,List.setIfInBounds_toArray,List.set_cons_zero,List.set_cons_succ]
   refine wpAnyH_take (i:=9) (v:=?_) rfl (by kernel_rfl) (by kernel_rfl) (by kernel_rfl) (fun _ _ _ h=>h) (Or.inl ⟨by rfl,?_⟩) (by assumption) ?_
   rotate_left
   ·intro w hSw
    go_simp
    with_reducible rfl
   try simp only [Act.put,List.getElem_toArray,List.getElem_cons_zero,List.getElem_cons_succ,List.setIfInBounds_toArray,List.set_cons_zero,List.set_cons_succ]
   refine wpAnyH_take (i:=10) (v:=undef) rfl (by kernel_rfl) (by kernel_rfl) (by kernel_rfl) (fun _ _ _ h=>h) (Or.inr ⟨by rfl,rfl⟩) (by assumption) ?_
   try simp only [Act.put,List.getElem_toArray,List.getElem_cons_zero,List.getElem_cons_succ,List.setIfInBounds_toArray,List.set_cons_zero,List.set_cons_succ]
   refine wpAnyH_take (i:=11) (v:=undef) rfl (by kernel_rfl) (by kernel_rfl) (by kernel_rfl) (fun _ _ _ h=>h) (Or.inr ⟨by rfl,rfl⟩) (by assumption) ?_
   try simp only [Act.put,List.getElem_toArray,List.getElem_cons_zero,List.getElem_cons_succ,List.setIfInBounds_toArray,List.set_cons_zero,List.set_cons_succ]
   refine wpAnyH_take (i:=12) (v:=undef) rfl (by kernel_rfl) (by kernel_rfl) (by kernel_rfl) (fun _ _ _ h=>h) (Or.inr ⟨by rfl,rfl⟩) (by assumption) ?_
   try simp only [Act.put,List.getElem_toArray,List.getElem_cons_zero,List.getElem_cons_succ,List.setIfInBounds_toArray,List.set_cons_zero,List.set_cons_succ]
   refine wpAnyH_take (i:=13) (v:=undef) rfl (by kernel_rfl) (by kernel_rfl) (by kernel_rfl) (fun _ _ _ h=>h) (Or.inr ⟨by rfl,rfl⟩) (by assumption) ?_
   try simp only [Act.put,List.getElem_toArray,List.getElem_cons_zero,List.getElem_cons_succ,List.setIfInBounds_toArray,List.set_cons_zero,List.set_cons_succ]
   refine wpAnyH_take (i:=14) (v:=undef) rfl (by kernel_rfl) (by kernel_rfl) (by kernel_rfl) (fun _ _ _ h=>h) (Or.inr ⟨by rfl,rfl⟩) (by assumption) ?_
   try simp only [Act.put,List.getElem_toArray,List.getElem_cons_zero,List.getElem_cons_succ,List.setIfInBounds_toArray,List.set_cons_zero,List.set_cons_succ]
   refine wpAnyH_take (i:=15) (v:=undef) rfl (by kernel_rfl) (by kernel_rfl) (by kernel_rfl) (fun _ _ _ h=>h) (Or.inr ⟨by rfl,rfl⟩) (by assumption) ?_
   try simp only [Act.put,List.getElem_toArray,List.getElem_cons_zero,List.getElem_cons_succ,List.setIfInBounds_toArray,List.set_cons_zero,List.set_cons_succ]
   refine wpAnyH_take (i:=16) (v:=undef) rfl (by kernel_rfl) (by kernel_rfl) (by kernel_rfl) (fun _ _ _ h=>h) (Or.inr ⟨by rfl,rfl⟩) (by assumption) ?_
   try simp only [Act.put,List.getElem_toArray,List.getElem_cons_zero,List.getElem_cons_succ,List.setIfInBounds_toArray,List.set_cons_zero,List.set_cons_succ]
   refine wpAnyH_take (i:=17) (v:=?_) rfl (by kernel_rfl) (by kernel_rfl) (by kernel_rfl) (fun _ _ _ h=>h) (Or.inl ⟨by rfl,?_⟩) (by assumption) ?_
   rotate_left
   ·intro w hSw
    go_simp
    with_reducible rfl
   try simp only [Act.put,List.getElem_toArray,List.getElem_cons_zero,List.getElem_cons_succ,List.setIfInBounds_toArray,List.set_cons_zero,List.set_cons_succ]
   refine wpAnyH_done (by kernel_rfl) ?_ _
   refine NoPanic.normal ?_
   have st:=KB1.out _ hHeld
   have R0:=HR0.out.later st
   have bel:=below_step HBel.out st
   clear hHeld ra rl
   have hz:=zero_ct.out
   obtain ⟨tR,hR⟩:=R0
   have HR1:Hid _:=hR
   clear hR
   go_wp2_with (first|((with_reducible show wpList _ _ _ ({ dst:=_,op:=.store _ _ _,type:=_,pos:=_,after:=_,guard:=_ } :: _) _ _);refine wpList_store_row rfl 35 _ _ rfl (w.heap.size + 1) zC.toArray rfl rfl tR _ HR1.out (by rw [size_ctU,zC_size]) (by first|rfl|(rw [zC_size];rfl)) zC_ones ?_)|fail)
   refine bodyPost_ret (results_row_tmp rfl _ _ (w.heap.size + 1) tR zC.toArray (0,0) _ rfl (setRow_heap _ _ _ _ _ _ HR1.out) Tryz.underlying35 rfl (by rw [size_ctU,zC_size])) rfl ?_
   exact ⟨rfl,below_setRow bel (by omega) _⟩
 exact AllReadyH.nil
set_option linter.unusedSimpArgs false in
set_option maxRecDepth 100000 in
set_option maxHeartbeats 1000000 in
theorem con_CDec0 {v:Value} {w:World} (hv:Bs w v [48,0]):Calls Tryz.prog 16 #[v] w fun e w'=>e=.returned (.tuple #[.agg zC.toArray,.iface 57 (.int .i64 7)])∧Below w.heap.size w w':=by
 have HV:Hid (Bs w v [48,0]):=hv
 obtain ⟨ao,cap,rfl,-,-,-⟩:=hv
 have R0:=Blk.new w zC 35 w.heap.size rfl
 have bel:Below w.heap.size w (w.alloc (.cells zC.toArray 35)):=(Below.refl _ _).alloc (Nat.le_refl _) _
 have hz:=zero_ct.out
 go_enter Tryz.func16,Tryz.ntmps16
 go_upto_region 1 with fail
 clear hz
 generalize w.alloc (.cells zC.toArray 35)=W at *
 go_wp2_with fail
 refine (con_Parse (HV.out.later bel) (byt_of _ (fun j hj=>by match j,hj with|0,_=>decide|1,_=>decide))).mono ?_
 rintro e w1 ⟨hok,-⟩
 obtain ⟨cs,rfl,hd,hb⟩:=hok _ parse_480
 have HL5:Hid (cs.length=5):=hd.now.five
 have HS5:Hid (cs.toArray.size=5):=by show _=_;rw [List.size_toArray];exact HL5.out
 have HO5:Hid (OneC cs):=hd.now.ones
 have HT:Hid (TlAt w1 (.mk 0 16 true [] []) cs):=hd.now
 replace R0:=R0.later hb
 replace bel:=below_step bel hb
 clear hok hd hb
 have hz:=zero_tlv.out
 replace HT:Hid (TlAt (w1.alloc (.cells cs.toArray 60)) (.mk 0 16 true [] []) cs):=HT.out.later ((Below.refl _ _).alloc (Nat.le_refl _) _)
 replace R0:=R0.alloc (.cells cs.toArray 60)
 replace bel:=below_alloc (o:=.cells cs.toArray 60) bel
 have Bt:=Blk.new w1 cs 60 w1.heap.size rfl
 go_upto_region 2 with (first|((with_reducible show wpList _ _ _ ({ dst:=_,op:=.store _ _ _,type:=_,pos:=_,after:=_,guard:=_ } :: _) _ _);refine wpList_store_row rfl 60 _ _ rfl w1.heap.size cs.toArray rfl rfl 60 _ (heap_alloc_last _ _) (by rw [size_tlv,HS5.out]) (by first|rfl|(rw [HS5.out];rfl)) HO5.out ?_;rw [World.setRow_alloc_new])|fail)
 obtain ⟨gt,hgt⟩:∃ g,g=w1.heap.size:=⟨_,rfl⟩
 rw [← hgt] at Bt ⊢
 generalize w1.alloc (.cells cs.toArray 60)=V1 at *
 clear hgt
 clear hz
 have q:=ne_nilL
 have l0:=Bt.lt
 have hld:(loadVar 60 ⟨gt,0,none⟩).run Tryz.prog V1=.ok (.agg cs.toArray) V1:=Bt.load Tryz.underlying60 rfl size_tlv HL5.out
 go_wp2_with (first|((with_reducible show wpList _ _ _ ({ dst:=_,op:=.load _ _,type:=_,pos:=_,after:=_,guard:=_ } :: _) _ _);refine wpList_load_run (by rfl) (by rfl) (by rfl) hld ?_)|fail)
 refine (c17_certOf0 HT.out).mono ?_
 rintro e w2 ⟨rfl,hb⟩
 replace R0:=R0.later hb
 replace bel:=below_step bel hb
 clear hb hld l0 Bt q
 have hz:=zero_ct.out
 replace R0:=R0.alloc (.cells zC.toArray 35)
 replace bel:=below_alloc (o:=.cells zC.toArray 35) bel
 have Bc:=Blk.new w2 zC 35 w2.heap.size rfl
 go_upto_region 5 with (first|((with_reducible show wpList _ _ _ ({ dst:=_,op:=.store _ _ _,type:=_,pos:=_,after:=_,guard:=_ } :: _) _ _);refine wpList_store_row rfl 35 _ _ rfl w2.heap.size zC.toArray rfl rfl 35 _ (heap_alloc_last _ _) (by rw [size_ctU,zC_size]) (by first|rfl|(rw [zC_size];rfl)) zC_ones ?_;rw [World.setRow_alloc_new])|fail)
 obtain ⟨gc,hgc⟩:∃ g,g=w2.heap.size:=⟨_,rfl⟩
 rw [← hgc] at Bc ⊢
 generalize w2.alloc (.cells zC.toArray 35)=V2 at *
 clear hgc
 clear Bc
 have q:=ne_codeL 7
 obtain ⟨tR,hR⟩:=R0
 have HR1:Hid _:=hR
 clear hR
 go_wp2_with (first|((with_reducible show wpList _ _ _ ({ dst:=_,op:=.store _ _ _,type:=_,pos:=_,after:=_,guard:=_ } :: _) _ _);refine wpList_store_row rfl 35 _ _ rfl (w.heap.size) zC.toArray rfl rfl tR _ HR1.out (by rw [size_ctU,zC_size]) (by first|rfl|(rw [zC_size];rfl)) zC_ones ?_)|fail)
 refine bodyPost_ret (results_row_tmp rfl _ _ (w.heap.size) tR zC.toArray (0,0) _ rfl (setRow_heap _ _ _ _ _ _ HR1.out) Tryz.underlying35 rfl (by rw [size_ctU,zC_size])) rfl ?_
 exact ⟨rfl,below_setRow bel (by omega) _⟩
set_option linter.unusedSimpArgs false in
set_option maxRecDepth 100000 in
set_option maxHeartbeats 1000000 in
theorem c17_bodyElement0 {w:World}:Calls Tryz.prog 22 #[.agg zC.toArray] w fun e w'=>∃ c:Int,e=.returned (.tuple #[.agg #[.int .i64 0,.int .i64 0,.bool false,.slice none 0 0,.slice none 0 0],.iface 57 (.int .i64 c)])∧Below w.heap.size w w':=by
 have B0:=(Blk.new w zC 35 w.heap.size rfl).alloc (.cells #[.int .i64 0,.int .i64 0,.bool false,.slice none 0 0,.slice none 0 0] 60)
 have R0:=Blk.new (w.alloc (.cells zC.toArray 35)) [.int .i64 0,.int .i64 0,.bool false,.slice none 0 0,.slice none 0 0] 60 (w.heap.size + 1) (by simp)
 have bel:Below w.heap.size w ((w.alloc (.cells zC.toArray 35)).alloc (.cells #[.int .i64 0,.int .i64 0,.bool false,.slice none 0 0,.slice none 0 0] 60)):=((Below.refl _ _).alloc (Nat.le_refl _) _).alloc (by simp) _
 have hz:=zero_tlv.out
 go_enter Tryz.func22,Tryz.ntmps22
 go_upto_region 1 with fail
 clear hz
 generalize (w.alloc (.cells zC.toArray 35)).alloc (.cells #[.int .i64 0,.int .i64 0,.bool false,.slice none 0 0,.slice none 0 0] 60)=W at *
 have l0:=B0.lt
 have e0:=B0.cell 0 (.slice none 0 0) rfl
 go_wp2_with fail
 refine (c17_serialElement (n:=[]) ⟨none,0,rfl,Nat.zero_le _,Nat.zero_le _,fun h=>absurd h (Nat.lt_irrefl 0)⟩ (fun j=>by simp) (by simp)).mono ?_
 rintro e w1 ⟨hb,hbad,-⟩
 obtain ⟨c,rfl⟩:=hbad (serT_no rfl)
 replace R0:=R0.later hb
 replace bel:=below_step bel hb
 clear hb hbad B0 l0 e0
 have hz:=zero_tlv.out
 have R1:Hid (Blk w1 (w.heap.size + 1) [.int .i64 0,.int .i64 0,.bool false,.slice none 0 0,.slice none 0 0]):=R0
 clear R0
 have q:=ne_codeL c
 replace bel:=below_alloc (o:=.cells #[.int .i64 0,.int .i64 0,.bool false,.slice none 0 0,.slice none 0 0] 60) bel
 go_upto_region 2 with (first|((with_reducible show wpList _ _ _ ({ dst:=_,op:=.store _ _ _,type:=_,pos:=_,after:=_,guard:=_ } :: _) _ _);refine wpList_store_row rfl 60 _ _ rfl w1.heap.size #[.int .i64 0,.int .i64 0,.bool false,.slice none 0 0,.slice none 0 0] rfl rfl 60 _ (heap_alloc_last _ _) (by rw [size_tlv];rfl) rfl (by simp [Value.oneCell']) ?_;rw [World.setRow_alloc_new])|fail)
 have R0:=R1.out.alloc (.cells #[.int .i64 0,.int .i64 0,.bool false,.slice none 0 0,.slice none 0 0] 60)
 generalize w1.alloc (.cells #[.int .i64 0,.int .i64 0,.bool false,.slice none 0 0,.slice none 0 0] 60)=V1 at *
 clear R1
 obtain ⟨tR,hR⟩:=R0
 have HR1:Hid _:=hR
 clear hR
 go_wp2_with (first|((with_reducible show wpList _ _ _ ({ dst:=_,op:=.store _ _ _,type:=_,pos:=_,after:=_,guard:=_ } :: _) _ _);refine wpList_store_row rfl 60 _ _ rfl (w.heap.size + 1) #[.int .i64 0,.int .i64 0,.bool false,.slice none 0 0,.slice none 0 0] rfl rfl tR _ HR1.out (by rw [size_tlv];rfl) rfl (by simp [Value.oneCell']) ?_)|fail)
 refine bodyPost_ret (results_row_tmp rfl _ _ (w.heap.size + 1) tR #[.int .i64 0,.int .i64 0,.bool false,.slice none 0 0,.slice none 0 0] (0,0) _ rfl (setRow_heap _ _ _ _ _ _ HR1.out) Tryz.underlying60 rfl (by rw [size_tlv];rfl)) rfl ?_
 exact ⟨c,rfl,below_setRow bel (by omega) _⟩
set_option linter.unusedSimpArgs false in
set_option maxRecDepth 100000 in
set_option maxHeartbeats 1000000 in
theorem con_CBody0 {w:World}:Calls Tryz.prog 10 #[.agg zC.toArray] w fun e w'=>e=.returned (.tuple #[.slice none 0 0,.iface 57 (.int .i64 1)])∧Below w.heap.size w w':=by
 have B0:=Blk.new w zC 35 w.heap.size rfl
 have bel:Below w.heap.size w (w.alloc (.cells zC.toArray 35)):=(Below.refl _ _).alloc (Nat.le_refl _) _
 go_enter Tryz.func10,Tryz.ntmps10
 go_upto_region 1 with fail
 generalize w.alloc (.cells zC.toArray 35)=W at *
 have l0:=B0.lt
 have hld:(loadVar 35 ⟨w.heap.size,0,none⟩).run Tryz.prog W=.ok (.agg zC.toArray) W:=B0.load Tryz.underlying35 rfl size_ctU zC_len
 go_wp2_with (first|((with_reducible show wpList _ _ _ ({ dst:=_,op:=.load _ _,type:=_,pos:=_,after:=_,guard:=_ } :: _) _ _);refine wpList_load_run (by rfl) (by rfl) (by rfl) hld ?_)|fail)
 refine c17_bodyElement0.mono ?_
 rintro e w1 ⟨c,rfl,hb⟩
 replace bel:=below_step bel hb
 clear hb hld l0 B0
 have hz:=zero_tlv.out
 have q:=ne_codeL c
 replace bel:=below_alloc (o:=.cells #[.int .i64 0,.int .i64 0,.bool false,.slice none 0 0,.slice none 0 0] 60) bel
 go_wp2_with (first|((with_reducible show wpList _ _ _ ({ dst:=_,op:=.store _ _ _,type:=_,pos:=_,after:=_,guard:=_ } :: _) _ _);refine wpList_store_row rfl 60 _ _ rfl w1.heap.size #[.int .i64 0,.int .i64 0,.bool false,.slice none 0 0,.slice none 0 0] rfl rfl 60 _ (heap_alloc_last _ _) (by rw [size_tlv];rfl) rfl (by simp [Value.oneCell']) ?_;rw [World.setRow_alloc_new])|fail)
 refine bodyPost_ret (results_tmp2 rfl _ _ _) rfl ?_
 exact ⟨rfl,bel⟩
end Go.Proofs.YtcogndaiamgnbaaGreatDoor
