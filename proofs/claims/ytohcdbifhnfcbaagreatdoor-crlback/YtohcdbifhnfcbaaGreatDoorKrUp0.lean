/- Certificates as they are read, as functions. Decode of two bytes: what the program answers. -/
import Derived.Test.YtohcdbifhnfcbaaGreatDoorClWr
import Derived.Test.YtohcdbifhnfcbaaGreatDoorPmOidN
import Derived.Test.YtohcdbifhnfcbaaGreatDoorDrTG
import Derived.Test.YtohcdbifhnfcbaaGreatDoorDrDG
import Derived.Test.YtohcdbifhnfcbaaGreatDoorLimb
import Derived.Test.YtohcdbifhnfcbaaGreatDoorKrGone
import Derived.Test.YtohcdbifhnfcbaaGreatDoorDcG3
import Derived.Test.YtohcdbifhnfcbaaGreatDoorDcG1
import Derived.Test.YtohcdbifhnfcbaaGreatDoorRows
import Derived.Deep.WholeRow
import Derived.Deep.RegionHeld3
import Derived.Deep.DeepCutAuto
import Derived.Deep.DeepFit
import Derived.Deep.OwnRows
import Derived.Deep.AppendLies
import Derived.Great.BuildSlice
import Derived.Laws.Rows
import Derived.BigQuiet
namespace Go.Proofs.YtohcdbifhnfcbaaGreatDoor
open Go.RowKit
open Classical
/-- an answer that is no error -/
def okO {α:Type}:Except Nat α→Option α
 | .ok a=>some a
 | .error _=>none
/-- a number in an element; a small one; a serial number; a time; bits that all count -/
def numD:Tl→Option (List Int)
 | .mk c t m b _=>if c=0∧t=2∧m=false then okO (numP b) else none
def serD (T:Tl):Option (List Int):=match numD T with
 | some n=>if 0 < n.length∧n.length≤20 then some n else none
 | none=>none
def timD:Tl→Option Int
 | .mk c t m b _=>if c=0∧m=false then okO (timeP t b) else none
def bitD:Tl→Option (List Int)
 | .mk c t m b _=>if c=0∧t=3∧m=false then (match bitsP b with|.ok (x,n)=>if n=0 then some x else none|.error _=>none) else none
def isList:Tl→Bool
 | .mk c t m _ _=>decide (c=0∧t=16∧m=true)
/-- the cells of a list of revoked ones that is zero -/
def z8:List Value:=[.slice none 0 0,.int .i64 0,.int .i64 0,.slice none 0 0,.slice none 0 0,.int .u64 0,.int .u64 0,.int .u64 0,.int .u64 0,.int .u64 0,.int .u64 0,.int .u64 0,.int .u64 0,.int .u64 0,.int .u64 0,.int .u64 0,.int .u64 0]
theorem z8_size:z8.toArray.size=17:=rfl
theorem z8_ones:OneC z8:=by unfold z8;simp [OneC,Value.oneCell']
theorem zero_cr8:Hid (∀ w:World,(zeroValue 33).run Tryz.prog w=.ok (.agg z8.toArray) w):=fun w=>by kernel_rfl
theorem parse_48k:parseP [48,0]=.ok (.mk 0 16 true [] []):=by rfl
theorem size_crU:(Tryz.prog.info? 33).map (·.size)=some 17:=by kernel_rfl
/-- the zero one -/
def cr0:Cr:=⟨[],0,0,[],[],0,0⟩
theorem cr0_at (w:World):CrAt w cr0 z8:=⟨.slice none 0 0,.slice none 0 0,.slice none 0 0,[.int .u64 0,.int .u64 0,.int .u64 0,.int .u64 0,.int .u64 0,.int .u64 0],[.int .u64 0,.int .u64 0,.int .u64 0,.int .u64 0,.int .u64 0,.int .u64 0],rfl,NmAt.nil0 w,GnAt.nil0 w,⟨none,0,rfl,Nat.zero_le _,Nat.zero_le _,fun h=>absurd h (Nat.lt_irrefl 0)⟩,U6.zero,U6.zero⟩
theorem cr0_wf:WfCr cr0:=⟨fun i p h=>by simp [cr0] at h,by simp [cr0],by simp [cr0],fun g h=>by simp [cr0] at h,fun j=>by simp [cr0]⟩
theorem cr0_may:MayR8 cr0:=⟨by rfl,⟨_,show timT 0=some _ from rfl⟩,⟨_,show timT 0=some _ from rfl⟩,by simp [cr0],fun g h=>by simp [cr0] at h⟩
set_option linter.unusedSimpArgs false in
set_option maxRecDepth 100000 in
set_option maxHeartbeats 400000 in
theorem c18_isList {c t:Int} {m:Bool} {b:List Int} {ks:List Tl} {cs:List Value} {w:World} (h:TlAt w (.mk c t m b ks) cs) :
  Calls Tryz.prog 37 #[.agg cs.toArray] w fun e w'=>e=.returned (.bool (isList (.mk c t m b ks)))∧Below w.heap.size w w':=by
 rw [TlAt] at h
 obtain ⟨bv,ka,kc,rfl,hbv,-,-,-⟩:=h
 obtain ⟨ba,bc,rfl,-,-,-⟩:=hbv
 have B0:=Blk.new w [.int .i64 c,.int .i64 t,.bool m,.slice ba b.length bc,.slice ka ks.length kc] 53 w.heap.size rfl
 have bel:Below w.heap.size w (w.alloc (.cells #[.int .i64 c,.int .i64 t,.bool m,.slice ba b.length bc,.slice ka ks.length kc] 53)):=(Below.refl _ _).alloc (Nat.le_refl _) _
 go_enter Tryz.func37,Tryz.ntmps37
 go_upto_region 1 with fail
 generalize w.alloc (.cells #[.int .i64 c,.int .i64 t,.bool m,.slice ba b.length bc,.slice ka ks.length kc] 53)=W at *
 have e0:=B0.cell 0 _ rfl
 have e1:=B0.cell 1 _ rfl
 have e2:=B0.cell 2 _ rfl
 have lt0:=B0.lt
 by_cases c1:c=0
 rotate_left
 ·have H:Hid (isList (.mk c t m b ks)=false):=decide_eq_false (fun h=>c1 h.1)
  have d1:(c == 0)=false:=by rw [beq_eq_false_iff_ne];exact c1
  clear c1
  go_wp2_with fail
  go_ret
  exact ⟨by rw [H.out];rfl,bel⟩
 subst c1
 by_cases c2:t=16
 rotate_left
 ·have H:Hid (isList (.mk 0 t m b ks)=false):=decide_eq_false (fun h=>c2 h.2.1)
  have d2:(t == 16)=false:=by rw [beq_eq_false_iff_ne];exact c2
  clear c2
  go_wp2_with fail
  go_ret
  exact ⟨by rw [H.out];rfl,bel⟩
 subst c2
 cases m
 all_goals
  go_wp2_with fail
  go_ret
  exact ⟨rfl,bel⟩
set_option linter.unusedSimpArgs false in
set_option maxRecDepth 100000 in
set_option maxHeartbeats 1000000 in
theorem c18_crlOf0 {cs:List Value} {w:World} (h:TlAt w (.mk 0 16 true [] []) cs):Calls Tryz.prog 15 #[.agg cs.toArray] w fun e w'=>e=.returned (.tuple #[.agg z8.toArray,.iface 46 (.int .i64 7)])∧Below w.heap.size w w':=by
 have h9:=h
 rw [TlAt] at h
 obtain ⟨bv,ka,kc,rfl,hbv,-,-,-⟩:=h
 obtain ⟨ba,bc,rfl,-,-,-⟩:=hbv
 have HT:Hid (TlAt w (.mk 0 16 true [] []) [.int .i64 0,.int .i64 16,.bool true,.slice ba 0 bc,.slice ka 0 kc]):=h9
 replace HT:Hid (TlAt w (.mk 0 16 true [] []) [.int .i64 0,.int .i64 16,.bool true,.slice ba 0 bc,.slice ka 0 kc]):=HT
 clear h9
 have B0:=(Blk.new w [.int .i64 0,.int .i64 16,.bool true,.slice ba 0 bc,.slice ka 0 kc] 53 w.heap.size rfl).alloc (.cells z8.toArray 33)
 have R0:=Blk.new (w.alloc (.cells #[.int .i64 0,.int .i64 16,.bool true,.slice ba 0 bc,.slice ka 0 kc] 53)) z8 33 (w.heap.size + 1) (by simp)
 have bel:Below w.heap.size w ((w.alloc (.cells #[.int .i64 0,.int .i64 16,.bool true,.slice ba 0 bc,.slice ka 0 kc] 53)).alloc (.cells z8.toArray 33)):=((Below.refl _ _).alloc (Nat.le_refl _) _).alloc (by simp) _
 have hz:=zero_cr8.out
 go_enter Tryz.func15,Tryz.ntmps15
 go_upto_region 1 with fail
 clear hz
 generalize (w.alloc (.cells #[.int .i64 0,.int .i64 16,.bool true,.slice ba 0 bc,.slice ka 0 kc] 53)).alloc (.cells z8.toArray 33)=W at *
 have l0:=B0.lt
 obtain ⟨S1,hS1,KB1,KI1,KD1,KL1,KA1⟩:∃ S:World→Prop,Hd S W∧Hid (∀ wx,Hd S wx→Below W.heap.size W wx)∧Hid (∀ wx,Below W.heap.size W wx→Hd S wx)∧Hid (∀ wx,Hd S wx→Hd S wx.drew)∧Hid (∀ w1 w2,Hd S w1→Below w1.heap.size w1 w2→Hd S w2)∧Hid (∀ w1 o,Hd S w1→Hd S (w1.alloc o)):=⟨fun wx=>Below W.heap.size W wx,Below.refl _ _,fun _ h=>h,fun _ h=>h,fun wx h=>Below.drew h,fun w1 w2 h hb=>below_step h hb,fun w1 o h=>Below.alloc h h.size o⟩
 have HB0:Hid (Blk W w.heap.size [.int .i64 0,.int .i64 16,.bool true,.slice ba 0 bc,.slice ka 0 kc]):=B0
 have HR0:Hid (Blk W (w.heap.size + 1) z8):=R0
 have HBel:Hid (Below w.heap.size w W):=bel
 have rt:Hid (∀ wx,Hd S1 wx→(loadVar 53 ⟨w.heap.size,0,none⟩).run Tryz.prog wx=.ok (.agg #[.int .i64 0,.int .i64 16,.bool true,.slice ba 0 bc,.slice ka 0 kc]) wx):=fun wx h=>(HB0.out.later (KB1.out wx h)).load Tryz.underlying53 rfl size_tlv rfl
 have ra:∀ wx,Hd S1 wx→wx.cell? ⟨w.heap.size,4,none⟩=some (.slice ka 0 kc):=fun wx h=>(HB0.out.later (KB1.out wx h)).cell 4 _ rfl
 have rl:∀ wx,Hd S1 wx→w.heap.size < wx.heap.size:=fun wx h=>(HB0.out.later (KB1.out wx h)).lt
 clear B0 R0 bel l0
 refine wp_region_noPanic ?_
 refine wp_region_held_drew (S:=Hd S1) (by kernel_rfl) (KD1.out _ hS1) (fun hHeld=>?_)
 clear hS1
 generalize World.drew _=wd1 at *
 refine wpAnyH_take (i:=0) (v:=.agg #[.int .i64 0,.int .i64 16,.bool true,.slice ba 0 bc,.slice ka 0 kc]) rfl (by kernel_rfl) (by kernel_rfl) (by kernel_rfl) (fun _ _ _ h=>h) (Or.inl ⟨by rfl,fun wx h=>exec_load rfl rfl (rt.out wx h)⟩) (by assumption) ?_
 try simp only [Act.put,List.getElem_toArray,List.getElem_cons_zero,List.getElem_cons_succ,List.setIfInBounds_toArray,List.set_cons_zero,List.set_cons_succ]
 refine wpAnyH_ready (rs:=[1]) (by kernel_rfl) (by simp) ?_
 refine AllReadyH.cons rfl (fun K hK=>?_) ?_
 ·go_simp
  refine (c18_isList (HT.out.later (below_step HBel.out (KB1.out _ hHeld)))).mono ?_
  rintro e z1 ⟨rfl,hb⟩
  refine hK.out _ _ ?_ (fun hHeld2=>?_)
  ·exact KL1.out _ _ hHeld hb
  ·clear hK K
   try clear hHeld
   have hHeld:=hHeld2
   clear hHeld2
   try simp only [Act.put,List.getElem_toArray,List.getElem_cons_zero,List.getElem_cons_succ,List.setIfInBounds_toArray,List.set_cons_zero,List.set_cons_succ]
   clear hb
   rw [show isList (.mk 0 16 true [] [])=true from rfl]
   refine wpAnyH_take (i:=2) (v:=?_) rfl (by kernel_rfl) (by kernel_rfl) (by kernel_rfl) (fun _ _ _ h=>h) (Or.inl ⟨by rfl,?_⟩) (by assumption) ?_
   rotate_left
   ·intro w hSw
    go_simp
    with_reducible rfl
   try simp only [Act.put,List.getElem_toArray,List.getElem_cons_zero,List.getElem_cons_succ,List.setIfInBounds_toArray,List.set_cons_zero,List.set_cons_succ]
   refine wpAnyH_take (i:=3) (v:=?_) rfl (by kernel_rfl) (by kernel_rfl) (by kernel_rfl) (fun _ _ _ h=>h) (Or.inl ⟨by rfl,?_⟩) (by assumption) ?_
   rotate_left
   ·intro w hSw
    go_simp
    with_reducible rfl
   try simp only [Act.put,List.getElem_toArray,List.getElem_cons_zero,List.getElem_cons_succ,List.setIfInBounds_toArray,List.set_cons_zero,List.set_cons_succ]
   refine wpAnyH_take (i:=4) (v:=?_) rfl (by kernel_rfl) (by kernel_rfl) (by kernel_rfl) (fun _ _ _ h=>h) (Or.inl ⟨by rfl,?_⟩) (by assumption) ?_
   rotate_left
   ·intro w hSw
    go_simp
    with_reducible rfl
   try simp only [Act.put,List.getElem_toArray,List.getElem_cons_zero,List.getElem_cons_succ,List.setIfInBounds_toArray,List.set_cons_zero,List.set_cons_succ]
   refine wpAnyH_take (i:=5) (v:=?_) rfl (by kernel_rfl) (by kernel_rfl) (by kernel_rfl) (fun _ _ _ h=>h) (Or.inl ⟨by rfl,?_⟩) (by assumption) ?_
   rotate_left
   ·intro w hSw
    go_simp
    with_reducible rfl
   try simp only [Act.put,List.getElem_toArray,List.getElem_cons_zero,List.getElem_cons_succ,List.setIfInBounds_toArray,List.set_cons_zero,List.set_cons_succ]
   refine wpAnyH_take (i:=6) (v:=?_) rfl (by kernel_rfl) (by kernel_rfl) (by kernel_rfl) (fun _ _ _ h=>h) (Or.inl ⟨by rfl,?_⟩) (by assumption) ?_
   rotate_left
   ·intro w hSw
    go_simp
    with_reducible rfl
   try simp only [Act.put,List.getElem_toArray,List.getElem_cons_zero,List.getElem_cons_succ,List.setIfInBounds_toArray,List.set_cons_zero,List.set_cons_succ]
   refine wpAnyH_take (i:=7) (v:=?_) rfl (by kernel_rfl) (by kernel_rfl) (by kernel_rfl) (fun _ _ _ h=>h) (Or.inl ⟨by rfl,?_⟩) (by assumption) ?_
   rotate_left
   ·intro w hSw
    go_simp
    with_reducible rfl
   try simp only [Act.put,List.getElem_toArray,List.getElem_cons_zero,List.getElem_cons_succ,List.setIfInBounds_toArray,List.set_cons_zero,List.set_cons_succ]
   refine wpAnyH_take (i:=8) (v:=?_) rfl (by kernel_rfl) (by kernel_rfl) (by kernel_rfl) (fun _ _ _ h=>h) (Or.inl ⟨by rfl,?_⟩) (by assumption) ?_
   rotate_left
   ·intro w hSw
    go_simp
    with_reducible rfl
   try simp only [Act.put,List.getElem_toArray,List.getElem_cons_zero,List.getElem_cons_succ,List.setIfInBounds_toArray,List.set_cons_zero,List.set_cons_succ]
   refine wpAnyH_take (i:=9) (v:=?_) rfl (by kernel_rfl) (by kernel_rfl) (by kernel_rfl) (fun _ _ _ h=>h) (Or.inl ⟨by rfl,?_⟩) (by assumption) ?_
   rotate_left
   ·intro w hSw
    go_simp
    with_reducible rfl
   try simp only [Act.put,List.getElem_toArray,List.getElem_cons_zero,List.getElem_cons_succ,List.setIfInBounds_toArray,List.set_cons_zero,List.set_cons_succ]
   refine wpAnyH_take (i:=10) (v:=undef) rfl (by kernel_rfl) (by kernel_rfl) (by kernel_rfl) (fun _ _ _ h=>h) (Or.inr ⟨by rfl,rfl⟩) (by assumption) ?_
   try simp only [Act.put,List.getElem_toArray,List.getElem_cons_zero,List.getElem_cons_succ,List.setIfInBounds_toArray,List.set_cons_zero,List.set_cons_succ]
   refine wpAnyH_take (i:=11) (v:=undef) rfl (by kernel_rfl) (by kernel_rfl) (by kernel_rfl) (fun _ _ _ h=>h) (Or.inr ⟨by rfl,rfl⟩) (by assumption) ?_
   try simp only [Act.put,List.getElem_toArray,List.getElem_cons_zero,List.getElem_cons_succ,List.setIfInBounds_toArray,List.set_cons_zero,List.set_cons_succ]
   refine wpAnyH_take (i:=12) (v:=undef) rfl (by kernel_rfl) (by kernel_rfl) (by kernel_rfl) (fun _ _ _ h=>h) (Or.inr ⟨by rfl,rfl⟩) (by assumption) ?_
   try simp only [Act.put,List.getElem_toArray,List.getElem_cons_zero,List.getElem_cons_succ,List.setIfInBounds_toArray,List.set_cons_zero,List.set_cons_succ]
   refine wpAnyH_take (i:=13) (v:=undef) rfl (by kernel_rfl) (by kernel_rfl) (by kernel_rfl) (fun _ _ _ h=>h) (Or.inr ⟨by rfl,rfl⟩) (by assumption) ?_
   try simp only [Act.put,List.getElem_toArray,List.getElem_cons_zero,List.getElem_cons_succ,List.setIfInBounds_toArray,List.set_cons_zero,List.set_cons_succ]
   refine wpAnyH_take (i:=14) (v:=undef) rfl (by kernel_rfl) (by kernel_rfl) (by kernel_rfl) (fun _ _ _ h=>h) (Or.inr ⟨by rfl,rfl⟩) (by assumption) ?_
   try simp only [Act.put,List.getElem_toArray,List.getElem_cons_zero,List.getElem_cons_succ,List.setIfInBounds_toArray,List.set_cons_zero,List.set_cons_succ]
   refine wpAnyH_take (i:=15) (v:=undef) rfl (by kernel_rfl) (by kernel_rfl) (by kernel_rfl) (fun _ _ _ h=>h) (Or.inr ⟨by rfl,rfl⟩) (by assumption) ?_
   try simp only [Act.put,List.getElem_toArray,List.getElem_cons_zero,List.getElem_cons_succ,List.setIfInBounds_toArray,List.set_cons_zero,List.set_cons_succ]
   refine wpAnyH_take (i:=16) (v:=undef) rfl (by kernel_rfl) (by kernel_rfl) (by kernel_rfl) (fun _ _ _ h=>h) (Or.inr ⟨by rfl,rfl⟩) (by assumption) ?_
   try simp only [Act.put,List.getElem_toArray,List.getElem_cons_zero,List.getElem_cons_succ,List.setIfInBounds_toArray,List.set_cons_zero,List.set_cons_succ]
   refine wpAnyH_take (i:=17) (v:=?_) rfl (by kernel_rfl) (by kernel_rfl) (by kernel_rfl) (fun _ _ _ h=>h) (Or.inl ⟨by rfl,?_⟩) (by assumption) ?_
   rotate_left
   ·intro w hSw
    go_simp
    with_reducible rfl
   try simp only [Act.put,List.getElem_toArray,List.getElem_cons_zero,List.getElem_cons_succ,List.setIfInBounds_toArray,List.set_cons_zero,List.set_cons_succ]
   refine wpAnyH_done (by kernel_rfl) ?_ _
   refine NoPanic.normal ?_
   have st:=KB1.out _ hHeld
   have R0:=HR0.out.later st
   have bel:=below_step HBel.out st
   clear hHeld ra rl
   have hz:=zero_cr8.out
   obtain ⟨tR,hR⟩:=R0
   have HR1:Hid _:=hR
   clear hR
   go_wp2_with (first|((with_reducible show wpList _ _ _ ({ dst:=_,op:=.store _ _ _,type:=_,pos:=_,after:=_,guard:=_ } :: _) _ _);refine wpList_store_row rfl 33 _ _ rfl (w.heap.size + 1) z8.toArray rfl rfl tR _ HR1.out (by rw [size_crU,z8_size]) (by first|rfl|(rw [z8_size];rfl)) z8_ones ?_)|fail)
   refine bodyPost_ret (results_row_tmp rfl _ _ (w.heap.size + 1) tR z8.toArray (0,0) _ rfl (setRow_heap _ _ _ _ _ _ HR1.out) Tryz.underlying33 rfl (by rw [size_crU,z8_size])) rfl ?_
   exact ⟨rfl,below_setRow bel (by omega) _⟩
 exact AllReadyH.nil
set_option linter.unusedSimpArgs false in
set_option maxRecDepth 100000 in
set_option maxHeartbeats 1000000 in
theorem con_KDec0 {v:Value} {w:World} (hv:Bs w v [48,0]):Calls Tryz.prog 6 #[v] w fun e w'=>e=.returned (.tuple #[.agg z8.toArray,.iface 46 (.int .i64 7)])∧Below w.heap.size w w':=by
 have HV:Hid (Bs w v [48,0]):=hv
 obtain ⟨ao,cap,rfl,-,-,-⟩:=hv
 have R0:=Blk.new w z8 33 w.heap.size rfl
 have bel:Below w.heap.size w (w.alloc (.cells z8.toArray 33)):=(Below.refl _ _).alloc (Nat.le_refl _) _
 have hz:=zero_cr8.out
 go_enter Tryz.func6,Tryz.ntmps6
 go_upto_region 1 with fail
 clear hz
 generalize w.alloc (.cells z8.toArray 33)=W at *
 go_wp2_with fail
 refine (con_Parse (HV.out.later bel) (byt_of _ (fun j hj=>by match j,hj with|0,_=>decide|1,_=>decide))).mono ?_
 rintro e w1 ⟨hok,-⟩
 obtain ⟨cs,rfl,hd,hb⟩:=hok _ parse_48k
 have HL5:Hid (cs.length=5):=hd.now.five
 have HS5:Hid (cs.toArray.size=5):=by show _=_;rw [List.size_toArray];exact HL5.out
 have HO5:Hid (OneC cs):=hd.now.ones
 have HT:Hid (TlAt w1 (.mk 0 16 true [] []) cs):=hd.now
 replace R0:=R0.later hb
 replace bel:=below_step bel hb
 clear hok hd hb
 have hz:=zero_tlv.out
 replace HT:Hid (TlAt (w1.alloc (.cells cs.toArray 53)) (.mk 0 16 true [] []) cs):=HT.out.later ((Below.refl _ _).alloc (Nat.le_refl _) _)
 replace R0:=R0.alloc (.cells cs.toArray 53)
 replace bel:=below_alloc (o:=.cells cs.toArray 53) bel
 have Bt:=Blk.new w1 cs 53 w1.heap.size rfl
 go_upto_region 2 with (first|((with_reducible show wpList _ _ _ ({ dst:=_,op:=.store _ _ _,type:=_,pos:=_,after:=_,guard:=_ } :: _) _ _);refine wpList_store_row rfl 53 _ _ rfl w1.heap.size cs.toArray rfl rfl 53 _ (heap_alloc_last _ _) (by rw [size_tlv,HS5.out]) (by first|rfl|(rw [HS5.out];rfl)) HO5.out ?_;rw [World.setRow_alloc_new])|fail)
 obtain ⟨gt,hgt⟩:∃ g,g=w1.heap.size:=⟨_,rfl⟩
 rw [← hgt] at Bt ⊢
 generalize w1.alloc (.cells cs.toArray 53)=V1 at *
 clear hgt
 clear hz
 have q:=ne_nilL
 have l0:=Bt.lt
 have hld:(loadVar 53 ⟨gt,0,none⟩).run Tryz.prog V1=.ok (.agg cs.toArray) V1:=Bt.load Tryz.underlying53 rfl size_tlv HL5.out
 go_wp2_with (first|((with_reducible show wpList _ _ _ ({ dst:=_,op:=.load _ _,type:=_,pos:=_,after:=_,guard:=_ } :: _) _ _);refine wpList_load_run (by rfl) (by rfl) (by rfl) hld ?_)|fail)
 refine (c18_crlOf0 HT.out).mono ?_
 rintro e w2 ⟨rfl,hb⟩
 replace R0:=R0.later hb
 replace bel:=below_step bel hb
 clear hb hld l0 Bt q
 have hz:=zero_cr8.out
 replace R0:=R0.alloc (.cells z8.toArray 33)
 replace bel:=below_alloc (o:=.cells z8.toArray 33) bel
 have Bc:=Blk.new w2 z8 33 w2.heap.size rfl
 go_upto_region 5 with (first|((with_reducible show wpList _ _ _ ({ dst:=_,op:=.store _ _ _,type:=_,pos:=_,after:=_,guard:=_ } :: _) _ _);refine wpList_store_row rfl 33 _ _ rfl w2.heap.size z8.toArray rfl rfl 33 _ (heap_alloc_last _ _) (by rw [size_crU,z8_size]) (by first|rfl|(rw [z8_size];rfl)) z8_ones ?_;rw [World.setRow_alloc_new])|fail)
 obtain ⟨gc,hgc⟩:∃ g,g=w2.heap.size:=⟨_,rfl⟩
 rw [← hgc] at Bc ⊢
 generalize w2.alloc (.cells z8.toArray 33)=V2 at *
 clear hgc
 clear Bc
 have q:=ne_codeL 7
 obtain ⟨tR,hR⟩:=R0
 have HR1:Hid _:=hR
 clear hR
 go_wp2_with (first|((with_reducible show wpList _ _ _ ({ dst:=_,op:=.store _ _ _,type:=_,pos:=_,after:=_,guard:=_ } :: _) _ _);refine wpList_store_row rfl 33 _ _ rfl (w.heap.size) z8.toArray rfl rfl tR _ HR1.out (by rw [size_crU,z8_size]) (by first|rfl|(rw [z8_size];rfl)) z8_ones ?_)|fail)
 refine bodyPost_ret (results_row_tmp rfl _ _ (w.heap.size) tR z8.toArray (0,0) _ rfl (setRow_heap _ _ _ _ _ _ HR1.out) Tryz.underlying33 rfl (by rw [size_crU,z8_size])) rfl ?_
 exact ⟨rfl,below_setRow bel (by omega) _⟩
end Go.Proofs.YtohcdbifhnfcbaaGreatDoor
