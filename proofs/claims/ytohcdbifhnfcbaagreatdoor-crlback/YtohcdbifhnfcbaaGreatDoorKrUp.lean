/- Body: what the program answers. The law's up. -/
import Derived.Test.YtohcdbifhnfcbaaGreatDoorKrBdy
import Derived.Test.YtohcdbifhnfcbaaGreatDoorClWr
import Derived.Test.YtohcdbifhnfcbaaGreatDoorKrUp0
import Derived.Test.YtohcdbifhnfcbaaGreatDoorKdBody
import Derived.Test.YtohcdbifhnfcbaaGreatDoorDrTG
import Derived.Test.YtohcdbifhnfcbaaGreatDoorRows
import Derived.Deep.OwnRows
import Derived.Deep.AppendLies
import Derived.Great.BuildSlice
import Derived.Laws.Rows
import Derived.BigQuiet
import Derived.Deep.WholeRow
import Derived.Deep.RegionHeld3
import Derived.Deep.DeepCutAuto
import Derived.Deep.DeepFit
namespace Go.Proofs.YtohcdbifhnfcbaaGreatDoor
open Go.RowKit
/-- what Body tells -/
def BodyR8 (w:World) (c:Cr) (e:Ending) (w':World):Prop:=Below w.heap.size w w'∧(¬ MayR8 c→e=.returned (.tuple #[.slice none 0 0,.iface 46 (.int .i64 1)]))∧(MayR8 c→∃ v:Value,e=.returned (.tuple #[v,.nilIface])∧Bs w' v (bytesT (crBody c))∧NewV w v)
theorem BodyR8.no {w w':World} {c:Cr} (h:¬ MayR8 c) (hb:Below w.heap.size w w'):BodyR8 w c (.returned (.tuple #[.slice none 0 0,.iface 46 (.int .i64 1)])) w':=⟨hb,fun _=>rfl,fun k=>absurd k h⟩
theorem BodyR8.yes {w w':World} {c:Cr} {v:Value} (h:MayR8 c) (hv:Bs w' v (bytesT (crBody c))) (hn:NewV w v) (hb:Below w.heap.size w w'):BodyR8 w c (.returned (.tuple #[v,.nilIface])) w':=⟨hb,fun k=>absurd h k,fun _=>⟨v,rfl,hv,hn⟩⟩
set_option linter.unusedSimpArgs false in
set_option maxRecDepth 100000 in
set_option maxHeartbeats 2000000 in
theorem con_KBody {c:Cr} {cs:List Value} {w:World} (h:CrAt w c cs) (wf:WfCr c) (hsg:SmG c.gone):Calls Tryz.prog 11 #[.agg cs.toArray] w (BodyR8 w c):=by
 have HWf:Hid (WfCr c):=wf
 have HSg:Hid (SmG c.gone):=hsg
 clear hsg
 have HC:Hid (CrAt w c cs):=h
 have HL17:Hid (cs.length=17):=h.len
 clear wf h
 have B0:=Blk.new w cs 33 w.heap.size rfl
 have bel:=bal w (.cells cs.toArray 33)
 go_enter Tryz.func11,Tryz.ntmps11
 go_upto_region 1 with fail
 generalize w.alloc (.cells cs.toArray 33)=W at *
 have l0:=B0.lt
 have hld:(loadVar 33 ⟨w.heap.size,0,none⟩).run Tryz.prog W=.ok (.agg cs.toArray) W:=B0.load Tryz.underlying33 rfl size_cr HL17.out
 go_wp2_with (first|((with_reducible show wpList _ _ _ ({ dst:=_,op:=.load _ _,type:=_,pos:=_,after:=_,guard:=_ } :: _) _ _);refine wpList_load_run (by rfl) (by rfl) (by rfl) hld ?_)|fail)
 refine (c18_bodyElement (HC.out.later bel) HWf.out HSg.out).mono ?_
 rintro e w1 ⟨hb,hbad,hok⟩
 replace bel:=below_step bel hb
 clear hb hld l0 B0
 have hz:=zero_tlv.out
 by_cases hm:MayR8 c
 rotate_left
 ·obtain ⟨c9,rfl⟩:=hbad (by cases hx:bodyP c with|none=>rfl|some T=>exact absurd (may_bodyP hx) hm)
  have H:Hid (¬ MayR8 c):=hm
  clear hbad hok hm
  have q:=ne_codeL c9
  replace bel:=below_alloc (o:=.cells #[.int .i64 0,.int .i64 0,.bool false,.slice none 0 0,.slice none 0 0] 53) bel
  go_wp2_with (first|((with_reducible show wpList _ _ _ ({ dst:=_,op:=.store _ _ _,type:=_,pos:=_,after:=_,guard:=_ } :: _) _ _);refine wpList_store_row rfl 53 _ _ rfl w1.heap.size #[.int .i64 0,.int .i64 0,.bool false,.slice none 0 0,.slice none 0 0] rfl rfl 53 _ (heap_alloc_last _ _) (by rw [size_tlv];rfl) rfl (by simp [Value.oneCell']) ?_;rw [World.setRow_alloc_new])|fail)
  refine bodyPost_ret (results_tmp2 rfl _ _ _) rfl ?_
  exact BodyR8.no H.out bel
 obtain ⟨es,rfl,hd⟩:=hok _ (bodyP_may hm)
 have H:Hid (MayR8 c):=hm
 have HLe:Hid (es.length=5):=hd.now.five
 have HOe:Hid (OneC es):=hd.now.ones
 have HT:Hid (TlAt w1 (crBody c) es):=hd.now
 clear hbad hok hm hd
 have HS5:Hid (es.toArray.size=5):=by show _=_;rw [List.size_toArray];exact HLe.out
 have hb:=bal w1 (.cells es.toArray 53)
 replace HT:=TlAtL HT hb
 replace bel:=below_step bel hb
 clear hb
 have BE:=Blk.new w1 es 53 w1.heap.size rfl
 go_upto_region 2 with (first|((with_reducible show wpList _ _ _ ({ dst:=_,op:=.store _ _ _,type:=_,pos:=_,after:=_,guard:=_ } :: _) _ _);refine wpList_store_row rfl 53 _ _ rfl w1.heap.size es.toArray rfl rfl 53 _ (heap_alloc_last _ _) (by rw [size_tlv,HS5.out]) (by rw [HS5.out];rfl) HOe.out ?_;rw [World.setRow_alloc_new])|fail)
 clear hz
 obtain ⟨gt,hgt⟩:∃ g,g=w1.heap.size:=⟨_,rfl⟩
 rw [← hgt] at BE ⊢
 generalize w1.alloc (.cells es.toArray 53)=V1 at *
 clear hgt
 have q:=ne_nilL
 have l1:=BE.lt
 have hldt:(loadVar 53 ⟨gt,0,none⟩).run Tryz.prog V1=.ok (.agg es.toArray) V1:=BE.load Tryz.underlying53 rfl size_tlv HLe.out
 have HZ:Hid (Sm 6000 (crBody c)):=sm_crBody H.out
 have HW0:Hid (wrN (crBody c)=0):=wr_crBody H.out
 go_wp2_with (first|((with_reducible show wpList _ _ _ ({ dst:=_,op:=.load _ _,type:=_,pos:=_,after:=_,guard:=_ } :: _) _ _);refine wpList_load_run (by rfl) (by rfl) (by rfl) hldt ?_)|fail)
 refine (c17_Write HT.out (by have:=HZ.out.1;omega)).mono ?_
 rintro e w2 ⟨v2,rfl,hv2,hn2,hb⟩
 have HB2:Hid (Bs w2 v2 (bytesT (crBody c))):=by have h:=hv2;unfold wrB at h;rw [if_pos HW0.out] at h;exact h
 have HNv:Hid (NewV w v2):=fun a m c e h=>Nat.le_trans bel.size (hn2 a m c e h)
 rw [HW0.out,erN_0]
 replace bel:=below_step bel hb
 clear hb hv2 hn2 hldt l1 q BE
 go_wp2_with fail
 refine bodyPost_ret (results_tmp2 rfl _ _ _) rfl ?_
 exact BodyR8.yes H.out HB2.out HNv.out bel
theorem eq_code8 (c:Int):∀ w:World,(binOp .eql 35 (.iface 46 (.int .i64 c)) (.iface 46 (.int .i64 c))).run Tryz.prog w=.ok (.bool true) w:=fun w=>by
 have:(binOp .eql 35 (.iface 46 (.int .i64 c)) (.iface 46 (.int .i64 c))).run Tryz.prog w=.ok (.bool (decide (c=c))) w:=by kernel_rfl
 rw [this];simp
theorem eq_nil8:∀ w:World,(binOp .eql 35 .nilIface .nilIface).run Tryz.prog w=.ok (.bool true) w:=fun _=>by kernel_rfl
set_option linter.unusedSimpArgs false in
set_option maxRecDepth 100000 in
set_option maxHeartbeats 2000000 in
theorem con_up18 {w:World}:Calls Tryz.prog 5 #[] w fun e w'=>e=.returned (.bool true)∧Below w.heap.size w w':=by
 have HB:Hid (Bs (w.alloc (.cells (u8s [48,0]).toArray 5)) (.slice (some ⟨w.heap.size,0,none⟩) 2 2) [48,0]):=Blk.bs (P:=[48,0]) (Blk.new w (u8s [48,0]) 5 w.heap.size rfl) rfl (by decide)
 have bel:=bal w (.cells (u8s [48,0]).toArray 5)
 go_enter Tryz.func5,Tryz.ntmps5
 go_wp2_with fail
 refine (con_KDec0 HB.out).mono ?_
 rintro e w1 ⟨rfl,hb⟩
 replace bel:=below_step bel hb
 clear hb
 have hz:=zero_cr8.out
 replace bel:=below_alloc (o:=.cells z8.toArray 33) bel
 have Bc:=Blk.new w1 z8 33 w1.heap.size rfl
 go_upto_region 2 with (first|((with_reducible show wpList _ _ _ ({ dst:=_,op:=.store _ _ _,type:=_,pos:=_,after:=_,guard:=_ } :: _) _ _);refine wpList_store_row rfl 33 _ _ rfl w1.heap.size z8.toArray rfl rfl 33 _ (heap_alloc_last _ _) (by rw [size_crU,z8_size]) (by first|rfl|(rw [z8_size];rfl)) z8_ones ?_;rw [World.setRow_alloc_new])|fail)
 obtain ⟨gc,hgc⟩:∃ g,g=w1.heap.size:=⟨_,rfl⟩
 rw [← hgc] at Bc ⊢
 generalize w1.alloc (.cells z8.toArray 33)=V1 at *
 clear hgc
 clear Bc
 go_wp2_with fail
 refine (con_KBody (cr0_at _) cr0_wf (fun g h=>by simp [cr0] at h)).mono ?_
 rintro e w2 ⟨hb,-,hyes⟩
 obtain ⟨v1,rfl,hv1,-⟩:=hyes cr0_may
 have HV1:Hid (Bs w2 v1 (bytesT (crBody cr0))):=hv1
 replace bel:=below_step bel hb
 clear hb hyes
 obtain ⟨a1,c1,hve1,-,-,-⟩:=id hv1
 obtain ⟨L1,hL1⟩:∃ z,(bytesT (crBody cr0)).length=z:=⟨_,rfl⟩
 have HL1:Hid ((bytesT (crBody cr0)).length=L1):=hL1
 rw [hL1] at hve1
 subst hve1
 clear hv1 hL1
 go_wp2_with fail
 refine (r18_Body (cr0_at _) cr0_wf).mono ?_
 rintro e w3 ⟨hb,-,hyes⟩
 obtain ⟨v2,rfl,hv2⟩:=hyes cr0_may
 have HV2:Hid (Bs w3 v2 (bytesT (crBody cr0))):=hv2
 replace HV1:=BsL HV1 hb
 replace bel:=below_step bel hb
 clear hb hyes
 obtain ⟨a2,c2,hve2,-,-,-⟩:=id hv2
 rw [HL1.out] at hve2
 subst hve2
 clear hv2
 obtain ⟨Z,hZ⟩:∃ z,strOfNums (bytesT (crBody cr0))=z:=⟨_,rfl⟩
 have x1:=conv_any HV1.out
 have x2:=conv_any HV2.out
 rw [hZ] at x1 x2
 have sq:(Z.toList == Z.toList)=true:=beq_self_eq_true _
 clear hZ hz
 have q7:=eq_code8 7
 have qn:=eq_nil8
 go_wp2_with fail
 go_ret
 exact ⟨rfl,bel⟩
end Go.Proofs.YtohcdbifhnfcbaaGreatDoor
