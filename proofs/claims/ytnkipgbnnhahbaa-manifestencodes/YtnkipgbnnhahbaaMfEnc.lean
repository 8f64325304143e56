/- Encode: what the program answers. -/
import Derived.Test.YtnkipgbnnhahbaaMfElt
import Derived.Test.YtnkipgbnnhahbaaMfFits
import Derived.Test.YtnkipgbnnhahbaaClOpt
import Derived.Test.YtnkipgbnnhahbaaRows
import Derived.Deep.OwnRows
import Derived.Deep.AppendLies
import Derived.Great.BuildSlice
import Derived.Laws.Rows
import Derived.BigQuiet
import Derived.Deep.WholeRow
import Derived.Deep.RegionHeld3
import Derived.Deep.DeepCutAuto
import Derived.Deep.DeepFit
namespace Go.Proofs.Ytnkipgbnnhahbaa
open Go.RowKit
/-- what Encode tells -/
def MEncR (w:World) (m:Mf) (e:Ending) (w':World):Prop:=Below w.heap.size w w'∧(¬ MayM m→e=.returned (.tuple #[.slice none 0 0,.iface 38 (.int .i64 1)]))∧(MayM m→∃ v:Value,e=.returned (.tuple #[v,.nilIface])∧Bs w' v (bytesT (mfT m)))
theorem MEncR.no {w w':World} {m:Mf} (h:¬ MayM m) (hb:Below w.heap.size w w'):MEncR w m (.returned (.tuple #[.slice none 0 0,.iface 38 (.int .i64 1)])) w':=⟨hb,fun _=>rfl,fun k=>absurd k h⟩
theorem MEncR.yes {w w':World} {m:Mf} {v:Value} (h:MayM m) (hv:Bs w' v (bytesT (mfT m))) (hb:Below w.heap.size w w'):MEncR w m (.returned (.tuple #[v,.nilIface])) w':=⟨hb,fun k=>absurd h k,fun _=>⟨v,rfl,hv⟩⟩
set_option linter.unusedSimpArgs false in
set_option maxRecDepth 100000 in
set_option maxHeartbeats 1000000 in
theorem con_MEncode {m:Mf} {cs:List Value} {w:World} (h:MfAt w m cs) (wf:WfM m):Calls Try.prog 6 #[.agg cs.toArray] w (MEncR w m):=by
 have HWf:Hid (WfM m):=wf
 have HC:Hid (MfAt w m cs):=h
 have HL7:Hid (cs.length=7):=h.len
 clear wf h
 have B0:=Blk.new w cs 24 w.heap.size rfl
 have bel:Below w.heap.size w (w.alloc (.cells cs.toArray 24)):=(Below.refl _ _).alloc (Nat.le_refl _) _
 go_enter Try.func6,Try.ntmps6
 go_upto_region 1 with fail
 generalize w.alloc (.cells cs.toArray 24)=W at *
 have l0:=B0.lt
 have hld:(loadVar 24 ⟨w.heap.size,0,none⟩).run Try.prog W=.ok (.agg cs.toArray) W:=B0.load Try.underlying24 rfl size_mfE HL7.out
 go_wp2_with (first|((with_reducible show wpList _ _ _ ({ dst:=_,op:=.load _ _,type:=_,pos:=_,after:=_,guard:=_ } :: _) _ _);refine wpList_load_run (by rfl) (by rfl) (by rfl) hld ?_)|fail)
 refine (c20_element (HC.out.later bel) HWf.out).mono ?_
 rintro e w1 ⟨hb,hbad,hok⟩
 replace bel:=below_step bel hb
 clear hb hld l0 B0
 have hz:=zero_tlv.out
 by_cases hm:MayM m
 rotate_left
 ·obtain ⟨c9,rfl⟩:=hbad hm
  have H:Hid (¬ MayM m):=hm
  clear hbad hok hm
  have q:=ne_codeL c9
  replace bel:=below_alloc (o:=.cells #[.int .i64 0,.int .i64 0,.bool false,.slice none 0 0,.slice none 0 0] 42) bel
  go_wp2_with (first|((with_reducible show wpList _ _ _ ({ dst:=_,op:=.store _ _ _,type:=_,pos:=_,after:=_,guard:=_ } :: _) _ _);refine wpList_store_row rfl 42 _ _ rfl w1.heap.size #[.int .i64 0,.int .i64 0,.bool false,.slice none 0 0,.slice none 0 0] rfl rfl 42 _ (heap_alloc_last _ _) (by rw [size_tlv];rfl) rfl (by simp [Value.oneCell']) ?_;rw [World.setRow_alloc_new])|fail)
  refine bodyPost_ret (results_tmp2 rfl _ _ _) rfl ?_
  exact MEncR.no H.out bel
 obtain ⟨es,rfl,ht⟩:=hok hm
 have H:Hid (MayM m):=hm
 have HLe:Hid (es.length=5):=ht.five
 have HOe:Hid (OneC es):=ht.ones
 have HT:Hid (TlAt w1 (mfT m) es):=ht
 clear hbad hok hm ht
 have HS5:Hid (es.toArray.size=5):=by show _=_;rw [List.size_toArray];exact HLe.out
 have hb:Below w1.heap.size w1 (w1.alloc (.cells es.toArray 42)):=(Below.refl _ _).alloc (Nat.le_refl _) _
 replace HT:Hid (TlAt (w1.alloc (.cells es.toArray 42)) (mfT m) es):=HT.out.later hb
 replace bel:=below_step bel hb
 clear hb
 have BE:=Blk.new w1 es 42 w1.heap.size rfl
 go_upto_region 2 with (first|((with_reducible show wpList _ _ _ ({ dst:=_,op:=.store _ _ _,type:=_,pos:=_,after:=_,guard:=_ } :: _) _ _);refine wpList_store_row rfl 42 _ _ rfl w1.heap.size es.toArray rfl rfl 42 _ (heap_alloc_last _ _) (by rw [size_tlv,HS5.out]) (by rw [HS5.out];rfl) HOe.out ?_;rw [World.setRow_alloc_new])|fail)
 clear hz
 obtain ⟨gt,hgt⟩:∃ g,g=w1.heap.size:=⟨_,rfl⟩
 rw [← hgt] at BE ⊢
 generalize w1.alloc (.cells es.toArray 42)=V1 at *
 clear hgt
 have q:=ne_nilL
 have l1:=BE.lt
 have hldt:(loadVar 42 ⟨gt,0,none⟩).run Try.prog V1=.ok (.agg es.toArray) V1:=BE.load Try.underlying42 rfl size_tlv HLe.out
 have HZ:Hid (Sm 300 (mfT m)):=sm_mf H.out.2.2.2.2
 have HW0:Hid (wrN (mfT m)=0):=mf_wr H.out
 go_wp2_with (first|((with_reducible show wpList _ _ _ ({ dst:=_,op:=.load _ _,type:=_,pos:=_,after:=_,guard:=_ } :: _) _ _);refine wpList_load_run (by rfl) (by rfl) (by rfl) hldt ?_)|fail)
 refine (c17_Write HT.out (by have:=HZ.out.1;omega)).mono ?_
 rintro e w2 ⟨v2,rfl,hv2,hn2,hb⟩
 have HB2:Hid (Bs w2 v2 (bytesT (mfT m))):=by have h:=hv2;unfold wrB at h;rw [if_pos HW0.out] at h;exact h
 rw [HW0.out,erN_0]
 replace bel:=below_step bel hb
 clear hb hv2 hn2 hldt l1 q BE
 go_wp2_with fail
 refine bodyPost_ret (results_tmp2 rfl _ _ _) rfl ?_
 exact MEncR.yes H.out HB2.out bel
end Go.Proofs.Ytnkipgbnnhahbaa
