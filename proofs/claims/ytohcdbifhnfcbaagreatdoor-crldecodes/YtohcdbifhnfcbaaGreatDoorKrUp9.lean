import Derived.Test.YtohcdbifhnfcbaaGreatDoorKrBdy0
import Derived.Test.YtohcdbifhnfcbaaGreatDoorKdBody0
import Derived.Test.YtohcdbifhnfcbaaGreatDoorDcG3
import Derived.Test.YtohcdbifhnfcbaaGreatDoorDrTG
import Derived.Test.YtohcdbifhnfcbaaGreatDoorDrDG
import Derived.Test.YtohcdbifhnfcbaaGreatDoorNlSG
import Derived.Test.YtohcdbifhnfcbaaGreatDoorKrEl
import Derived.Test.YtohcdbifhnfcbaaGreatDoorRows
import Derived.Deep.OwnRows
import Derived.Deep.AppendLies
import Derived.Great.BuildSlice
import Derived.Laws.Rows
import Derived.BigQuiet
import Derived.Deep.WholeRow
import Derived.Deep.RegionHeld3
import Derived.Deep.DeepCutAuto
import Derived.Deep.DeepFit
namespace Go.Proofs.YtohcdbifhnfcbaaGreatDoor
open Go.RowKit
def z8:List Value:=[.slice none 0 0,.int .i64 0,.int .i64 0,.slice none 0 0,.slice none 0 0,.int .u64 0,.int .u64 0,.int .u64 0,.int .u64 0,.int .u64 0,.int .u64 0,.int .u64 0,.int .u64 0,.int .u64 0,.int .u64 0,.int .u64 0,.int .u64 0]
theorem Zai:z8.toArray.size=17:=rfl
theorem Zaw:Zca z8:=by unfold z8;simp[Zca,Value.oneCell']
theorem Zam:Hid (∀ w:World,(zeroValue 33).run Tryz.prog w=.ok (.agg z8.toArray) w):=fun w=>by kernel_rfl
theorem ZmG:Zaq [48,0]=.ok (.mk 0 16 true [] []):=by rfl
theorem Zaf:(Tryz.prog.info? 33).map (·.size)=some 17:=by kernel_rfl
def cr0:Cr:=⟨[],0,0,[],[],0,0⟩
theorem ZpW (w:World):ZcH w cr0 z8:=⟨.slice none 0 0,.slice none 0 0,.slice none 0 0,[.int .u64 0,.int .u64 0,.int .u64 0,.int .u64 0,.int .u64 0,.int .u64 0],[.int .u64 0,.int .u64 0,.int .u64 0,.int .u64 0,.int .u64 0,.int .u64 0],rfl,Zcq.nil0 w,Zfc.nil0 w,⟨none,0,rfl,Nat.zero_le _,Nat.zero_le _,fun h=>absurd h (Nat.lt_irrefl 0)⟩,U6.zero,U6.zero⟩
theorem ZpX:WfCr cr0:=⟨fun i p h=>by simp[cr0] at h,by simp[cr0],by simp[cr0],fun g h=>by simp[cr0] at h,fun j=>by simp[cr0]⟩
theorem ZlQ:ZcB cr0:=⟨by rfl,⟨_,show Zcv 0=some _ from rfl⟩,⟨_,show Zcv 0=some _ from rfl⟩,by simp[cr0],fun g h=>by simp[cr0] at h⟩
set_option linter.unusedSimpArgs false in
set_option maxRecDepth 100000 in
set_option maxHeartbeats 400000 in
theorem ZcS {c t:Int} {m:Bool} {b:List Int} {ks:List Tl} {cs:List Value} {w:World} (h:Zav w (.mk c t m b ks) cs) :
  Calls Tryz.prog 37 #[.agg cs.toArray] w fun e w'=>e=.returned (.bool (Zek (.mk c t m b ks)))∧Below w.heap.size w w':=by
 rw[Zav] at h;obtain ⟨bv,ka,kc,rfl,hbv,-,-,-⟩:=h;obtain ⟨ba,bc,rfl,-,-,-⟩:=hbv;have B0:=Blk.new w [.int .i64 c,.int .i64 t,.bool m,.slice ba b.length bc,.slice ka ks.length kc] 53 w.heap.size rfl;have bel:Below w.heap.size w (w.alloc (.cells #[.int .i64 c,.int .i64 t,.bool m,.slice ba b.length bc,.slice ka ks.length kc] 53)):=(Below.refl _ _).alloc (Nat.le_refl _) _;go_enter Tryz.func37,Tryz.ntmps37;go_upto_region 1 with fail;generalize w.alloc (.cells #[.int .i64 c,.int .i64 t,.bool m,.slice ba b.length bc,.slice ka ks.length kc] 53)=W at *;have e0:=B0.cell 0 _ rfl;have e1:=B0.cell 1 _ rfl;have e2:=B0.cell 2 _ rfl;have lt0:=B0.lt
 by_cases c1:c=0
 rotate_left
 ·have H:Hid (Zek (.mk c t m b ks)=false):=decide_eq_false (fun h=>c1 h.1)
  have d1:(c == 0)=false:=by rw[beq_eq_false_iff_ne];exact c1
  clear c1;go_wp2_with fail;go_ret;exact ⟨by rw[H.out];rfl,bel⟩
 subst c1
 by_cases c2:t=16
 rotate_left
 ·have H:Hid (Zek (.mk 0 t m b ks)=false):=decide_eq_false (fun h=>c2 h.2.1)
  have d2:(t == 16)=false:=by rw[beq_eq_false_iff_ne];exact c2
  clear c2;go_wp2_with fail;go_ret;exact ⟨by rw[H.out];rfl,bel⟩
 subst c2
 cases m
 all_goals
  go_wp2_with fail;go_ret;exact ⟨rfl,bel⟩
set_option linter.unusedSimpArgs false in
set_option maxRecDepth 100000 in
set_option maxHeartbeats 1000000 in
theorem Zkg {cs:List Value} {w:World} (h:Zav w (.mk 0 16 true [] []) cs):Calls Tryz.prog 15 #[.agg cs.toArray] w fun e w'=>e=.returned (.tuple #[.agg z8.toArray,.iface 46 (.int .i64 7)])∧Below w.heap.size w w':=by
 have h9:=h;rw[Zav] at h;obtain ⟨bv,ka,kc,rfl,hbv,-,-,-⟩:=h;obtain ⟨ba,bc,rfl,-,-,-⟩:=hbv;have HT:Hid (Zav w (.mk 0 16 true [] []) [.int .i64 0,.int .i64 16,.bool true,.slice ba 0 bc,.slice ka 0 kc]):=h9;replace HT:Hid (Zav w (.mk 0 16 true [] []) [.int .i64 0,.int .i64 16,.bool true,.slice ba 0 bc,.slice ka 0 kc]):=HT;clear h9;have B0:=(Blk.new w [.int .i64 0,.int .i64 16,.bool true,.slice ba 0 bc,.slice ka 0 kc] 53 w.heap.size rfl).alloc (.cells z8.toArray 33);have R0:=Blk.new (w.alloc (.cells #[.int .i64 0,.int .i64 16,.bool true,.slice ba 0 bc,.slice ka 0 kc] 53)) z8 33 (w.heap.size+1) (by simp);have bel:Below w.heap.size w ((w.alloc (.cells #[.int .i64 0,.int .i64 16,.bool true,.slice ba 0 bc,.slice ka 0 kc] 53)).alloc (.cells z8.toArray 33)):=((Below.refl _ _).alloc (Nat.le_refl _) _).alloc (by simp) _;have hz:=Zam.out;go_enter Tryz.func15,Tryz.ntmps15;go_upto_region 1 with fail;clear hz;generalize (w.alloc (.cells #[.int .i64 0,.int .i64 16,.bool true,.slice ba 0 bc,.slice ka 0 kc] 53)).alloc (.cells z8.toArray 33)=W at *;have l0:=B0.lt;obtain ⟨S1,hS1,KB1,KI1,KD1,KL1,KA1⟩:∃ S:World→Prop,Hd S W∧Hid (∀ wx,Hd S wx→Below W.heap.size W wx)∧Hid (∀ wx,Below W.heap.size W wx→Hd S wx)∧Hid (∀ wx,Hd S wx→Hd S wx.drew)∧Hid (∀ w1 w2,Hd S w1→Below w1.heap.size w1 w2→Hd S w2)∧Hid (∀ w1 o,Hd S w1→Hd S (w1.alloc o)):=⟨fun wx=>Below W.heap.size W wx,Below.refl _ _,fun _ h=>h,fun _ h=>h,fun wx h=>Below.drew h,fun w1 w2 h hb=>Zaa h hb,fun w1 o h=>Below.alloc h h.size o⟩;have HB0:Hid (Blk W w.heap.size [.int .i64 0,.int .i64 16,.bool true,.slice ba 0 bc,.slice ka 0 kc]):=B0;have HR0:Hid (Blk W (w.heap.size+1) z8):=R0;have HBel:Hid (Below w.heap.size w W):=bel;have rt:Hid (∀ wx,Hd S1 wx→(loadVar 53 ⟨w.heap.size,0,none⟩).run Tryz.prog wx=.ok (.agg #[.int .i64 0,.int .i64 16,.bool true,.slice ba 0 bc,.slice ka 0 kc]) wx):=fun wx h=>(HB0.out.later (KB1.out wx h)).load Tryz.underlying53 rfl Zae rfl;have ra:∀ wx,Hd S1 wx→wx.cell? ⟨w.heap.size,4,none⟩=some (.slice ka 0 kc):=fun wx h=>(HB0.out.later (KB1.out wx h)).cell 4 _ rfl;have rl:∀ wx,Hd S1 wx→w.heap.size<wx.heap.size:=fun wx h=>(HB0.out.later (KB1.out wx h)).lt;clear B0 R0 bel l0;refine wp_region_noPanic ?_;refine wp_region_held_drew (S:=Hd S1) (by kernel_rfl) (KD1.out _ hS1) (fun hHeld=>?_);clear hS1;generalize World.drew _=wd1 at *;refine trA 0 (.agg #[.int .i64 0,.int .i64 16,.bool true,.slice ba 0 bc,.slice ka 0 kc]) rt.out ?_;refine wpAnyH_ready (rs:=[1]) (by kernel_rfl) (by simp) ?_;refine AllReadyH.cons rfl (fun K hK=>?_) ?_
 ·go_simp
  refine(ZcS (HT.out.later (Zaa HBel.out (KB1.out _ hHeld)))).mono ?_;rintro e z1 ⟨rfl,hb⟩;refine hK.out _ _ ?_ (fun hHeld2=>?_)
  ·exact KL1.out _ _ hHeld hb
  ·clear hK K
   try clear hHeld
   have hHeld:=hHeld2;clear hHeld2
   try simp only[Act.put,List.getElem_toArray,List.getElem_cons_zero,List.getElem_cons_succ,List.setIfInBounds_toArray,List.set_cons_zero,List.set_cons_succ]
   clear hb;rw[show Zek (.mk 0 16 true [] [])=true from rfl];refine tkA 2 ?_;refine tkA 3 ?_;refine tkA 4 ?_;refine tkA 5 ?_;refine tkA 6 ?_;refine tkA 7 ?_;refine tkA 8 ?_;refine tkA 9 ?_;refine skA 10 ?_;refine skA 11 ?_;refine skA 12 ?_;refine skA 13 ?_;refine skA 14 ?_;refine skA 15 ?_;refine skA 16 ?_;refine tkA 17 ?_;refine wpAnyH_done (by kernel_rfl) ?_ _;refine NoPanic.normal ?_;have st:=KB1.out _ hHeld;have R0:=HR0.out.later st;have bel:=Zaa HBel.out st;clear hHeld ra rl;have hz:=Zam.out;obtain ⟨tR,hR⟩:=R0;have HR1:Hid _:=hR;clear hR;go_wp2_with (first|((with_reducible show wpList _ _ _ (⟨_,.store _ _ _,_,_,_,_⟩::_) _ _);refine wpList_store_row rfl 33 _ _ rfl (w.heap.size+1) z8.toArray rfl rfl tR _ HR1.out (by rw[Zaf,Zai]) (by first|rfl|(rw[Zai];rfl)) Zaw ?_)|fail);refine bodyPost_ret (Zac rfl _ _ (w.heap.size+1) tR z8.toArray (0,0) _ rfl (setRow_heap _ _ _ _ _ _ HR1.out) Tryz.underlying33 rfl (by rw[Zaf,Zai])) rfl ?_;exact ⟨rfl,below_setRow bel (by omega) _⟩
 exact AllReadyH.nil
set_option linter.unusedSimpArgs false in
set_option maxRecDepth 100000 in
set_option maxHeartbeats 1000000 in
theorem ZlL {v:Value} {w:World} (hv:Bs w v [48,0]):Calls Tryz.prog 6 #[v] w fun e w'=>e=.returned (.tuple #[.agg z8.toArray,.iface 46 (.int .i64 7)])∧Below w.heap.size w w':=by
 have HV:Hid (Bs w v [48,0]):=hv;obtain ⟨ao,cap,rfl,-,-,-⟩:=hv;have R0:=Blk.new w z8 33 w.heap.size rfl;have bel:Below w.heap.size w (w.alloc (.cells z8.toArray 33)):=(Below.refl _ _).alloc (Nat.le_refl _) _;have hz:=Zam.out;go_enter Tryz.func6,Tryz.ntmps6;go_upto_region 1 with fail;clear hz;generalize w.alloc (.cells z8.toArray 33)=W at *;go_wp2_with fail;refine (ZfB (HV.out.later bel) (Zls _ (fun j hj=>by match j,hj with|0,_=>decide|1,_=>decide))).mono ?_;rintro e w1 ⟨hok,-⟩;obtain ⟨cs,rfl,hd,hb⟩:=hok _ ZmG;have HL5:Hid (cs.length=5):=hd.now.five;have HS5:Hid (cs.toArray.size=5):=by show _=_;rw[List.size_toArray];exact HL5.out
 have HO5:Hid (Zca cs):=hd.now.ones;have HT:Hid (Zav w1 (.mk 0 16 true [] []) cs):=hd.now;replace R0:=R0.later hb;replace bel:=Zaa bel hb;clear hok hd hb;have hz:=Zaj.out;replace HT:Hid (Zav (w1.alloc (.cells cs.toArray 53)) (.mk 0 16 true [] []) cs):=HT.out.later ((Below.refl _ _).alloc (Nat.le_refl _) _);replace R0:=R0.alloc (.cells cs.toArray 53);replace bel:=Zah (o:=.cells cs.toArray 53) bel;have Bt:=Blk.new w1 cs 53 w1.heap.size rfl;go_upto_region 2 with (first|((with_reducible show wpList _ _ _ (⟨_,.store _ _ _,_,_,_,_⟩::_) _ _);refine wpList_store_row rfl 53 _ _ rfl w1.heap.size cs.toArray rfl rfl 53 _ (heap_alloc_last _ _) (by rw[Zae,HS5.out]) (by first|rfl|(rw[HS5.out];rfl)) HO5.out ?_;rw[World.setRow_alloc_new])|fail);obtain ⟨gt,hgt⟩:∃ g,g=w1.heap.size:=⟨_,rfl⟩;rw[← hgt] at Bt ⊢;generalize w1.alloc (.cells cs.toArray 53)=V1 at *;clear hgt;clear hz;have q:=ZaU;have l0:=Bt.lt;have hld:(loadVar 53 ⟨gt,0,none⟩).run Tryz.prog V1=.ok (.agg cs.toArray) V1:=Bt.load Tryz.underlying53 rfl Zae HL5.out;go_wp2_with (first|((with_reducible show wpList _ _ _ (⟨_,.load _ _,_,_,_,_⟩::_) _ _);refine Zab (by rfl) (by rfl) (by rfl) hld ?_)|fail);refine (Zkg HT.out).mono ?_;rintro e w2 ⟨rfl,hb⟩;replace R0:=R0.later hb;replace bel:=Zaa bel hb;clear hb hld l0 Bt q;have hz:=Zam.out;replace R0:=R0.alloc (.cells z8.toArray 33);replace bel:=Zah (o:=.cells z8.toArray 33) bel;have Bc:=Blk.new w2 z8 33 w2.heap.size rfl;go_upto_region 5 with (first|((with_reducible show wpList _ _ _ (⟨_,.store _ _ _,_,_,_,_⟩::_) _ _);refine wpList_store_row rfl 33 _ _ rfl w2.heap.size z8.toArray rfl rfl 33 _ (heap_alloc_last _ _) (by rw[Zaf,Zai]) (by first|rfl|(rw[Zai];rfl)) Zaw ?_;rw[World.setRow_alloc_new])|fail);obtain ⟨gc,hgc⟩:∃ g,g=w2.heap.size:=⟨_,rfl⟩;rw[← hgc] at Bc ⊢;generalize w2.alloc (.cells z8.toArray 33)=V2 at *;clear hgc;clear Bc;have q:=Zbh 7;obtain ⟨tR,hR⟩:=R0;have HR1:Hid _:=hR;clear hR;go_wp2_with (first|((with_reducible show wpList _ _ _ (⟨_,.store _ _ _,_,_,_,_⟩::_) _ _);refine wpList_store_row rfl 33 _ _ rfl (w.heap.size) z8.toArray rfl rfl tR _ HR1.out (by rw[Zaf,Zai]) (by first|rfl|(rw[Zai];rfl)) Zaw ?_)|fail);refine bodyPost_ret (Zac rfl _ _ (w.heap.size) tR z8.toArray (0,0) _ rfl (setRow_heap _ _ _ _ _ _ HR1.out) Tryz.underlying33 rfl (by rw[Zaf,Zai])) rfl ?_;exact ⟨rfl,below_setRow bel (by omega) _⟩
def Zfo (w:World) (c:Cr) (e:Ending) (w':World):Prop:=Below w.heap.size w w'∧(¬ ZcB c→e=.returned (.tuple #[.slice none 0 0,.iface 46 (.int .i64 1)]))∧(ZcB c→∃ v:Value,e=.returned (.tuple #[v,.nilIface])∧Bs w' v (Zak (Zbe c))∧Zbg w v)
theorem Zfo.no {w w':World} {c:Cr} (h:¬ ZcB c) (hb:Below w.heap.size w w'):Zfo w c (.returned (.tuple #[.slice none 0 0,.iface 46 (.int .i64 1)])) w':=⟨hb,fun _=>rfl,fun k=>absurd k h⟩
theorem Zfo.yes {w w':World} {c:Cr} {v:Value} (h:ZcB c) (hv:Bs w' v (Zak (Zbe c))) (hn:Zbg w v) (hb:Below w.heap.size w w'):Zfo w c (.returned (.tuple #[v,.nilIface])) w':=⟨hb,fun k=>absurd h k,fun _=>⟨v,rfl,hv,hn⟩⟩
set_option linter.unusedSimpArgs false in
set_option maxRecDepth 100000 in
set_option maxHeartbeats 2000000 in
theorem Zkp {c:Cr} {cs:List Value} {w:World} (h:ZcH w c cs) (wf:WfCr c) (h00:c.gone.length=0):Calls Tryz.prog 11 #[.agg cs.toArray] w (Zfo w c):=by
 have HWf:Hid (WfCr c):=wf;have H00:Hid (c.gone.length=0):=h00;clear h00;have HC:Hid (ZcH w c cs):=h;have HL17:Hid (cs.length=17):=h.len;clear wf h;have B0:=Blk.new w cs 33 w.heap.size rfl;have bel:Below w.heap.size w (w.alloc (.cells cs.toArray 33)):=(Below.refl _ _).alloc (Nat.le_refl _) _;go_enter Tryz.func11,Tryz.ntmps11;go_upto_region 1 with fail;generalize w.alloc (.cells cs.toArray 33)=W at *;have l0:=B0.lt;have hld:(loadVar 33 ⟨w.heap.size,0,none⟩).run Tryz.prog W=.ok (.agg cs.toArray) W:=B0.load Tryz.underlying33 rfl Zrf HL17.out;go_wp2_with (first|((with_reducible show wpList _ _ _ (⟨_,.load _ _,_,_,_,_⟩::_) _ _);refine Zab (by rfl) (by rfl) (by rfl) hld ?_)|fail);refine (Ze3 (HC.out.later bel) HWf.out H00.out).mono ?_;rintro e w1 ⟨hb,hbad,hok⟩;replace bel:=Zaa bel hb;clear hb hld l0 B0;have hz:=Zaj.out
 by_cases hm:ZcB c
 rotate_left
 ·obtain ⟨c9,rfl⟩:=hbad (by cases hx:Zec c with|none=>rfl|some T=>exact absurd (Zml hx) hm)
  have H:Hid (¬ ZcB c):=hm;clear hbad hok hm;have q:=Zbh c9;replace bel:=Zah (o:=.cells #[.int .i64 0,.int .i64 0,.bool false,.slice none 0 0,.slice none 0 0] 53) bel;go_wp2_with (first|((with_reducible show wpList _ _ _ (⟨_,.store _ _ _,_,_,_,_⟩::_) _ _);refine wpList_store_row rfl 53 _ _ rfl w1.heap.size #[.int .i64 0,.int .i64 0,.bool false,.slice none 0 0,.slice none 0 0] rfl rfl 53 _ (heap_alloc_last _ _) (by rw[Zae];rfl) rfl (by simp[Value.oneCell']) ?_;rw[World.setRow_alloc_new])|fail);refine bodyPost_ret (results_tmp2 rfl _ _ _) rfl ?_;exact Zfo.no H.out bel
 obtain⟨es,rfl,hd⟩:=hok _ (Zlp hm);have H:Hid (ZcB c):=hm;have HLe:Hid (es.length=5):=hd.now.five;have HOe:Hid (Zca es):=hd.now.ones;have HT:Hid (Zav w1 (Zbe c) es):=hd.now;clear hbad hok hm hd;have HS5:Hid (es.toArray.size=5):=by show _=_;rw[List.size_toArray];exact HLe.out
 have hb:Below w1.heap.size w1 (w1.alloc (.cells es.toArray 53)):=(Below.refl _ _).alloc (Nat.le_refl _) _;replace HT:Hid (Zav (w1.alloc (.cells es.toArray 53)) (Zbe c) es):=HT.out.later hb;replace bel:=Zaa bel hb;clear hb;have BE:=Blk.new w1 es 53 w1.heap.size rfl;go_upto_region 2 with (first|((with_reducible show wpList _ _ _ (⟨_,.store _ _ _,_,_,_,_⟩::_) _ _);refine wpList_store_row rfl 53 _ _ rfl w1.heap.size es.toArray rfl rfl 53 _ (heap_alloc_last _ _) (by rw[Zae,HS5.out]) (by rw[HS5.out];rfl) HOe.out ?_;rw[World.setRow_alloc_new])|fail);clear hz;obtain ⟨gt,hgt⟩:∃ g,g=w1.heap.size:=⟨_,rfl⟩;rw[← hgt] at BE ⊢;generalize w1.alloc (.cells es.toArray 53)=V1 at *;clear hgt;have q:=ZaU;have l1:=BE.lt;have hldt:(loadVar 53 ⟨gt,0,none⟩).run Tryz.prog V1=.ok (.agg es.toArray) V1:=BE.load Tryz.underlying53 rfl Zae HLe.out;have HZ:Hid (Sm 6000 (Zbe c)):=ZfW H.out;have HW0:Hid (wrN (Zbe c)=0):=Zig H.out;go_wp2_with (first|((with_reducible show wpList _ _ _ (⟨_,.load _ _,_,_,_,_⟩::_) _ _);refine Zab (by rfl) (by rfl) (by rfl) hldt ?_)|fail);refine (Zhw HT.out (by have:=HZ.out.1;omega)).mono ?_;rintro e w2 ⟨v2,rfl,hv2,hn2,hb⟩;have HB2:Hid (Bs w2 v2 (Zak (Zbe c))):=by have h:=hv2;unfold wrB at h;rw[if_pos HW0.out] at h;exact h
 have HNv:Hid (Zbg w v2):=fun a m c e h=>Nat.le_trans bel.size (hn2 a m c e h);rw[HW0.out,Zos];replace bel:=Zaa bel hb;clear hb hv2 hn2 hldt l1 q BE;go_wp2_with fail;refine bodyPost_ret (results_tmp2 rfl _ _ _) rfl ?_;exact Zfo.yes H.out HB2.out HNv.out bel
theorem Zoq (c:Int):∀ w:World,(binOp .eql 35 (.iface 46 (.int .i64 c)) (.iface 46 (.int .i64 c))).run Tryz.prog w=.ok (.bool true) w:=fun w=>by
 have:(binOp .eql 35 (.iface 46 (.int .i64 c)) (.iface 46 (.int .i64 c))).run Tryz.prog w=.ok (.bool (decide (c=c))) w:=by kernel_rfl
 rw[this];simp
theorem Zqu:∀ w:World,(binOp .eql 35 .nilIface .nilIface).run Tryz.prog w=.ok (.bool true) w:=fun _=>by kernel_rfl
set_option linter.unusedSimpArgs false in
set_option maxRecDepth 100000 in
set_option maxHeartbeats 2000000 in
theorem ZlP {w:World}:Calls Tryz.prog 5 #[] w fun e w'=>e=.returned (.bool true)∧Below w.heap.size w w':=by
 have HB:Hid (Bs (w.alloc (.cells (u8s [48,0]).toArray 5)) (.slice (some ⟨w.heap.size,0,none⟩) 2 2) [48,0]):=Blk.bs (P:=[48,0]) (Blk.new w (u8s [48,0]) 5 w.heap.size rfl) rfl (by decide);have bel:Below w.heap.size w (w.alloc (.cells (u8s [48,0]).toArray 5)):=(Below.refl _ _).alloc (Nat.le_refl _) _;go_enter Tryz.func5,Tryz.ntmps5;go_wp2_with fail;refine (ZlL HB.out).mono ?_;rintro e w1 ⟨rfl,hb⟩;replace bel:=Zaa bel hb;clear hb;have hz:=Zam.out;replace bel:=Zah (o:=.cells z8.toArray 33) bel;have Bc:=Blk.new w1 z8 33 w1.heap.size rfl;go_upto_region 2 with (first|((with_reducible show wpList _ _ _ (⟨_,.store _ _ _,_,_,_,_⟩::_) _ _);refine wpList_store_row rfl 33 _ _ rfl w1.heap.size z8.toArray rfl rfl 33 _ (heap_alloc_last _ _) (by rw[Zaf,Zai]) (by first|rfl|(rw[Zai];rfl)) Zaw ?_;rw[World.setRow_alloc_new])|fail);obtain ⟨gc,hgc⟩:∃ g,g=w1.heap.size:=⟨_,rfl⟩;rw[← hgc] at Bc ⊢;generalize w1.alloc (.cells z8.toArray 33)=V1 at *;clear hgc;clear Bc;go_wp2_with fail;refine (Zkp (ZpW _) ZpX rfl).mono ?_;rintro e w2 ⟨hb,-,hyes⟩;obtain ⟨v1,rfl,hv1,-⟩:=hyes ZlQ;have HV1:Hid (Bs w2 v1 (Zak (Zbe cr0))):=hv1;replace bel:=Zaa bel hb;clear hb hyes;obtain ⟨a1,c1,hve1,-,-,-⟩:=id hv1;obtain ⟨L1,hL1⟩:∃ z,(Zak (Zbe cr0)).length=z:=⟨_,rfl⟩;have HL1:Hid ((Zak (Zbe cr0)).length=L1):=hL1;rw[hL1] at hve1;subst hve1;clear hv1 hL1;go_wp2_with fail;refine (ZmQ (ZpW _) ZpX rfl).mono ?_;rintro e w3 ⟨hb,-,hyes⟩;obtain ⟨v2,rfl,hv2⟩:=hyes ZlQ;have HV2:Hid (Bs w3 v2 (Zak (Zbe cr0))):=hv2;replace HV1:Hid (Bs w3 (.slice a1 L1 c1) (Zak (Zbe cr0))):=HV1.out.later hb;replace bel:=Zaa bel hb;clear hb hyes;obtain ⟨a2,c2,hve2,-,-,-⟩:=id hv2;rw[HL1.out] at hve2;subst hve2;clear hv2;obtain ⟨Z,hZ⟩:∃ z,strOfNums (Zak (Zbe cr0))=z:=⟨_,rfl⟩;have x1:=Zbq HV1.out;have x2:=Zbq HV2.out;rw[hZ] at x1 x2;have sq:(Z.toList == Z.toList)=true:=beq_self_eq_true _;clear hZ hz;have q7:=Zoq 7;have qn:=Zqu;go_wp2_with fail;go_ret;exact ⟨rfl,bel⟩
end Go.Proofs.YtohcdbifhnfcbaaGreatDoor
