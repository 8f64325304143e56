import Derived.Test.YtdfmoghjimghhaaGreatDoorClCa
import Derived.Test.YtdfmoghjimghhaaGreatDoorCtMayC
import Derived.Test.YtdfmoghjimghhaaGreatDoorDcG3
import Derived.Test.YtdfmoghjimghhaaGreatDoorDrTG
import Derived.Test.YtdfmoghjimghhaaGreatDoorCtSize
import Derived.Test.YtdfmoghjimghhaaGreatDoorNlSG
import Derived.Test.YtdfmoghjimghhaaGreatDoorRows
import Derived.Deep.OwnRows
import Derived.Deep.AppendLies
import Derived.Great.BuildSlice
import Derived.Laws.Rows
import Derived.BigQuiet
import Derived.Deep.WholeRow
import Derived.Deep.RegionHeld3
import Derived.Deep.DeepCutAuto
import Derived.Deep.DeepFit
namespace Go.Proofs.YtdfmoghjimghhaaGreatDoor
open Go.RowKit
def zC:List Value:=[.slice none 0 0,.slice none 0 0,.slice none 0 0,.int .i64 0,.int .i64 0,.int .u64 0,.int .u64 0,.int .u64 0,.int .u64 0,.int .u64 0,.int .u64 0,.int .u64 0,.int .u64 0,.int .u64 0,.int .u64 0,.int .u64 0,.int .u64 0,.bool false,.bool false,.int .i64 0,.int .i64 0,.slice none 0 0,.slice none 0 0,.slice none 0 0,.bool false,.slice none 0 0,.int .u64 0,.int .u64 0,.int .u64 0,.int .u64 0,.int .u64 0,.int .u64 0,.int .u64 0,.int .u64 0,.int .u64 0,.int .u64 0,.int .u64 0,.int .u64 0]
theorem zC_len:zC.length=38:=rfl
theorem Zcw:zC.toArray.size=38:=rfl
theorem Zgm:Zbp zC:=by unfold zC;simp[Zbp,Value.oneCell']
theorem Zff:Hid (∀ w:World,(zeroValue 35).run Tryz.prog w=.ok (.agg zC.toArray) w):=fun w=>by kernel_rfl
theorem Zk0:Zdd [48,0]=.ok (.mk 0 16 true [] []):=by rfl
theorem ZcR:(Tryz.prog.info? 35).map (·.size)=some 38:=by kernel_rfl
set_option linter.unusedSimpArgs false in
set_option maxRecDepth 100000 in
set_option maxHeartbeats 400000 in
theorem Zi2 {c t:Int} {m:Bool} {b:List Int} {ks:List Tl} {cs:List Value} {w:World} (h:Zbg w (.mk c t m b ks) cs) :
  Calls Tryz.prog 74 #[.agg cs.toArray] w fun e w'=>e=.returned (.bool (Zij (.mk c t m b ks)))∧Below w.heap.size w w':=by
 rw[Zbg] at h;obtain ⟨bv,ka,kc,rfl,hbv,-,-,-⟩:=h;obtain ⟨ba,bc,rfl,-,-,-⟩:=hbv;have B0:=Blk.new w [.int .i64 c,.int .i64 t,.bool m,.slice ba b.length bc,.slice ka ks.length kc] 57 w.heap.size rfl;have bel:Below w.heap.size w (w.alloc (.cells #[.int .i64 c,.int .i64 t,.bool m,.slice ba b.length bc,.slice ka ks.length kc] 57)):=(Below.refl _ _).alloc (Nat.le_refl _) _;go_enter Tryz.func74,Tryz.ntmps74;go_upto_region 1 with fail;generalize w.alloc (.cells #[.int .i64 c,.int .i64 t,.bool m,.slice ba b.length bc,.slice ka ks.length kc] 57)=W at *;have e0:=B0.cell 0 _ rfl;have e1:=B0.cell 1 _ rfl;have e2:=B0.cell 2 _ rfl;have lt0:=B0.lt
 by_cases c1:c=0
 rotate_left
 ·have H:Hid (Zij (.mk c t m b ks)=false):=decide_eq_false (fun h=>c1 h.1)
  have d1:(c == 0)=false:=by rw[beq_eq_false_iff_ne];exact c1
  clear c1;go_wp2_with fail;go_ret;exact ⟨by rw[H.out];rfl,bel⟩
 subst c1
 by_cases c2:t=16
 rotate_left
 ·have H:Hid (Zij (.mk 0 t m b ks)=false):=decide_eq_false (fun h=>c2 h.2.1)
  have d2:(t == 16)=false:=by rw[beq_eq_false_iff_ne];exact c2
  clear c2;go_wp2_with fail;go_ret;exact ⟨by rw[H.out];rfl,bel⟩
 subst c2
 cases m
 all_goals
  go_wp2_with fail;go_ret;exact ⟨rfl,bel⟩
set_option linter.unusedSimpArgs false in
set_option maxRecDepth 100000 in
set_option maxHeartbeats 1000000 in
theorem Zhs {cs:List Value} {w:World} (h:Zbg w (.mk 0 16 true [] []) cs):Calls Tryz.prog 39 #[.agg cs.toArray] w fun e w'=>e=.returned (.tuple #[.agg zC.toArray,.iface 53 (.int .i64 7)])∧Below w.heap.size w w':=by
 have h9:=h;rw[Zbg] at h;obtain ⟨bv,ka,kc,rfl,hbv,-,-,-⟩:=h;obtain ⟨ba,bc,rfl,-,-,-⟩:=hbv;have HT:Hid (Zbg w (.mk 0 16 true [] []) [.int .i64 0,.int .i64 16,.bool true,.slice ba 0 bc,.slice ka 0 kc]):=h9;replace HT:Hid (Zbg w (.mk 0 16 true [] []) [.int .i64 0,.int .i64 16,.bool true,.slice ba 0 bc,.slice ka 0 kc]):=HT;clear h9;have B0:=(Blk.new w [.int .i64 0,.int .i64 16,.bool true,.slice ba 0 bc,.slice ka 0 kc] 57 w.heap.size rfl).alloc (.cells zC.toArray 35);have R0:=Blk.new (w.alloc (.cells #[.int .i64 0,.int .i64 16,.bool true,.slice ba 0 bc,.slice ka 0 kc] 57)) zC 35 (w.heap.size+1) (by simp);have bel:Below w.heap.size w ((w.alloc (.cells #[.int .i64 0,.int .i64 16,.bool true,.slice ba 0 bc,.slice ka 0 kc] 57)).alloc (.cells zC.toArray 35)):=((Below.refl _ _).alloc (Nat.le_refl _) _).alloc (by simp) _;have hz:=Zff.out;go_enter Tryz.func39,Tryz.ntmps39;go_upto_region 1 with fail;clear hz;generalize (w.alloc (.cells #[.int .i64 0,.int .i64 16,.bool true,.slice ba 0 bc,.slice ka 0 kc] 57)).alloc (.cells zC.toArray 35)=W at *;have l0:=B0.lt;obtain ⟨S1,hS1,KB1,KI1,KD1,KL1,KA1⟩:∃ S:World→Prop,Hd S W∧Hid (∀ wx,Hd S wx→Below W.heap.size W wx)∧Hid (∀ wx,Below W.heap.size W wx→Hd S wx)∧Hid (∀ wx,Hd S wx→Hd S wx.drew)∧Hid (∀ w1 w2,Hd S w1→Below w1.heap.size w1 w2→Hd S w2)∧Hid (∀ w1 o,Hd S w1→Hd S (w1.alloc o)):=⟨fun wx=>Below W.heap.size W wx,Below.refl _ _,fun _ h=>h,fun _ h=>h,fun wx h=>Below.drew h,fun w1 w2 h hb=>Zaa h hb,fun w1 o h=>Below.alloc h h.size o⟩;have HB0:Hid (Blk W w.heap.size [.int .i64 0,.int .i64 16,.bool true,.slice ba 0 bc,.slice ka 0 kc]):=B0;have HR0:Hid (Blk W (w.heap.size+1) zC):=R0;have HBel:Hid (Below w.heap.size w W):=bel;have rt:Hid (∀ wx,Hd S1 wx→(loadVar 57 ⟨w.heap.size,0,none⟩).run Tryz.prog wx=.ok (.agg #[.int .i64 0,.int .i64 16,.bool true,.slice ba 0 bc,.slice ka 0 kc]) wx):=fun wx h=>(HB0.out.later (KB1.out wx h)).load Tryz.underlying57 rfl Zab rfl;have ra:∀ wx,Hd S1 wx→wx.cell? ⟨w.heap.size,4,none⟩=some (.slice ka 0 kc):=fun wx h=>(HB0.out.later (KB1.out wx h)).cell 4 _ rfl;have rl:∀ wx,Hd S1 wx→w.heap.size<wx.heap.size:=fun wx h=>(HB0.out.later (KB1.out wx h)).lt;clear B0 R0 bel l0;refine wp_region_noPanic ?_;refine wp_region_held_drew (S:=Hd S1) (by kernel_rfl) (KD1.out _ hS1) (fun hHeld=>?_);clear hS1;generalize World.drew _=wd1 at *;refine wpAnyH_take (i:=0) (v:=.agg #[.int .i64 0,.int .i64 16,.bool true,.slice ba 0 bc,.slice ka 0 kc]) rfl (by kernel_rfl) (by kernel_rfl) (by kernel_rfl) (fun _ _ _ h=>h) (Or.inl ⟨by rfl,fun wx h=>Za3 rfl rfl (rt.out wx h)⟩) (by assumption) ?_
 try simp only[Act.put,List.getElem_toArray,List.getElem_cons_zero,List.getElem_cons_succ,List.setIfInBounds_toArray,List.set_cons_zero,List.set_cons_succ]
 refine wpAnyH_ready (rs:=[1]) (by kernel_rfl) (by simp) ?_;refine AllReadyH.cons rfl (fun K hK=>?_) ?_
 ·go_simp
  refine(Zi2 (HT.out.later (Zaa HBel.out (KB1.out _ hHeld)))).mono ?_;rintro e z1 ⟨rfl,hb⟩;refine hK.out _ _ ?_ (fun hHeld2=>?_)
  ·exact KL1.out _ _ hHeld hb
  ·clear hK K
   try clear hHeld
   have hHeld:=hHeld2;clear hHeld2
   try simp only[Act.put,List.getElem_toArray,List.getElem_cons_zero,List.getElem_cons_succ,List.setIfInBounds_toArray,List.set_cons_zero,List.set_cons_succ]
   clear hb;rw[show Zij (.mk 0 16 true [] [])=true from rfl];refine wpAnyH_take (i:=2) (v:=?_) rfl (by kernel_rfl) (by kernel_rfl) (by kernel_rfl) (fun _ _ _ h=>h) (Or.inl ⟨by rfl,?_⟩) (by assumption) ?_;rotate_left
   ·intro w hSw
    go_simp
    with_reducible rfl
   try simp only[Act.put,List.getElem_toArray,List.getElem_cons_zero,List.getElem_cons_succ,List.setIfInBounds_toArray,List.set_cons_zero,List.set_cons_succ]
   refine wpAnyH_take (i:=3) (v:=?_) rfl (by kernel_rfl) (by kernel_rfl) (by kernel_rfl) (fun _ _ _ h=>h) (Or.inl ⟨by rfl,?_⟩) (by assumption) ?_;rotate_left
   ·intro w hSw
    go_simp
    with_reducible rfl
   try simp only[Act.put,List.getElem_toArray,List.getElem_cons_zero,List.getElem_cons_succ,List.setIfInBounds_toArray,List.set_cons_zero,List.set_cons_succ]
   refine wpAnyH_take (i:=4) (v:=?_) rfl (by kernel_rfl) (by kernel_rfl) (by kernel_rfl) (fun _ _ _ h=>h) (Or.inl ⟨by rfl,?_⟩) (by assumption) ?_;rotate_left
   ·intro w hSw
    go_simp
    with_reducible rfl
   try simp only[Act.put,List.getElem_toArray,List.getElem_cons_zero,List.getElem_cons_succ,List.setIfInBounds_toArray,List.set_cons_zero,List.set_cons_succ]
   refine wpAnyH_take (i:=5) (v:=?_) rfl (by kernel_rfl) (by kernel_rfl) (by kernel_rfl) (fun _ _ _ h=>h) (Or.inl ⟨by rfl,?_⟩) (by assumption) ?_;rotate_left
   ·intro w hSw
    go_simp
    with_reducible rfl
   try simp only[Act.put,List.getElem_toArray,List.getElem_cons_zero,List.getElem_cons_succ,List.setIfInBounds_toArray,List.set_cons_zero,List.set_cons_succ]
   refine wpAnyH_take (i:=6) (v:=?_) rfl (by kernel_rfl) (by kernel_rfl) (by kernel_rfl) (fun _ _ _ h=>h) (Or.inl ⟨by rfl,?_⟩) (by assumption) ?_;rotate_left
   ·intro w hSw
    go_simp
    with_reducible rfl
   try simp only[Act.put,List.getElem_toArray,List.getElem_cons_zero,List.getElem_cons_succ,List.setIfInBounds_toArray,List.set_cons_zero,List.set_cons_succ]
   refine wpAnyH_take (i:=7) (v:=?_) rfl (by kernel_rfl) (by kernel_rfl) (by kernel_rfl) (fun _ _ _ h=>h) (Or.inl ⟨by rfl,?_⟩) (by assumption) ?_;rotate_left
   ·intro w hSw
    go_simp
    with_reducible rfl
   try simp only[Act.put,List.getElem_toArray,List.getElem_cons_zero,List.getElem_cons_succ,List.setIfInBounds_toArray,List.set_cons_zero,List.set_cons_succ]
   refine wpAnyH_take (i:=8) (v:=?_) rfl (by kernel_rfl) (by kernel_rfl) (by kernel_rfl) (fun _ _ _ h=>h) (Or.inl ⟨by rfl,?_⟩) (by assumption) ?_;rotate_left
   ·intro w hSw
    go_simp
    with_reducible rfl
   try simp only[Act.put,List.getElem_toArray,List.getElem_cons_zero,List.getElem_cons_succ,List.setIfInBounds_toArray,List.set_cons_zero,List.set_cons_succ]
   refine wpAnyH_take (i:=9) (v:=?_) rfl (by kernel_rfl) (by kernel_rfl) (by kernel_rfl) (fun _ _ _ h=>h) (Or.inl ⟨by rfl,?_⟩) (by assumption) ?_;rotate_left
   ·intro w hSw
    go_simp
    with_reducible rfl
   try simp only[Act.put,List.getElem_toArray,List.getElem_cons_zero,List.getElem_cons_succ,List.setIfInBounds_toArray,List.set_cons_zero,List.set_cons_succ]
   refine wpAnyH_take (i:=10) (v:=undef) rfl (by kernel_rfl) (by kernel_rfl) (by kernel_rfl) (fun _ _ _ h=>h) (Or.inr ⟨by rfl,rfl⟩) (by assumption) ?_
   try simp only[Act.put,List.getElem_toArray,List.getElem_cons_zero,List.getElem_cons_succ,List.setIfInBounds_toArray,List.set_cons_zero,List.set_cons_succ]
   refine wpAnyH_take (i:=11) (v:=undef) rfl (by kernel_rfl) (by kernel_rfl) (by kernel_rfl) (fun _ _ _ h=>h) (Or.inr ⟨by rfl,rfl⟩) (by assumption) ?_
   try simp only[Act.put,List.getElem_toArray,List.getElem_cons_zero,List.getElem_cons_succ,List.setIfInBounds_toArray,List.set_cons_zero,List.set_cons_succ]
   refine wpAnyH_take (i:=12) (v:=undef) rfl (by kernel_rfl) (by kernel_rfl) (by kernel_rfl) (fun _ _ _ h=>h) (Or.inr ⟨by rfl,rfl⟩) (by assumption) ?_
   try simp only[Act.put,List.getElem_toArray,List.getElem_cons_zero,List.getElem_cons_succ,List.setIfInBounds_toArray,List.set_cons_zero,List.set_cons_succ]
   refine wpAnyH_take (i:=13) (v:=undef) rfl (by kernel_rfl) (by kernel_rfl) (by kernel_rfl) (fun _ _ _ h=>h) (Or.inr ⟨by rfl,rfl⟩) (by assumption) ?_
   try simp only[Act.put,List.getElem_toArray,List.getElem_cons_zero,List.getElem_cons_succ,List.setIfInBounds_toArray,List.set_cons_zero,List.set_cons_succ]
   refine wpAnyH_take (i:=14) (v:=undef) rfl (by kernel_rfl) (by kernel_rfl) (by kernel_rfl) (fun _ _ _ h=>h) (Or.inr ⟨by rfl,rfl⟩) (by assumption) ?_
   try simp only[Act.put,List.getElem_toArray,List.getElem_cons_zero,List.getElem_cons_succ,List.setIfInBounds_toArray,List.set_cons_zero,List.set_cons_succ]
   refine wpAnyH_take (i:=15) (v:=undef) rfl (by kernel_rfl) (by kernel_rfl) (by kernel_rfl) (fun _ _ _ h=>h) (Or.inr ⟨by rfl,rfl⟩) (by assumption) ?_
   try simp only[Act.put,List.getElem_toArray,List.getElem_cons_zero,List.getElem_cons_succ,List.setIfInBounds_toArray,List.set_cons_zero,List.set_cons_succ]
   refine wpAnyH_take (i:=16) (v:=undef) rfl (by kernel_rfl) (by kernel_rfl) (by kernel_rfl) (fun _ _ _ h=>h) (Or.inr ⟨by rfl,rfl⟩) (by assumption) ?_
   try simp only[Act.put,List.getElem_toArray,List.getElem_cons_zero,List.getElem_cons_succ,List.setIfInBounds_toArray,List.set_cons_zero,List.set_cons_succ]
   refine wpAnyH_take (i:=17) (v:=?_) rfl (by kernel_rfl) (by kernel_rfl) (by kernel_rfl) (fun _ _ _ h=>h) (Or.inl ⟨by rfl,?_⟩) (by assumption) ?_;rotate_left
   ·intro w hSw
    go_simp
    with_reducible rfl
   try simp only[Act.put,List.getElem_toArray,List.getElem_cons_zero,List.getElem_cons_succ,List.setIfInBounds_toArray,List.set_cons_zero,List.set_cons_succ]
   refine wpAnyH_done (by kernel_rfl) ?_ _;refine NoPanic.normal ?_;have st:=KB1.out _ hHeld;have R0:=HR0.out.later st;have bel:=Zaa HBel.out st;clear hHeld ra rl;have hz:=Zff.out;obtain ⟨tR,hR⟩:=R0;have HR1:Hid _:=hR;clear hR;go_wp2_with (first|((with_reducible show wpList _ _ _ ({ dst:=_,op:=.store _ _ _,type:=_,pos:=_,after:=_,guard:=_ } :: _) _ _);refine wpList_store_row rfl 35 _ _ rfl (w.heap.size+1) zC.toArray rfl rfl tR _ HR1.out (by rw[ZcR,Zcw]) (by first|rfl|(rw[Zcw];rfl)) Zgm ?_)|fail);refine bodyPost_ret (Zag rfl _ _ (w.heap.size+1) tR zC.toArray (0,0) _ rfl (setRow_heap _ _ _ _ _ _ HR1.out) Tryz.underlying35 rfl (by rw[ZcR,Zcw])) rfl ?_;exact ⟨rfl,below_setRow bel (by omega) _⟩
 exact AllReadyH.nil
set_option linter.unusedSimpArgs false in
set_option maxRecDepth 100000 in
set_option maxHeartbeats 1000000 in
theorem Zkb {v:Value} {w:World} (hv:Bs w v [48,0]):Calls Tryz.prog 12 #[v] w fun e w'=>e=.returned (.tuple #[.agg zC.toArray,.iface 53 (.int .i64 7)])∧Below w.heap.size w w':=by
 have HV:Hid (Bs w v [48,0]):=hv;obtain ⟨ao,cap,rfl,-,-,-⟩:=hv;have R0:=Blk.new w zC 35 w.heap.size rfl;have bel:Below w.heap.size w (w.alloc (.cells zC.toArray 35)):=(Below.refl _ _).alloc (Nat.le_refl _) _;have hz:=Zff.out;go_enter Tryz.func12,Tryz.ntmps12;go_upto_region 1 with fail;clear hz;generalize w.alloc (.cells zC.toArray 35)=W at *;go_wp2_with fail;refine (Zkd (HV.out.later bel) (Zgu _ (fun j hj=>by match j,hj with|0,_=>decide|1,_=>decide))).mono ?_;rintro e w1 ⟨hok,-⟩;obtain ⟨cs,rfl,hd,hb⟩:=hok _ Zk0;have HL5:Hid (cs.length=5):=hd.now.five;have HS5:Hid (cs.toArray.size=5):=by show _=_;rw[List.size_toArray];exact HL5.out
 have HO5:Hid (Zbp cs):=hd.now.ones;have HT:Hid (Zbg w1 (.mk 0 16 true [] []) cs):=hd.now;replace R0:=R0.later hb;replace bel:=Zaa bel hb;clear hok hd hb;have hz:=Zad.out;replace HT:Hid (Zbg (w1.alloc (.cells cs.toArray 57)) (.mk 0 16 true [] []) cs):=HT.out.later ((Below.refl _ _).alloc (Nat.le_refl _) _);replace R0:=R0.alloc (.cells cs.toArray 57);replace bel:=Zaf (o:=.cells cs.toArray 57) bel;have Bt:=Blk.new w1 cs 57 w1.heap.size rfl;go_upto_region 2 with (first|((with_reducible show wpList _ _ _ ({ dst:=_,op:=.store _ _ _,type:=_,pos:=_,after:=_,guard:=_ } :: _) _ _);refine wpList_store_row rfl 57 _ _ rfl w1.heap.size cs.toArray rfl rfl 57 _ (heap_alloc_last _ _) (by rw[Zab,HS5.out]) (by first|rfl|(rw[HS5.out];rfl)) HO5.out ?_;rw[World.setRow_alloc_new])|fail);obtain ⟨gt,hgt⟩:∃ g,g=w1.heap.size:=⟨_,rfl⟩;rw[← hgt] at Bt ⊢;generalize w1.alloc (.cells cs.toArray 57)=V1 at *;clear hgt;clear hz;have q:=ZaS;have l0:=Bt.lt;have hld:(loadVar 57 ⟨gt,0,none⟩).run Tryz.prog V1=.ok (.agg cs.toArray) V1:=Bt.load Tryz.underlying57 rfl Zab HL5.out;go_wp2_with (first|((with_reducible show wpList _ _ _ ({ dst:=_,op:=.load _ _,type:=_,pos:=_,after:=_,guard:=_ } :: _) _ _);refine Zae (by rfl) (by rfl) (by rfl) hld ?_)|fail);refine (Zhs HT.out).mono ?_;rintro e w2 ⟨rfl,hb⟩;replace R0:=R0.later hb;replace bel:=Zaa bel hb;clear hb hld l0 Bt q;have hz:=Zff.out;replace R0:=R0.alloc (.cells zC.toArray 35);replace bel:=Zaf (o:=.cells zC.toArray 35) bel;have Bc:=Blk.new w2 zC 35 w2.heap.size rfl;go_upto_region 5 with (first|((with_reducible show wpList _ _ _ ({ dst:=_,op:=.store _ _ _,type:=_,pos:=_,after:=_,guard:=_ } :: _) _ _);refine wpList_store_row rfl 35 _ _ rfl w2.heap.size zC.toArray rfl rfl 35 _ (heap_alloc_last _ _) (by rw[ZcR,Zcw]) (by first|rfl|(rw[Zcw];rfl)) Zgm ?_;rw[World.setRow_alloc_new])|fail);obtain ⟨gc,hgc⟩:∃ g,g=w2.heap.size:=⟨_,rfl⟩;rw[← hgc] at Bc ⊢;generalize w2.alloc (.cells zC.toArray 35)=V2 at *;clear hgc;clear Bc;have q:=ZaE 7;obtain ⟨tR,hR⟩:=R0;have HR1:Hid _:=hR;clear hR;go_wp2_with (first|((with_reducible show wpList _ _ _ ({ dst:=_,op:=.store _ _ _,type:=_,pos:=_,after:=_,guard:=_ } :: _) _ _);refine wpList_store_row rfl 35 _ _ rfl (w.heap.size) zC.toArray rfl rfl tR _ HR1.out (by rw[ZcR,Zcw]) (by first|rfl|(rw[Zcw];rfl)) Zgm ?_)|fail);refine bodyPost_ret (Zag rfl _ _ (w.heap.size) tR zC.toArray (0,0) _ rfl (setRow_heap _ _ _ _ _ _ HR1.out) Tryz.underlying35 rfl (by rw[ZcR,Zcw])) rfl ?_;exact ⟨rfl,below_setRow bel (by omega) _⟩
set_option linter.unusedSimpArgs false in
set_option maxRecDepth 100000 in
set_option maxHeartbeats 1000000 in
theorem Zeu {w:World}:Calls Tryz.prog 20 #[.agg zC.toArray] w fun e w'=>∃ c:Int,e=.returned (.tuple #[.agg #[.int .i64 0,.int .i64 0,.bool false,.slice none 0 0,.slice none 0 0],.iface 53 (.int .i64 c)])∧Below w.heap.size w w':=by
 have B0:=(Blk.new w zC 35 w.heap.size rfl).alloc (.cells #[.int .i64 0,.int .i64 0,.bool false,.slice none 0 0,.slice none 0 0] 57);have R0:=Blk.new (w.alloc (.cells zC.toArray 35)) [.int .i64 0,.int .i64 0,.bool false,.slice none 0 0,.slice none 0 0] 57 (w.heap.size+1) (by simp);have bel:Below w.heap.size w ((w.alloc (.cells zC.toArray 35)).alloc (.cells #[.int .i64 0,.int .i64 0,.bool false,.slice none 0 0,.slice none 0 0] 57)):=((Below.refl _ _).alloc (Nat.le_refl _) _).alloc (by simp) _;have hz:=Zad.out;go_enter Tryz.func20,Tryz.ntmps20;go_upto_region 1 with fail;clear hz;generalize (w.alloc (.cells zC.toArray 35)).alloc (.cells #[.int .i64 0,.int .i64 0,.bool false,.slice none 0 0,.slice none 0 0] 57)=W at *;have l0:=B0.lt;have e0:=B0.cell 0 (.slice none 0 0) rfl;go_wp2_with fail;refine (ZcA (n:=[]) ⟨none,0,rfl,Nat.zero_le _,Nat.zero_le _,fun h=>absurd h (Nat.lt_irrefl 0)⟩ (fun j=>by simp) (by simp)).mono ?_;rintro e w1 ⟨hb,hbad,-⟩;obtain ⟨c,rfl⟩:=hbad (Zlx rfl);replace R0:=R0.later hb;replace bel:=Zaa bel hb;clear hb hbad B0 l0 e0;have hz:=Zad.out;have R1:Hid (Blk w1 (w.heap.size+1) [.int .i64 0,.int .i64 0,.bool false,.slice none 0 0,.slice none 0 0]):=R0;clear R0;have q:=ZaE c;replace bel:=Zaf (o:=.cells #[.int .i64 0,.int .i64 0,.bool false,.slice none 0 0,.slice none 0 0] 57) bel;go_upto_region 2 with (first|((with_reducible show wpList _ _ _ ({ dst:=_,op:=.store _ _ _,type:=_,pos:=_,after:=_,guard:=_ } :: _) _ _);refine wpList_store_row rfl 57 _ _ rfl w1.heap.size #[.int .i64 0,.int .i64 0,.bool false,.slice none 0 0,.slice none 0 0] rfl rfl 57 _ (heap_alloc_last _ _) (by rw[Zab];rfl) rfl (by simp[Value.oneCell']) ?_;rw[World.setRow_alloc_new])|fail);have R0:=R1.out.alloc (.cells #[.int .i64 0,.int .i64 0,.bool false,.slice none 0 0,.slice none 0 0] 57);generalize w1.alloc (.cells #[.int .i64 0,.int .i64 0,.bool false,.slice none 0 0,.slice none 0 0] 57)=V1 at *;clear R1;obtain ⟨tR,hR⟩:=R0;have HR1:Hid _:=hR;clear hR;go_wp2_with (first|((with_reducible show wpList _ _ _ ({ dst:=_,op:=.store _ _ _,type:=_,pos:=_,after:=_,guard:=_ } :: _) _ _);refine wpList_store_row rfl 57 _ _ rfl (w.heap.size+1) #[.int .i64 0,.int .i64 0,.bool false,.slice none 0 0,.slice none 0 0] rfl rfl tR _ HR1.out (by rw[Zab];rfl) rfl (by simp[Value.oneCell']) ?_)|fail);refine bodyPost_ret (Zag rfl _ _ (w.heap.size+1) tR #[.int .i64 0,.int .i64 0,.bool false,.slice none 0 0,.slice none 0 0] (0,0) _ rfl (setRow_heap _ _ _ _ _ _ HR1.out) Tryz.underlying57 rfl (by rw[Zab];rfl)) rfl ?_;exact ⟨c,rfl,below_setRow bel (by omega) _⟩
set_option linter.unusedSimpArgs false in
set_option maxRecDepth 100000 in
set_option maxHeartbeats 1000000 in
theorem Zi8 {w:World}:Calls Tryz.prog 9 #[.agg zC.toArray] w fun e w'=>e=.returned (.tuple #[.slice none 0 0,.iface 53 (.int .i64 1)])∧Below w.heap.size w w':=by
 have B0:=Blk.new w zC 35 w.heap.size rfl;have bel:Below w.heap.size w (w.alloc (.cells zC.toArray 35)):=(Below.refl _ _).alloc (Nat.le_refl _) _;go_enter Tryz.func9,Tryz.ntmps9;go_upto_region 1 with fail;generalize w.alloc (.cells zC.toArray 35)=W at *;have l0:=B0.lt;have hld:(loadVar 35 ⟨w.heap.size,0,none⟩).run Tryz.prog W=.ok (.agg zC.toArray) W:=B0.load Tryz.underlying35 rfl ZcR zC_len;go_wp2_with (first|((with_reducible show wpList _ _ _ ({ dst:=_,op:=.load _ _,type:=_,pos:=_,after:=_,guard:=_ } :: _) _ _);refine Zae (by rfl) (by rfl) (by rfl) hld ?_)|fail);refine Zeu.mono ?_;rintro e w1 ⟨c,rfl,hb⟩;replace bel:=Zaa bel hb;clear hb hld l0 B0;have hz:=Zad.out;have q:=ZaE c;replace bel:=Zaf (o:=.cells #[.int .i64 0,.int .i64 0,.bool false,.slice none 0 0,.slice none 0 0] 57) bel;go_wp2_with (first|((with_reducible show wpList _ _ _ ({ dst:=_,op:=.store _ _ _,type:=_,pos:=_,after:=_,guard:=_ } :: _) _ _);refine wpList_store_row rfl 57 _ _ rfl w1.heap.size #[.int .i64 0,.int .i64 0,.bool false,.slice none 0 0,.slice none 0 0] rfl rfl 57 _ (heap_alloc_last _ _) (by rw[Zab];rfl) rfl (by simp[Value.oneCell']) ?_;rw[World.setRow_alloc_new])|fail);refine bodyPost_ret (results_tmp2 rfl _ _ _) rfl ?_;exact ⟨rfl,bel⟩
end Go.Proofs.YtdfmoghjimghhaaGreatDoor
