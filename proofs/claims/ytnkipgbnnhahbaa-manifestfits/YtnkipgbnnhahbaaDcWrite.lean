/- The program's written. -/
import Derived.Test.YtnkipgbnnhahbaaDcHead
import Derived.Test.YtnkipgbnnhahbaaCPt
import Derived.Test.YtnkipgbnnhahbaaPrOidOf
import Derived.Test.YtnkipgbnnhahbaaRows
import Derived.Deep.OwnRows
import Derived.Deep.AppendLies
import Derived.Great.BuildSlice
import Derived.Deep.WholeRow
import Derived.Deep.RegionHeld3
import Derived.Deep.DeepCutAuto
import Derived.Deep.DeepFit
namespace Go.Proofs.Ytnkipgbnnhahbaa
open Go.RowKit
set_option linter.unusedSimpArgs false in
set_option maxRecDepth 100000 in
set_option maxHeartbeats 4000000 in
theorem c12_written (n:Nat):∀ (T:Tl) (w:World) (cs:List Value),szT T≤n→fineT T=true→(bytesT T).length≤1048576→TlAt w T cs →
  Calls Try.prog 23 #[.agg cs.toArray] w fun e w'=>∃ v':Value,e=.returned v'∧w'.ownsRow w.heap.size 5 1 v' (bytesT T).length (u8s (bytesT T))∧Below w.heap.size w w':=by
 induction n with
 | zero=>intro T w cs hz;have:=szT_pos T;omega
 | succ n IH =>
  intro T w cs hz hf hlen h
  obtain ⟨c,t,m,b,ks⟩:=T
  have h0:=h
  rw [TlAt] at h
  obtain ⟨bv,ao,cap,rfl,hbv,hk1,hk2,hk3⟩:=h
  have HK:Hid (0 < ks.length→∃ g o,ao=some ⟨g,o,none⟩∧KidsAt w ks g o):=hk3
  have HT0:Hid (TlAt w (.mk c t m b ks) [.int .i64 c,.int .i64 t,.bool m,bv,.slice ao ks.length cap]):=h0
  clear hk3 h0
  unfold maxLen at hk2
  obtain ⟨bao,bcap,rfl,hb1,hb2,hb3⟩:=hbv
  have HBv:Hid (Bs w (.slice bao b.length bcap) b):=⟨bao,bcap,rfl,hb1,hb2,hb3⟩
  clear hb3
  unfold maxLen at hb1
  have B0:=Blk.new w [.int .i64 c,.int .i64 t,.bool m,.slice bao b.length bcap,.slice ao ks.length cap] 42 w.heap.size rfl
  have bel:Below w.heap.size w (w.alloc (.cells #[.int .i64 c,.int .i64 t,.bool m,.slice bao b.length bcap,.slice ao ks.length cap] 42)):=(Below.refl _ _).alloc (Nat.le_refl _) _
  rw [szT] at hz
  rw [fineT,Bool.and_eq_true] at hf
  have HF1:Hid (fine1 c t m b ks=true):=hf.1
  have HFk:Hid (fineL ks=true):=hf.2
  clear hf
  rw [bytesT_len,List.length_append] at hlen
  have e4:=B0.cell 4 _ rfl
  have lt0:=B0.lt
  go_enter Try.func23,Try.ntmps23
  go_upto_region 1 with fail
  generalize w.alloc (Obj.cells #[.int .i64 c,.int .i64 t,.bool m,.slice bao b.length bcap,.slice ao ks.length cap] 42)=W at *
  obtain ⟨W0,hW0⟩:∃ z,z=W.heap.size:=⟨_,rfl⟩
  have hsW:w.heap.size < W0:=by rw [hW0];exact lt0
  have hsW1:W0≤W.heap.size:=by omega
  clear hW0
  go_wp2_with fail
  go_loopw [3,10] (fun hv iv wx=>∃ i:Nat,i≤ks.length∧iv=.int .i64 i∧wx.ownsRow W0 5 1 hv (bytesL (ks.take i)).length (u8s (bytesL (ks.take i)))∧Blk wx w.heap.size [.int .i64 c,.int .i64 t,.bool m,.slice bao b.length bcap,.slice ao ks.length cap]∧Below w.heap.size w wx∧W0≤wx.heap.size) (fun _ iv _=>ks.length - (intOf iv).toNat)
  case atStart=>exact ⟨0,by omega,rfl,by rw [List.take_zero,bytesL];exact ⟨rfl,.inl ⟨rfl,rfl⟩⟩,B0,bel,hsW1⟩
  case round =>
   clear B0 bel lt0 e4 hsW1
   obtain ⟨i,hi,rfl,own1,B0,bel,hsW1⟩:=hrel
   by_cases hil:i < ks.length
   ·have g1:(i:Int) < (ks.length:Int):=by omega
    have g2:(0:Int)≤(i:Int):=by omega
    have gi:IntKind.i64.wrap ((i:Int) + 1)=(i:Int) + 1:=by rw [IntKind.wrap_i64];omega
    obtain ⟨k,hkk⟩:=get_kid hil
    obtain ⟨g,o,hao,hks⟩:=HK.out (by omega)
    obtain ⟨cs,hcs,hkt⟩:=hks.get hkk
    have hsz:=szL_get hkk
    replace hcs:=hcs.later bel
    replace hkt:=hkt.later bel
    have hld:=tlv_load hcs hkt.five
    have hld2:=hld
    rw [Nat.mul_comm 5 i] at hld2
    subst hao
    have hz:=zero_tlv.out
    have HS5:Hid (cs.toArray.size=5):=by show _=_;rw [List.size_toArray];exact hkt.five
    have HO5:Hid (OneC cs):=hkt.ones
    have HL5:Hid (cs.length=5):=hkt.five
    replace own1:=own_later6 own1 (o:=.cells cs.toArray 42)
    replace hsW1:W0≤(wr.alloc (.cells cs.toArray 42)).heap.size:=by simp;omega
    have KB:=Blk.new wr cs 42 wr.heap.size rfl
    replace B0:=B0.alloc (.cells cs.toArray 42)
    replace bel:=below_alloc (o:=.cells cs.toArray 42) bel
    replace hkt:=hkt.later ((Below.refl _ _).alloc (Nat.le_refl _) (.cells cs.toArray 42))
    go_upto_region 5 with (first|(refine wpList_load_run (by rfl) (by rfl) (by rfl) hld ?_)|(refine wpList_load_run (by rfl) (by rfl) (by rfl) hld2 ?_)|(refine wpList_store_row rfl 42 _ _ rfl wr.heap.size cs.toArray rfl rfl 42 _ (heap_alloc_last _ _) (by rw [size_tlv,HS5.out]) (by rw [HS5.out];rfl) HO5.out ?_;rw [World.setRow_alloc_new])|fail)
    clear hz hld hld2 hcs
    obtain ⟨g1,hg1⟩:∃ g1,g1=wr.heap.size:=⟨_,rfl⟩
    rw [← hg1] at KB
    generalize wr.alloc (.cells cs.toArray 42)=W2 at *
    rw [← hg1]
    clear hg1
    have lk:=KB.lt
    have HN:Hid _:=bytesL_next hkk
    have hkl:=bytesL_kid hkk
    have hfk:=fineL.get HFk.out hkk
    go_wp2_with (first|(refine wpList_load_run (by rfl) (by rfl) (by rfl) (KB.load Try.underlying42 rfl size_tlv HL5.out) ?_)|fail)
    refine (IH k _ _ (by omega) hfk (by omega) hkt).mono ?_
    rintro e w2 ⟨v2,rfl,own2,hb2⟩
    replace own1:=own_laterD own1 hb2
    have hb22:=Bs.of_own own2
    have hsz2:=hb2.size
    replace B0:=B0.later hb2
    replace bel:=below_stepD bel hb2
    clear hb2 hkt lk KB HS5 HO5 HL5
    clear own2 hkk
    obtain ⟨Q,hQ⟩:∃ Q,bytesL (ks.take i)=Q:=⟨_,rfl⟩
    have HQ:Hid (bytesL (ks.take i)=Q):=hQ
    rw [hQ] at own1 hkl
    clear hQ
    go_wp2_with (first|(at_builtin;refine wpList_append_bs (by rfl) _ _ (by rfl) W0 _ Q.length (Q) (by rfl) own1 _ (bytesT k) (by rfl) hb22 (by omega) (by omega) ?_;intro v3 w3 own3 hgrow hat)|fail)
    have hb3:=below_own (base:=W0) (Below.refl W0 w2) hgrow (by omega) (fun g hg=>own_geD own1 hg) (Nat.le_refl _)
    have HQ2:Hid (Q++bytesT k=bytesL (ks.take (i + 1))):=by show _=_;rw [HN.out,HQ.out]
    rw [← List.length_append,HQ2.out] at own3
    replace B0:=B0.below hb3 hsW
    replace bel:=bel.trans (hb3.mono (Nat.le_of_lt hsW))
    go_roundw
    case rel=>exact ⟨i + 1,by omega,by go_num,own3,B0,bel,by have:=hb3.size;omega⟩
    case measure=>simp [intOf];omega
   ·have HI:Hid (i=ks.length):=by show i=ks.length;omega
    have g1:¬ (i:Int) < (ks.length:Int):=by omega
    rw [HI.out,List.take_of_length_le (Nat.le_refl _)] at own1
    obtain ⟨H,hH⟩:∃ H,bytesL ks=H:=⟨_,rfl⟩
    obtain ⟨N,hN⟩:∃ N,b.length + H.length=N:=⟨_,rfl⟩
    have HH:Hid (bytesT (.mk c t m b ks)=headB c t m :: (lenB N++(b++H))):=by show _=_;rw [bytesT,hH,List.length_append,hN]
    rw [hH] at own1 hlen
    rw [hN] at hlen
    clear hH HI
    obtain ⟨hao,hcap,hhv,hc1,hc2⟩:=own_slice own1
    subst hhv
    have HKs:Hid (Bs wr (.slice hao H.length hcap) H):=Bs.of_own own1
    clear own1
    have a1:IntKind.i64.wrap ((b.length:Int) + (H.length:Int))=(N:Int):=by rw [IntKind.wrap_i64];omega
    have hN20:N≤1048576:=by omega
    have bsz:=bel.size
    go_upto_region 7 with fail
    obtain ⟨S1,hS1,KB1,KI1,KD1,KL1,KA1⟩:∃ S:World→Prop,Hd S wr∧Hid (∀ wx,Hd S wx→Below wr.heap.size wr wx)∧Hid (∀ wx,Below wr.heap.size wr wx→Hd S wx)∧Hid (∀ wx,Hd S wx→Hd S wx.drew)∧Hid (∀ w1 w2,Hd S w1→Below w1.heap.size w1 w2→Hd S w2)∧Hid (∀ w1 o,Hd S w1→Hd S (w1.alloc o)):=⟨fun wx=>Below wr.heap.size wr wx,Below.refl _ _,fun _ h=>h,fun _ h=>h,fun wx h=>Below.drew h,fun w1 w2 h hb=>below_stepD h hb,fun w1 o h=>Below.alloc h h.size o⟩
    have HB0:Hid (Blk wr w.heap.size [.int .i64 c,.int .i64 t,.bool m,.slice bao b.length bcap,.slice ao ks.length cap]):=B0
    have ra:∀ wx,Hd S1 wx→wx.cell? ⟨w.heap.size,3,none⟩=some (.slice bao b.length bcap):=fun wx h=>(HB0.out.later (KB1.out wx h)).cell 3 _ rfl
    have rt:Hid (∀ wx,Hd S1 wx→(loadVar 42 ⟨w.heap.size,0,none⟩).run Try.prog wx=.ok (.agg #[.int .i64 c,.int .i64 t,.bool m,.slice bao b.length bcap,.slice ao ks.length cap]) wx):=fun wx h=>(HB0.out.later (KB1.out wx h)).load Try.underlying42 rfl size_tlv rfl
    clear B0
    refine wp_region_noPanic ?_
    refine wp_region_held_drew (S:=Hd S1) (by kernel_rfl) (KD1.out _ hS1) (fun hHeld=>?_)
    clear hS1
    generalize World.drew _=wd at *
    refine wpAnyH_take (i:=0) (v:=.agg #[.int .i64 c,.int .i64 t,.bool m,.slice bao b.length bcap,.slice ao ks.length cap]) rfl (by kernel_rfl) (by kernel_rfl) (by kernel_rfl) (fun _ _ _ h=>h) (Or.inl ⟨by rfl,fun wx h=>exec_load rfl rfl (rt.out wx h)⟩) (by assumption) ?_
    try simp only [Act.put,List.getElem_toArray,List.getElem_cons_zero,List.getElem_cons_succ,List.setIfInBounds_toArray,List.set_cons_zero,List.set_cons_succ]
    refine wpAnyH_take (i:=3) (v:=?_) rfl (by kernel_rfl) (by kernel_rfl) (by kernel_rfl) (fun _ _ _ h=>h) (Or.inl ⟨by rfl,?_⟩) (by assumption) ?_
    rotate_left
    ·intro w hSw
     go_simp
     with_reducible rfl
    try simp only [Act.put,List.getElem_toArray,List.getElem_cons_zero,List.getElem_cons_succ,List.setIfInBounds_toArray,List.set_cons_zero,List.set_cons_succ]
    refine wpAnyH_take (i:=4) (v:=?_) rfl (by kernel_rfl) (by kernel_rfl) (by kernel_rfl) (fun _ _ _ h=>h) (Or.inl ⟨by rfl,?_⟩) (by assumption) ?_
    rotate_left
    ·intro w hSw
     go_simp
     with_reducible rfl
    try simp only [Act.put,List.getElem_toArray,List.getElem_cons_zero,List.getElem_cons_succ,List.setIfInBounds_toArray,List.set_cons_zero,List.set_cons_succ]
    refine wpAnyH_take (i:=5) (v:=?_) rfl (by kernel_rfl) (by kernel_rfl) (by kernel_rfl) (fun _ _ _ h=>h) (Or.inl ⟨by rfl,?_⟩) (by assumption) ?_
    rotate_left
    ·intro w hSw
     go_simp
     with_reducible rfl
    try simp only [Act.put,List.getElem_toArray,List.getElem_cons_zero,List.getElem_cons_succ,List.setIfInBounds_toArray,List.set_cons_zero,List.set_cons_succ]
    refine wpAnyH_take (i:=6) (v:=?_) rfl (by kernel_rfl) (by kernel_rfl) (by kernel_rfl) (fun _ _ _ h=>h) (Or.inl ⟨by rfl,?_⟩) (by assumption) ?_
    rotate_left
    ·intro w hSw
     go_simp
     with_reducible rfl
    try simp only [Act.put,List.getElem_toArray,List.getElem_cons_zero,List.getElem_cons_succ,List.setIfInBounds_toArray,List.set_cons_zero,List.set_cons_succ]
    refine wpAnyH_take (i:=7) (v:=?_) rfl (by kernel_rfl) (by kernel_rfl) (by kernel_rfl) (fun _ _ _ h=>h) (Or.inl ⟨by rfl,?_⟩) (by assumption) ?_
    rotate_left
    ·intro w hSw
     go_simp
     with_reducible rfl
    try simp only [Act.put,List.getElem_toArray,List.getElem_cons_zero,List.getElem_cons_succ,List.setIfInBounds_toArray,List.set_cons_zero,List.set_cons_succ]
    refine wpAnyH_take (i:=8) (v:=?_) rfl (by kernel_rfl) (by kernel_rfl) (by kernel_rfl) (fun _ _ _ h=>h) (Or.inl ⟨by rfl,?_⟩) (by assumption) ?_
    rotate_left
    ·intro w hSw
     go_simp
     with_reducible rfl
    try simp only [Act.put,List.getElem_toArray,List.getElem_cons_zero,List.getElem_cons_succ,List.setIfInBounds_toArray,List.set_cons_zero,List.set_cons_succ]
    have hll:=lenB_len N
    refine wpAnyH_ready (rs:=[1]) (by kernel_rfl) (by simp) ?_
    refine AllReadyH.cons rfl (fun K hK=>?_) ?_
    ·go_simp
     refine (c12_headOf HF1.out (HT0.out.later (below_stepD bel (KB1.out _ hHeld)))).mono ?_
     rintro e w2 ⟨rfl,hb⟩
     refine hK.out _ _ ?_ (fun hHeld2=>?_)
     ·exact KL1.out _ _ hHeld hb
     ·clear hK K hHeld
      have hHeld:=hHeld2
      clear hHeld2
      try simp only [Act.put,List.getElem_toArray,List.getElem_cons_zero,List.getElem_cons_succ,List.setIfInBounds_toArray,List.set_cons_zero,List.set_cons_succ]
      clear hb
      refine wpAnyH_ready (rs:=[2,9]) (by kernel_rfl) (by simp) ?_
      refine AllReadyH.cons rfl (fun K hK=>?_) ?_
      ·have HH0:Hid (Hd S1 w2):=hHeld
       go_simp
       refine hK.out _ _ ?_ (fun hHeld2=>?_)
       ·exact KA1.out _ _ hHeld
       ·clear hK K hHeld
        have hHeld:=hHeld2
        clear hHeld2
        try simp only [Act.put,List.getElem_toArray,List.getElem_cons_zero,List.getElem_cons_succ,List.setIfInBounds_toArray,List.set_cons_zero,List.set_cons_succ]
        have own6:(w2.alloc (.cells #[.int .u8 (headB c t m)] 5)).ownsRow wr.heap.size 5 1 (.slice (some ⟨w2.heap.size,0,none⟩) 1 1) 1 (u8s [headB c t m]):=own_lits w2 [headB c t m] 1 wr.heap.size rfl (KB1.out _ HH0.out).size (by decide)
        refine wpAnyH_ready (rs:=[9]) (by kernel_rfl) (by simp) ?_
        refine AllReadyH.cons rfl (fun K hK=>?_) ?_
        ·go_simp
         refine (c12_lengthOf (n:=N) hN20).mono ?_
         rintro e w5 ⟨v5,rfl,own5,hb5⟩
         refine hK.out _ _ ?_ (fun hHeld2=>?_)
         ·exact KL1.out _ _ hHeld hb5
         ·clear hK K hHeld
          have hHeld:=hHeld2
          clear hHeld2
          try simp only [Act.put,List.getElem_toArray,List.getElem_cons_zero,List.getElem_cons_succ,List.setIfInBounds_toArray,List.set_cons_zero,List.set_cons_succ]
          replace own6:=own_laterD own6 hb5
          have hB5:=Bs.of_own own5
          clear own5 hb5
          refine wpAnyH_ready (rs:=[10]) (by kernel_rfl) (by simp) ?_
          refine AllReadyH.cons rfl (fun K hK=>?_) ?_
          ·have HHz:Hid (Hd S1 _):=hHeld
           rw [if_pos (show Region.wanted _ _=true from rfl)]
           refine wp_of_list (ops:=#[]) rfl ?_
           refine wpList_append_bs (by rfl) _ _ (by rfl) wr.heap.size _ 1 [headB c t m] (by rfl) own6 _ (lenB N) (by rfl) hB5 (by omega) (KB1.out _ HHz.out).size ?_
           intro v8 w8 own8 hgrow hat
           have bel8:=below_own (KB1.out _ HHz.out) hgrow (KB1.out _ HHz.out).size (fun g hg=>own_geD own6 hg) (Nat.le_refl _)
           clear own6 hgrow hat
           refine ⟨rfl,?_⟩
           refine hK.out _ _ ?_ (fun hHeld2=>?_)
           ·exact KI1.out _ bel8
           ·clear hK K hHeld
            have hHeld:=hHeld2
            clear hHeld2
            try simp only [Act.put,List.getElem_toArray,List.getElem_cons_zero,List.getElem_cons_succ,List.setIfInBounds_toArray,List.set_cons_zero,List.set_cons_succ]
            refine wpAnyH_ready (rs:=[11]) (by kernel_rfl) (by simp) ?_
            refine AllReadyH.cons rfl (fun K hK=>?_) ?_
            ·go_simp
             refine hK.out _ _ ?_ (fun hHeld2=>?_)
             ·exact hHeld
             ·clear hK K hHeld
              have hHeld:=hHeld2
              clear hHeld2
              try simp only [Act.put,List.getElem_toArray,List.getElem_cons_zero,List.getElem_cons_succ,List.setIfInBounds_toArray,List.set_cons_zero,List.set_cons_succ]
              refine wpAnyH_done (by kernel_rfl) ?_ _
              refine NoPanic.normal ?_
              have B8:=HB0.out.later bel8
              have hV8:=HBv.out.later (bel.trans (bel8.mono bsz))
              have hK8:=HKs.out.later bel8
              have s8:=bel8.size
              clear hB5 ra rt hHeld
              have e3:=B8.cell 3 _ rfl
              have lt8:=B8.lt
              go_upto_region 9 with (first|(at_builtin;refine wpList_append_bs (by rfl) _ _ (by rfl) wr.heap.size _ (1 + (lenB N).length) ([headB c t m]++lenB N) (by rfl) own8 _ (b) (by rfl) hV8 (by omega) (by omega) ?_;intro v9 w9 own9 hgrow hat)|fail)
              have bel9:=below_own bel8 hgrow s8 (fun g hg=>own_geD own8 hg) (Nat.le_refl _)
              have hK9:=HKs.out.later bel9
              have s9:=bel9.size
              clear hgrow hat own8 bel8 B8 e3 lt8 hV8 hK8 s8
              go_wp2_with (first|(at_builtin;refine wpList_append_bs (by rfl) _ _ (by rfl) wr.heap.size _ (1 + (lenB N).length + b.length) (([headB c t m]++lenB N)++b) (by rfl) own9 _ (H) (by rfl) hK9 (by omega) (by omega) ?_;intro v10 w10 own10 hgrow hat)|fail)
              have bel10:=below_own bel9 hgrow s9 (fun g hg=>own_geD own9 hg) (Nat.le_refl _)
              go_ret
              refine ⟨v10,rfl,?_,bel.trans (bel10.mono bsz)⟩
              have e9:bytesT (.mk c t m b ks)=(([headB c t m]++lenB N)++b)++H:=by rw [HH.out];simp
              have l9:((([headB c t m]++lenB N)++b)++H).length=1 + (lenB N).length + b.length + H.length:=by simp;omega
              rw [e9,l9]
              exact own_lowerD own10 bsz
            exact AllReadyH.nil
          exact AllReadyH.nil
        exact AllReadyH.nil
      refine AllReadyH.cons rfl (fun K hK=>?_) ?_
      ·go_simp
       refine (c12_lengthOf (n:=N) hN20).mono ?_
       rintro e w5 ⟨v5,rfl,own5,hb5⟩
       refine hK.out _ _ ?_ (fun hHeld2=>?_)
       ·exact KL1.out _ _ hHeld hb5
       ·clear hK K hHeld
        have hHeld:=hHeld2
        clear hHeld2
        try simp only [Act.put,List.getElem_toArray,List.getElem_cons_zero,List.getElem_cons_succ,List.setIfInBounds_toArray,List.set_cons_zero,List.set_cons_succ]
        have hB5:=Bs.of_own own5
        clear own5 hb5
        refine wpAnyH_ready (rs:=[2]) (by kernel_rfl) (by simp) ?_
        refine AllReadyH.cons rfl (fun K hK=>?_) ?_
        ·have HH0:Hid (Hd S1 w5):=hHeld
         go_simp
         refine hK.out _ _ ?_ (fun hHeld2=>?_)
         ·exact KA1.out _ _ hHeld
         ·clear hK K hHeld
          have hHeld:=hHeld2
          clear hHeld2
          try simp only [Act.put,List.getElem_toArray,List.getElem_cons_zero,List.getElem_cons_succ,List.setIfInBounds_toArray,List.set_cons_zero,List.set_cons_succ]
          have own6:(w5.alloc (.cells #[.int .u8 (headB c t m)] 5)).ownsRow wr.heap.size 5 1 (.slice (some ⟨w5.heap.size,0,none⟩) 1 1) 1 (u8s [headB c t m]):=own_lits w5 [headB c t m] 1 wr.heap.size rfl (KB1.out _ HH0.out).size (by decide)
          replace hB5:=hB5.later ((Below.refl _ _).alloc (Nat.le_refl _) (.cells #[.int .u8 (headB c t m)] 5))
          refine wpAnyH_ready (rs:=[10]) (by kernel_rfl) (by simp) ?_
          refine AllReadyH.cons rfl (fun K hK=>?_) ?_
          ·have HHz:Hid (Hd S1 _):=hHeld
           rw [if_pos (show Region.wanted _ _=true from rfl)]
           refine wp_of_list (ops:=#[]) rfl ?_
           refine wpList_append_bs (by rfl) _ _ (by rfl) wr.heap.size _ 1 [headB c t m] (by rfl) own6 _ (lenB N) (by rfl) hB5 (by omega) (KB1.out _ HHz.out).size ?_
           intro v8 w8 own8 hgrow hat
           have bel8:=below_own (KB1.out _ HHz.out) hgrow (KB1.out _ HHz.out).size (fun g hg=>own_geD own6 hg) (Nat.le_refl _)
           clear own6 hgrow hat
           refine ⟨rfl,?_⟩
           refine hK.out _ _ ?_ (fun hHeld2=>?_)
           ·exact KI1.out _ bel8
           ·clear hK K hHeld
            have hHeld:=hHeld2
            clear hHeld2
            try simp only [Act.put,List.getElem_toArray,List.getElem_cons_zero,List.getElem_cons_succ,List.setIfInBounds_toArray,List.set_cons_zero,List.set_cons_succ]
            refine wpAnyH_ready (rs:=[11]) (by kernel_rfl) (by simp) ?_
            refine AllReadyH.cons rfl (fun K hK=>?_) ?_
            ·go_simp
             refine hK.out _ _ ?_ (fun hHeld2=>?_)
             ·exact hHeld
             ·clear hK K hHeld
              have hHeld:=hHeld2
              clear hHeld2
              try simp only [Act.put,List.getElem_toArray,List.getElem_cons_zero,List.getElem_cons_succ,List.setIfInBounds_toArray,List.set_cons_zero,List.set_cons_succ]
              refine wpAnyH_done (by kernel_rfl) ?_ _
              refine NoPanic.normal ?_
              have B8:=HB0.out.later bel8
              have hV8:=HBv.out.later (bel.trans (bel8.mono bsz))
              have hK8:=HKs.out.later bel8
              have s8:=bel8.size
              clear hB5 ra rt hHeld
              have e3:=B8.cell 3 _ rfl
              have lt8:=B8.lt
              go_upto_region 9 with (first|(at_builtin;refine wpList_append_bs (by rfl) _ _ (by rfl) wr.heap.size _ (1 + (lenB N).length) ([headB c t m]++lenB N) (by rfl) own8 _ (b) (by rfl) hV8 (by omega) (by omega) ?_;intro v9 w9 own9 hgrow hat)|fail)
              have bel9:=below_own bel8 hgrow s8 (fun g hg=>own_geD own8 hg) (Nat.le_refl _)
              have hK9:=HKs.out.later bel9
              have s9:=bel9.size
              clear hgrow hat own8 bel8 B8 e3 lt8 hV8 hK8 s8
              go_wp2_with (first|(at_builtin;refine wpList_append_bs (by rfl) _ _ (by rfl) wr.heap.size _ (1 + (lenB N).length + b.length) (([headB c t m]++lenB N)++b) (by rfl) own9 _ (H) (by rfl) hK9 (by omega) (by omega) ?_;intro v10 w10 own10 hgrow hat)|fail)
              have bel10:=below_own bel9 hgrow s9 (fun g hg=>own_geD own9 hg) (Nat.le_refl _)
              go_ret
              refine ⟨v10,rfl,?_,bel.trans (bel10.mono bsz)⟩
              have e9:bytesT (.mk c t m b ks)=(([headB c t m]++lenB N)++b)++H:=by rw [HH.out];simp
              have l9:((([headB c t m]++lenB N)++b)++H).length=1 + (lenB N).length + b.length + H.length:=by simp;omega
              rw [e9,l9]
              exact own_lowerD own10 bsz
            exact AllReadyH.nil
          exact AllReadyH.nil
        exact AllReadyH.nil
      exact AllReadyH.nil
    exact AllReadyH.nil
end Go.Proofs.Ytnkipgbnnhahbaa
