/- The program's sound and deep. -/
import Derived.Test.YtnkipgbnnhahbaaDrDep
import Derived.Test.YtnkipgbnnhahbaaDcNum
import Derived.Test.YtnkipgbnnhahbaaRows
import Derived.Deep.OwnRows
import Derived.Deep.AppendLies
import Derived.Great.BuildSlice
import Derived.Deep.WholeRow
import Derived.Deep.RegionHeld3
import Derived.Deep.DeepCutAuto
import Derived.Deep.DeepFit
namespace Go.Proofs.Ytnkipgbnnhahbaa
open Go.RowKit
set_option linter.unusedSimpArgs false in
set_option maxRecDepth 100000 in
set_option maxHeartbeats 4000000 in
theorem c12_sound (n:Nat):∀ (T:Tl) (w:World) (cs:List Value),szT T≤n→TlAt w T cs →
  Calls Try.prog 34 #[.agg cs.toArray] w fun e w'=>e=.returned (.bool (fineT T))∧Below w.heap.size w w':=by
 induction n with
 | zero=>intro T w cs hz;have:=szT_pos T;omega
 | succ n IH =>
  intro T w cs hz h
  obtain ⟨c,t,m,b,ks⟩:=T
  have h0:=h
  rw [TlAt] at h
  obtain ⟨bv,ao,cap,rfl,hbv,hk1,hk2,hk3⟩:=h
  have HK:Hid (0 < ks.length→∃ g o,ao=some ⟨g,o,none⟩∧KidsAt w ks g o):=hk3
  clear hk3 h0
  unfold maxLen at hk2
  obtain ⟨bao,bcap,rfl,hb1,hb2,hb3⟩:=hbv
  clear hb3
  unfold maxLen at hb1
  have B0:=Blk.new w [.int .i64 c,.int .i64 t,.bool m,.slice bao b.length bcap,.slice ao ks.length cap] 42 w.heap.size rfl
  have bel:Below w.heap.size w (w.alloc (.cells #[.int .i64 c,.int .i64 t,.bool m,.slice bao b.length bcap,.slice ao ks.length cap] 42)):=(Below.refl _ _).alloc (Nat.le_refl _) _
  rw [szT] at hz
  have e0:=B0.cell 0 _ rfl
  have e1:=B0.cell 1 _ rfl
  have e2:=B0.cell 2 _ rfl
  have e3:=B0.cell 3 _ rfl
  have e4:=B0.cell 4 _ rfl
  have lt0:=B0.lt
  have HF:Hid (fineT (.mk c t m b ks)=(fine1 c t m b ks && fineL ks)):=by show _=_;rw [fineT]
  go_enter Try.func34,Try.ntmps34
  go_upto_region 1 with fail
  generalize w.alloc (Obj.cells #[.int .i64 c,.int .i64 t,.bool m,.slice bao b.length bcap,.slice ao ks.length cap] 42)=W at *
  by_cases h1:c < 0
  ·go_wp2_with fail
   go_ret
   exact ⟨by rw [HF.out,show fine1 c t m b ks=false by exact fine1_bad (by omega),Bool.false_and];rfl,bel⟩
  by_cases h2:3 < c
  ·go_wp2_with fail
   go_ret
   exact ⟨by rw [HF.out,show fine1 c t m b ks=false by exact fine1_bad (by omega),Bool.false_and];rfl,bel⟩
  by_cases h3:t < 0
  ·go_wp2_with fail
   go_ret
   exact ⟨by rw [HF.out,show fine1 c t m b ks=false by exact fine1_bad (by omega),Bool.false_and];rfl,bel⟩
  by_cases h4:30 < t
  ·go_wp2_with fail
   go_ret
   exact ⟨by rw [HF.out,show fine1 c t m b ks=false by exact fine1_bad (by omega),Bool.false_and];rfl,bel⟩
  go_upto_region 3 with fail
  cases m with
  | true =>
   by_cases h5:0 < b.length
   ·go_wp2_with fail
    go_ret
    exact ⟨by rw [HF.out,show fine1 c t true b ks=false from fine1_bad (by first|exact .inr (.inr (.inr (.inr (.inl ⟨rfl,by omega⟩))))|exact .inr (.inr (.inr (.inr (.inr ⟨rfl,by omega⟩))))),Bool.false_and];rfl,bel⟩
   ·replace HF:Hid (fineT (.mk c t true b ks)=fineL ks):=by show _=_;rw [HF.out,show fine1 c t true b ks=true from fine1_good (by omega) (by omega) (fun h=>by first|omega|cases h) (fun h=>by first|omega|cases h),Bool.true_and]
    go_wp2_with fail
    go_loopw [45] (fun iv wx=>∃ i:Nat,i≤ks.length∧iv=.int .i64 i∧Hid (fineL ks=fineL (ks.drop i))∧Blk wx w.heap.size [.int .i64 c,.int .i64 t,.bool true,.slice bao b.length bcap,.slice ao ks.length cap]∧Below w.heap.size w wx) (fun iv _=>ks.length - (intOf iv).toNat)
    case atStart=>exact ⟨0,by omega,rfl,rfl,B0,bel⟩
    case round =>
     clear B0 bel lt0 e0 e1 e2 e3 e4
     obtain ⟨i,hi,rfl,HL,B0,bel⟩:=hrel
     by_cases hil:i < ks.length
     ·have g1:(i:Int) < (ks.length:Int):=by omega
      have g2:(0:Int)≤(i:Int):=by omega
      have gi:IntKind.i64.wrap ((i:Int) + 1)=(i:Int) + 1:=by rw [IntKind.wrap_i64];omega
      obtain ⟨k,hkk⟩:=get_kid hil
      obtain ⟨g,o,hao,hks⟩:=HK.out (by omega)
      obtain ⟨cs,hcs,hkt⟩:=hks.get hkk
      have hsz:=szL_get hkk
      replace hcs:=hcs.later bel
      replace hkt:=hkt.later bel
      have hld:=tlv_load hcs hkt.five
      have hld2:=hld
      rw [Nat.mul_comm 5 i] at hld2
      subst hao
      have hz:=zero_tlv.out
      have HS5:Hid (cs.toArray.size=5):=by show _=_;rw [List.size_toArray];exact hkt.five
      have HO5:Hid (OneC cs):=hkt.ones
      have HL5:Hid (cs.length=5):=hkt.five
      have KB:=Blk.new wr cs 42 wr.heap.size rfl
      replace B0:=B0.alloc (.cells cs.toArray 42)
      replace bel:=below_alloc (o:=.cells cs.toArray 42) bel
      replace hkt:=hkt.later ((Below.refl _ _).alloc (Nat.le_refl _) (.cells cs.toArray 42))
      go_upto_region 8 with (first|(refine wpList_load_run (by rfl) (by rfl) (by rfl) hld ?_)|(refine wpList_load_run (by rfl) (by rfl) (by rfl) hld2 ?_)|(refine wpList_store_row rfl 42 _ _ rfl wr.heap.size cs.toArray rfl rfl 42 _ (heap_alloc_last _ _) (by rw [size_tlv,HS5.out]) (by rw [HS5.out];rfl) HO5.out ?_;rw [World.setRow_alloc_new])|fail)
      clear hz hld hld2 hcs
      obtain ⟨g1,hg1⟩:∃ g1,g1=wr.heap.size:=⟨_,rfl⟩
      rw [← hg1] at KB
      generalize wr.alloc (.cells cs.toArray 42)=W2 at *
      rw [← hg1]
      clear hg1
      have lk:=KB.lt
      have HN:Hid _:=fineL_drop hkk
      go_wp2_with (first|(refine wpList_load_run (by rfl) (by rfl) (by rfl) (KB.load Try.underlying42 rfl size_tlv HL5.out) ?_)|fail)
      refine (IH k _ _ (by omega) hkt).mono ?_
      rintro e w2 ⟨rfl,hb2⟩
      replace B0:=B0.later hb2
      replace bel:=below_stepD bel hb2
      clear hb2 hkt lk KB HS5 HO5 HL5
      cases hq:fineT k with
      | true =>
       rw [hq,Bool.true_and] at HN
       clear hq
       go_wp2_with fail
       go_roundw
       case rel=>exact ⟨i + 1,by omega,by go_num,by show _=_;rw [HL.out,HN.out],B0,bel⟩
       case measure=>simp [intOf];omega
      | false =>
       rw [hq,Bool.false_and] at HN
       clear hq
       go_wp2_with fail
       go_ret
       exact ⟨by rw [HF.out,HL.out,HN.out];rfl,bel⟩
     ·have HI:Hid (i=ks.length):=by show i=ks.length;omega
      have g1:¬ (i:Int) < (ks.length:Int):=by omega
      go_wp2_with fail
      go_ret
      exact ⟨by rw [HF.out,HL.out,HI.out,List.drop_of_length_le (Nat.le_refl _),fineL];rfl,bel⟩
  | false =>
   by_cases h6:0 < ks.length
   ·go_wp2_with fail
    go_ret
    exact ⟨by rw [HF.out,show fine1 c t false b ks=false from fine1_bad (by first|exact .inr (.inr (.inr (.inr (.inl ⟨rfl,by omega⟩))))|exact .inr (.inr (.inr (.inr (.inr ⟨rfl,by omega⟩))))),Bool.false_and];rfl,bel⟩
   ·replace HF:Hid (fineT (.mk c t false b ks)=fineL ks):=by show _=_;rw [HF.out,show fine1 c t false b ks=true from fine1_good (by omega) (by omega) (fun h=>by first|omega|cases h) (fun h=>by first|omega|cases h),Bool.true_and]
    go_wp2_with fail
    go_loopw [45] (fun iv wx=>∃ i:Nat,i≤ks.length∧iv=.int .i64 i∧Hid (fineL ks=fineL (ks.drop i))∧Blk wx w.heap.size [.int .i64 c,.int .i64 t,.bool false,.slice bao b.length bcap,.slice ao ks.length cap]∧Below w.heap.size w wx) (fun iv _=>ks.length - (intOf iv).toNat)
    case atStart=>exact ⟨0,by omega,rfl,rfl,B0,bel⟩
    case round =>
     clear B0 bel lt0 e0 e1 e2 e3 e4
     obtain ⟨i,hi,rfl,HL,B0,bel⟩:=hrel
     by_cases hil:i < ks.length
     ·exact absurd hil (by omega)
     ·have HI:Hid (i=ks.length):=by show i=ks.length;omega
      have g1:¬ (i:Int) < (ks.length:Int):=by omega
      go_wp2_with fail
      go_ret
      exact ⟨by rw [HF.out,HL.out,HI.out,List.drop_of_length_le (Nat.le_refl _),fineL];rfl,bel⟩
set_option linter.unusedSimpArgs false in
set_option maxRecDepth 100000 in
set_option maxHeartbeats 4000000 in
theorem c12_deep (n:Nat):∀ (T:Tl) (d:Nat) (w:World) (cs:List Value),szT T≤n→d≤16→TlAt w T cs →
  Calls Try.prog 35 #[.agg cs.toArray,.int .i64 (d:Int)] w fun e w'=>e=.returned (.bool (decide (16 < depT T + d)))∧Below w.heap.size w w':=by
 induction n with
 | zero=>intro T d w cs hz;have:=szT_pos T;omega
 | succ n IH =>
  intro T d w cs hz hd h
  obtain ⟨c,t,m,b,ks⟩:=T
  have h0:=h
  rw [TlAt] at h
  obtain ⟨bv,ao,cap,rfl,hbv,hk1,hk2,hk3⟩:=h
  have HK:Hid (0 < ks.length→∃ g o,ao=some ⟨g,o,none⟩∧KidsAt w ks g o):=hk3
  clear hk3 h0
  unfold maxLen at hk2
  obtain ⟨bao,bcap,rfl,hb1,hb2,hb3⟩:=hbv
  clear hb3
  unfold maxLen at hb1
  have B0:=Blk.new w [.int .i64 c,.int .i64 t,.bool m,.slice bao b.length bcap,.slice ao ks.length cap] 42 w.heap.size rfl
  have bel:Below w.heap.size w (w.alloc (.cells #[.int .i64 c,.int .i64 t,.bool m,.slice bao b.length bcap,.slice ao ks.length cap] 42)):=(Below.refl _ _).alloc (Nat.le_refl _) _
  rw [szT] at hz
  have e4:=B0.cell 4 _ rfl
  have lt0:=B0.lt
  have HF:Hid (depT (.mk c t m b ks)=depL ks + 1):=by show _=_;rw [depT]
  go_enter Try.func35,Try.ntmps35
  go_upto_region 1 with fail
  generalize w.alloc (Obj.cells #[.int .i64 c,.int .i64 t,.bool m,.slice bao b.length bcap,.slice ao ks.length cap] 42)=W at *
  by_cases c1:16≤d
  ·have g1:(16:Int)≤(d:Int):=by omega
   go_wp2_with fail
   go_ret
   exact ⟨by rw [HF.out,decide_eq_true (by omega)];rfl,bel⟩
  have g1:¬ (16:Int)≤(d:Int):=by omega
  obtain ⟨d1,hd1⟩:∃ d1,d + 1=d1:=⟨_,rfl⟩
  have g3:IntKind.i64.wrap ((d:Int) + 1)=(d1:Int):=by rw [IntKind.wrap_i64];omega
  go_wp2_with fail
  go_loopw [12] (fun iv wx=>∃ i:Nat,i≤ks.length∧iv=.int .i64 i∧Hid (∀ (j:Nat) (k:Tl),(ks.take i)[j]?=some k→depT k + d1≤16)∧Blk wx w.heap.size [.int .i64 c,.int .i64 t,.bool m,.slice bao b.length bcap,.slice ao ks.length cap]∧Below w.heap.size w wx) (fun iv _=>ks.length - (intOf iv).toNat)
  case atStart=>exact ⟨0,by omega,rfl,fun j k h=>by simp at h,B0,bel⟩
  case round =>
   clear B0 bel lt0 e4
   obtain ⟨i,hi,rfl,HL,B0,bel⟩:=hrel
   by_cases hil:i < ks.length
   ·have g1:(i:Int) < (ks.length:Int):=by omega
    have g2:(0:Int)≤(i:Int):=by omega
    have gi:IntKind.i64.wrap ((i:Int) + 1)=(i:Int) + 1:=by rw [IntKind.wrap_i64];omega
    obtain ⟨k,hkk⟩:=get_kid hil
    obtain ⟨g,o,hao,hks⟩:=HK.out (by omega)
    obtain ⟨cs,hcs,hkt⟩:=hks.get hkk
    have hsz:=szL_get hkk
    replace hcs:=hcs.later bel
    replace hkt:=hkt.later bel
    have hld:=tlv_load hcs hkt.five
    have hld2:=hld
    rw [Nat.mul_comm 5 i] at hld2
    subst hao
    have hz:=zero_tlv.out
    have HS5:Hid (cs.toArray.size=5):=by show _=_;rw [List.size_toArray];exact hkt.five
    have HO5:Hid (OneC cs):=hkt.ones
    have HL5:Hid (cs.length=5):=hkt.five
    have KB:=Blk.new wr cs 42 wr.heap.size rfl
    replace B0:=B0.alloc (.cells cs.toArray 42)
    replace bel:=below_alloc (o:=.cells cs.toArray 42) bel
    replace hkt:=hkt.later ((Below.refl _ _).alloc (Nat.le_refl _) (.cells cs.toArray 42))
    go_upto_region 6 with (first|(refine wpList_load_run (by rfl) (by rfl) (by rfl) hld ?_)|(refine wpList_load_run (by rfl) (by rfl) (by rfl) hld2 ?_)|(refine wpList_store_row rfl 42 _ _ rfl wr.heap.size cs.toArray rfl rfl 42 _ (heap_alloc_last _ _) (by rw [size_tlv,HS5.out]) (by rw [HS5.out];rfl) HO5.out ?_;rw [World.setRow_alloc_new])|fail)
    clear hz hld hld2 hcs
    obtain ⟨g1,hg1⟩:∃ g1,g1=wr.heap.size:=⟨_,rfl⟩
    rw [← hg1] at KB
    generalize wr.alloc (.cells cs.toArray 42)=W2 at *
    rw [← hg1]
    clear hg1
    have lk:=KB.lt
    have HKK:Hid (ks[i]?=some k):=hkk
    clear hkk
    go_wp2_with (first|(refine wpList_load_run (by rfl) (by rfl) (by rfl) (KB.load Try.underlying42 rfl size_tlv HL5.out) ?_)|fail)
    refine (IH k d1 _ _ (by omega) (by omega) hkt).mono ?_
    rintro e w2 ⟨rfl,hb2⟩
    replace B0:=B0.later hb2
    replace bel:=below_stepD bel hb2
    clear hb2 hkt lk KB HS5 HO5 HL5
    by_cases hq:16 < depT k + d1
    ·rw [decide_eq_true hq]
     have HQ:Hid (16 < depL ks + 1 + d):=by show _ < _;have:=deep_kid HKK.out hq;omega
     clear hq
     go_wp2_with fail
     go_ret
     exact ⟨by rw [HF.out,decide_eq_true HQ.out];rfl,bel⟩
    ·rw [decide_eq_false hq]
     have HN:Hid (∀ (j:Nat) (x:Tl),(ks.take (i + 1))[j]?=some x→depT x + d1≤16):=fun j x hx=>by
      rw [List.take_add_one,HKK.out] at hx
      by_cases hj:j < (ks.take i).length
      ·rw [List.getElem?_append_left hj] at hx
       exact HL.out j x hx
      ·rw [List.getElem?_append_right (by omega)] at hx
       have e0:j - (ks.take i).length=0:=by
        have h1:=(List.getElem?_eq_some_iff.1 hx).1
        replace h1:j - (ks.take i).length < 1:=h1
        omega
       rw [e0] at hx
       simp at hx
       subst hx
       omega
     clear hq
     go_wp2_with fail
     go_roundw
     case rel=>exact ⟨i + 1,by omega,by go_num,HN,B0,bel⟩
     case measure=>simp [intOf];omega
   ·have HI:Hid (i=ks.length):=by show i=ks.length;omega
    have g1:¬ (i:Int) < (ks.length:Int):=by omega
    have HQ:Hid (depL ks + d1≤16):=deep_none (by omega) (fun j k h=>HL.out j k (by rw [HI.out,List.take_of_length_le (Nat.le_refl _)];exact h))
    go_wp2_with fail
    go_ret
    exact ⟨by rw [HF.out,decide_eq_false (by have:=HQ.out;omega)];rfl,bel⟩
end Go.Proofs.Ytnkipgbnnhahbaa
