import Derived.Test.YtohcdbifhnfcbaaGreatDoorDrDG
import Derived.Test.YtohcdbifhnfcbaaGreatDoorDcG1
import Derived.Test.YtohcdbifhnfcbaaGreatDoorPrOidOf
import Derived.Test.YtohcdbifhnfcbaaGreatDoorRows
import Derived.Deep.OwnRows
import Derived.Deep.AppendLies
import Derived.Great.BuildSlice
import Derived.Deep.WholeRow
import Derived.Deep.RegionHeld3
import Derived.Deep.DeepCutAuto
import Derived.Deep.DeepFit
namespace Go.Proofs.YtohcdbifhnfcbaaGreatDoor
open Go.RowKit
set_option linter.unusedSimpArgs false
set_option maxRecDepth 100000
set_option maxHeartbeats 4000000
theorem Zlz (n:Nat):∀ (T:Tl) (w:World) (cs:List Value),szT T≤n→Zav w T cs →
  Calls Tryz.prog 95 #[.agg cs.toArray] w fun e w'=>e=.returned (.bool (ZaK T))∧Below w.heap.size w w':=by
 induction n with
 | zero=>intro T w cs hz;have:=ZcN T;omega
 | succ n IH =>
  intro T w cs hz h;obtain ⟨c,t,m,b,ks⟩:=T;have h0:=h;rw[Zav] at h;obtain ⟨bv,ao,cap,rfl,hbv,hk1,hk2,hk3⟩:=h;have HK:Hid (0<ks.length→∃ g o,ao=some ⟨g,o,none⟩∧Zap w ks g o):=hk3;clear hk3 h0;unfold maxLen at hk2;obtain ⟨bao,bcap,rfl,hb1,hb2,hb3⟩:=hbv;clear hb3;unfold maxLen at hb1;have B0:=Blk.new w [.int .i64 c,.int .i64 t,.bool m,.slice bao b.length bcap,.slice ao ks.length cap] 53 w.heap.size rfl;have bel:=bal w (.cells #[.int .i64 c,.int .i64 t,.bool m,.slice bao b.length bcap,.slice ao ks.length cap] 53);rw[szT] at hz;have e0:=B0.cell 0 _ rfl;have e1:=B0.cell 1 _ rfl;have e2:=B0.cell 2 _ rfl;have e3:=B0.cell 3 _ rfl;have e4:=B0.cell 4 _ rfl;have lt0:=B0.lt;have HF:Hid (ZaK (.mk c t m b ks)=(Zby c t m b ks && ZaE ks)):=by show _=_;rw[ZaK]
  go_enter Tryz.func95,Tryz.ntmps95;go_upto_region 1 with fail;generalize w.alloc (Obj.cells #[.int .i64 c,.int .i64 t,.bool m,.slice bao b.length bcap,.slice ao ks.length cap] 53)=W at *
  by_cases h1:c<0
  ·go_wp2_with fail
   go_ret;exact ⟨by rw[HF.out,show Zby c t m b ks=false by exact Zbt (by omega),Bool.false_and];rfl,bel⟩
  by_cases h2:3<c
  ·go_wp2_with fail
   go_ret;exact ⟨by rw[HF.out,show Zby c t m b ks=false by exact Zbt (by omega),Bool.false_and];rfl,bel⟩
  by_cases h3:t<0
  ·go_wp2_with fail
   go_ret;exact ⟨by rw[HF.out,show Zby c t m b ks=false by exact Zbt (by omega),Bool.false_and];rfl,bel⟩
  by_cases h4:30<t
  ·go_wp2_with fail
   go_ret;exact ⟨by rw[HF.out,show Zby c t m b ks=false by exact Zbt (by omega),Bool.false_and];rfl,bel⟩
  go_upto_region 3 with fail
  cases m with
  | true =>
   by_cases h5:0<b.length
   ·go_wp2_with fail
    go_ret;exact ⟨by rw[HF.out,show Zby c t true b ks=false from Zbt (by first|exact .inr (.inr (.inr (.inr (.inl ⟨rfl,by omega⟩))))|exact .inr (.inr (.inr (.inr (.inr ⟨rfl,by omega⟩))))),Bool.false_and];rfl,bel⟩
   ·replace HF:Hid (ZaK (.mk c t true b ks)=ZaE ks):=by show _=_;rw[HF.out,show Zby c t true b ks=true from ZdF (by omega) (by omega) (fun h=>by first|omega|cases h) (fun h=>by first|omega|cases h),Bool.true_and]
    go_wp2_with fail;go_loopw [45] (fun iv wx=>∃ i:Nat,i≤ks.length∧iv=.int .i64 i∧Hid (ZaE ks=ZaE (ks.drop i))∧Blk wx w.heap.size [.int .i64 c,.int .i64 t,.bool true,.slice bao b.length bcap,.slice ao ks.length cap]∧Below w.heap.size w wx) (fun iv _=>ks.length-(intOf iv).toNat)
    case atStart=>exact ⟨0,by omega,rfl,rfl,B0,bel⟩
    case round =>
     clear B0 bel lt0 e0 e1 e2 e3 e4;obtain ⟨i,hi,rfl,HL,B0,bel⟩:=hrel
     by_cases hil:i<ks.length
     ·have g1:(i:Int)<(ks.length:Int):=by omega
      have g2:(0:Int)≤(i:Int):=by omega
      have gi:IntKind.i64.wrap ((i:Int)+1)=(i:Int)+1:=by rw[IntKind.wrap_i64];omega
      obtain⟨k,hkk⟩:=ZbI hil;obtain ⟨g,o,hao,hks⟩:=HK.out (by omega);obtain ⟨cs,hcs,hkt⟩:=hks.get hkk;have hsz:=ZcM hkk;replace hcs:=hcs.later bel;replace hkt:=hkt.later bel;have hld:=Zat hcs hkt.five;have hld2:=hld;rw[Nat.mul_comm 5 i] at hld2;subst hao;have hz:=Zaj.out;have HS5:Hid (cs.toArray.size=5):=by show _=_;rw[List.size_toArray];exact hkt.five
      have HO5:Hid (Zca cs):=hkt.ones;have HL5:Hid (cs.length=5):=hkt.five;have KB:=Blk.new wr cs 53 wr.heap.size rfl;replace B0:=B0.alloc (.cells cs.toArray 53);replace bel:=Zah (o:=.cells cs.toArray 53) bel;replace hkt:=hkt.later ((Below.refl _ _).alloc (Nat.le_refl _) (.cells cs.toArray 53));go_upto_region 8 with (first|(refine Zab (by rfl) (by rfl) (by rfl) hld ?_)|(refine Zab (by rfl) (by rfl) (by rfl) hld2 ?_)|(refine wpList_store_row rfl 53 _ _ rfl wr.heap.size cs.toArray rfl rfl 53 _ (heap_alloc_last _ _) (by rw[Zae,HS5.out]) (by rw[HS5.out];rfl) HO5.out ?_;rw[World.setRow_alloc_new])|fail);clear hz hld hld2 hcs;obtain ⟨g1,hg1⟩:∃ g1,g1=wr.heap.size:=⟨_,rfl⟩;rw[← hg1] at KB;generalize wr.alloc (.cells cs.toArray 53)=W2 at *;rw[← hg1];clear hg1;have lk:=KB.lt;have HN:Hid _:=Zgm hkk;go_wp2_with (first|(refine Zab (by rfl) (by rfl) (by rfl) (KB.load Tryz.underlying53 rfl Zae HL5.out) ?_)|fail);refine (IH k _ _ (by omega) hkt).mono ?_;rintro e w2 ⟨rfl,hb2⟩;replace B0:=B0.later hb2;replace bel:=Zar bel hb2;clear hb2 hkt lk KB HS5 HO5 HL5
      cases hq:ZaK k with
      | true =>
       rw[hq,Bool.true_and] at HN;clear hq;go_wp2_with fail;go_roundw
       case rel=>exact ⟨i+1,by omega,by go_num,by show _=_;rw[HL.out,HN.out],B0,bel⟩
       case measure=>simp[intOf];omega
      | false =>
       rw[hq,Bool.false_and] at HN;clear hq;go_wp2_with fail;go_ret;exact ⟨by rw[HF.out,HL.out,HN.out];rfl,bel⟩
     ·have HI:Hid (i=ks.length):=by show i=ks.length;omega
      have g1:¬ (i:Int)<(ks.length:Int):=by omega
      go_wp2_with fail;go_ret;exact ⟨by rw[HF.out,HL.out,HI.out,List.drop_of_length_le (Nat.le_refl _),ZaE];rfl,bel⟩
  | false =>
   by_cases h6:0<ks.length
   ·go_wp2_with fail
    go_ret;exact ⟨by rw[HF.out,show Zby c t false b ks=false from Zbt (by first|exact .inr (.inr (.inr (.inr (.inl ⟨rfl,by omega⟩))))|exact .inr (.inr (.inr (.inr (.inr ⟨rfl,by omega⟩))))),Bool.false_and];rfl,bel⟩
   ·replace HF:Hid (ZaK (.mk c t false b ks)=ZaE ks):=by show _=_;rw[HF.out,show Zby c t false b ks=true from ZdF (by omega) (by omega) (fun h=>by first|omega|cases h) (fun h=>by first|omega|cases h),Bool.true_and]
    go_wp2_with fail;go_loopw [45] (fun iv wx=>∃ i:Nat,i≤ks.length∧iv=.int .i64 i∧Hid (ZaE ks=ZaE (ks.drop i))∧Blk wx w.heap.size [.int .i64 c,.int .i64 t,.bool false,.slice bao b.length bcap,.slice ao ks.length cap]∧Below w.heap.size w wx) (fun iv _=>ks.length-(intOf iv).toNat)
    case atStart=>exact ⟨0,by omega,rfl,rfl,B0,bel⟩
    case round =>
     clear B0 bel lt0 e0 e1 e2 e3 e4;obtain ⟨i,hi,rfl,HL,B0,bel⟩:=hrel
     by_cases hil:i<ks.length
     ·exact absurd hil (by omega)
     ·have HI:Hid (i=ks.length):=by show i=ks.length;omega
      have g1:¬ (i:Int)<(ks.length:Int):=by omega
      go_wp2_with fail;go_ret;exact ⟨by rw[HF.out,HL.out,HI.out,List.drop_of_length_le (Nat.le_refl _),ZaE];rfl,bel⟩
theorem Zoa (n:Nat):∀ (T:Tl) (d:Nat) (w:World) (cs:List Value),szT T≤n→d≤16→Zav w T cs →
  Calls Tryz.prog 96 #[.agg cs.toArray,.int .i64 (d:Int)] w fun e w'=>e=.returned (.bool (decide (16<Zct T+d)))∧Below w.heap.size w w':=by
 induction n with
 | zero=>intro T d w cs hz;have:=ZcN T;omega
 | succ n IH =>
  intro T d w cs hz hd h;obtain ⟨c,t,m,b,ks⟩:=T;have h0:=h;rw[Zav] at h;obtain ⟨bv,ao,cap,rfl,hbv,hk1,hk2,hk3⟩:=h;have HK:Hid (0<ks.length→∃ g o,ao=some ⟨g,o,none⟩∧Zap w ks g o):=hk3;clear hk3 h0;unfold maxLen at hk2;obtain ⟨bao,bcap,rfl,hb1,hb2,hb3⟩:=hbv;clear hb3;unfold maxLen at hb1;have B0:=Blk.new w [.int .i64 c,.int .i64 t,.bool m,.slice bao b.length bcap,.slice ao ks.length cap] 53 w.heap.size rfl;have bel:=bal w (.cells #[.int .i64 c,.int .i64 t,.bool m,.slice bao b.length bcap,.slice ao ks.length cap] 53);rw[szT] at hz;have e4:=B0.cell 4 _ rfl;have lt0:=B0.lt;have HF:Hid (Zct (.mk c t m b ks)=Zb7 ks+1):=by show _=_;rw[Zct]
  go_enter Tryz.func96,Tryz.ntmps96;go_upto_region 1 with fail;generalize w.alloc (Obj.cells #[.int .i64 c,.int .i64 t,.bool m,.slice bao b.length bcap,.slice ao ks.length cap] 53)=W at *
  by_cases c1:16≤d
  ·have g1:(16:Int)≤(d:Int):=by omega
   go_wp2_with fail;go_ret;exact ⟨by rw[HF.out,decide_eq_true (by omega)];rfl,bel⟩
  have g1:¬ (16:Int)≤(d:Int):=by omega
  obtain⟨d1,hd1⟩:∃ d1,d+1=d1:=⟨_,rfl⟩;have g3:IntKind.i64.wrap ((d:Int)+1)=(d1:Int):=by rw[IntKind.wrap_i64];omega
  go_wp2_with fail;go_loopw [12] (fun iv wx=>∃ i:Nat,i≤ks.length∧iv=.int .i64 i∧Hid (∀ (j:Nat) (k:Tl),(ks.take i)[j]?=some k→Zct k+d1≤16)∧Blk wx w.heap.size [.int .i64 c,.int .i64 t,.bool m,.slice bao b.length bcap,.slice ao ks.length cap]∧Below w.heap.size w wx) (fun iv _=>ks.length-(intOf iv).toNat)
  case atStart=>exact ⟨0,by omega,rfl,fun j k h=>by simp at h,B0,bel⟩
  case round =>
   clear B0 bel lt0 e4;obtain ⟨i,hi,rfl,HL,B0,bel⟩:=hrel
   by_cases hil:i<ks.length
   ·have g1:(i:Int)<(ks.length:Int):=by omega
    have g2:(0:Int)≤(i:Int):=by omega
    have gi:IntKind.i64.wrap ((i:Int)+1)=(i:Int)+1:=by rw[IntKind.wrap_i64];omega
    obtain⟨k,hkk⟩:=ZbI hil;obtain ⟨g,o,hao,hks⟩:=HK.out (by omega);obtain ⟨cs,hcs,hkt⟩:=hks.get hkk;have hsz:=ZcM hkk;replace hcs:=hcs.later bel;replace hkt:=hkt.later bel;have hld:=Zat hcs hkt.five;have hld2:=hld;rw[Nat.mul_comm 5 i] at hld2;subst hao;have hz:=Zaj.out;have HS5:Hid (cs.toArray.size=5):=by show _=_;rw[List.size_toArray];exact hkt.five
    have HO5:Hid (Zca cs):=hkt.ones;have HL5:Hid (cs.length=5):=hkt.five;have KB:=Blk.new wr cs 53 wr.heap.size rfl;replace B0:=B0.alloc (.cells cs.toArray 53);replace bel:=Zah (o:=.cells cs.toArray 53) bel;replace hkt:=hkt.later ((Below.refl _ _).alloc (Nat.le_refl _) (.cells cs.toArray 53));go_upto_region 6 with (first|(refine Zab (by rfl) (by rfl) (by rfl) hld ?_)|(refine Zab (by rfl) (by rfl) (by rfl) hld2 ?_)|(refine wpList_store_row rfl 53 _ _ rfl wr.heap.size cs.toArray rfl rfl 53 _ (heap_alloc_last _ _) (by rw[Zae,HS5.out]) (by rw[HS5.out];rfl) HO5.out ?_;rw[World.setRow_alloc_new])|fail);clear hz hld hld2 hcs;obtain ⟨g1,hg1⟩:∃ g1,g1=wr.heap.size:=⟨_,rfl⟩;rw[← hg1] at KB;generalize wr.alloc (.cells cs.toArray 53)=W2 at *;rw[← hg1];clear hg1;have lk:=KB.lt;have HKK:Hid (ks[i]?=some k):=hkk;clear hkk;go_wp2_with (first|(refine Zab (by rfl) (by rfl) (by rfl) (KB.load Tryz.underlying53 rfl Zae HL5.out) ?_)|fail);refine (IH k d1 _ _ (by omega) (by omega) hkt).mono ?_;rintro e w2 ⟨rfl,hb2⟩;replace B0:=B0.later hb2;replace bel:=Zar bel hb2;clear hb2 hkt lk KB HS5 HO5 HL5
    by_cases hq:16<Zct k+d1
    ·rw[decide_eq_true hq]
     have HQ:Hid (16<Zb7 ks+1+d):=by show _<_;have:=Zon HKK.out hq;omega
     clear hq;go_wp2_with fail;go_ret;exact ⟨by rw[HF.out,decide_eq_true HQ.out];rfl,bel⟩
    ·rw[decide_eq_false hq]
     have HN:Hid (∀ (j:Nat) (x:Tl),(ks.take (i+1))[j]?=some x→Zct x+d1≤16):=fun j x hx=>by
      rw[List.take_add_one,HKK.out] at hx
      by_cases hj:j<(ks.take i).length
      ·rw[List.getElem?_append_left hj] at hx
       exact HL.out j x hx
      ·rw[List.getElem?_append_right (by omega)] at hx
       have e0:j-(ks.take i).length=0:=by
        have h1:=(List.getElem?_eq_some_iff.1 hx).1;replace h1:j-(ks.take i).length<1:=h1;omega
       rw[e0] at hx;simp at hx;subst hx;omega
     clear hq;go_wp2_with fail;go_roundw
     case rel=>exact ⟨i+1,by omega,by go_num,HN,B0,bel⟩
     case measure=>simp[intOf];omega
   ·have HI:Hid (i=ks.length):=by show i=ks.length;omega
    have g1:¬ (i:Int)<(ks.length:Int):=by omega
    have HQ:Hid (Zb7 ks+d1≤16):=ZhF (by omega) (fun j k h=>HL.out j k (by rw[HI.out,List.take_of_length_le (Nat.le_refl _)];exact h));go_wp2_with fail;go_ret;exact ⟨by rw[HF.out,decide_eq_false (by have:=HQ.out;omega)];rfl,bel⟩
theorem Zim (n:Nat):∀ (T:Tl) (w:World) (cs:List Value),szT T≤n→ZaK T=true→(Zak T).length≤1048576→Zav w T cs →
  Calls Tryz.prog 55 #[.agg cs.toArray] w fun e w'=>∃ v':Value,e=.returned v'∧w'.ownsRow w.heap.size 5 1 v' (Zak T).length (u8s (Zak T))∧Below w.heap.size w w':=by
 induction n with
 | zero=>intro T w cs hz;have:=ZcN T;omega
 | succ n IH =>
  intro T w cs hz hf hlen h;obtain ⟨c,t,m,b,ks⟩:=T;have h0:=h;rw[Zav] at h;obtain ⟨bv,ao,cap,rfl,hbv,hk1,hk2,hk3⟩:=h;have HK:Hid (0<ks.length→∃ g o,ao=some ⟨g,o,none⟩∧Zap w ks g o):=hk3;have HT0:Hid (Zav w (.mk c t m b ks) [.int .i64 c,.int .i64 t,.bool m,bv,.slice ao ks.length cap]):=h0;clear hk3 h0;unfold maxLen at hk2;obtain ⟨bao,bcap,rfl,hb1,hb2,hb3⟩:=hbv;have HBv:Hid (Bs w (.slice bao b.length bcap) b):=⟨bao,bcap,rfl,hb1,hb2,hb3⟩;clear hb3;unfold maxLen at hb1;have B0:=Blk.new w [.int .i64 c,.int .i64 t,.bool m,.slice bao b.length bcap,.slice ao ks.length cap] 53 w.heap.size rfl;have bel:=bal w (.cells #[.int .i64 c,.int .i64 t,.bool m,.slice bao b.length bcap,.slice ao ks.length cap] 53);rw[szT] at hz;rw[ZaK,Bool.and_eq_true] at hf;have HF1:Hid (Zby c t m b ks=true):=hf.1;have HFk:Hid (ZaE ks=true):=hf.2;clear hf;rw[ZaL,List.length_append] at hlen;have e4:=B0.cell 4 _ rfl;have lt0:=B0.lt;go_enter Tryz.func55,Tryz.ntmps55;go_upto_region 1 with fail;generalize w.alloc (Obj.cells #[.int .i64 c,.int .i64 t,.bool m,.slice bao b.length bcap,.slice ao ks.length cap] 53)=W at *;obtain ⟨W0,hW0⟩:∃ z,z=W.heap.size:=⟨_,rfl⟩;have hsW:w.heap.size<W0:=by rw[hW0];exact lt0
  have hsW1:W0≤W.heap.size:=by omega
  clear hW0;go_wp2_with fail;go_loopw [3,10] (fun hv iv wx=>∃ i:Nat,i≤ks.length∧iv=.int .i64 i∧wx.ownsRow W0 5 1 hv (Zal (ks.take i)).length (u8s (Zal (ks.take i)))∧Blk wx w.heap.size [.int .i64 c,.int .i64 t,.bool m,.slice bao b.length bcap,.slice ao ks.length cap]∧Below w.heap.size w wx∧W0≤wx.heap.size) (fun _ iv _=>ks.length-(intOf iv).toNat)
  case atStart=>exact ⟨0,by omega,rfl,by rw[List.take_zero,Zal];exact ⟨rfl,.inl ⟨rfl,rfl⟩⟩,B0,bel,hsW1⟩
  case round =>
   clear B0 bel lt0 e4 hsW1;obtain ⟨i,hi,rfl,own1,B0,bel,hsW1⟩:=hrel
   by_cases hil:i<ks.length
   ·have g1:(i:Int)<(ks.length:Int):=by omega
    have g2:(0:Int)≤(i:Int):=by omega
    have gi:IntKind.i64.wrap ((i:Int)+1)=(i:Int)+1:=by rw[IntKind.wrap_i64];omega
    obtain⟨k,hkk⟩:=ZbI hil;obtain ⟨g,o,hao,hks⟩:=HK.out (by omega);obtain ⟨cs,hcs,hkt⟩:=hks.get hkk;have hsz:=ZcM hkk;replace hcs:=hcs.later bel;replace hkt:=hkt.later bel;have hld:=Zat hcs hkt.five;have hld2:=hld;rw[Nat.mul_comm 5 i] at hld2;subst hao;have hz:=Zaj.out;have HS5:Hid (cs.toArray.size=5):=by show _=_;rw[List.size_toArray];exact hkt.five
    have HO5:Hid (Zca cs):=hkt.ones;have HL5:Hid (cs.length=5):=hkt.five;replace own1:=Zbw own1 (o:=.cells cs.toArray 53);replace hsW1:W0≤(wr.alloc (.cells cs.toArray 53)).heap.size:=by simp;omega
    have KB:=Blk.new wr cs 53 wr.heap.size rfl;replace B0:=B0.alloc (.cells cs.toArray 53);replace bel:=Zah (o:=.cells cs.toArray 53) bel;replace hkt:=hkt.later ((Below.refl _ _).alloc (Nat.le_refl _) (.cells cs.toArray 53));go_upto_region 5 with (first|(refine Zab (by rfl) (by rfl) (by rfl) hld ?_)|(refine Zab (by rfl) (by rfl) (by rfl) hld2 ?_)|(refine wpList_store_row rfl 53 _ _ rfl wr.heap.size cs.toArray rfl rfl 53 _ (heap_alloc_last _ _) (by rw[Zae,HS5.out]) (by rw[HS5.out];rfl) HO5.out ?_;rw[World.setRow_alloc_new])|fail);clear hz hld hld2 hcs;obtain ⟨g1,hg1⟩:∃ g1,g1=wr.heap.size:=⟨_,rfl⟩;rw[← hg1] at KB;generalize wr.alloc (.cells cs.toArray 53)=W2 at *;rw[← hg1];clear hg1;have lk:=KB.lt;have HN:Hid _:=Zc6 hkk;have hkl:=ZeE hkk;have hfk:=ZaE.get HFk.out hkk;go_wp2_with (first|(refine Zab (by rfl) (by rfl) (by rfl) (KB.load Tryz.underlying53 rfl Zae HL5.out) ?_)|fail);refine (IH k _ _ (by omega) hfk (by omega) hkt).mono ?_;rintro e w2 ⟨v2,rfl,own2,hb2⟩;replace own1:=ZdI own1 hb2;have hb22:=Bs.of_own own2;have hsz2:=hb2.size;replace B0:=B0.later hb2;replace bel:=Zar bel hb2;clear hb2 hkt lk KB HS5 HO5 HL5;clear own2 hkk;obtain ⟨Q,hQ⟩:∃ Q,Zal (ks.take i)=Q:=⟨_,rfl⟩;have HQ:Hid (Zal (ks.take i)=Q):=hQ;rw[hQ] at own1 hkl;clear hQ;go_wp2_with (first|(at_builtin;refine Zad (by rfl) _ _ (by rfl) W0 _ Q.length (Q) (by rfl) own1 _ (Zak k) (by rfl) hb22 (by omega) (by omega) ?_;intro v3 w3 own3 hgrow hat)|fail);have hb3:=Zag (base:=W0) (Below.refl W0 w2) hgrow (by omega) (fun g hg=>ZaI own1 hg) (Nat.le_refl _);have HQ2:Hid (Q++Zak k=Zal (ks.take (i+1))):=by show _=_;rw[HN.out,HQ.out]
    rw[← List.length_append,HQ2.out] at own3;replace B0:=B0.below hb3 hsW;replace bel:=bel.trans (hb3.mono (Nat.le_of_lt hsW));go_roundw
    case rel=>exact ⟨i+1,by omega,by go_num,own3,B0,bel,by have:=hb3.size;omega⟩
    case measure=>simp[intOf];omega
   ·have HI:Hid (i=ks.length):=by show i=ks.length;omega
    have g1:¬ (i:Int)<(ks.length:Int):=by omega
    rw[HI.out,List.take_of_length_le (Nat.le_refl _)] at own1;obtain ⟨H,hH⟩:∃ H,Zal ks=H:=⟨_,rfl⟩;obtain ⟨N,hN⟩:∃ N,b.length+H.length=N:=⟨_,rfl⟩;have HH:Hid (Zak (.mk c t m b ks)=ZbD c t m::(Zbv N++(b++H))):=by show _=_;rw[Zak,hH,List.length_append,hN]
    rw[hH] at own1 hlen;rw[hN] at hlen;clear hH HI;obtain ⟨hao,hcap,hhv,hc1,hc2⟩:=Zbc own1;subst hhv;have HKs:Hid (Bs wr (.slice hao H.length hcap) H):=Bs.of_own own1;clear own1;have a1:IntKind.i64.wrap ((b.length:Int)+(H.length:Int))=(N:Int):=by rw[IntKind.wrap_i64];omega
    have hN20:N≤1048576:=by omega
    have bsz:=bel.size;go_upto_region 7 with fail;obtain ⟨S1,hS1,KB1,KI1,KD1,KL1,KA1⟩:∃ S:World→Prop,Hd S wr∧Hid (∀ wx,Hd S wx→Below wr.heap.size wr wx)∧Hid (∀ wx,Below wr.heap.size wr wx→Hd S wx)∧Hid (∀ wx,Hd S wx→Hd S wx.drew)∧Hid (∀ w1 w2,Hd S w1→Below w1.heap.size w1 w2→Hd S w2)∧Hid (∀ w1 o,Hd S w1→Hd S (w1.alloc o)):=⟨fun wx=>Below wr.heap.size wr wx,Below.refl _ _,fun _ h=>h,fun _ h=>h,fun wx h=>Below.drew h,fun w1 w2 h hb=>Zar h hb,fun w1 o h=>Below.alloc h h.size o⟩;have HB0:Hid (Blk wr w.heap.size [.int .i64 c,.int .i64 t,.bool m,.slice bao b.length bcap,.slice ao ks.length cap]):=B0;have ra:∀ wx,Hd S1 wx→wx.cell? ⟨w.heap.size,3,none⟩=some (.slice bao b.length bcap):=fun wx h=>(HB0.out.later (KB1.out wx h)).cell 3 _ rfl;have rt:Hid (∀ wx,Hd S1 wx→(loadVar 53 ⟨w.heap.size,0,none⟩).run Tryz.prog wx=.ok (.agg #[.int .i64 c,.int .i64 t,.bool m,.slice bao b.length bcap,.slice ao ks.length cap]) wx):=fun wx h=>(HB0.out.later (KB1.out wx h)).load Tryz.underlying53 rfl Zae rfl;clear B0;refine wp_region_noPanic ?_;refine wp_region_held_drew (S:=Hd S1) (by kernel_rfl) (KD1.out _ hS1) (fun hHeld=>?_);clear hS1;generalize World.drew _=wd at *;refine trA 0 (.agg #[.int .i64 c,.int .i64 t,.bool m,.slice bao b.length bcap,.slice ao ks.length cap]) rt.out ?_;refine tkA 3 ?_;refine tkA 4 ?_;refine tkA 5 ?_;refine tkA 6 ?_;refine tkA 7 ?_;refine tkA 8 ?_;have hll:=Zfh N;refine wpAnyH_ready (rs:=[1]) (by kernel_rfl) (by simp) ?_;refine AllReadyH.cons rfl (fun K hK=>?_) ?_
    ·go_simp
     refine(Zj8 HF1.out (HT0.out.later (Zar bel (KB1.out _ hHeld)))).mono ?_;rintro e w2 ⟨rfl,hb⟩;refine hK.out _ _ ?_ (fun hHeld2=>?_)
     ·exact KL1.out _ _ hHeld hb
     ·clear hK K hHeld
      have hHeld:=hHeld2;clear hHeld2;clear hb;refine wpAnyH_ready (rs:=[2,9]) (by kernel_rfl) (by simp) ?_;refine AllReadyH.cons rfl (fun K hK=>?_) ?_
      ·have HH0:Hid (Hd S1 w2):=hHeld
       go_simp;refine hK.out _ _ ?_ (fun hHeld2=>?_)
       ·exact KA1.out _ _ hHeld
       ·clear hK K hHeld
        have hHeld:=hHeld2;clear hHeld2;have own6:(w2.alloc (.cells #[.int .u8 (ZbD c t m)] 5)).ownsRow wr.heap.size 5 1 (.slice (some ⟨w2.heap.size,0,none⟩) 1 1) 1 (u8s [ZbD c t m]):=Zcc w2 [ZbD c t m] 1 wr.heap.size rfl (KB1.out _ HH0.out).size (by decide);refine wpAnyH_ready (rs:=[9]) (by kernel_rfl) (by simp) ?_;refine AllReadyH.cons rfl (fun K hK=>?_) ?_
        ·go_simp
         refine(ZeU (n:=N) hN20).mono ?_;rintro e w5 ⟨v5,rfl,own5,hb5⟩;refine hK.out _ _ ?_ (fun hHeld2=>?_)
         ·exact KL1.out _ _ hHeld hb5
         ·clear hK K hHeld
          have hHeld:=hHeld2;clear hHeld2;replace own6:=ZdI own6 hb5;have hB5:=Bs.of_own own5;clear own5 hb5;refine wpAnyH_ready (rs:=[10]) (by kernel_rfl) (by simp) ?_;refine AllReadyH.cons rfl (fun K hK=>?_) ?_
          ·have HHz:Hid (Hd S1 _):=hHeld
           rw[if_pos (show Region.wanted _ _=true from rfl)];refine Zc0 (ops:=#[]) rfl ?_;refine Zad (by rfl) _ _ (by rfl) wr.heap.size _ 1 [ZbD c t m] (by rfl) own6 _ (Zbv N) (by rfl) hB5 (by omega) (KB1.out _ HHz.out).size ?_;intro v8 w8 own8 hgrow hat;have bel8:=Zag (KB1.out _ HHz.out) hgrow (KB1.out _ HHz.out).size (fun g hg=>ZaI own6 hg) (Nat.le_refl _);clear own6 hgrow hat;refine ⟨rfl,?_⟩;refine hK.out _ _ ?_ (fun hHeld2=>?_)
           ·exact KI1.out _ bel8
           ·clear hK K hHeld
            have hHeld:=hHeld2;clear hHeld2;refine wpAnyH_ready (rs:=[11]) (by kernel_rfl) (by simp) ?_;refine AllReadyH.cons rfl (fun K hK=>?_) ?_
            ·go_simp
             refine hK.out _ _ ?_ (fun hHeld2=>?_)
             ·exact hHeld
             ·clear hK K hHeld
              have hHeld:=hHeld2;clear hHeld2;refine wpAnyH_done (by kernel_rfl) ?_ _;refine NoPanic.normal ?_;have B8:=HB0.out.later bel8;have hV8:=HBv.out.later (bel.trans (bel8.mono bsz));have hK8:=HKs.out.later bel8;have s8:=bel8.size;clear hB5 ra rt hHeld;have e3:=B8.cell 3 _ rfl;have lt8:=B8.lt;go_upto_region 9 with (first|(at_builtin;refine Zad (by rfl) _ _ (by rfl) wr.heap.size _ (1+(Zbv N).length) ([ZbD c t m]++Zbv N) (by rfl) own8 _ (b) (by rfl) hV8 (by omega) (by omega) ?_;intro v9 w9 own9 hgrow hat)|fail);have bel9:=Zag bel8 hgrow s8 (fun g hg=>ZaI own8 hg) (Nat.le_refl _);have hK9:=HKs.out.later bel9;have s9:=bel9.size;clear hgrow hat own8 bel8 B8 e3 lt8 hV8 hK8 s8;go_wp2_with (first|(at_builtin;refine Zad (by rfl) _ _ (by rfl) wr.heap.size _ (1+(Zbv N).length+b.length) (([ZbD c t m]++Zbv N)++b) (by rfl) own9 _ (H) (by rfl) hK9 (by omega) (by omega) ?_;intro v10 w10 own10 hgrow hat)|fail);have bel10:=Zag bel9 hgrow s9 (fun g hg=>ZaI own9 hg) (Nat.le_refl _);go_ret;refine ⟨v10,rfl,?_,bel.trans (bel10.mono bsz)⟩;have e9:Zak (.mk c t m b ks)=(([ZbD c t m]++Zbv N)++b)++H:=by rw[HH.out];simp
              have l9:((([ZbD c t m]++Zbv N)++b)++H).length=1+(Zbv N).length+b.length+H.length:=by simp;omega
              rw[e9,l9];exact Za9 own10 bsz
            exact AllReadyH.nil
          exact AllReadyH.nil
        exact AllReadyH.nil
      refine AllReadyH.cons rfl (fun K hK=>?_) ?_
      ·go_simp
       refine(ZeU (n:=N) hN20).mono ?_;rintro e w5 ⟨v5,rfl,own5,hb5⟩;refine hK.out _ _ ?_ (fun hHeld2=>?_)
       ·exact KL1.out _ _ hHeld hb5
       ·clear hK K hHeld
        have hHeld:=hHeld2;clear hHeld2;have hB5:=Bs.of_own own5;clear own5 hb5;refine wpAnyH_ready (rs:=[2]) (by kernel_rfl) (by simp) ?_;refine AllReadyH.cons rfl (fun K hK=>?_) ?_
        ·have HH0:Hid (Hd S1 w5):=hHeld
         go_simp;refine hK.out _ _ ?_ (fun hHeld2=>?_)
         ·exact KA1.out _ _ hHeld
         ·clear hK K hHeld
          have hHeld:=hHeld2;clear hHeld2;have own6:(w5.alloc (.cells #[.int .u8 (ZbD c t m)] 5)).ownsRow wr.heap.size 5 1 (.slice (some ⟨w5.heap.size,0,none⟩) 1 1) 1 (u8s [ZbD c t m]):=Zcc w5 [ZbD c t m] 1 wr.heap.size rfl (KB1.out _ HH0.out).size (by decide);replace hB5:=hB5.later ((Below.refl _ _).alloc (Nat.le_refl _) (.cells #[.int .u8 (ZbD c t m)] 5));refine wpAnyH_ready (rs:=[10]) (by kernel_rfl) (by simp) ?_;refine AllReadyH.cons rfl (fun K hK=>?_) ?_
          ·have HHz:Hid (Hd S1 _):=hHeld
           rw[if_pos (show Region.wanted _ _=true from rfl)];refine Zc0 (ops:=#[]) rfl ?_;refine Zad (by rfl) _ _ (by rfl) wr.heap.size _ 1 [ZbD c t m] (by rfl) own6 _ (Zbv N) (by rfl) hB5 (by omega) (KB1.out _ HHz.out).size ?_;intro v8 w8 own8 hgrow hat;have bel8:=Zag (KB1.out _ HHz.out) hgrow (KB1.out _ HHz.out).size (fun g hg=>ZaI own6 hg) (Nat.le_refl _);clear own6 hgrow hat;refine ⟨rfl,?_⟩;refine hK.out _ _ ?_ (fun hHeld2=>?_)
           ·exact KI1.out _ bel8
           ·clear hK K hHeld
            have hHeld:=hHeld2;clear hHeld2;refine wpAnyH_ready (rs:=[11]) (by kernel_rfl) (by simp) ?_;refine AllReadyH.cons rfl (fun K hK=>?_) ?_
            ·go_simp
             refine hK.out _ _ ?_ (fun hHeld2=>?_)
             ·exact hHeld
             ·clear hK K hHeld
              have hHeld:=hHeld2;clear hHeld2;refine wpAnyH_done (by kernel_rfl) ?_ _;refine NoPanic.normal ?_;have B8:=HB0.out.later bel8;have hV8:=HBv.out.later (bel.trans (bel8.mono bsz));have hK8:=HKs.out.later bel8;have s8:=bel8.size;clear hB5 ra rt hHeld;have e3:=B8.cell 3 _ rfl;have lt8:=B8.lt;go_upto_region 9 with (first|(at_builtin;refine Zad (by rfl) _ _ (by rfl) wr.heap.size _ (1+(Zbv N).length) ([ZbD c t m]++Zbv N) (by rfl) own8 _ (b) (by rfl) hV8 (by omega) (by omega) ?_;intro v9 w9 own9 hgrow hat)|fail);have bel9:=Zag bel8 hgrow s8 (fun g hg=>ZaI own8 hg) (Nat.le_refl _);have hK9:=HKs.out.later bel9;have s9:=bel9.size;clear hgrow hat own8 bel8 B8 e3 lt8 hV8 hK8 s8;go_wp2_with (first|(at_builtin;refine Zad (by rfl) _ _ (by rfl) wr.heap.size _ (1+(Zbv N).length+b.length) (([ZbD c t m]++Zbv N)++b) (by rfl) own9 _ (H) (by rfl) hK9 (by omega) (by omega) ?_;intro v10 w10 own10 hgrow hat)|fail);have bel10:=Zag bel9 hgrow s9 (fun g hg=>ZaI own9 hg) (Nat.le_refl _);go_ret;refine ⟨v10,rfl,?_,bel.trans (bel10.mono bsz)⟩;have e9:Zak (.mk c t m b ks)=(([ZbD c t m]++Zbv N)++b)++H:=by rw[HH.out];simp
              have l9:((([ZbD c t m]++Zbv N)++b)++H).length=1+(Zbv N).length+b.length+H.length:=by simp;omega
              rw[e9,l9];exact Za9 own10 bsz
            exact AllReadyH.nil
          exact AllReadyH.nil
        exact AllReadyH.nil
      exact AllReadyH.nil
    exact AllReadyH.nil
theorem Zn9 {T : Tl} {cs : List Value} {w : World} (hs : SmT T) (h : Zav w T cs) :
    Calls Tryz.prog 54 #[.agg cs.toArray] w fun e w' => ∃ (n : Nat) (er : Value), e = .returned (.tuple #[.int .i64 (n : Int), er]) ∧ (wrN T = 0 → n = (Zak T).length ∧ er = .nilIface) ∧ (¬ wrN T = 0 → n = 0 ∧ er = .iface 46 (.int .i64 (wrN T : Int))) ∧ Below w.heap.size w w' := by
  obtain⟨c, t, m, b, ks⟩ := T;have h0 := h;rw[Zav] at h;obtain ⟨bv, ao, cap, hcs, hbv, hk1, hk2, hk3⟩ := h;obtain ⟨bao, bcap, rfl, hb1, hb2, hb3⟩ := hbv;subst hcs;clear hk1 hk2 hk3 hb1 hb2 hb3;have B0 := Blk.new w [.int .i64 c, .int .i64 t, .bool m, .slice bao b.length bcap, .slice ao ks.length cap] 53 w.heap.size rfl;have bel:=bal w (.cells #[.int .i64 c, .int .i64 t, .bool m, .slice bao b.length bcap, .slice ao ks.length cap] 53);have H0 : Hid (Zav (w.alloc (.cells #[.int .i64 c, .int .i64 t, .bool m, .slice bao b.length bcap, .slice ao ks.length cap] 53)) (.mk c t m b ks) [.int .i64 c, .int .i64 t, .bool m, .slice bao b.length bcap, .slice ao ks.length cap]) := h0.later bel;clear h0;obtain ⟨T, hT⟩ : ∃ T, T = Tl.mk c t m b ks := ⟨_, rfl⟩;rw[← hT] at H0 hs ⊢;clear hT;go_enter Tryz.func54, Tryz.ntmps54;go_upto_region 1 with fail;generalize w.alloc (Obj.cells #[.int .i64 c, .int .i64 t, .bool m, .slice bao b.length bcap, .slice ao ks.length cap] 53) = W at *;have hld := B0.load (P := Tryz.prog) Tryz.underlying53 rfl Zae rfl;have lt0 := B0.lt;go_wp2_with (first | (refine Zab (by rfl) (by rfl) (by rfl) hld ?_) | fail);refine (Zlz (szT T) T _ _ (Nat.le_refl _) H0.out).mono ?_;rintro e w2 ⟨rfl, hb9⟩;replace B0 := B0.later hb9;replace H0:=Zj1 H0 hb9;replace bel := Zar bel hb9;clear hb9 hld lt0
  by_cases hf : ZaK T = true
  rotate_left
  · replace hf : ZaK T = false := by cases hq : ZaK T with
      | true => exact absurd hq hf
      | false => rfl
    have HW : Hid (wrN T = 1) := by show _ = _; unfold wrN; rw[hf]; rfl
    rw[hf];go_wp2_with fail;refine bodyPost_ret (results_tmp2 rfl _ _ _) rfl ?_;exact ⟨0, _, rfl, fun h => absurd (HW.out.symm.trans h) (by decide), fun _ => ⟨rfl, by rw[HW.out]; rfl⟩, bel⟩
  have HF : Hid (ZaK T = true) := hf;rw[hf];clear hf;have hld := B0.load (P := Tryz.prog) Tryz.underlying53 rfl Zae rfl;have lt0 := B0.lt;go_wp2_with (first | (refine Zab (by rfl) (by rfl) (by rfl) hld ?_) | fail);refine (Zoa (szT T) T 0 _ _ (Nat.le_refl _) (by omega) H0.out).mono ?_;rintro e w3 ⟨rfl, hb9⟩;replace B0 := B0.later hb9;replace H0:=Zj1 H0 hb9;replace bel := Zar bel hb9;clear hb9 hld lt0;rw[Nat.add_zero]
  by_cases hd1 : 16<Zct T
  · rw[decide_eq_true hd1]
    have HW : Hid (wrN T = 9) := by show _ = _; unfold wrN; rw[if_pos HF.out, if_pos hd1]
    go_wp2_with fail;refine bodyPost_ret (results_tmp2 rfl _ _ _) rfl ?_;exact ⟨0, _, rfl, fun h => absurd (HW.out.symm.trans h) (by decide), fun _ => ⟨rfl, by rw[HW.out]; rfl⟩, bel⟩
  rw[decide_eq_false hd1];have hld := B0.load (P := Tryz.prog) Tryz.underlying53 rfl Zae rfl;have lt0 := B0.lt;go_wp2_with (first | (refine Zab (by rfl) (by rfl) (by rfl) hld ?_) | fail);refine (Zod (szT T) T _ _ (Nat.le_refl _) (by omega) hs H0.out).mono ?_;rintro e w4 ⟨z, rfl, hz, hb9⟩;replace B0 := B0.later hb9;replace H0:=Zj1 H0 hb9;replace bel := Zar bel hb9;clear hb9 hld lt0
  by_cases hn1 : 1048576<z
  · have g2 : (1048576 : Int)<(z : Int) := by omega
    have HW : Hid (wrN T = 2) := by
      show _ = _;unfold wrN;rw[if_pos HF.out, if_neg hd1, if_pos];have := hz.1;omega
    clear hz;go_wp2_with fail;refine bodyPost_ret (results_tmp2 rfl _ _ _) rfl ?_;exact ⟨0, _, rfl, fun h => absurd (HW.out.symm.trans h) (by decide), fun _ => ⟨rfl, by rw[HW.out]; rfl⟩, bel⟩
  have g2 : ¬ (1048576 : Int)<(z : Int) := by omega
  have HZ : Hid ((Zak T).length ≤ 1048576 ∧ z = (Zak T).length) := by
    have h1 := hz.1;have h2 := hz.2.1
    by_cases q : (Zak T).length ≤ 1048576
    · exact ⟨q, h1 q⟩
    · have := h2 (by omega)
      omega
  have HW : Hid (wrN T = 0) := by show _ = _; unfold wrN; rw[if_pos HF.out, if_neg hd1, if_neg (by have := HZ.out.1; omega)]
  clear hz;go_wp2_with fail;refine bodyPost_ret (results_tmp2 rfl _ _ _) rfl ?_;exact ⟨z, _, rfl, fun _ => ⟨HZ.out.2, rfl⟩, fun h => absurd HW.out h, bel⟩
theorem Zkx {w w':World} {v:Value} {X:List Int} (h:w'.ownsRow w.heap.size 5 1 v X.length (u8s X)) (h0:0<X.length):Zi4 w w' v X:=by
 obtain⟨hl,h⟩:=h;rcases h with ⟨_,h2⟩|⟨g,cap,cur,rfl,h2,h3,h4,h5,h6,h7⟩
 ·omega
 ·refine ⟨g,0,cap,cur.toList,rfl,h4,h5,h2,⟨_,by simpa using h3⟩,fun j hj=>?_⟩
  have e:=congrArg (·[j]?) h7;simp only[Nat.mul_one,List.getElem?_take] at e;rw[if_pos (by omega),Zd9 X j hj] at e;rw[Nat.zero_add];exact e
theorem Zlx {T:Tl} {cs:List Value} {w:World} (hs:SmT T) (h:Zav w T cs) :
  Calls Tryz.prog 22 #[.agg cs.toArray] w fun e w'=>∃ v' er:Value,e=.returned (.tuple #[v',er])∧WrAt w w' T v' er∧Below w.heap.size w w':=by
 obtain⟨c,t,m,b,ks⟩:=T;have h0:=h;rw[Zav] at h;obtain ⟨bv,ao,cap,hcs,hbv,hk1,hk2,hk3⟩:=h;obtain ⟨bao,bcap,rfl,hb1,hb2,hb3⟩:=hbv;subst hcs;clear hk1 hk2 hk3 hb1 hb2 hb3;have B0:=Blk.new w [.int .i64 c,.int .i64 t,.bool m,.slice bao b.length bcap,.slice ao ks.length cap] 53 w.heap.size rfl;have bel:=bal w (.cells #[.int .i64 c,.int .i64 t,.bool m,.slice bao b.length bcap,.slice ao ks.length cap] 53);have H0:Hid (Zav (w.alloc (.cells #[.int .i64 c,.int .i64 t,.bool m,.slice bao b.length bcap,.slice ao ks.length cap] 53)) (.mk c t m b ks) [.int .i64 c,.int .i64 t,.bool m,.slice bao b.length bcap,.slice ao ks.length cap]):=h0.later bel;clear h0;obtain ⟨T,hT⟩:∃ T,T=Tl.mk c t m b ks:=⟨_,rfl⟩;rw[← hT] at H0 hs ⊢;clear hT;go_enter Tryz.func22,Tryz.ntmps22;go_upto_region 1 with fail;generalize w.alloc (Obj.cells #[.int .i64 c,.int .i64 t,.bool m,.slice bao b.length bcap,.slice ao ks.length cap] 53)=W at *;have hld:=B0.load (P:=Tryz.prog) Tryz.underlying53 rfl Zae rfl;have lt0:=B0.lt;go_wp2_with (first|(refine Zab (by rfl) (by rfl) (by rfl) hld ?_)|fail);refine (Zn9 hs H0.out).mono ?_;rintro e w2 ⟨n,er,rfl,h1,h2,hb9⟩;replace B0:=B0.later hb9;replace H0:=Zj1 H0 hb9;replace bel:=Zar bel hb9;clear hb9 hld lt0
 by_cases hq:wrN T=0
 rotate_left
 ·obtain ⟨rfl,rfl⟩:=h2 hq
  clear h1 h2;have HQ:Hid (¬ wrN T=0):=hq;obtain ⟨k,hk⟩:∃ k,(wrN T:Int)=k:=⟨_,rfl⟩;have HK:Hid ((wrN T:Int)=k):=hk;rw[hk];clear hk hq;go_wp2_with fail;refine bodyPost_ret (results_tmp2 rfl _ _ _) rfl ?_;exact ⟨_,_,rfl,⟨fun h=>absurd h HQ.out,fun _=>⟨⟨none,0,rfl,by decide,by decide,fun h=>by simp at h⟩,by rw[HK.out];rfl⟩⟩,bel⟩
 obtain⟨rfl,rfl⟩:=h1 hq;clear h1 h2;have HQ:Hid (wrN T=0):=hq;have HF:Hid (ZaK T=true∧(Zak T).length≤1048576):=by
  unfold wrN at hq
  split at hq
  ·split at hq
   ·cases hq
   ·split at hq
    ·cases hq
    ·exact ⟨by assumption,by omega⟩
  ·cases hq
 clear hq;have hld:=B0.load (P:=Tryz.prog) Tryz.underlying53 rfl Zae rfl;have lt0:=B0.lt;go_wp2_with (first|(refine Zab (by rfl) (by rfl) (by rfl) hld ?_)|fail);have hsz:=bel.size;refine (Zim (szT T) T _ _ (Nat.le_refl _) HF.out.1 HF.out.2 H0.out).mono ?_;rintro e w3 ⟨v3,rfl,own,hb9⟩;replace B0:=B0.later hb9;replace H0:=Zj1 H0 hb9;replace bel:=Zar bel hb9;clear hb9 hld lt0;have HO:Hid _:=Za9 own hsz;clear own;go_wp2_with fail;refine bodyPost_ret (results_tmp2 rfl _ _ _) rfl ?_;exact ⟨v3,_,rfl,⟨fun _=>⟨Zkx HO.out (by have:=Zcs T;omega),rfl⟩,fun h=>absurd HQ.out h⟩,bel⟩
end Go.Proofs.YtohcdbifhnfcbaaGreatDoor
