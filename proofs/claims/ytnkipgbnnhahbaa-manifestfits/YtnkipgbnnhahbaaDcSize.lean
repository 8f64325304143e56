/- The program's size. -/
import Derived.Test.YtnkipgbnnhahbaaDrDep
import Derived.Test.YtnkipgbnnhahbaaDcLen
import Derived.Test.YtnkipgbnnhahbaaRows
import Derived.Deep.OwnRows
import Derived.Deep.AppendLies
import Derived.Great.BuildSlice
import Derived.Deep.WholeRow
import Derived.Deep.RegionHeld3
import Derived.Deep.DeepCutAuto
import Derived.Deep.DeepFit
namespace Go.Proofs.Ytnkipgbnnhahbaa
open Go.RowKit
set_option linter.unusedSimpArgs false in
set_option maxRecDepth 100000 in
set_option maxHeartbeats 4000000 in
theorem c12_size (n:Nat):∀ (T:Tl) (w:World) (cs:List Value),szT T≤n→depT T≤16→SmT T→TlAt w T cs →
  Calls Try.prog 36 #[.agg cs.toArray] w fun e w'=>∃ z:Nat,e=.returned (.int .i64 (z:Int))∧SizeOk T z∧Below w.heap.size w w':=by
 induction n with
 | zero=>intro T w cs hz;have:=szT_pos T;omega
 | succ n IH =>
  intro T w cs hz hdp hsm h
  obtain ⟨c,t,m,b,ks⟩:=T
  have h0:=h
  rw [TlAt] at h
  obtain ⟨bv,ao,cap,rfl,hbv,hk1,hk2,hk3⟩:=h
  have HK:Hid (0 < ks.length→∃ g o,ao=some ⟨g,o,none⟩∧KidsAt w ks g o):=hk3
  clear hk3 h0
  unfold maxLen at hk2
  obtain ⟨bao,bcap,rfl,hb1,hb2,hb3⟩:=hbv
  clear hb3
  unfold maxLen at hb1
  have B0:=Blk.new w [.int .i64 c,.int .i64 t,.bool m,.slice bao b.length bcap,.slice ao ks.length cap] 42 w.heap.size rfl
  have bel:Below w.heap.size w (w.alloc (.cells #[.int .i64 c,.int .i64 t,.bool m,.slice bao b.length bcap,.slice ao ks.length cap] 42)):=(Below.refl _ _).alloc (Nat.le_refl _) _
  rw [szT] at hz
  rw [SmT] at hsm
  rw [depT] at hdp
  have hbl:=hsm.1
  have HSm:Hid (SmL ks):=hsm.2
  clear hsm
  have e3:=B0.cell 3 _ rfl
  have e4:=B0.cell 4 _ rfl
  have lt0:=B0.lt
  go_enter Try.func36,Try.ntmps36
  go_upto_region 1 with fail
  generalize w.alloc (Obj.cells #[.int .i64 c,.int .i64 t,.bool m,.slice bao b.length bcap,.slice ao ks.length cap] 42)=W at *
  go_wp2_with fail
  go_loopw [3,12] (fun xv iv wx=>∃ i x:Nat,i≤ks.length∧iv=.int .i64 i∧xv=.int .i64 (x:Int)∧Hid (x=b.length + (bytesL (ks.take i)).length)∧x≤140737488355328∧Blk wx w.heap.size [.int .i64 c,.int .i64 t,.bool m,.slice bao b.length bcap,.slice ao ks.length cap]∧Below w.heap.size w wx) (fun _ iv _=>ks.length - (intOf iv).toNat)
  case atStart=>exact ⟨0,b.length,by omega,rfl,rfl,by show _=_;rw [List.take_zero,bytesL];simp,hbl,B0,bel⟩
  case round =>
   clear B0 bel lt0 e3 e4
   obtain ⟨i,x,hi,rfl,rfl,HX,hx1,B0,bel⟩:=hrel
   by_cases hil:i < ks.length
   ·have g1:(i:Int) < (ks.length:Int):=by omega
    have g2:(0:Int)≤(i:Int):=by omega
    have gi:IntKind.i64.wrap ((i:Int) + 1)=(i:Int) + 1:=by rw [IntKind.wrap_i64];omega
    obtain ⟨k,hkk⟩:=get_kid hil
    obtain ⟨g,o,hao,hks⟩:=HK.out (by omega)
    obtain ⟨cs,hcs,hkt⟩:=hks.get hkk
    have hsz:=szL_get hkk
    replace hcs:=hcs.later bel
    replace hkt:=hkt.later bel
    have hld:=tlv_load hcs hkt.five
    have hld2:=hld
    rw [Nat.mul_comm 5 i] at hld2
    subst hao
    have hz:=zero_tlv.out
    have HS5:Hid (cs.toArray.size=5):=by show _=_;rw [List.size_toArray];exact hkt.five
    have HO5:Hid (OneC cs):=hkt.ones
    have HL5:Hid (cs.length=5):=hkt.five
    have KB:=Blk.new wr cs 42 wr.heap.size rfl
    replace B0:=B0.alloc (.cells cs.toArray 42)
    replace bel:=below_alloc (o:=.cells cs.toArray 42) bel
    replace hkt:=hkt.later ((Below.refl _ _).alloc (Nat.le_refl _) (.cells cs.toArray 42))
    go_upto_region 5 with (first|(refine wpList_load_run (by rfl) (by rfl) (by rfl) hld ?_)|(refine wpList_load_run (by rfl) (by rfl) (by rfl) hld2 ?_)|(refine wpList_store_row rfl 42 _ _ rfl wr.heap.size cs.toArray rfl rfl 42 _ (heap_alloc_last _ _) (by rw [size_tlv,HS5.out]) (by rw [HS5.out];rfl) HO5.out ?_;rw [World.setRow_alloc_new])|fail)
    clear hz hld hld2 hcs
    obtain ⟨g1,hg1⟩:∃ g1,g1=wr.heap.size:=⟨_,rfl⟩
    rw [← hg1] at KB
    generalize wr.alloc (.cells cs.toArray 42)=W2 at *
    rw [← hg1]
    clear hg1
    have lk:=KB.lt
    have HKK:Hid (ks[i]?=some k):=hkk
    have hdk:=depL_get hkk
    have hsk:=HSm.out.get hkk
    clear hkk
    go_wp2_with (first|(refine wpList_load_run (by rfl) (by rfl) (by rfl) (KB.load Try.underlying42 rfl size_tlv HL5.out) ?_)|fail)
    refine (IH k _ _ (by omega) (by omega) hsk hkt).mono ?_
    rintro e w2 ⟨y,rfl,hy,hb2⟩
    replace B0:=B0.later hb2
    replace bel:=below_stepD bel hb2
    clear hb2 hkt lk KB HS5 HO5 HL5
    have hyb:=hy.2.2
    have HY:Hid _:=hy
    clear hy hsk
    obtain ⟨z,hz9⟩:∃ z,x + y=z:=⟨_,rfl⟩
    have g3:IntKind.i64.wrap ((x:Int) + (y:Int))=(z:Int):=by rw [IntKind.wrap_i64];omega
    by_cases hq:1048576 < z
    ·have g4:(1048576:Int) < (z:Int):=by omega
     have HQ:Hid (SizeOk (.mk c t m b ks) z):=by rw [← hz9];exact SizeOk.over HKK.out HX.out hx1 HY.out (by omega)
     go_wp2_with fail
     go_ret
     exact ⟨z,rfl,HQ.out,bel⟩
    ·have g4:¬ (1048576:Int) < (z:Int):=by omega
     have HN:Hid (z=b.length + (bytesL (ks.take (i + 1))).length):=by rw [← hz9];exact SizeOk.next HKK.out HX.out HY.out (by omega)
     go_wp2_with fail
     go_roundw
     case rel=>exact ⟨i + 1,z,by omega,by go_num,rfl,HN,by omega,B0,bel⟩
     case measure=>simp [intOf];omega
   ·have HI:Hid (i=ks.length):=by show i=ks.length;omega
    have g1:¬ (i:Int) < (ks.length:Int):=by omega
    have HE:Hid (b.length + (bytesL ks).length=x):=by show _=_;rw [HX.out,HI.out,List.take_of_length_le (Nat.le_refl _)]
    go_wp2_with fail
    refine (c12_longSize (n:=x) (by omega)).mono ?_
    rintro e w2 ⟨l,rfl,hl,rfl⟩
    have hl8:=hl.1
    have HQ:Hid (SizeOk (.mk c t m b ks) (2 + l + x)):=SizeOk.end HE.out hl hx1
    clear hl
    have w1:IntKind.i64.wrap (2 + (l:Int))=2 + (l:Int):=by rw [IntKind.wrap_i64];omega
    have w2:IntKind.i64.wrap (2 + (l:Int) + (x:Int))=((2 + l + x:Nat):Int):=by rw [IntKind.wrap_i64];omega
    go_wp2_with fail
    go_ret
    exact ⟨_,rfl,HQ.out,bel⟩
end Go.Proofs.Ytnkipgbnnhahbaa
