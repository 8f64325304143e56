/- What the program's own reckoning of lengths and depths comes to. Plain facts. The program's sound and deep. -/
import Derived.Test.YtnkipgbnnhahbaaGreatDoorDrPar
import Derived.Test.YtnkipgbnnhahbaaGreatDoorDrDep
import Derived.Test.YtnkipgbnnhahbaaGreatDoorRows
import Derived.Deep.OwnRows
import Derived.Deep.AppendLies
import Derived.Great.BuildSlice
import Derived.Deep.WholeRow
import Derived.Deep.RegionHeld3
import Derived.Deep.DeepCutAuto
import Derived.Deep.DeepFit
namespace Go.Proofs.YtnkipgbnnhahbaaGreatDoor
open Go.RowKit
mutual
/-- every body in it is one that a machine bears -/
def SmT:Tl→Prop
 | .mk _ _ _ b ks=>b.length≤140737488355328∧SmL ks
def SmL:List Tl→Prop
 | []=>True
 | k :: ks=>SmT k∧SmL ks
end
theorem SmL.get:∀ {ks:List Tl} {i:Nat} {k:Tl},SmL ks→ks[i]?=some k→SmT k
 | [],i,k,_,h=>by simp at h
 | x :: xs,0,k,h,e=>by
  rw [SmL] at h
  simp at e
  subst e
  exact h.1
 | x :: xs,i + 1,k,h,e=>by
  rw [SmL] at h
  rw [List.getElem?_cons_succ] at e
  exact SmL.get h.2 e
mutual
theorem smT_of_len:∀ {T:Tl},(bytesT T).length≤1099511627776→SmT T
 | .mk c t m b ks,h=>by
  rw [bytesT_len,List.length_append] at h
  rw [SmT]
  exact ⟨by omega,smL_of_len (by omega)⟩
theorem smL_of_len:∀ {ks:List Tl},(bytesL ks).length≤1099511627776→SmL ks
 | [],_=>by rw [SmL];trivial
 | k :: ks,h=>by
  rw [bytesL,List.length_append] at h
  rw [SmL]
  exact ⟨smT_of_len (by omega),smL_of_len (by omega)⟩
end
theorem depL_get:∀ {ks:List Tl} {i:Nat} {k:Tl},ks[i]?=some k→depT k≤depL ks
 | [],i,k,h=>by simp at h
 | x :: xs,0,k,h=>by
  simp at h
  subst h
  rw [depL]
  omega
 | x :: xs,i + 1,k,h=>by
  rw [List.getElem?_cons_succ] at h
  have:=depL_get h
  rw [depL]
  omega
/-- how many bytes of its own a length has, as the program tells it -/
def LongOk (n l:Nat):Prop:=l≤8∧(n < 128→l=0)∧(128≤n→n < 256→l=1)∧(256≤n→n < 65536→l=2)∧(65536≤n→n < 16777216→l=3)
theorem LongOk.len {n l:Nat} (h:LongOk n l) (hn:n < 16777216):(lenB n).length=1 + l:=by
 obtain ⟨_,h0,h1,h2,h3⟩:=h
 unfold lenB
 split
 ·rw [h0 (by assumption)];rfl
 ·split
  ·rw [h1 (by omega) (by assumption)];rfl
  ·split
   ·rw [h2 (by omega) (by assumption)];rfl
   ·rw [h3 (by omega) hn];rfl
/-- so many binary digits -/
def BitLen (n l:Nat):Prop:=n < 2 ^ l∧(0 < n→2 ^ (l - 1)≤n)∧l≤64∧(n=0→l=0)
theorem BitLen.long {n l:Nat} (h:BitLen n l) (hn:128≤n):LongOk n ((l + 7) / 8):=by
 obtain ⟨h1,h2,h3,_⟩:=h
 have h2:=h2 (by omega)
 have up:∀ k,n < 2 ^ k→l≤k:=fun k hk=>by
  by_cases c:l≤k
  ·exact c
  ·have:=Nat.pow_le_pow_right (n:=2) (by omega) (show k≤l - 1 by omega)
   omega
 have dn:∀ k,2 ^ k≤n→k < l:=fun k hk=>by
  by_cases c:k < l
  ·exact c
  ·have:=Nat.pow_le_pow_right (n:=2) (by omega) (show l≤k by omega)
   omega
 refine ⟨by omega,fun h=>by omega,fun a b=>?_,fun a b=>?_,fun a b=>?_⟩
 ·have:=up 8 (by simpa using b);have:=dn 7 (by simpa using a);omega
 ·have:=up 16 (by simpa using b);have:=dn 8 (by simpa using a);omega
 ·have:=up 24 (by simpa using b);have:=dn 16 (by simpa using a);omega
/-- how many bytes an element has, as the program tells it: exactly, as far as it may have so many -/
def SizeOk (T:Tl) (n:Nat):Prop:=((bytesT T).length≤1048576→n=(bytesT T).length)∧(1048576 < (bytesT T).length→1048576 < n)∧n≤depT T * 281474976710656
theorem SizeOk.end {c t:Int} {m:Bool} {b:List Int} {ks:List Tl} {N l:Nat} (hN:b.length + (bytesL ks).length=N) (hl:LongOk N l) (hb:N≤140737488355328):SizeOk (.mk c t m b ks) (2 + l + N):=by
 have e:=bytesT_len c t m b ks
 rw [List.length_append,hN] at e
 have hl8:=hl.1
 have hB:=lenB_len N
 refine ⟨fun h=>?_,fun h=>?_,by rw [depT];omega⟩
 ·rw [e] at h ⊢
  have:=hl.len (by omega)
  omega
 ·rw [e] at h
  by_cases c:N < 16777216
  ·have:=hl.len c
   omega
  ·omega
theorem SizeOk.over {c t:Int} {m:Bool} {b:List Int} {ks:List Tl} {i x y:Nat} {k:Tl} (hk:ks[i]?=some k) (hx:x=b.length + (bytesL (ks.take i)).length) (hx2:x≤140737488355328) (hy:SizeOk k y) (h:1048576 < x + y):SizeOk (.mk c t m b ks) (x + y):=by
 have e:=bytesT_len c t m b ks
 rw [List.length_append] at e
 have hkl:=bytesL_kid hk
 have hd:=depL_get hk
 obtain ⟨h1,h2,h3⟩:=hy
 have h4:depT k * 281474976710656 + 281474976710656≤(depL ks + 1) * 281474976710656:=by omega
 refine ⟨fun hh=>?_,fun _=>h,by rw [depT];omega⟩
 rw [e] at hh
 have:=h1 (by omega)
 omega
theorem SizeOk.next {b:List Int} {ks:List Tl} {i x y:Nat} {k:Tl} (hk:ks[i]?=some k) (hx:x=b.length + (bytesL (ks.take i)).length) (hy:SizeOk k y) (h:¬ 1048576 < x + y):x + y=b.length + (bytesL (ks.take (i + 1))).length:=by
 rw [bytesL_next hk,List.length_append]
 obtain ⟨h1,h2,_⟩:=hy
 by_cases c:1048576 < (bytesT k).length
 ·have:=h2 c
  omega
 ·have:=h1 (by omega)
  omega
/-- an element, and what is in it, that is in so many others: is it too deep? -/
theorem deep_kid {ks:List Tl} {i d:Nat} {k:Tl} (h:ks[i]?=some k) (hk:16 < depT k + d):16 < depL ks + d:=by
 have:=depL_get h
 omega
theorem deep_none:∀ {ks:List Tl} {d:Nat},d≤16→(∀ (i:Nat) (k:Tl),ks[i]?=some k→depT k + d≤16)→depL ks + d≤16
 | [],d,hd,_=>by rw [depL];omega
 | k :: ks,d,hd,h=>by
  have h0:=h 0 k rfl
  have h1:=deep_none hd (fun i x hx=>h (i + 1) x (by rw [List.getElem?_cons_succ];exact hx))
  rw [depL]
  omega
set_option linter.unusedSimpArgs false in
set_option maxRecDepth 100000 in
set_option maxHeartbeats 4000000 in
theorem c12_sound (n:Nat):∀ (T:Tl) (w:World) (cs:List Value),szT T≤n→TlAt w T cs →
  Calls Tryz.prog 65 #[.agg cs.toArray] w fun e w'=>e=.returned (.bool (fineT T))∧Below w.heap.size w w':=by
 induction n with
 | zero=>intro T w cs hz;have:=szT_pos T;omega
 | succ n IH =>
  intro T w cs hz h
  obtain ⟨c,t,m,b,ks⟩:=T
  have h0:=h
  rw [TlAt] at h
  obtain ⟨bv,ao,cap,rfl,hbv,hk1,hk2,hk3⟩:=h
  have HK:Hid (0 < ks.length→∃ g o,ao=some ⟨g,o,none⟩∧KidsAt w ks g o):=hk3
  clear hk3 h0
  unfold maxLen at hk2
  obtain ⟨bao,bcap,rfl,hb1,hb2,hb3⟩:=hbv
  clear hb3
  unfold maxLen at hb1
  have B0:=Blk.new w [.int .i64 c,.int .i64 t,.bool m,.slice bao b.length bcap,.slice ao ks.length cap] 41 w.heap.size rfl
  have bel:Below w.heap.size w (w.alloc (.cells #[.int .i64 c,.int .i64 t,.bool m,.slice bao b.length bcap,.slice ao ks.length cap] 41)):=(Below.refl _ _).alloc (Nat.le_refl _) _
  rw [szT] at hz
  have e0:=B0.cell 0 _ rfl
  have e1:=B0.cell 1 _ rfl
  have e2:=B0.cell 2 _ rfl
  have e3:=B0.cell 3 _ rfl
  have e4:=B0.cell 4 _ rfl
  have lt0:=B0.lt
  have HF:Hid (fineT (.mk c t m b ks)=(fine1 c t m b ks && fineL ks)):=by show _=_;rw [fineT]
  go_enter Tryz.func65,Tryz.ntmps65
  go_upto_region 1 with fail
  generalize w.alloc (Obj.cells #[.int .i64 c,.int .i64 t,.bool m,.slice bao b.length bcap,.slice ao ks.length cap] 41)=W at *
  by_cases h1:c < 0
  ·go_wp2_with fail
   go_ret
   exact ⟨by rw [HF.out,show fine1 c t m b ks=false by exact fine1_bad (by omega),Bool.false_and];rfl,bel⟩
  by_cases h2:3 < c
  ·go_wp2_with fail
   go_ret
   exact ⟨by rw [HF.out,show fine1 c t m b ks=false by exact fine1_bad (by omega),Bool.false_and];rfl,bel⟩
  by_cases h3:t < 0
  ·go_wp2_with fail
   go_ret
   exact ⟨by rw [HF.out,show fine1 c t m b ks=false by exact fine1_bad (by omega),Bool.false_and];rfl,bel⟩
  by_cases h4:30 < t
  ·go_wp2_with fail
   go_ret
   exact ⟨by rw [HF.out,show fine1 c t m b ks=false by exact fine1_bad (by omega),Bool.false_and];rfl,bel⟩
  go_upto_region 3 with fail
  cases m with
  | true =>
   by_cases h5:0 < b.length
   ·go_wp2_with fail
    go_ret
    exact ⟨by rw [HF.out,show fine1 c t true b ks=false from fine1_bad (by first|exact .inr (.inr (.inr (.inr (.inl ⟨rfl,by omega⟩))))|exact .inr (.inr (.inr (.inr (.inr ⟨rfl,by omega⟩))))),Bool.false_and];rfl,bel⟩
   ·replace HF:Hid (fineT (.mk c t true b ks)=fineL ks):=by show _=_;rw [HF.out,show fine1 c t true b ks=true from fine1_good (by omega) (by omega) (fun h=>by first|omega|cases h) (fun h=>by first|omega|cases h),Bool.true_and]
    go_wp2_with fail
    go_loopw [45] (fun iv wx=>∃ i:Nat,i≤ks.length∧iv=.int .i64 i∧Hid (fineL ks=fineL (ks.drop i))∧Blk wx w.heap.size [.int .i64 c,.int .i64 t,.bool true,.slice bao b.length bcap,.slice ao ks.length cap]∧Below w.heap.size w wx) (fun iv _=>ks.length - (intOf iv).toNat)
    case atStart=>exact ⟨0,by omega,rfl,rfl,B0,bel⟩
    case round =>
     clear B0 bel lt0 e0 e1 e2 e3 e4
     obtain ⟨i,hi,rfl,HL,B0,bel⟩:=hrel
     by_cases hil:i < ks.length
     ·have g1:(i:Int) < (ks.length:Int):=by omega
      have g2:(0:Int)≤(i:Int):=by omega
      have gi:IntKind.i64.wrap ((i:Int) + 1)=(i:Int) + 1:=by rw [IntKind.wrap_i64];omega
      obtain ⟨k,hkk⟩:=get_kid hil
      obtain ⟨g,o,hao,hks⟩:=HK.out (by omega)
      obtain ⟨cs,hcs,hkt⟩:=hks.get hkk
      have hsz:=szL_get hkk
      replace hcs:=hcs.later bel
      replace hkt:=hkt.later bel
      have hld:=tlv_load hcs hkt.five
      have hld2:=hld
      rw [Nat.mul_comm 5 i] at hld2
      subst hao
      have hz:=zero_tlv.out
      have HS5:Hid (cs.toArray.size=5):=by show _=_;rw [List.size_toArray];exact hkt.five
      have HO5:Hid (OneC cs):=hkt.ones
      have HL5:Hid (cs.length=5):=hkt.five
      have KB:=Blk.new wr cs 41 wr.heap.size rfl
      replace B0:=B0.alloc (.cells cs.toArray 41)
      replace bel:=below_alloc (o:=.cells cs.toArray 41) bel
      replace hkt:=hkt.later ((Below.refl _ _).alloc (Nat.le_refl _) (.cells cs.toArray 41))
      go_upto_region 8 with (first|(refine wpList_load_run (by rfl) (by rfl) (by rfl) hld ?_)|(refine wpList_load_run (by rfl) (by rfl) (by rfl) hld2 ?_)|(refine wpList_store_row rfl 41 _ _ rfl wr.heap.size cs.toArray rfl rfl 41 _ (heap_alloc_last _ _) (by rw [size_tlv,HS5.out]) (by rw [HS5.out];rfl) HO5.out ?_;rw [World.setRow_alloc_new])|fail)
      clear hz hld hld2 hcs
      obtain ⟨g1,hg1⟩:∃ g1,g1=wr.heap.size:=⟨_,rfl⟩
      rw [← hg1] at KB
      generalize wr.alloc (.cells cs.toArray 41)=W2 at *
      rw [← hg1]
      clear hg1
      have lk:=KB.lt
      have HN:Hid _:=fineL_drop hkk
      go_wp2_with (first|(refine wpList_load_run (by rfl) (by rfl) (by rfl) (KB.load Tryz.underlying41 rfl size_tlv HL5.out) ?_)|fail)
      refine (IH k _ _ (by omega) hkt).mono ?_
      rintro e w2 ⟨rfl,hb2⟩
      replace B0:=B0.later hb2
      replace bel:=below_stepD bel hb2
      clear hb2 hkt lk KB HS5 HO5 HL5
      cases hq:fineT k with
      | true =>
       rw [hq,Bool.true_and] at HN
       clear hq
       go_wp2_with fail
       go_roundw
       case rel=>exact ⟨i + 1,by omega,by go_num,by show _=_;rw [HL.out,HN.out],B0,bel⟩
       case measure=>simp [intOf];omega
      | false =>
       rw [hq,Bool.false_and] at HN
       clear hq
       go_wp2_with fail
       go_ret
       exact ⟨by rw [HF.out,HL.out,HN.out];rfl,bel⟩
     ·have HI:Hid (i=ks.length):=by show i=ks.length;omega
      have g1:¬ (i:Int) < (ks.length:Int):=by omega
      go_wp2_with fail
      go_ret
      exact ⟨by rw [HF.out,HL.out,HI.out,List.drop_of_length_le (Nat.le_refl _),fineL];rfl,bel⟩
  | false =>
   by_cases h6:0 < ks.length
   ·go_wp2_with fail
    go_ret
    exact ⟨by rw [HF.out,show fine1 c t false b ks=false from fine1_bad (by first|exact .inr (.inr (.inr (.inr (.inl ⟨rfl,by omega⟩))))|exact .inr (.inr (.inr (.inr (.inr ⟨rfl,by omega⟩))))),Bool.false_and];rfl,bel⟩
   ·replace HF:Hid (fineT (.mk c t false b ks)=fineL ks):=by show _=_;rw [HF.out,show fine1 c t false b ks=true from fine1_good (by omega) (by omega) (fun h=>by first|omega|cases h) (fun h=>by first|omega|cases h),Bool.true_and]
    go_wp2_with fail
    go_loopw [45] (fun iv wx=>∃ i:Nat,i≤ks.length∧iv=.int .i64 i∧Hid (fineL ks=fineL (ks.drop i))∧Blk wx w.heap.size [.int .i64 c,.int .i64 t,.bool false,.slice bao b.length bcap,.slice ao ks.length cap]∧Below w.heap.size w wx) (fun iv _=>ks.length - (intOf iv).toNat)
    case atStart=>exact ⟨0,by omega,rfl,rfl,B0,bel⟩
    case round =>
     clear B0 bel lt0 e0 e1 e2 e3 e4
     obtain ⟨i,hi,rfl,HL,B0,bel⟩:=hrel
     by_cases hil:i < ks.length
     ·exact absurd hil (by omega)
     ·have HI:Hid (i=ks.length):=by show i=ks.length;omega
      have g1:¬ (i:Int) < (ks.length:Int):=by omega
      go_wp2_with fail
      go_ret
      exact ⟨by rw [HF.out,HL.out,HI.out,List.drop_of_length_le (Nat.le_refl _),fineL];rfl,bel⟩
set_option linter.unusedSimpArgs false in
set_option maxRecDepth 100000 in
set_option maxHeartbeats 4000000 in
theorem c12_deep (n:Nat):∀ (T:Tl) (d:Nat) (w:World) (cs:List Value),szT T≤n→d≤16→TlAt w T cs →
  Calls Tryz.prog 66 #[.agg cs.toArray,.int .i64 (d:Int)] w fun e w'=>e=.returned (.bool (decide (16 < depT T + d)))∧Below w.heap.size w w':=by
 induction n with
 | zero=>intro T d w cs hz;have:=szT_pos T;omega
 | succ n IH =>
  intro T d w cs hz hd h
  obtain ⟨c,t,m,b,ks⟩:=T
  have h0:=h
  rw [TlAt] at h
  obtain ⟨bv,ao,cap,rfl,hbv,hk1,hk2,hk3⟩:=h
  have HK:Hid (0 < ks.length→∃ g o,ao=some ⟨g,o,none⟩∧KidsAt w ks g o):=hk3
  clear hk3 h0
  unfold maxLen at hk2
  obtain ⟨bao,bcap,rfl,hb1,hb2,hb3⟩:=hbv
  clear hb3
  unfold maxLen at hb1
  have B0:=Blk.new w [.int .i64 c,.int .i64 t,.bool m,.slice bao b.length bcap,.slice ao ks.length cap] 41 w.heap.size rfl
  have bel:Below w.heap.size w (w.alloc (.cells #[.int .i64 c,.int .i64 t,.bool m,.slice bao b.length bcap,.slice ao ks.length cap] 41)):=(Below.refl _ _).alloc (Nat.le_refl _) _
  rw [szT] at hz
  have e4:=B0.cell 4 _ rfl
  have lt0:=B0.lt
  have HF:Hid (depT (.mk c t m b ks)=depL ks + 1):=by show _=_;rw [depT]
  go_enter Tryz.func66,Tryz.ntmps66
  go_upto_region 1 with fail
  generalize w.alloc (Obj.cells #[.int .i64 c,.int .i64 t,.bool m,.slice bao b.length bcap,.slice ao ks.length cap] 41)=W at *
  by_cases c1:16≤d
  ·have g1:(16:Int)≤(d:Int):=by omega
   go_wp2_with fail
   go_ret
   exact ⟨by rw [HF.out,decide_eq_true (by omega)];rfl,bel⟩
  have g1:¬ (16:Int)≤(d:Int):=by omega
  obtain ⟨d1,hd1⟩:∃ d1,d + 1=d1:=⟨_,rfl⟩
  have g3:IntKind.i64.wrap ((d:Int) + 1)=(d1:Int):=by rw [IntKind.wrap_i64];omega
  go_wp2_with fail
  go_loopw [12] (fun iv wx=>∃ i:Nat,i≤ks.length∧iv=.int .i64 i∧Hid (∀ (j:Nat) (k:Tl),(ks.take i)[j]?=some k→depT k + d1≤16)∧Blk wx w.heap.size [.int .i64 c,.int .i64 t,.bool m,.slice bao b.length bcap,.slice ao ks.length cap]∧Below w.heap.size w wx) (fun iv _=>ks.length - (intOf iv).toNat)
  case atStart=>exact ⟨0,by omega,rfl,fun j k h=>by simp at h,B0,bel⟩
  case round =>
   clear B0 bel lt0 e4
   obtain ⟨i,hi,rfl,HL,B0,bel⟩:=hrel
   by_cases hil:i < ks.length
   ·have g1:(i:Int) < (ks.length:Int):=by omega
    have g2:(0:Int)≤(i:Int):=by omega
    have gi:IntKind.i64.wrap ((i:Int) + 1)=(i:Int) + 1:=by rw [IntKind.wrap_i64];omega
    obtain ⟨k,hkk⟩:=get_kid hil
    obtain ⟨g,o,hao,hks⟩:=HK.out (by omega)
    obtain ⟨cs,hcs,hkt⟩:=hks.get hkk
    have hsz:=szL_get hkk
    replace hcs:=hcs.later bel
    replace hkt:=hkt.later bel
    have hld:=tlv_load hcs hkt.five
    have hld2:=hld
    rw [Nat.mul_comm 5 i] at hld2
    subst hao
    have hz:=zero_tlv.out
    have HS5:Hid (cs.toArray.size=5):=by show _=_;rw [List.size_toArray];exact hkt.five
    have HO5:Hid (OneC cs):=hkt.ones
    have HL5:Hid (cs.length=5):=hkt.five
    have KB:=Blk.new wr cs 41 wr.heap.size rfl
    replace B0:=B0.alloc (.cells cs.toArray 41)
    replace bel:=below_alloc (o:=.cells cs.toArray 41) bel
    replace hkt:=hkt.later ((Below.refl _ _).alloc (Nat.le_refl _) (.cells cs.toArray 41))
    go_upto_region 6 with (first|(refine wpList_load_run (by rfl) (by rfl) (by rfl) hld ?_)|(refine wpList_load_run (by rfl) (by rfl) (by rfl) hld2 ?_)|(refine wpList_store_row rfl 41 _ _ rfl wr.heap.size cs.toArray rfl rfl 41 _ (heap_alloc_last _ _) (by rw [size_tlv,HS5.out]) (by rw [HS5.out];rfl) HO5.out ?_;rw [World.setRow_alloc_new])|fail)
    clear hz hld hld2 hcs
    obtain ⟨g1,hg1⟩:∃ g1,g1=wr.heap.size:=⟨_,rfl⟩
    rw [← hg1] at KB
    generalize wr.alloc (.cells cs.toArray 41)=W2 at *
    rw [← hg1]
    clear hg1
    have lk:=KB.lt
    have HKK:Hid (ks[i]?=some k):=hkk
    clear hkk
    go_wp2_with (first|(refine wpList_load_run (by rfl) (by rfl) (by rfl) (KB.load Tryz.underlying41 rfl size_tlv HL5.out) ?_)|fail)
    refine (IH k d1 _ _ (by omega) (by omega) hkt).mono ?_
    rintro e w2 ⟨rfl,hb2⟩
    replace B0:=B0.later hb2
    replace bel:=below_stepD bel hb2
    clear hb2 hkt lk KB HS5 HO5 HL5
    by_cases hq:16 < depT k + d1
    ·rw [decide_eq_true hq]
     have HQ:Hid (16 < depL ks + 1 + d):=by show _ < _;have:=deep_kid HKK.out hq;omega
     clear hq
     go_wp2_with fail
     go_ret
     exact ⟨by rw [HF.out,decide_eq_true HQ.out];rfl,bel⟩
    ·rw [decide_eq_false hq]
     have HN:Hid (∀ (j:Nat) (x:Tl),(ks.take (i + 1))[j]?=some x→depT x + d1≤16):=fun j x hx=>by
      rw [List.take_add_one,HKK.out] at hx
      by_cases hj:j < (ks.take i).length
      ·rw [List.getElem?_append_left hj] at hx
       exact HL.out j x hx
      ·rw [List.getElem?_append_right (by omega)] at hx
       have e0:j - (ks.take i).length=0:=by
        have h1:=(List.getElem?_eq_some_iff.1 hx).1
        replace h1:j - (ks.take i).length < 1:=h1
        omega
       rw [e0] at hx
       simp at hx
       subst hx
       omega
     clear hq
     go_wp2_with fail
     go_roundw
     case rel=>exact ⟨i + 1,by omega,by go_num,HN,B0,bel⟩
     case measure=>simp [intOf];omega
   ·have HI:Hid (i=ks.length):=by show i=ks.length;omega
    have g1:¬ (i:Int) < (ks.length:Int):=by omega
    have HQ:Hid (depL ks + d1≤16):=deep_none (by omega) (fun j k h=>HL.out j k (by rw [HI.out,List.take_of_length_le (Nat.le_refl _)];exact h))
    go_wp2_with fail
    go_ret
    exact ⟨by rw [HF.out,decide_eq_false (by have:=HQ.out;omega)];rfl,bel⟩
end Go.Proofs.YtnkipgbnnhahbaaGreatDoor
