/- The program's headOf and lengthOf. One operation of a drawn region by a rule for rows of operations. The program's written. -/
import Derived.Test.YtnkipgbnnhahbaaGreatDoorDrDep
import Derived.Test.YtnkipgbnnhahbaaGreatDoorCtPl
import Derived.Test.YtnkipgbnnhahbaaGreatDoorDcLen
import Derived.Test.YtnkipgbnnhahbaaGreatDoorHeld3
import Derived.Test.YtnkipgbnnhahbaaGreatDoorRows
import Derived.Deep.OwnRows
import Derived.Deep.AppendLies
import Derived.Great.BuildSlice
import Derived.Deep.WholeRow
import Derived.Deep.RegionHeld3
import Derived.Deep.DeepCutAuto
import Derived.Deep.DeepFit
namespace Go.Proofs.YtnkipgbnnhahbaaGreatDoor
open Go.RowKit
set_option linter.unusedSimpArgs false in
set_option maxRecDepth 100000 in
set_option maxHeartbeats 2000000 in
theorem c12_headOf {c t:Int} {m:Bool} {b:List Int} {ks:List Tl} {w:World} {cs:List Value} (hf:fine1 c t m b ks=true) (h:TlAt w (.mk c t m b ks) cs) :
  Calls Tryz.prog 68 #[.agg cs.toArray] w fun e w'=>e=.returned (.int .u8 (headB c t m))∧Below w.heap.size w w':=by
 have h0:=h
 rw [TlAt] at h
 obtain ⟨bv,ao,cap,rfl,hbv,hk1,hk2,hk3⟩:=h
 have HK:Hid (0 < ks.length→∃ g o,ao=some ⟨g,o,none⟩∧KidsAt w ks g o):=hk3
 clear hk3 h0
 unfold maxLen at hk2
 obtain ⟨bao,bcap,rfl,hb1,hb2,hb3⟩:=hbv
 clear hb3
 unfold maxLen at hb1
 have B0:=Blk.new w [.int .i64 c,.int .i64 t,.bool m,.slice bao b.length bcap,.slice ao ks.length cap] 41 w.heap.size rfl
 have bel:Below w.heap.size w (w.alloc (.cells #[.int .i64 c,.int .i64 t,.bool m,.slice bao b.length bcap,.slice ao ks.length cap] 41)):=(Below.refl _ _).alloc (Nat.le_refl _) _
 have hnum:=fine1_num hf
 have e0:=B0.cell 0 _ rfl
 have e1:=B0.cell 1 _ rfl
 have e2:=B0.cell 2 _ rfl
 have lt0:=B0.lt
 go_enter Tryz.func68,Tryz.ntmps68
 go_upto_region 1 with fail
 generalize w.alloc (Obj.cells #[.int .i64 c,.int .i64 t,.bool m,.slice bao b.length bcap,.slice ao ks.length cap] 41)=W at *
 have a1:IntKind.i64.wrap (c * 64)=c * 64:=by rw [IntKind.wrap_i64];omega
 have a2:IntKind.i64.wrap (c * 64 + t)=c * 64 + t:=by rw [IntKind.wrap_i64];omega
 cases m with
 | true =>
  have a3:IntKind.i64.wrap (c * 64 + t + 32)=c * 64 + t + 32:=by rw [IntKind.wrap_i64];omega
  have a4:IntKind.u8.wrap (c * 64 + t + 32)=headB c t true:=by rw [IntKind.wrap_u8];simp [headB];omega
  go_wp2_with fail
  go_ret
  exact ⟨rfl,bel⟩
 | false =>
  have a4:IntKind.u8.wrap (c * 64 + t)=headB c t false:=by rw [IntKind.wrap_u8];simp [headB];omega
  go_wp2_with fail
  go_ret
  exact ⟨rfl,bel⟩
theorem lenB_byte {n l i:Nat} (h:LongOk n l) (hn:n < 16777216) (h1:1≤l) (hi:i < l):(lenB n)[i + 1]?=some ((n / 2 ^ (8 * (l - 1 - i)) % 256:Nat):Int)∧(lenB n)[0]?=some ((128 + l:Nat):Int):=by
 obtain ⟨_,h0,ha,hb,hc⟩:=h
 unfold lenB
 split
 ·have:=h0 (by assumption);omega
 ·split
  ·have:=ha (by omega) (by assumption)
   subst this
   obtain rfl:i=0:=by omega
   refine ⟨?_,rfl⟩
   simp
   omega
  ·split
   ·have:=hb (by omega) (by assumption)
    subst this
    refine ⟨?_,rfl⟩
    rcases (show i=0∨i=1 by omega) with rfl|rfl
    ·simp;omega
    ·simp
   ·have:=hc (by omega) hn
    subst this
    refine ⟨?_,rfl⟩
    rcases (show i=0∨i=1∨i=2 by omega) with rfl|rfl|rfl
    ·simp
    ·simp
    ·simp
set_option linter.unusedSimpArgs false in
set_option maxRecDepth 100000 in
set_option maxHeartbeats 2000000 in
theorem c12_lengthOf {n:Nat} {w:World} (hn:n≤1048576) :
  Calls Tryz.prog 69 #[.int .i64 (n:Int)] w fun e w'=>∃ v':Value,e=.returned v'∧w'.ownsRow w.heap.size 5 1 v' (lenB n).length (u8s (lenB n))∧Below w.heap.size w w':=by
 go_enter Tryz.func69,Tryz.ntmps69
 go_wp2_with fail
 refine (c12_longSize (n:=n) (by omega)).mono ?_
 rintro e w2 ⟨l,rfl,hl,rfl⟩
 have HL:Hid (LongOk n l):=hl
 have hl0:=hl.2.1
 have hl3:l≤3:=by
  obtain ⟨q0,q1,q2,q3,q4⟩:=hl
  by_cases c1:n < 128
  ·have:=q1 c1;omega
  ·by_cases c2:n < 256
   ·have:=q2 (by omega) c2;omega
   ·by_cases c3:n < 65536
    ·have:=q3 (by omega) c3;omega
    ·have:=q4 (by omega) (by omega);omega
 have hl1:128≤n→1≤l:=by
  obtain ⟨q0,q1,q2,q3,q4⟩:=hl
  intro c1
  by_cases c2:n < 256
  ·have:=q2 (by omega) c2;omega
  ·by_cases c3:n < 65536
   ·have:=q3 (by omega) c3;omega
   ·have:=q4 (by omega) (by omega);omega
 clear hl
 by_cases c1:n < 128
 ·have hl:=hl0 c1
  subst hl
  have HB:Hid (lenB n=[(n:Int)]):=by show _=_;unfold lenB;rw [if_pos c1]
  have a1:IntKind.u8.wrap (n:Int)=(n:Int):=by rw [IntKind.wrap_u8];omega
  go_wp2_with fail
  go_ret
  refine ⟨_,rfl,?_,(Below.refl _ _).alloc (Nat.le_refl _) _⟩
  rw [HB.out]
  exact own_lits _ [(n:Int)] 1 _ rfl (Nat.le_refl _) (by decide)
 have hl:=hl1 (by omega)
 clear hl0 hl1
 have hl9:((l:Int) == 0)=false:=by rw [beq_eq_false_iff_ne];omega
 have a1:IntKind.i64.wrap (128 + (l:Int))=128 + (l:Int):=by rw [IntKind.wrap_i64];omega
 have a2:IntKind.u8.wrap (128 + (l:Int))=128 + (l:Int):=by rw [IntKind.wrap_u8];omega
 have HLen:Hid ((lenB n).length=1 + l):=HL.out.len (by omega)
 have own0:=own_lits w2 [128 + (l:Int)] 1 w2.heap.size rfl (Nat.le_refl _) (by decide)
 have bel:Below w2.heap.size w2 (w2.alloc (.cells #[.int .u8 (128 + (l:Int))] 5)):=(Below.refl _ _).alloc (Nat.le_refl _) _
 replace own0:(w2.alloc (.cells #[.int .u8 (128 + (l:Int))] 5)).ownsRow w2.heap.size 5 1 (.slice (some ⟨w2.heap.size,0,none⟩) 1 1) 1 (u8s [128 + (l:Int)]):=own0
 have HT1:Hid ((lenB n).take 1=[128 + (l:Int)]):=by
  show _=_
  have:=(lenB_byte (i:=0) HL.out (by omega) hl (by omega)).2
  rw [List.take_one,List.head?_eq_getElem?,this]
  simp
 go_wp2_with fail
 generalize w2.alloc (.cells #[.int .u8 (128 + (l:Int))] 5)=W at *
 go_loopw [4,18] (fun av iv wx=>∃ i:Nat,i≤l∧iv=.int .i64 (i:Int)∧wx.ownsRow w2.heap.size 5 1 av (i + 1) (u8s ((lenB n).take (i + 1)))∧Below w2.heap.size w2 wx) (fun _ iv _=>l - (intOf iv).toNat)
 case atStart=>exact ⟨0,by omega,rfl,by rw [Nat.zero_add,HT1.out];exact own0,bel⟩
 case round =>
  clear own0 bel
  obtain ⟨i,hi,rfl,own,bel⟩:=hrel
  by_cases hil:i < l
  ·have g1:(i:Int) < (l:Int):=by omega
   have gi:IntKind.i64.wrap ((i:Int) + 1)=(i:Int) + 1:=by rw [IntKind.wrap_i64];omega
   obtain ⟨s,hs⟩:∃ s,l - 1 - i=s:=⟨_,rfl⟩
   have HBy:Hid ((lenB n)[i + 1]?=some ((n / 2 ^ (8 * s) % 256:Nat):Int)):=by rw [← hs];exact (lenB_byte HL.out (by omega) hl hil).1
   have a3:IntKind.i64.wrap ((l:Int) - 1)=(l:Int) - 1:=by rw [IntKind.wrap_i64];omega
   have a4:IntKind.i64.wrap ((l:Int) - 1 - (i:Int))=(s:Int):=by rw [IntKind.wrap_i64];omega
   have a5:IntKind.i64.wrap (8 * (s:Int))=((8 * s:Nat):Int):=by rw [IntKind.wrap_i64];omega
   obtain ⟨y,hy⟩:∃ y,n / 2 ^ (8 * s) % 256=y:=⟨_,rfl⟩
   rw [hy] at HBy
   have a6:(n:Int) / 2 ^ (8 * s) % 256=(y:Int):=by rw [← hy];simp
   clear hy
   have own1:=own_later6 own (o:=.cells #[.int .u8 (y:Int)] 5)
   have bl:=bs_one wr (y:Int)
   have bel1:=below_alloc (o:=.cells #[.int .u8 (y:Int)] 5) bel
   have bsz:=bel1.size
   go_wp2_with (first|(at_builtin;refine wpList_append_bs (by rfl) _ _ (by rfl) w2.heap.size _ (i + 1) _ (by rfl) own1 _ [(y:Int)] (by rfl) bl (by simp;omega) bsz ?_;intro v8 w8 own8 hgrow hat)|fail)
   have bel8:=below_own bel1 hgrow bsz (fun g hg=>own_geD own1 hg) (Nat.le_refl _)
   have HT:Hid ((lenB n).take (i + 1)++[(y:Int)]=(lenB n).take (i + 1 + 1)):=by show _=_;rw [List.take_add_one (i:=i + 1),HBy.out];rfl
   rw [HT.out] at own8
   clear hgrow hat own1 bl bel1
   go_roundw
   case rel=>exact ⟨i + 1,by omega,by go_num,own8,bel8⟩
   case measure=>simp [intOf];omega
  ·have HI:Hid (i=l):=by show i=l;omega
   have g1:¬ (i:Int) < (l:Int):=by omega
   go_wp2_with fail
   go_ret
   refine ⟨_,rfl,?_,bel⟩
   rw [HI.out] at own
   rw [List.take_of_length_le (by rw [HLen.out];omega)] at own
   rw [HLen.out,Nat.add_comm 1 l]
   exact own
theorem wp_of_list {P:Program} {ops:Array Oper} {o:Oper} {a:Act} {w:World} {K:Act→World→Prop} {Q:Exit→Act→World→Prop} (hgd:o.guard=none) (h:wpList P ops (fun e a w=>e=.normal∧K a w) [o] a w):o.wp P a w K Q:=by
 have hw:Region.wanted o (yielded ops a.tmps)=true:=by unfold Region.wanted;rw [hgd]
 unfold wpList at h
 rw [if_pos hw] at h
 rcases h with h|⟨_,a',w',h,_⟩
 ·unfold Oper.wp at *
  generalize (execOp a.eval o).run P w=r at *
  cases r with
  | ok n w' =>
   cases n with
   | value v=>exact h.2
   | skip=>exact h.2
   | defer d=>exact h.2
   | enter f args =>
    refine Calls.mono h (fun e w'' he=>?_)
    cases e with
    | returned v=>exact he.2
    | panicked c=>exact absurd he.1 (by simp)
    | outgrown=>obtain ⟨_,_,he,_⟩:=he;cases he
   | row row args=>exact Rows.mono h (fun v w'' he=>he.2)
   | _=>exact h.elim
  | halt s w' =>
   cases s with
   | panic v=>cases h.1
   | _=>exact h.elim
 ·cases h
set_option linter.unusedSimpArgs false in
set_option maxRecDepth 100000 in
set_option maxHeartbeats 4000000 in
theorem c12_written (n:Nat):∀ (T:Tl) (w:World) (cs:List Value),szT T≤n→fineT T=true→(bytesT T).length≤1048576→TlAt w T cs →
  Calls Tryz.prog 38 #[.agg cs.toArray] w fun e w'=>∃ v':Value,e=.returned v'∧w'.ownsRow w.heap.size 5 1 v' (bytesT T).length (u8s (bytesT T))∧Below w.heap.size w w':=by
 induction n with
 | zero=>intro T w cs hz;have:=szT_pos T;omega
 | succ n IH =>
  intro T w cs hz hf hlen h
  obtain ⟨c,t,m,b,ks⟩:=T
  have h0:=h
  rw [TlAt] at h
  obtain ⟨bv,ao,cap,rfl,hbv,hk1,hk2,hk3⟩:=h
  have HK:Hid (0 < ks.length→∃ g o,ao=some ⟨g,o,none⟩∧KidsAt w ks g o):=hk3
  have HT0:Hid (TlAt w (.mk c t m b ks) [.int .i64 c,.int .i64 t,.bool m,bv,.slice ao ks.length cap]):=h0
  clear hk3 h0
  unfold maxLen at hk2
  obtain ⟨bao,bcap,rfl,hb1,hb2,hb3⟩:=hbv
  have HBv:Hid (Bs w (.slice bao b.length bcap) b):=⟨bao,bcap,rfl,hb1,hb2,hb3⟩
  clear hb3
  unfold maxLen at hb1
  have B0:=Blk.new w [.int .i64 c,.int .i64 t,.bool m,.slice bao b.length bcap,.slice ao ks.length cap] 41 w.heap.size rfl
  have bel:Below w.heap.size w (w.alloc (.cells #[.int .i64 c,.int .i64 t,.bool m,.slice bao b.length bcap,.slice ao ks.length cap] 41)):=(Below.refl _ _).alloc (Nat.le_refl _) _
  rw [szT] at hz
  rw [fineT,Bool.and_eq_true] at hf
  have HF1:Hid (fine1 c t m b ks=true):=hf.1
  have HFk:Hid (fineL ks=true):=hf.2
  clear hf
  rw [bytesT_len,List.length_append] at hlen
  have e4:=B0.cell 4 _ rfl
  have lt0:=B0.lt
  go_enter Tryz.func38,Tryz.ntmps38
  go_upto_region 1 with fail
  generalize w.alloc (Obj.cells #[.int .i64 c,.int .i64 t,.bool m,.slice bao b.length bcap,.slice ao ks.length cap] 41)=W at *
  obtain ⟨W0,hW0⟩:∃ z,z=W.heap.size:=⟨_,rfl⟩
  have hsW:w.heap.size < W0:=by rw [hW0];exact lt0
  have hsW1:W0≤W.heap.size:=by omega
  clear hW0
  go_wp2_with fail
  go_loopw [3,10] (fun hv iv wx=>∃ i:Nat,i≤ks.length∧iv=.int .i64 i∧wx.ownsRow W0 5 1 hv (bytesL (ks.take i)).length (u8s (bytesL (ks.take i)))∧Blk wx w.heap.size [.int .i64 c,.int .i64 t,.bool m,.slice bao b.length bcap,.slice ao ks.length cap]∧Below w.heap.size w wx∧W0≤wx.heap.size) (fun _ iv _=>ks.length - (intOf iv).toNat)
  case atStart=>exact ⟨0,by omega,rfl,by rw [List.take_zero,bytesL];exact ⟨rfl,.inl ⟨rfl,rfl⟩⟩,B0,bel,hsW1⟩
  case round =>
   clear B0 bel lt0 e4 hsW1
   obtain ⟨i,hi,rfl,own1,B0,bel,hsW1⟩:=hrel
   by_cases hil:i < ks.length
   ·have g1:(i:Int) < (ks.length:Int):=by omega
    have g2:(0:Int)≤(i:Int):=by omega
    have gi:IntKind.i64.wrap ((i:Int) + 1)=(i:Int) + 1:=by rw [IntKind.wrap_i64];omega
    obtain ⟨k,hkk⟩:=get_kid hil
    obtain ⟨g,o,hao,hks⟩:=HK.out (by omega)
    obtain ⟨cs,hcs,hkt⟩:=hks.get hkk
    have hsz:=szL_get hkk
    replace hcs:=hcs.later bel
    replace hkt:=hkt.later bel
    have hld:=tlv_load hcs hkt.five
    have hld2:=hld
    rw [Nat.mul_comm 5 i] at hld2
    subst hao
    have hz:=zero_tlv.out
    have HS5:Hid (cs.toArray.size=5):=by show _=_;rw [List.size_toArray];exact hkt.five
    have HO5:Hid (OneC cs):=hkt.ones
    have HL5:Hid (cs.length=5):=hkt.five
    replace own1:=own_later6 own1 (o:=.cells cs.toArray 41)
    replace hsW1:W0≤(wr.alloc (.cells cs.toArray 41)).heap.size:=by simp;omega
    have KB:=Blk.new wr cs 41 wr.heap.size rfl
    replace B0:=B0.alloc (.cells cs.toArray 41)
    replace bel:=below_alloc (o:=.cells cs.toArray 41) bel
    replace hkt:=hkt.later ((Below.refl _ _).alloc (Nat.le_refl _) (.cells cs.toArray 41))
    go_upto_region 5 with (first|(refine wpList_load_run (by rfl) (by rfl) (by rfl) hld ?_)|(refine wpList_load_run (by rfl) (by rfl) (by rfl) hld2 ?_)|(refine wpList_store_row rfl 41 _ _ rfl wr.heap.size cs.toArray rfl rfl 41 _ (heap_alloc_last _ _) (by rw [size_tlv,HS5.out]) (by rw [HS5.out];rfl) HO5.out ?_;rw [World.setRow_alloc_new])|fail)
    clear hz hld hld2 hcs
    obtain ⟨g1,hg1⟩:∃ g1,g1=wr.heap.size:=⟨_,rfl⟩
    rw [← hg1] at KB
    generalize wr.alloc (.cells cs.toArray 41)=W2 at *
    rw [← hg1]
    clear hg1
    have lk:=KB.lt
    have HN:Hid _:=bytesL_next hkk
    have hkl:=bytesL_kid hkk
    have hfk:=fineL.get HFk.out hkk
    go_wp2_with (first|(refine wpList_load_run (by rfl) (by rfl) (by rfl) (KB.load Tryz.underlying41 rfl size_tlv HL5.out) ?_)|fail)
    refine (IH k _ _ (by omega) hfk (by omega) hkt).mono ?_
    rintro e w2 ⟨v2,rfl,own2,hb2⟩
    replace own1:=own_laterD own1 hb2
    have hb22:=Bs.of_own own2
    have hsz2:=hb2.size
    replace B0:=B0.later hb2
    replace bel:=below_stepD bel hb2
    clear hb2 hkt lk KB HS5 HO5 HL5
    clear own2 hkk
    obtain ⟨Q,hQ⟩:∃ Q,bytesL (ks.take i)=Q:=⟨_,rfl⟩
    have HQ:Hid (bytesL (ks.take i)=Q):=hQ
    rw [hQ] at own1 hkl
    clear hQ
    go_wp2_with (first|(at_builtin;refine wpList_append_bs (by rfl) _ _ (by rfl) W0 _ Q.length (Q) (by rfl) own1 _ (bytesT k) (by rfl) hb22 (by omega) (by omega) ?_;intro v3 w3 own3 hgrow hat)|fail)
    have hb3:=below_own (base:=W0) (Below.refl W0 w2) hgrow (by omega) (fun g hg=>own_geD own1 hg) (Nat.le_refl _)
    have HQ2:Hid (Q++bytesT k=bytesL (ks.take (i + 1))):=by show _=_;rw [HN.out,HQ.out]
    rw [← List.length_append,HQ2.out] at own3
    replace B0:=B0.below hb3 hsW
    replace bel:=bel.trans (hb3.mono (Nat.le_of_lt hsW))
    go_roundw
    case rel=>exact ⟨i + 1,by omega,by go_num,own3,B0,bel,by have:=hb3.size;omega⟩
    case measure=>simp [intOf];omega
   ·have HI:Hid (i=ks.length):=by show i=ks.length;omega
    have g1:¬ (i:Int) < (ks.length:Int):=by omega
    rw [HI.out,List.take_of_length_le (Nat.le_refl _)] at own1
    obtain ⟨H,hH⟩:∃ H,bytesL ks=H:=⟨_,rfl⟩
    obtain ⟨N,hN⟩:∃ N,b.length + H.length=N:=⟨_,rfl⟩
    have HH:Hid (bytesT (.mk c t m b ks)=headB c t m :: (lenB N++(b++H))):=by show _=_;rw [bytesT,hH,List.length_append,hN]
    rw [hH] at own1 hlen
    rw [hN] at hlen
    clear hH HI
    obtain ⟨hao,hcap,hhv,hc1,hc2⟩:=own_slice own1
    subst hhv
    have HKs:Hid (Bs wr (.slice hao H.length hcap) H):=Bs.of_own own1
    clear own1
    have a1:IntKind.i64.wrap ((b.length:Int) + (H.length:Int))=(N:Int):=by rw [IntKind.wrap_i64];omega
    have hN20:N≤1048576:=by omega
    have bsz:=bel.size
    go_upto_region 7 with fail
    obtain ⟨S1,hS1,KB1,KI1,KD1,KL1,KA1⟩:∃ S:World→Prop,Hd S wr∧Hid (∀ wx,Hd S wx→Below wr.heap.size wr wx)∧Hid (∀ wx,Below wr.heap.size wr wx→Hd S wx)∧Hid (∀ wx,Hd S wx→Hd S wx.drew)∧Hid (∀ w1 w2,Hd S w1→Below w1.heap.size w1 w2→Hd S w2)∧Hid (∀ w1 o,Hd S w1→Hd S (w1.alloc o)):=⟨fun wx=>Below wr.heap.size wr wx,Below.refl _ _,fun _ h=>h,fun _ h=>h,fun wx h=>Below.drew h,fun w1 w2 h hb=>below_stepD h hb,fun w1 o h=>Below.alloc h h.size o⟩
    have HB0:Hid (Blk wr w.heap.size [.int .i64 c,.int .i64 t,.bool m,.slice bao b.length bcap,.slice ao ks.length cap]):=B0
    have ra:∀ wx,Hd S1 wx→wx.cell? ⟨w.heap.size,3,none⟩=some (.slice bao b.length bcap):=fun wx h=>(HB0.out.later (KB1.out wx h)).cell 3 _ rfl
    have rt:Hid (∀ wx,Hd S1 wx→(loadVar 41 ⟨w.heap.size,0,none⟩).run Tryz.prog wx=.ok (.agg #[.int .i64 c,.int .i64 t,.bool m,.slice bao b.length bcap,.slice ao ks.length cap]) wx):=fun wx h=>(HB0.out.later (KB1.out wx h)).load Tryz.underlying41 rfl size_tlv rfl
    clear B0
    refine wp_region_noPanic ?_
    refine wp_region_held_drew (S:=Hd S1) (by kernel_rfl) (KD1.out _ hS1) (fun hHeld=>?_)
    clear hS1
    generalize World.drew _=wd at *
    refine wpAnyH_take (i:=0) (v:=.agg #[.int .i64 c,.int .i64 t,.bool m,.slice bao b.length bcap,.slice ao ks.length cap]) rfl (by kernel_rfl) (by kernel_rfl) (by kernel_rfl) (fun _ _ _ h=>h) (Or.inl ⟨by rfl,fun wx h=>exec_load rfl rfl (rt.out wx h)⟩) (by assumption) ?_
    try simp only [Act.put,List.getElem_toArray,List.getElem_cons_zero,List.getElem_cons_succ,List.setIfInBounds_toArray,List.set_cons_zero,List.set_cons_succ]
    refine wpAnyH_take (i:=3) (v:=?_) rfl (by kernel_rfl) (by kernel_rfl) (by kernel_rfl) (fun _ _ _ h=>h) (Or.inl ⟨by rfl,?_⟩) (by assumption) ?_
    rotate_left
    ·intro w hSw
     go_simp
     with_reducible rfl
    try simp only [Act.put,List.getElem_toArray,List.getElem_cons_zero,List.getElem_cons_succ,List.setIfInBounds_toArray,List.set_cons_zero,List.set_cons_succ]
    refine wpAnyH_take (i:=4) (v:=?_) rfl (by kernel_rfl) (by kernel_rfl) (by kernel_rfl) (fun _ _ _ h=>h) (Or.inl ⟨by rfl,?_⟩) (by assumption) ?_
    rotate_left
    ·intro w hSw
     go_simp
     with_reducible rfl
    try simp only [Act.put,List.getElem_toArray,List.getElem_cons_zero,List.getElem_cons_succ,List.setIfInBounds_toArray,List.set_cons_zero,List.set_cons_succ]
    refine wpAnyH_take (i:=5) (v:=?_) rfl (by kernel_rfl) (by kernel_rfl) (by kernel_rfl) (fun _ _ _ h=>h) (Or.inl ⟨by rfl,?_⟩) (by assumption) ?_
    rotate_left
    ·intro w hSw
     go_simp
     with_reducible rfl
    try simp only [Act.put,List.getElem_toArray,List.getElem_cons_zero,List.getElem_cons_succ,List.setIfInBounds_toArray,List.set_cons_zero,List.set_cons_succ]
    refine wpAnyH_take (i:=6) (v:=?_) rfl (by kernel_rfl) (by kernel_rfl) (by kernel_rfl) (fun _ _ _ h=>h) (Or.inl ⟨by rfl,?_⟩) (by assumption) ?_
    rotate_left
    ·intro w hSw
     go_simp
     with_reducible rfl
    try simp only [Act.put,List.getElem_toArray,List.getElem_cons_zero,List.getElem_cons_succ,List.setIfInBounds_toArray,List.set_cons_zero,List.set_cons_succ]
    refine wpAnyH_take (i:=7) (v:=?_) rfl (by kernel_rfl) (by kernel_rfl) (by kernel_rfl) (fun _ _ _ h=>h) (Or.inl ⟨by rfl,?_⟩) (by assumption) ?_
    rotate_left
    ·intro w hSw
     go_simp
     with_reducible rfl
    try simp only [Act.put,List.getElem_toArray,List.getElem_cons_zero,List.getElem_cons_succ,List.setIfInBounds_toArray,List.set_cons_zero,List.set_cons_succ]
    refine wpAnyH_take (i:=8) (v:=?_) rfl (by kernel_rfl) (by kernel_rfl) (by kernel_rfl) (fun _ _ _ h=>h) (Or.inl ⟨by rfl,?_⟩) (by assumption) ?_
    rotate_left
    ·intro w hSw
     go_simp
     with_reducible rfl
    try simp only [Act.put,List.getElem_toArray,List.getElem_cons_zero,List.getElem_cons_succ,List.setIfInBounds_toArray,List.set_cons_zero,List.set_cons_succ]
    have hll:=lenB_len N
    refine wpAnyH_ready (rs:=[1]) (by kernel_rfl) (by simp) ?_
    refine AllReadyH.cons rfl (fun K hK=>?_) ?_
    ·go_simp
     refine (c12_headOf HF1.out (HT0.out.later (below_stepD bel (KB1.out _ hHeld)))).mono ?_
     rintro e w2 ⟨rfl,hb⟩
     refine hK.out _ _ ?_ (fun hHeld2=>?_)
     ·exact KL1.out _ _ hHeld hb
     ·clear hK K hHeld
      have hHeld:=hHeld2
      clear hHeld2
      try simp only [Act.put,List.getElem_toArray,List.getElem_cons_zero,List.getElem_cons_succ,List.setIfInBounds_toArray,List.set_cons_zero,List.set_cons_succ]
      clear hb
      refine wpAnyH_ready (rs:=[2,9]) (by kernel_rfl) (by simp) ?_
      refine AllReadyH.cons rfl (fun K hK=>?_) ?_
      ·have HH0:Hid (Hd S1 w2):=hHeld
       go_simp
       refine hK.out _ _ ?_ (fun hHeld2=>?_)
       ·exact KA1.out _ _ hHeld
       ·clear hK K hHeld
        have hHeld:=hHeld2
        clear hHeld2
        try simp only [Act.put,List.getElem_toArray,List.getElem_cons_zero,List.getElem_cons_succ,List.setIfInBounds_toArray,List.set_cons_zero,List.set_cons_succ]
        have own6:(w2.alloc (.cells #[.int .u8 (headB c t m)] 5)).ownsRow wr.heap.size 5 1 (.slice (some ⟨w2.heap.size,0,none⟩) 1 1) 1 (u8s [headB c t m]):=own_lits w2 [headB c t m] 1 wr.heap.size rfl (KB1.out _ HH0.out).size (by decide)
        refine wpAnyH_ready (rs:=[9]) (by kernel_rfl) (by simp) ?_
        refine AllReadyH.cons rfl (fun K hK=>?_) ?_
        ·go_simp
         refine (c12_lengthOf (n:=N) hN20).mono ?_
         rintro e w5 ⟨v5,rfl,own5,hb5⟩
         refine hK.out _ _ ?_ (fun hHeld2=>?_)
         ·exact KL1.out _ _ hHeld hb5
         ·clear hK K hHeld
          have hHeld:=hHeld2
          clear hHeld2
          try simp only [Act.put,List.getElem_toArray,List.getElem_cons_zero,List.getElem_cons_succ,List.setIfInBounds_toArray,List.set_cons_zero,List.set_cons_succ]
          replace own6:=own_laterD own6 hb5
          have hB5:=Bs.of_own own5
          clear own5 hb5
          refine wpAnyH_ready (rs:=[10]) (by kernel_rfl) (by simp) ?_
          refine AllReadyH.cons rfl (fun K hK=>?_) ?_
          ·have HHz:Hid (Hd S1 _):=hHeld
           rw [if_pos (show Region.wanted _ _=true from rfl)]
           refine wp_of_list (ops:=#[]) rfl ?_
           refine wpList_append_bs (by rfl) _ _ (by rfl) wr.heap.size _ 1 [headB c t m] (by rfl) own6 _ (lenB N) (by rfl) hB5 (by omega) (KB1.out _ HHz.out).size ?_
           intro v8 w8 own8 hgrow hat
           have bel8:=below_own (KB1.out _ HHz.out) hgrow (KB1.out _ HHz.out).size (fun g hg=>own_geD own6 hg) (Nat.le_refl _)
           clear own6 hgrow hat
           refine ⟨rfl,?_⟩
           refine hK.out _ _ ?_ (fun hHeld2=>?_)
           ·exact KI1.out _ bel8
           ·clear hK K hHeld
            have hHeld:=hHeld2
            clear hHeld2
            try simp only [Act.put,List.getElem_toArray,List.getElem_cons_zero,List.getElem_cons_succ,List.setIfInBounds_toArray,List.set_cons_zero,List.set_cons_succ]
            refine wpAnyH_ready (rs:=[11]) (by kernel_rfl) (by simp) ?_
            refine AllReadyH.cons rfl (fun K hK=>?_) ?_
            ·go_simp
             refine hK.out _ _ ?_ (fun hHeld2=>?_)
             ·exact hHeld
             ·clear hK K hHeld
              have hHeld:=hHeld2
              clear hHeld2
              try simp only [Act.put,List.getElem_toArray,List.getElem_cons_zero,List.getElem_cons_succ,List.setIfInBounds_toArray,List.set_cons_zero,List.set_cons_succ]
              refine wpAnyH_done (by kernel_rfl) ?_ _
              refine NoPanic.normal ?_
              have B8:=HB0.out.later bel8
              have hV8:=HBv.out.later (bel.trans (bel8.mono bsz))
              have hK8:=HKs.out.later bel8
              have s8:=bel8.size
              clear hB5 ra rt hHeld
              have e3:=B8.cell 3 _ rfl
              have lt8:=B8.lt
              go_upto_region 9 with (first|(at_builtin;refine wpList_append_bs (by rfl) _ _ (by rfl) wr.heap.size _ (1 + (lenB N).length) ([headB c t m]++lenB N) (by rfl) own8 _ (b) (by rfl) hV8 (by omega) (by omega) ?_;intro v9 w9 own9 hgrow hat)|fail)
              have bel9:=below_own bel8 hgrow s8 (fun g hg=>own_geD own8 hg) (Nat.le_refl _)
              have hK9:=HKs.out.later bel9
              have s9:=bel9.size
              clear hgrow hat own8 bel8 B8 e3 lt8 hV8 hK8 s8
              go_wp2_with (first|(at_builtin;refine wpList_append_bs (by rfl) _ _ (by rfl) wr.heap.size _ (1 + (lenB N).length + b.length) (([headB c t m]++lenB N)++b) (by rfl) own9 _ (H) (by rfl) hK9 (by omega) (by omega) ?_;intro v10 w10 own10 hgrow hat)|fail)
              have bel10:=below_own bel9 hgrow s9 (fun g hg=>own_geD own9 hg) (Nat.le_refl _)
              go_ret
              refine ⟨v10,rfl,?_,bel.trans (bel10.mono bsz)⟩
              have e9:bytesT (.mk c t m b ks)=(([headB c t m]++lenB N)++b)++H:=by rw [HH.out];simp
              have l9:((([headB c t m]++lenB N)++b)++H).length=1 + (lenB N).length + b.length + H.length:=by simp;omega
              rw [e9,l9]
              exact own_lowerD own10 bsz
            exact AllReadyH.nil
          exact AllReadyH.nil
        exact AllReadyH.nil
      refine AllReadyH.cons rfl (fun K hK=>?_) ?_
      ·go_simp
       refine (c12_lengthOf (n:=N) hN20).mono ?_
       rintro e w5 ⟨v5,rfl,own5,hb5⟩
       refine hK.out _ _ ?_ (fun hHeld2=>?_)
       ·exact KL1.out _ _ hHeld hb5
       ·clear hK K hHeld
        have hHeld:=hHeld2
        clear hHeld2
        try simp only [Act.put,List.getElem_toArray,List.getElem_cons_zero,List.getElem_cons_succ,List.setIfInBounds_toArray,List.set_cons_zero,List.set_cons_succ]
        have hB5:=Bs.of_own own5
        clear own5 hb5
        refine wpAnyH_ready (rs:=[2]) (by kernel_rfl) (by simp) ?_
        refine AllReadyH.cons rfl (fun K hK=>?_) ?_
        ·have HH0:Hid (Hd S1 w5):=hHeld
         go_simp
         refine hK.out _ _ ?_ (fun hHeld2=>?_)
         ·exact KA1.out _ _ hHeld
         ·clear hK K hHeld
          have hHeld:=hHeld2
          clear hHeld2
          try simp only [Act.put,List.getElem_toArray,List.getElem_cons_zero,List.getElem_cons_succ,List.setIfInBounds_toArray,List.set_cons_zero,List.set_cons_succ]
          have own6:(w5.alloc (.cells #[.int .u8 (headB c t m)] 5)).ownsRow wr.heap.size 5 1 (.slice (some ⟨w5.heap.size,0,none⟩) 1 1) 1 (u8s [headB c t m]):=own_lits w5 [headB c t m] 1 wr.heap.size rfl (KB1.out _ HH0.out).size (by decide)
          replace hB5:=hB5.later ((Below.refl _ _).alloc (Nat.le_refl _) (.cells #[.int .u8 (headB c t m)] 5))
          refine wpAnyH_ready (rs:=[10]) (by kernel_rfl) (by simp) ?_
          refine AllReadyH.cons rfl (fun K hK=>?_) ?_
          ·have HHz:Hid (Hd S1 _):=hHeld
           rw [if_pos (show Region.wanted _ _=true from rfl)]
           refine wp_of_list (ops:=#[]) rfl ?_
           refine wpList_append_bs (by rfl) _ _ (by rfl) wr.heap.size _ 1 [headB c t m] (by rfl) own6 _ (lenB N) (by rfl) hB5 (by omega) (KB1.out _ HHz.out).size ?_
           intro v8 w8 own8 hgrow hat
           have bel8:=below_own (KB1.out _ HHz.out) hgrow (KB1.out _ HHz.out).size (fun g hg=>own_geD own6 hg) (Nat.le_refl _)
           clear own6 hgrow hat
           refine ⟨rfl,?_⟩
           refine hK.out _ _ ?_ (fun hHeld2=>?_)
           ·exact KI1.out _ bel8
           ·clear hK K hHeld
            have hHeld:=hHeld2
            clear hHeld2
            try simp only [Act.put,List.getElem_toArray,List.getElem_cons_zero,List.getElem_cons_succ,List.setIfInBounds_toArray,List.set_cons_zero,List.set_cons_succ]
            refine wpAnyH_ready (rs:=[11]) (by kernel_rfl) (by simp) ?_
            refine AllReadyH.cons rfl (fun K hK=>?_) ?_
            ·go_simp
             refine hK.out _ _ ?_ (fun hHeld2=>?_)
             ·exact hHeld
             ·clear hK K hHeld
              have hHeld:=hHeld2
              clear hHeld2
              try simp only [Act.put,List.getElem_toArray,List.getElem_cons_zero,List.getElem_cons_succ,List.setIfInBounds_toArray,List.set_cons_zero,List.set_cons_succ]
              refine wpAnyH_done (by kernel_rfl) ?_ _
              refine NoPanic.normal ?_
              have B8:=HB0.out.later bel8
              have hV8:=HBv.out.later (bel.trans (bel8.mono bsz))
              have hK8:=HKs.out.later bel8
              have s8:=bel8.size
              clear hB5 ra rt hHeld
              have e3:=B8.cell 3 _ rfl
              have lt8:=B8.lt
              go_upto_region 9 with (first|(at_builtin;refine wpList_append_bs (by rfl) _ _ (by rfl) wr.heap.size _ (1 + (lenB N).length) ([headB c t m]++lenB N) (by rfl) own8 _ (b) (by rfl) hV8 (by omega) (by omega) ?_;intro v9 w9 own9 hgrow hat)|fail)
              have bel9:=below_own bel8 hgrow s8 (fun g hg=>own_geD own8 hg) (Nat.le_refl _)
              have hK9:=HKs.out.later bel9
              have s9:=bel9.size
              clear hgrow hat own8 bel8 B8 e3 lt8 hV8 hK8 s8
              go_wp2_with (first|(at_builtin;refine wpList_append_bs (by rfl) _ _ (by rfl) wr.heap.size _ (1 + (lenB N).length + b.length) (([headB c t m]++lenB N)++b) (by rfl) own9 _ (H) (by rfl) hK9 (by omega) (by omega) ?_;intro v10 w10 own10 hgrow hat)|fail)
              have bel10:=below_own bel9 hgrow s9 (fun g hg=>own_geD own9 hg) (Nat.le_refl _)
              go_ret
              refine ⟨v10,rfl,?_,bel.trans (bel10.mono bsz)⟩
              have e9:bytesT (.mk c t m b ks)=(([headB c t m]++lenB N)++b)++H:=by rw [HH.out];simp
              have l9:((([headB c t m]++lenB N)++b)++H).length=1 + (lenB N).length + b.length + H.length:=by simp;omega
              rw [e9,l9]
              exact own_lowerD own10 bsz
            exact AllReadyH.nil
          exact AllReadyH.nil
        exact AllReadyH.nil
      exact AllReadyH.nil
    exact AllReadyH.nil
end Go.Proofs.YtnkipgbnnhahbaaGreatDoor
