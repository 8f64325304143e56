/- The program's headOf and lengthOf. -/
import Derived.Test.YtnkipgbnnhahbaaDrDep
import Derived.Test.YtnkipgbnnhahbaaRwT
import Derived.Test.YtnkipgbnnhahbaaDcLen
import Derived.Test.YtnkipgbnnhahbaaRows
import Derived.Deep.OwnRows
import Derived.Deep.AppendLies
import Derived.Great.BuildSlice
import Derived.Deep.WholeRow
import Derived.Deep.RegionHeld3
import Derived.Deep.DeepCutAuto
import Derived.Deep.DeepFit
namespace Go.Proofs.Ytnkipgbnnhahbaa
open Go.RowKit
set_option linter.unusedSimpArgs false in
set_option maxRecDepth 100000 in
set_option maxHeartbeats 2000000 in
theorem c12_headOf {c t:Int} {m:Bool} {b:List Int} {ks:List Tl} {w:World} {cs:List Value} (hf:fine1 c t m b ks=true) (h:TlAt w (.mk c t m b ks) cs) :
  Calls Try.prog 37 #[.agg cs.toArray] w fun e w'=>e=.returned (.int .u8 (headB c t m))∧Below w.heap.size w w':=by
 have h0:=h
 rw [TlAt] at h
 obtain ⟨bv,ao,cap,rfl,hbv,hk1,hk2,hk3⟩:=h
 have HK:Hid (0 < ks.length→∃ g o,ao=some ⟨g,o,none⟩∧KidsAt w ks g o):=hk3
 clear hk3 h0
 unfold maxLen at hk2
 obtain ⟨bao,bcap,rfl,hb1,hb2,hb3⟩:=hbv
 clear hb3
 unfold maxLen at hb1
 have B0:=Blk.new w [.int .i64 c,.int .i64 t,.bool m,.slice bao b.length bcap,.slice ao ks.length cap] 42 w.heap.size rfl
 have bel:Below w.heap.size w (w.alloc (.cells #[.int .i64 c,.int .i64 t,.bool m,.slice bao b.length bcap,.slice ao ks.length cap] 42)):=(Below.refl _ _).alloc (Nat.le_refl _) _
 have hnum:=fine1_num hf
 have e0:=B0.cell 0 _ rfl
 have e1:=B0.cell 1 _ rfl
 have e2:=B0.cell 2 _ rfl
 have lt0:=B0.lt
 go_enter Try.func37,Try.ntmps37
 go_upto_region 1 with fail
 generalize w.alloc (Obj.cells #[.int .i64 c,.int .i64 t,.bool m,.slice bao b.length bcap,.slice ao ks.length cap] 42)=W at *
 have a1:IntKind.i64.wrap (c * 64)=c * 64:=by rw [IntKind.wrap_i64];omega
 have a2:IntKind.i64.wrap (c * 64 + t)=c * 64 + t:=by rw [IntKind.wrap_i64];omega
 cases m with
 | true =>
  have a3:IntKind.i64.wrap (c * 64 + t + 32)=c * 64 + t + 32:=by rw [IntKind.wrap_i64];omega
  have a4:IntKind.u8.wrap (c * 64 + t + 32)=headB c t true:=by rw [IntKind.wrap_u8];simp [headB];omega
  go_wp2_with fail
  go_ret
  exact ⟨rfl,bel⟩
 | false =>
  have a4:IntKind.u8.wrap (c * 64 + t)=headB c t false:=by rw [IntKind.wrap_u8];simp [headB];omega
  go_wp2_with fail
  go_ret
  exact ⟨rfl,bel⟩
theorem lenB_byte {n l i:Nat} (h:LongOk n l) (hn:n < 16777216) (h1:1≤l) (hi:i < l):(lenB n)[i + 1]?=some ((n / 2 ^ (8 * (l - 1 - i)) % 256:Nat):Int)∧(lenB n)[0]?=some ((128 + l:Nat):Int):=by
 obtain ⟨_,h0,ha,hb,hc⟩:=h
 unfold lenB
 split
 ·have:=h0 (by assumption);omega
 ·split
  ·have:=ha (by omega) (by assumption)
   subst this
   obtain rfl:i=0:=by omega
   refine ⟨?_,rfl⟩
   simp
   omega
  ·split
   ·have:=hb (by omega) (by assumption)
    subst this
    refine ⟨?_,rfl⟩
    rcases (show i=0∨i=1 by omega) with rfl|rfl
    ·simp;omega
    ·simp
   ·have:=hc (by omega) hn
    subst this
    refine ⟨?_,rfl⟩
    rcases (show i=0∨i=1∨i=2 by omega) with rfl|rfl|rfl
    ·simp
    ·simp
    ·simp
set_option linter.unusedSimpArgs false in
set_option maxRecDepth 100000 in
set_option maxHeartbeats 2000000 in
theorem c12_lengthOf {n:Nat} {w:World} (hn:n≤1048576) :
  Calls Try.prog 38 #[.int .i64 (n:Int)] w fun e w'=>∃ v':Value,e=.returned v'∧w'.ownsRow w.heap.size 5 1 v' (lenB n).length (u8s (lenB n))∧Below w.heap.size w w':=by
 go_enter Try.func38,Try.ntmps38
 go_wp2_with fail
 refine (c12_longSize (n:=n) (by omega)).mono ?_
 rintro e w2 ⟨l,rfl,hl,rfl⟩
 have HL:Hid (LongOk n l):=hl
 have hl0:=hl.2.1
 have hl3:l≤3:=by
  obtain ⟨q0,q1,q2,q3,q4⟩:=hl
  by_cases c1:n < 128
  ·have:=q1 c1;omega
  ·by_cases c2:n < 256
   ·have:=q2 (by omega) c2;omega
   ·by_cases c3:n < 65536
    ·have:=q3 (by omega) c3;omega
    ·have:=q4 (by omega) (by omega);omega
 have hl1:128≤n→1≤l:=by
  obtain ⟨q0,q1,q2,q3,q4⟩:=hl
  intro c1
  by_cases c2:n < 256
  ·have:=q2 (by omega) c2;omega
  ·by_cases c3:n < 65536
   ·have:=q3 (by omega) c3;omega
   ·have:=q4 (by omega) (by omega);omega
 clear hl
 by_cases c1:n < 128
 ·have hl:=hl0 c1
  subst hl
  have HB:Hid (lenB n=[(n:Int)]):=by show _=_;unfold lenB;rw [if_pos c1]
  have a1:IntKind.u8.wrap (n:Int)=(n:Int):=by rw [IntKind.wrap_u8];omega
  go_wp2_with fail
  go_ret
  refine ⟨_,rfl,?_,(Below.refl _ _).alloc (Nat.le_refl _) _⟩
  rw [HB.out]
  exact own_lits _ [(n:Int)] 1 _ rfl (Nat.le_refl _) (by decide)
 have hl:=hl1 (by omega)
 clear hl0 hl1
 have hl9:((l:Int) == 0)=false:=by rw [beq_eq_false_iff_ne];omega
 have a1:IntKind.i64.wrap (128 + (l:Int))=128 + (l:Int):=by rw [IntKind.wrap_i64];omega
 have a2:IntKind.u8.wrap (128 + (l:Int))=128 + (l:Int):=by rw [IntKind.wrap_u8];omega
 have HLen:Hid ((lenB n).length=1 + l):=HL.out.len (by omega)
 have own0:=own_lits w2 [128 + (l:Int)] 1 w2.heap.size rfl (Nat.le_refl _) (by decide)
 have bel:Below w2.heap.size w2 (w2.alloc (.cells #[.int .u8 (128 + (l:Int))] 5)):=(Below.refl _ _).alloc (Nat.le_refl _) _
 replace own0:(w2.alloc (.cells #[.int .u8 (128 + (l:Int))] 5)).ownsRow w2.heap.size 5 1 (.slice (some ⟨w2.heap.size,0,none⟩) 1 1) 1 (u8s [128 + (l:Int)]):=own0
 have HT1:Hid ((lenB n).take 1=[128 + (l:Int)]):=by
  show _=_
  have:=(lenB_byte (i:=0) HL.out (by omega) hl (by omega)).2
  rw [List.take_one,List.head?_eq_getElem?,this]
  simp
 go_wp2_with fail
 generalize w2.alloc (.cells #[.int .u8 (128 + (l:Int))] 5)=W at *
 go_loopw [4,18] (fun av iv wx=>∃ i:Nat,i≤l∧iv=.int .i64 (i:Int)∧wx.ownsRow w2.heap.size 5 1 av (i + 1) (u8s ((lenB n).take (i + 1)))∧Below w2.heap.size w2 wx) (fun _ iv _=>l - (intOf iv).toNat)
 case atStart=>exact ⟨0,by omega,rfl,by rw [Nat.zero_add,HT1.out];exact own0,bel⟩
 case round =>
  clear own0 bel
  obtain ⟨i,hi,rfl,own,bel⟩:=hrel
  by_cases hil:i < l
  ·have g1:(i:Int) < (l:Int):=by omega
   have gi:IntKind.i64.wrap ((i:Int) + 1)=(i:Int) + 1:=by rw [IntKind.wrap_i64];omega
   obtain ⟨s,hs⟩:∃ s,l - 1 - i=s:=⟨_,rfl⟩
   have HBy:Hid ((lenB n)[i + 1]?=some ((n / 2 ^ (8 * s) % 256:Nat):Int)):=by rw [← hs];exact (lenB_byte HL.out (by omega) hl hil).1
   have a3:IntKind.i64.wrap ((l:Int) - 1)=(l:Int) - 1:=by rw [IntKind.wrap_i64];omega
   have a4:IntKind.i64.wrap ((l:Int) - 1 - (i:Int))=(s:Int):=by rw [IntKind.wrap_i64];omega
   have a5:IntKind.i64.wrap (8 * (s:Int))=((8 * s:Nat):Int):=by rw [IntKind.wrap_i64];omega
   obtain ⟨y,hy⟩:∃ y,n / 2 ^ (8 * s) % 256=y:=⟨_,rfl⟩
   rw [hy] at HBy
   have a6:(n:Int) / 2 ^ (8 * s) % 256=(y:Int):=by rw [← hy];simp
   clear hy
   have own1:=own_later6 own (o:=.cells #[.int .u8 (y:Int)] 5)
   have bl:=bs_one wr (y:Int)
   have bel1:=below_alloc (o:=.cells #[.int .u8 (y:Int)] 5) bel
   have bsz:=bel1.size
   go_wp2_with (first|(at_builtin;refine wpList_append_bs (by rfl) _ _ (by rfl) w2.heap.size _ (i + 1) _ (by rfl) own1 _ [(y:Int)] (by rfl) bl (by simp;omega) bsz ?_;intro v8 w8 own8 hgrow hat)|fail)
   have bel8:=below_own bel1 hgrow bsz (fun g hg=>own_geD own1 hg) (Nat.le_refl _)
   have HT:Hid ((lenB n).take (i + 1)++[(y:Int)]=(lenB n).take (i + 1 + 1)):=by show _=_;rw [List.take_add_one (i:=i + 1),HBy.out];rfl
   rw [HT.out] at own8
   clear hgrow hat own1 bl bel1
   go_roundw
   case rel=>exact ⟨i + 1,by omega,by go_num,own8,bel8⟩
   case measure=>simp [intOf];omega
  ·have HI:Hid (i=l):=by show i=l;omega
   have g1:¬ (i:Int) < (l:Int):=by omega
   go_wp2_with fail
   go_ret
   refine ⟨_,rfl,?_,bel⟩
   rw [HI.out] at own
   rw [List.take_of_length_le (by rw [HLen.out];omega)] at own
   rw [HLen.out,Nat.add_comm 1 l]
   exact own
end Go.Proofs.Ytnkipgbnnhahbaa
