/- The document's Depth of elements. -/
import Derived.Test.YtnkipgbnnhahbaaDrDep
import Derived.Test.YtnkipgbnnhahbaaRows
import Derived.Deep.WholeRow
import Derived.Deep.RegionHeld3
import Derived.Deep.DeepCutAuto
import Derived.Deep.DeepFit
namespace Go.Proofs.Ytnkipgbnnhahbaa
open Go.RowKit
set_option linter.unusedSimpArgs false in
set_option maxRecDepth 100000 in
set_option maxHeartbeats 2000000 in
theorem r12_Depth (n:Nat):∀ (T:Tl) (w:World) (cs:List Value),szT T≤n→szT T≤4611686018427387904→TlAt w T cs →
  Calls Try.prog 26 #[.agg cs.toArray] w fun e w'=>e=.returned (.int .i64 ((depT T:Nat):Int))∧Below w.heap.size w w':=by
 induction n with
 | zero=>intro T w cs hz _;have:=szT_pos T;omega
 | succ n IH =>
  intro T w cs hz hbig h
  obtain ⟨c,t,m,b,ks⟩:=T
  have h0:=h
  rw [TlAt] at h
  obtain ⟨bv,ao,cap,rfl,hbv,hk1,hk2,hk3⟩:=h
  have HK:Hid (0 < ks.length→∃ g o,ao=some ⟨g,o,none⟩∧KidsAt w ks g o):=hk3
  clear hk3 h0
  unfold maxLen at hk2
  obtain ⟨bao,bcap,rfl,hb1,hb2,hb3⟩:=hbv
  clear hb3
  unfold maxLen at hb1
  have B0:=Blk.new w [.int .i64 c,.int .i64 t,.bool m,.slice bao b.length bcap,.slice ao ks.length cap] 42 w.heap.size rfl
  have bel:Below w.heap.size w (w.alloc (.cells #[.int .i64 c,.int .i64 t,.bool m,.slice bao b.length bcap,.slice ao ks.length cap] 42)):=(Below.refl _ _).alloc (Nat.le_refl _) _
  rw [szT] at hz hbig
  have e4:=B0.cell 4 _ rfl
  have lt0:=B0.lt
  go_enter Try.func26,Try.ntmps26
  go_upto_region 2 with fail
  generalize w.alloc (Obj.cells #[.int .i64 c,.int .i64 t,.bool m,.slice bao b.length bcap,.slice ao ks.length cap] 42)=W at *
  go_wp2_with fail
  go_loopw [3,4] (fun mv iv wx=>∃ i:Nat,i≤ks.length∧iv=.int .i64 i∧mv=.int .i64 ((depL (ks.take i):Nat):Int)∧Blk wx w.heap.size [.int .i64 c,.int .i64 t,.bool m,.slice bao b.length bcap,.slice ao ks.length cap]∧Below w.heap.size w wx) (fun _ iv _=>ks.length - (intOf iv).toNat)
  case atStart=>exact ⟨0,by omega,rfl,by simp [depL],B0,bel⟩
  case round =>
   clear B0 bel lt0 e4
   obtain ⟨i,hi,rfl,rfl,B0,bel⟩:=hrel
   have e4:=B0.cell 4 _ rfl
   have lt0:=B0.lt
   by_cases hil:i < ks.length
   ·have g1:(i:Int) < (ks.length:Int):=by omega
    have g2:(0:Int)≤(i:Int):=by omega
    have gi:IntKind.i64.wrap ((i:Int) + 1)=(i:Int) + 1:=by rw [IntKind.wrap_i64];omega
    obtain ⟨k,hkk⟩:=get_kid hil
    obtain ⟨g,o,hao,hks⟩:=HK.out (by omega)
    obtain ⟨cs,hcs,hkt⟩:=hks.get hkk
    have hsz:=szL_get hkk
    replace hcs:=hcs.later bel
    replace hkt:=hkt.later bel
    have hld:=tlv_load hcs hkt.five
    have hld2:=hld
    rw [Nat.mul_comm 5 i] at hld2
    subst hao
    have HN:Hid _:=depL_next hkk
    go_wp2_with (first|(refine wpList_load_run (by rfl) (by rfl) (by rfl) hld ?_)|(refine wpList_load_run (by rfl) (by rfl) (by rfl) hld2 ?_)|fail)
    refine (IH k _ _ (by omega) (by omega) hkt).mono ?_
    rintro e w2 ⟨rfl,hb2⟩
    replace B0:=B0.later hb2
    replace bel:=below_stepD bel hb2
    clear hb2 hld hld2 hcs hkt e4 lt0
    obtain ⟨x,hx⟩:∃ x,depT k=x:=⟨_,rfl⟩
    obtain ⟨y,hy⟩:∃ y,depL (ks.take i)=y:=⟨_,rfl⟩
    rw [hx,hy] at HN
    rw [hx,hy]
    clear hx hy
    by_cases hxy:y < x
    ·have g3:(y:Int) < (x:Int):=by omega
     go_wp2_with fail
     go_roundw
     case rel=>exact ⟨i + 1,by omega,by go_num,by rw [HN.out,Nat.max_eq_right (by omega)],B0,bel⟩
     case measure=>simp [intOf];omega
    ·have g3:¬ (y:Int) < (x:Int):=by omega
     go_wp2_with fail
     go_roundw
     case rel=>exact ⟨i + 1,by omega,by go_num,by rw [HN.out,Nat.max_eq_left (by omega)],B0,bel⟩
     case measure=>simp [intOf];omega
   ·have HI:Hid (i=ks.length):=by show i=ks.length;omega
    have g1:¬ (i:Int) < (ks.length:Int):=by omega
    have HD:Hid (depL (ks.take i)=depL ks):=by show _=_;rw [HI.out,List.take_of_length_le (Nat.le_refl _)]
    have hle:=depL_szL ks
    rw [HD.out]
    have g3:IntKind.i64.wrap (((depL ks:Nat):Int) + 1)=((depL ks:Nat):Int) + 1:=by rw [IntKind.wrap_i64];omega
    go_wp2_with fail
    go_ret
    exact ⟨by rw [depT];rfl,bel⟩
end Go.Proofs.Ytnkipgbnnhahbaa
