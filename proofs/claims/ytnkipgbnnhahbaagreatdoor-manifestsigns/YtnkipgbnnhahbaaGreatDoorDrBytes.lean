/- The document's bytes of elements. -/
import Derived.Test.YtnkipgbnnhahbaaGreatDoorDrDep
import Derived.Test.YtnkipgbnnhahbaaGreatDoorDrPar
import Derived.Test.YtnkipgbnnhahbaaGreatDoorCtPl
import Derived.Test.YtnkipgbnnhahbaaGreatDoorApBs
import Derived.Test.YtnkipgbnnhahbaaGreatDoorHeld3
import Derived.Test.YtnkipgbnnhahbaaGreatDoorRows
import Derived.Deep.OwnRows
import Derived.Deep.AppendLies
import Derived.Deep.WholeRow
import Derived.Deep.RegionHeld3
import Derived.Deep.DeepCutAuto
import Derived.Deep.DeepFit
namespace Go.Proofs.YtnkipgbnnhahbaaGreatDoor
open Go.RowKit
set_option linter.unusedSimpArgs false in
set_option maxRecDepth 100000 in
set_option maxHeartbeats 4000000 in
theorem r12_bytes (n:Nat):∀ (T:Tl) (w:World) (cs:List Value),szT T≤n→fineT T=true→(bytesT T).length≤1099511627776→TlAt w T cs →
  Calls Tryz.prog 47 #[.agg cs.toArray] w fun e w'=>∃ v':Value,e=.returned v'∧w'.ownsRow w.heap.size 5 1 v' (bytesT T).length (u8s (bytesT T))∧Below w.heap.size w w':=by
 induction n with
 | zero=>intro T w cs hz;have:=szT_pos T;omega
 | succ n IH =>
  intro T w cs hz hf hlen h
  obtain ⟨c,t,m,b,ks⟩:=T
  rw [TlAt] at h
  rw [fineT,Bool.and_eq_true] at hf
  have hnum:=fine1_num hf.1
  have HFk:Hid (fineL ks=true):=hf.2
  clear hf
  rw [bytesT] at hlen
  rw [List.length_cons,List.length_append,List.length_append] at hlen
  obtain ⟨bv,ao,cap,rfl,hbv,hk1,hk2,hk3⟩:=h
  have HK:Hid (0 < ks.length→∃ g o,ao=some ⟨g,o,none⟩∧KidsAt w ks g o):=hk3
  clear hk3
  unfold maxLen at hk2
  rw [szT] at hz
  have B0:=Blk.new w [.int .i64 c,.int .i64 t,.bool m,bv,.slice ao ks.length cap] 41 w.heap.size rfl
  have bel:Below w.heap.size w (w.alloc (.cells #[.int .i64 c,.int .i64 t,.bool m,bv,.slice ao ks.length cap] 41)):=(Below.refl _ _).alloc (Nat.le_refl _) _
  replace hbv:=hbv.later bel
  go_enter Tryz.func47,Tryz.ntmps47
  go_upto_region 1 with fail
  generalize w.alloc (Obj.cells #[.int .i64 c,.int .i64 t,.bool m,bv,.slice ao ks.length cap] 41)=W at *
  have e3:=B0.cell 3 _ rfl
  have lt0:=B0.lt
  have own0:=own_lits W [] 0 W.heap.size rfl (Nat.le_refl _) (by decide)
  have hb0:=hbv.later ((Below.refl _ _).alloc (Nat.le_refl _) (.cells #[] 5))
  have e3a:(W.alloc (.cells #[] 5)).cell? ⟨w.heap.size,3,none⟩=some bv:=cell_alloc e3
  go_upto_region 2 with (first|(at_builtin;refine wpList_append_bs (by rfl) _ _ (by rfl) W.heap.size _ 0 ([]) (by rfl) own0 _ (b) (by rfl) hb0 (by omega) (by simp) ?_;intro v1 w1 own1 hgrow hat)|fail)
  have hb1:=below_own (base:=W.heap.size) ((Below.refl W.heap.size W).alloc (Nat.le_refl _) (.cells #[] 5)) hgrow (by simp) (fun g hg=>own_geD own0 hg) (Nat.le_refl _)
  rw [Nat.zero_add,List.nil_append] at own1
  replace B0:=B0.later hb1
  replace bel:=below_stepD bel hb1
  have hsW1:W.heap.size≤w1.heap.size:=hb1.size
  clear own0 hb0 hgrow hat hb1 e3 e3a hbv
  obtain ⟨W0,hW0⟩:∃ z,z=W.heap.size:=⟨_,rfl⟩
  rw [← hW0] at own1 lt0 hsW1
  have hsW:w.heap.size < W0:=lt0
  clear hW0 lt0
  go_wp2_with fail
  go_loopw [3,4] (fun hv iv wx=>∃ i:Nat,i≤ks.length∧iv=.int .i64 i∧wx.ownsRow W0 5 1 hv (b++bytesL (ks.take i)).length (u8s (b++bytesL (ks.take i)))∧Blk wx w.heap.size [.int .i64 c,.int .i64 t,.bool m,bv,.slice ao ks.length cap]∧Below w.heap.size w wx∧W0≤wx.heap.size) (fun _ iv _=>ks.length - (intOf iv).toNat)
  case atStart=>exact ⟨0,by omega,rfl,by rw [List.take_zero,bytesL,List.append_nil];exact own1,B0,bel,hsW1⟩
  case round =>
   clear B0 bel own1 hsW1
   obtain ⟨i,hi,rfl,own1,B0,bel,hsW1⟩:=hrel
   have e4:=B0.cell 4 _ rfl
   have lt0:=B0.lt
   by_cases hil:i < ks.length
   ·have g1:(i:Int) < (ks.length:Int):=by omega
    have g2:(0:Int)≤(i:Int):=by omega
    have gi:IntKind.i64.wrap ((i:Int) + 1)=(i:Int) + 1:=by rw [IntKind.wrap_i64];omega
    obtain ⟨k,hkk⟩:=get_kid hil
    obtain ⟨g,o,hao,hks⟩:=HK.out (by omega)
    obtain ⟨cs,hcs,hkt⟩:=hks.get hkk
    have hsz:=szL_get hkk
    replace hcs:=hcs.later bel
    replace hkt:=hkt.later bel
    have hld:=tlv_load hcs hkt.five
    have hld2:=hld
    rw [Nat.mul_comm 5 i] at hld2
    subst hao
    have HN:Hid _:=bytesL_next hkk
    have hkl:=bytesL_kid hkk
    have hfk:=fineL.get HFk.out hkk
    go_wp2_with (first|(refine wpList_load_run (by rfl) (by rfl) (by rfl) hld ?_)|(refine wpList_load_run (by rfl) (by rfl) (by rfl) hld2 ?_)|fail)
    refine (IH k _ _ (by omega) hfk (by omega) hkt).mono ?_
    rintro e w2 ⟨v2,rfl,own2,hb2⟩
    replace B0:=B0.later hb2
    replace bel:=below_stepD bel hb2
    replace own1:=own_laterD own1 hb2
    have hb22:=Bs.of_own own2
    have hsz2:=hb2.size
    clear hb2 hld hld2 hcs hkt e4 own2 hkk
    obtain ⟨Q,hQ⟩:∃ Q,b++bytesL (ks.take i)=Q:=⟨_,rfl⟩
    have HQ:Hid (b++bytesL (ks.take i)=Q):=hQ
    have hQl:Q.length=b.length + (bytesL (ks.take i)).length:=by rw [← hQ,List.length_append]
    rw [hQ] at own1
    clear hQ
    go_wp2_with (first|(at_builtin;refine wpList_append_bs (by rfl) _ _ (by rfl) W0 _ Q.length (Q) (by rfl) own1 _ (bytesT k) (by rfl) hb22 (by omega) (by omega) ?_;intro v3 w3 own3 hgrow hat)|fail)
    have hb3:=below_own (base:=W0) (Below.refl W0 w2) hgrow (by omega) (fun g hg=>own_geD own1 hg) (Nat.le_refl _)
    have HQ2:Hid (Q++bytesT k=b++bytesL (ks.take (i + 1))):=by show _=_;rw [HN.out,← HQ.out,List.append_assoc]
    rw [← List.length_append,HQ2.out] at own3
    replace B0:=B0.below hb3 hsW
    replace bel:=bel.trans (hb3.mono (Nat.le_of_lt hsW))
    go_roundw
    case rel=>exact ⟨i + 1,by omega,by go_num,own3,B0,bel,by have:=hb3.size;omega⟩
    case measure=>simp [intOf];omega
   ·have HI:Hid (i=ks.length):=by show i=ks.length;omega
    have g1:¬ (i:Int) < (ks.length:Int):=by omega
    rw [HI.out,List.take_of_length_le (Nat.le_refl _)] at own1
    obtain ⟨H,hH⟩:∃ H,b++bytesL ks=H:=⟨_,rfl⟩
    have HH:Hid (bytesT (.mk c t m b ks)=headB c t m :: (lenB H.length++H)):=by show _=_;rw [bytesT,hH]
    have hHl:H.length=b.length + (bytesL ks).length:=by rw [← hH,List.length_append]
    rw [hH] at own1
    obtain ⟨N,hN⟩:∃ N,H.length=N:=⟨_,rfl⟩
    rw [hN] at own1 HH hHl
    have HNl:Hid (H.length=N):=hN
    clear hH hN HI
    obtain ⟨hao,hcap,hhv,hc1,hc2⟩:=own_slice own1
    have hB:=Bs.of_own own1
    clear own1
    subst hhv
    have e0:=B0.cell 0 _ rfl
    have e1:=B0.cell 1 _ rfl
    have e2:=B0.cell 2 _ rfl
    have hN40:N≤1099511627776:=by omega
    have hll:=lenB_len N
    have bsz:=bel.size
    clear hlen hHl
    have a1:IntKind.i64.wrap (64 * c)=64 * c:=by rw [IntKind.wrap_i64];omega
    have a2:IntKind.i64.wrap (64 * c + t)=64 * c + t:=by rw [IntKind.wrap_i64];omega
    cases m with
    | true =>
     have a3:IntKind.i64.wrap (64 * c + t + 32)=64 * c + t + 32:=by rw [IntKind.wrap_i64];omega
     obtain ⟨x,hx⟩:∃ x,64 * c + t + 32=x:=⟨_,rfl⟩
     have HX:Hid (headB c t true=x):=by show _=_;unfold headB;rw [← hx];simp
     have a4:IntKind.u8.wrap (64 * c + t + 32)=x:=by rw [IntKind.wrap_u8];omega
     clear hx
     go_upto_region 10 with fail
     have own6:=own_lits wr [x] 1 wr.heap.size rfl (Nat.le_refl _) (by decide)
     have bel6:Below wr.heap.size wr (wr.alloc (.cells #[.int .u8 x] 5)):=(Below.refl _ _).alloc (Nat.le_refl _) _
     replace own6:(wr.alloc (.cells #[.int .u8 x] 5)).ownsRow wr.heap.size 5 1 (.slice (some ⟨wr.heap.size,0,none⟩) 1 1) 1 (u8s [x]):=own6
     obtain ⟨s0,hs0⟩:∃ s,s=wr.heap.size:=⟨_,rfl⟩
     have hsa:s0 < (wr.alloc (.cells #[.int .u8 x] 5)).heap.size:=by rw [hs0];simp
     rw [← hs0] at own6 bel6 bsz ⊢
     have HS0:Hid (s0=wr.heap.size):=hs0
     clear hs0
     generalize wr.alloc (Obj.cells #[.int .u8 x] 5)=wa at *
     by_cases c1:N < 128
     ·have HL:Hid (lenB N=[(N:Int)]):=by show _=_;unfold lenB;rw [if_pos c1]
      have g5:(N:Int) < 128:=by omega
      have g6:IntKind.u8.wrap (N:Int)=(N:Int):=by rw [IntKind.wrap_u8];omega
      have own7:=own_later6 own6 (o:=.cells #[.int .u8 ((N:Int))] 5)
      have bl:=bs_lits wa [(N:Int)] (by unfold maxLen;simp)
      have bel7:=bel6.alloc (by omega) (.cells #[.int .u8 ((N:Int))] 5)
      go_upto_region 18 with (first|(at_builtin;refine wpList_append_bs (by rfl) _ _ (by rfl) s0 _ 1 [x] (by rfl) own7 _ [(N:Int)] (by rfl) bl (by simp) (by simp;omega) ?_;intro v8 w8 own8 hgrow hat)|fail)
      have bel8:=below_own (base:=s0) bel7 hgrow (by simp;omega) (fun g hg=>own_geD own7 hg) (Nat.le_refl _)
      have hs8:s0≤w8.heap.size:=by have:=bel8.size;have:=HS0.out;omega
      have hB8:Bs w8 (.slice hao N hcap) H:=hB.later (by rw [← HS0.out];exact bel8)
      clear hgrow hat own7 bl bel7
      go_wp2_with (first|(at_builtin;refine wpList_append_bs (by rfl) _ _ (by rfl) s0 _ _ ([x]++[(N:Int)]) (by rfl) own8 _ H (by rfl) hB8 (by rw [HNl.out];simp;omega) hs8 ?_;intro v9 w9 own9 hgrow hat)|fail)
      have bel9:=below_own (base:=s0) bel8 hgrow hs8 (fun g hg=>own_geD own8 hg) (Nat.le_refl _)
      go_ret
      refine ⟨v9,rfl,?_,bel.trans ((show Below s0 wr w9 from bel9).mono bsz)⟩
      have e9:bytesT (.mk c t true b ks)=([x]++[(N:Int)])++H:=by rw [HH.out,HX.out,HL.out];rfl
      rw [e9]
      have o9:=own_lowerD own9 bsz
      rw [HNl.out] at o9
      rw [List.length_append,HNl.out]
      exact o9
     by_cases c2:N < 256
     ·have HL:Hid (lenB N=[129,(N:Int)]):=by show _=_;unfold lenB;rw [if_neg c1,if_pos c2]
      have g4:¬ (N:Int) < 128:=by omega
      have g5:(N:Int) < 256:=by omega
      have g6:IntKind.u8.wrap (N:Int)=(N:Int):=by rw [IntKind.wrap_u8];omega
      have own7:=own_later6 own6 (o:=.cells #[.int .u8 129,.int .u8 ((N:Int))] 5)
      have bl:=bs_lits wa [129,(N:Int)] (by unfold maxLen;simp)
      have bel7:=bel6.alloc (by omega) (.cells #[.int .u8 129,.int .u8 ((N:Int))] 5)
      go_upto_region 18 with (first|(at_builtin;refine wpList_append_bs (by rfl) _ _ (by rfl) s0 _ 1 [x] (by rfl) own7 _ [129,(N:Int)] (by rfl) bl (by simp) (by simp;omega) ?_;intro v8 w8 own8 hgrow hat)|fail)
      have bel8:=below_own (base:=s0) bel7 hgrow (by simp;omega) (fun g hg=>own_geD own7 hg) (Nat.le_refl _)
      have hs8:s0≤w8.heap.size:=by have:=bel8.size;have:=HS0.out;omega
      have hB8:Bs w8 (.slice hao N hcap) H:=hB.later (by rw [← HS0.out];exact bel8)
      clear hgrow hat own7 bl bel7
      go_wp2_with (first|(at_builtin;refine wpList_append_bs (by rfl) _ _ (by rfl) s0 _ _ ([x]++[129,(N:Int)]) (by rfl) own8 _ H (by rfl) hB8 (by rw [HNl.out];simp;omega) hs8 ?_;intro v9 w9 own9 hgrow hat)|fail)
      have bel9:=below_own (base:=s0) bel8 hgrow hs8 (fun g hg=>own_geD own8 hg) (Nat.le_refl _)
      go_ret
      refine ⟨v9,rfl,?_,bel.trans ((show Below s0 wr w9 from bel9).mono bsz)⟩
      have e9:bytesT (.mk c t true b ks)=([x]++[129,(N:Int)])++H:=by rw [HH.out,HX.out,HL.out];rfl
      rw [e9]
      have o9:=own_lowerD own9 bsz
      rw [HNl.out] at o9
      rw [List.length_append,HNl.out]
      exact o9
     by_cases c3:N < 65536
     ·obtain ⟨y,hy⟩:∃ y,N / 256=y:=⟨_,rfl⟩
      obtain ⟨z,hz9⟩:∃ z,N % 256=z:=⟨_,rfl⟩
      have HL:Hid (lenB N=[130,(y:Int),(z:Int)]):=by show _=_;unfold lenB;rw [if_neg c1,if_neg c2,if_pos c3,hy,hz9]
      have g3:¬ (N:Int) < 128:=by omega
      have g4:¬ (N:Int) < 256:=by omega
      have g5:(N:Int) < 65536:=by omega
      have g6:(N:Int).tdiv 256=(y:Int):=by rw [Int.tdiv_eq_ediv_of_nonneg (by omega)];omega
      have g7:(N:Int).tmod 256=(z:Int):=by rw [Int.tmod_eq_emod_of_nonneg (by omega)];omega
      have g8:IntKind.i64.wrap (y:Int)=(y:Int):=by rw [IntKind.wrap_i64];omega
      have g9:IntKind.u8.wrap (y:Int)=(y:Int):=by rw [IntKind.wrap_u8];omega
      have g10:IntKind.u8.wrap (z:Int)=(z:Int):=by rw [IntKind.wrap_u8];omega
      clear hy hz9
      have own7:=own_later6 own6 (o:=.cells #[.int .u8 130,.int .u8 ((y:Int)),.int .u8 ((z:Int))] 5)
      have bl:=bs_lits wa [130,(y:Int),(z:Int)] (by unfold maxLen;simp)
      have bel7:=bel6.alloc (by omega) (.cells #[.int .u8 130,.int .u8 ((y:Int)),.int .u8 ((z:Int))] 5)
      go_upto_region 18 with (first|(at_builtin;refine wpList_append_bs (by rfl) _ _ (by rfl) s0 _ 1 [x] (by rfl) own7 _ [130,(y:Int),(z:Int)] (by rfl) bl (by simp) (by simp;omega) ?_;intro v8 w8 own8 hgrow hat)|fail)
      have bel8:=below_own (base:=s0) bel7 hgrow (by simp;omega) (fun g hg=>own_geD own7 hg) (Nat.le_refl _)
      have hs8:s0≤w8.heap.size:=by have:=bel8.size;have:=HS0.out;omega
      have hB8:Bs w8 (.slice hao N hcap) H:=hB.later (by rw [← HS0.out];exact bel8)
      clear hgrow hat own7 bl bel7
      go_wp2_with (first|(at_builtin;refine wpList_append_bs (by rfl) _ _ (by rfl) s0 _ _ ([x]++[130,(y:Int),(z:Int)]) (by rfl) own8 _ H (by rfl) hB8 (by rw [HNl.out];simp;omega) hs8 ?_;intro v9 w9 own9 hgrow hat)|fail)
      have bel9:=below_own (base:=s0) bel8 hgrow hs8 (fun g hg=>own_geD own8 hg) (Nat.le_refl _)
      go_ret
      refine ⟨v9,rfl,?_,bel.trans ((show Below s0 wr w9 from bel9).mono bsz)⟩
      have e9:bytesT (.mk c t true b ks)=([x]++[130,(y:Int),(z:Int)])++H:=by rw [HH.out,HX.out,HL.out];rfl
      rw [e9]
      have o9:=own_lowerD own9 bsz
      rw [HNl.out] at o9
      rw [List.length_append,HNl.out]
      exact o9
     ·obtain ⟨y,hy⟩:∃ y,N / 65536=y:=⟨_,rfl⟩
      obtain ⟨y2,hy2⟩:∃ z,N / 65536 % 256=z:=⟨_,rfl⟩
      obtain ⟨q,hq⟩:∃ y,N / 256=y:=⟨_,rfl⟩
      obtain ⟨q2,hq2⟩:∃ y,N / 256 % 256=y:=⟨_,rfl⟩
      obtain ⟨z,hz9⟩:∃ z,N % 256=z:=⟨_,rfl⟩
      have HL:Hid (lenB N=[131,(y2:Int),(q2:Int),(z:Int)]):=by show _=_;unfold lenB;rw [if_neg c1,if_neg c2,if_neg c3,hy2,hq2,hz9]
      have g3:¬ (N:Int) < 128:=by omega
      have g4:¬ (N:Int) < 256:=by omega
      have g5:¬ (N:Int) < 65536:=by omega
      have g6:(N:Int).tdiv 65536=(y:Int):=by rw [Int.tdiv_eq_ediv_of_nonneg (by omega)];omega
      have g7:(N:Int).tmod 256=(z:Int):=by rw [Int.tmod_eq_emod_of_nonneg (by omega)];omega
      have g8:IntKind.i64.wrap (y:Int)=(y:Int):=by rw [IntKind.wrap_i64];omega
      have g9:IntKind.u8.wrap (y:Int)=(y2:Int):=by rw [IntKind.wrap_u8];omega
      have g10:IntKind.u8.wrap (z:Int)=(z:Int):=by rw [IntKind.wrap_u8];omega
      have g11:(N:Int).tdiv 256=(q:Int):=by rw [Int.tdiv_eq_ediv_of_nonneg (by omega)];omega
      have g12:IntKind.i64.wrap (q:Int)=(q:Int):=by rw [IntKind.wrap_i64];omega
      have g13:(q:Int).tmod 256=(q2:Int):=by rw [Int.tmod_eq_emod_of_nonneg (by omega)];omega
      have g14:IntKind.u8.wrap (q2:Int)=(q2:Int):=by rw [IntKind.wrap_u8];omega
      clear hy hy2 hq hq2 hz9
      have own7:=own_later6 own6 (o:=.cells #[.int .u8 131,.int .u8 ((y2:Int)),.int .u8 ((q2:Int)),.int .u8 ((z:Int))] 5)
      have bl:=bs_lits wa [131,(y2:Int),(q2:Int),(z:Int)] (by unfold maxLen;simp)
      have bel7:=bel6.alloc (by omega) (.cells #[.int .u8 131,.int .u8 ((y2:Int)),.int .u8 ((q2:Int)),.int .u8 ((z:Int))] 5)
      go_upto_region 18 with (first|(at_builtin;refine wpList_append_bs (by rfl) _ _ (by rfl) s0 _ 1 [x] (by rfl) own7 _ [131,(y2:Int),(q2:Int),(z:Int)] (by rfl) bl (by simp) (by simp;omega) ?_;intro v8 w8 own8 hgrow hat)|fail)
      have bel8:=below_own (base:=s0) bel7 hgrow (by simp;omega) (fun g hg=>own_geD own7 hg) (Nat.le_refl _)
      have hs8:s0≤w8.heap.size:=by have:=bel8.size;have:=HS0.out;omega
      have hB8:Bs w8 (.slice hao N hcap) H:=hB.later (by rw [← HS0.out];exact bel8)
      clear hgrow hat own7 bl bel7
      go_wp2_with (first|(at_builtin;refine wpList_append_bs (by rfl) _ _ (by rfl) s0 _ _ ([x]++[131,(y2:Int),(q2:Int),(z:Int)]) (by rfl) own8 _ H (by rfl) hB8 (by rw [HNl.out];simp;omega) hs8 ?_;intro v9 w9 own9 hgrow hat)|fail)
      have bel9:=below_own (base:=s0) bel8 hgrow hs8 (fun g hg=>own_geD own8 hg) (Nat.le_refl _)
      go_ret
      refine ⟨v9,rfl,?_,bel.trans ((show Below s0 wr w9 from bel9).mono bsz)⟩
      have e9:bytesT (.mk c t true b ks)=([x]++[131,(y2:Int),(q2:Int),(z:Int)])++H:=by rw [HH.out,HX.out,HL.out];rfl
      rw [e9]
      have o9:=own_lowerD own9 bsz
      rw [HNl.out] at o9
      rw [List.length_append,HNl.out]
      exact o9
    | false =>
     obtain ⟨x,hx⟩:∃ x,64 * c + t=x:=⟨_,rfl⟩
     have HX:Hid (headB c t false=x):=by show _=_;unfold headB;rw [← hx];simp
     have a4:IntKind.u8.wrap (64 * c + t)=x:=by rw [IntKind.wrap_u8];omega
     clear hx
     go_upto_region 10 with fail
     have own6:=own_lits wr [x] 1 wr.heap.size rfl (Nat.le_refl _) (by decide)
     have bel6:Below wr.heap.size wr (wr.alloc (.cells #[.int .u8 x] 5)):=(Below.refl _ _).alloc (Nat.le_refl _) _
     replace own6:(wr.alloc (.cells #[.int .u8 x] 5)).ownsRow wr.heap.size 5 1 (.slice (some ⟨wr.heap.size,0,none⟩) 1 1) 1 (u8s [x]):=own6
     obtain ⟨s0,hs0⟩:∃ s,s=wr.heap.size:=⟨_,rfl⟩
     have hsa:s0 < (wr.alloc (.cells #[.int .u8 x] 5)).heap.size:=by rw [hs0];simp
     rw [← hs0] at own6 bel6 bsz ⊢
     have HS0:Hid (s0=wr.heap.size):=hs0
     clear hs0
     generalize wr.alloc (Obj.cells #[.int .u8 x] 5)=wa at *
     by_cases c1:N < 128
     ·have HL:Hid (lenB N=[(N:Int)]):=by show _=_;unfold lenB;rw [if_pos c1]
      have g5:(N:Int) < 128:=by omega
      have g6:IntKind.u8.wrap (N:Int)=(N:Int):=by rw [IntKind.wrap_u8];omega
      have own7:=own_later6 own6 (o:=.cells #[.int .u8 ((N:Int))] 5)
      have bl:=bs_lits wa [(N:Int)] (by unfold maxLen;simp)
      have bel7:=bel6.alloc (by omega) (.cells #[.int .u8 ((N:Int))] 5)
      go_upto_region 18 with (first|(at_builtin;refine wpList_append_bs (by rfl) _ _ (by rfl) s0 _ 1 [x] (by rfl) own7 _ [(N:Int)] (by rfl) bl (by simp) (by simp;omega) ?_;intro v8 w8 own8 hgrow hat)|fail)
      have bel8:=below_own (base:=s0) bel7 hgrow (by simp;omega) (fun g hg=>own_geD own7 hg) (Nat.le_refl _)
      have hs8:s0≤w8.heap.size:=by have:=bel8.size;have:=HS0.out;omega
      have hB8:Bs w8 (.slice hao N hcap) H:=hB.later (by rw [← HS0.out];exact bel8)
      clear hgrow hat own7 bl bel7
      go_wp2_with (first|(at_builtin;refine wpList_append_bs (by rfl) _ _ (by rfl) s0 _ _ ([x]++[(N:Int)]) (by rfl) own8 _ H (by rfl) hB8 (by rw [HNl.out];simp;omega) hs8 ?_;intro v9 w9 own9 hgrow hat)|fail)
      have bel9:=below_own (base:=s0) bel8 hgrow hs8 (fun g hg=>own_geD own8 hg) (Nat.le_refl _)
      go_ret
      refine ⟨v9,rfl,?_,bel.trans ((show Below s0 wr w9 from bel9).mono bsz)⟩
      have e9:bytesT (.mk c t false b ks)=([x]++[(N:Int)])++H:=by rw [HH.out,HX.out,HL.out];rfl
      rw [e9]
      have o9:=own_lowerD own9 bsz
      rw [HNl.out] at o9
      rw [List.length_append,HNl.out]
      exact o9
     by_cases c2:N < 256
     ·have HL:Hid (lenB N=[129,(N:Int)]):=by show _=_;unfold lenB;rw [if_neg c1,if_pos c2]
      have g4:¬ (N:Int) < 128:=by omega
      have g5:(N:Int) < 256:=by omega
      have g6:IntKind.u8.wrap (N:Int)=(N:Int):=by rw [IntKind.wrap_u8];omega
      have own7:=own_later6 own6 (o:=.cells #[.int .u8 129,.int .u8 ((N:Int))] 5)
      have bl:=bs_lits wa [129,(N:Int)] (by unfold maxLen;simp)
      have bel7:=bel6.alloc (by omega) (.cells #[.int .u8 129,.int .u8 ((N:Int))] 5)
      go_upto_region 18 with (first|(at_builtin;refine wpList_append_bs (by rfl) _ _ (by rfl) s0 _ 1 [x] (by rfl) own7 _ [129,(N:Int)] (by rfl) bl (by simp) (by simp;omega) ?_;intro v8 w8 own8 hgrow hat)|fail)
      have bel8:=below_own (base:=s0) bel7 hgrow (by simp;omega) (fun g hg=>own_geD own7 hg) (Nat.le_refl _)
      have hs8:s0≤w8.heap.size:=by have:=bel8.size;have:=HS0.out;omega
      have hB8:Bs w8 (.slice hao N hcap) H:=hB.later (by rw [← HS0.out];exact bel8)
      clear hgrow hat own7 bl bel7
      go_wp2_with (first|(at_builtin;refine wpList_append_bs (by rfl) _ _ (by rfl) s0 _ _ ([x]++[129,(N:Int)]) (by rfl) own8 _ H (by rfl) hB8 (by rw [HNl.out];simp;omega) hs8 ?_;intro v9 w9 own9 hgrow hat)|fail)
      have bel9:=below_own (base:=s0) bel8 hgrow hs8 (fun g hg=>own_geD own8 hg) (Nat.le_refl _)
      go_ret
      refine ⟨v9,rfl,?_,bel.trans ((show Below s0 wr w9 from bel9).mono bsz)⟩
      have e9:bytesT (.mk c t false b ks)=([x]++[129,(N:Int)])++H:=by rw [HH.out,HX.out,HL.out];rfl
      rw [e9]
      have o9:=own_lowerD own9 bsz
      rw [HNl.out] at o9
      rw [List.length_append,HNl.out]
      exact o9
     by_cases c3:N < 65536
     ·obtain ⟨y,hy⟩:∃ y,N / 256=y:=⟨_,rfl⟩
      obtain ⟨z,hz9⟩:∃ z,N % 256=z:=⟨_,rfl⟩
      have HL:Hid (lenB N=[130,(y:Int),(z:Int)]):=by show _=_;unfold lenB;rw [if_neg c1,if_neg c2,if_pos c3,hy,hz9]
      have g3:¬ (N:Int) < 128:=by omega
      have g4:¬ (N:Int) < 256:=by omega
      have g5:(N:Int) < 65536:=by omega
      have g6:(N:Int).tdiv 256=(y:Int):=by rw [Int.tdiv_eq_ediv_of_nonneg (by omega)];omega
      have g7:(N:Int).tmod 256=(z:Int):=by rw [Int.tmod_eq_emod_of_nonneg (by omega)];omega
      have g8:IntKind.i64.wrap (y:Int)=(y:Int):=by rw [IntKind.wrap_i64];omega
      have g9:IntKind.u8.wrap (y:Int)=(y:Int):=by rw [IntKind.wrap_u8];omega
      have g10:IntKind.u8.wrap (z:Int)=(z:Int):=by rw [IntKind.wrap_u8];omega
      clear hy hz9
      have own7:=own_later6 own6 (o:=.cells #[.int .u8 130,.int .u8 ((y:Int)),.int .u8 ((z:Int))] 5)
      have bl:=bs_lits wa [130,(y:Int),(z:Int)] (by unfold maxLen;simp)
      have bel7:=bel6.alloc (by omega) (.cells #[.int .u8 130,.int .u8 ((y:Int)),.int .u8 ((z:Int))] 5)
      go_upto_region 18 with (first|(at_builtin;refine wpList_append_bs (by rfl) _ _ (by rfl) s0 _ 1 [x] (by rfl) own7 _ [130,(y:Int),(z:Int)] (by rfl) bl (by simp) (by simp;omega) ?_;intro v8 w8 own8 hgrow hat)|fail)
      have bel8:=below_own (base:=s0) bel7 hgrow (by simp;omega) (fun g hg=>own_geD own7 hg) (Nat.le_refl _)
      have hs8:s0≤w8.heap.size:=by have:=bel8.size;have:=HS0.out;omega
      have hB8:Bs w8 (.slice hao N hcap) H:=hB.later (by rw [← HS0.out];exact bel8)
      clear hgrow hat own7 bl bel7
      go_wp2_with (first|(at_builtin;refine wpList_append_bs (by rfl) _ _ (by rfl) s0 _ _ ([x]++[130,(y:Int),(z:Int)]) (by rfl) own8 _ H (by rfl) hB8 (by rw [HNl.out];simp;omega) hs8 ?_;intro v9 w9 own9 hgrow hat)|fail)
      have bel9:=below_own (base:=s0) bel8 hgrow hs8 (fun g hg=>own_geD own8 hg) (Nat.le_refl _)
      go_ret
      refine ⟨v9,rfl,?_,bel.trans ((show Below s0 wr w9 from bel9).mono bsz)⟩
      have e9:bytesT (.mk c t false b ks)=([x]++[130,(y:Int),(z:Int)])++H:=by rw [HH.out,HX.out,HL.out];rfl
      rw [e9]
      have o9:=own_lowerD own9 bsz
      rw [HNl.out] at o9
      rw [List.length_append,HNl.out]
      exact o9
     ·obtain ⟨y,hy⟩:∃ y,N / 65536=y:=⟨_,rfl⟩
      obtain ⟨y2,hy2⟩:∃ z,N / 65536 % 256=z:=⟨_,rfl⟩
      obtain ⟨q,hq⟩:∃ y,N / 256=y:=⟨_,rfl⟩
      obtain ⟨q2,hq2⟩:∃ y,N / 256 % 256=y:=⟨_,rfl⟩
      obtain ⟨z,hz9⟩:∃ z,N % 256=z:=⟨_,rfl⟩
      have HL:Hid (lenB N=[131,(y2:Int),(q2:Int),(z:Int)]):=by show _=_;unfold lenB;rw [if_neg c1,if_neg c2,if_neg c3,hy2,hq2,hz9]
      have g3:¬ (N:Int) < 128:=by omega
      have g4:¬ (N:Int) < 256:=by omega
      have g5:¬ (N:Int) < 65536:=by omega
      have g6:(N:Int).tdiv 65536=(y:Int):=by rw [Int.tdiv_eq_ediv_of_nonneg (by omega)];omega
      have g7:(N:Int).tmod 256=(z:Int):=by rw [Int.tmod_eq_emod_of_nonneg (by omega)];omega
      have g8:IntKind.i64.wrap (y:Int)=(y:Int):=by rw [IntKind.wrap_i64];omega
      have g9:IntKind.u8.wrap (y:Int)=(y2:Int):=by rw [IntKind.wrap_u8];omega
      have g10:IntKind.u8.wrap (z:Int)=(z:Int):=by rw [IntKind.wrap_u8];omega
      have g11:(N:Int).tdiv 256=(q:Int):=by rw [Int.tdiv_eq_ediv_of_nonneg (by omega)];omega
      have g12:IntKind.i64.wrap (q:Int)=(q:Int):=by rw [IntKind.wrap_i64];omega
      have g13:(q:Int).tmod 256=(q2:Int):=by rw [Int.tmod_eq_emod_of_nonneg (by omega)];omega
      have g14:IntKind.u8.wrap (q2:Int)=(q2:Int):=by rw [IntKind.wrap_u8];omega
      clear hy hy2 hq hq2 hz9
      have own7:=own_later6 own6 (o:=.cells #[.int .u8 131,.int .u8 ((y2:Int)),.int .u8 ((q2:Int)),.int .u8 ((z:Int))] 5)
      have bl:=bs_lits wa [131,(y2:Int),(q2:Int),(z:Int)] (by unfold maxLen;simp)
      have bel7:=bel6.alloc (by omega) (.cells #[.int .u8 131,.int .u8 ((y2:Int)),.int .u8 ((q2:Int)),.int .u8 ((z:Int))] 5)
      go_upto_region 18 with (first|(at_builtin;refine wpList_append_bs (by rfl) _ _ (by rfl) s0 _ 1 [x] (by rfl) own7 _ [131,(y2:Int),(q2:Int),(z:Int)] (by rfl) bl (by simp) (by simp;omega) ?_;intro v8 w8 own8 hgrow hat)|fail)
      have bel8:=below_own (base:=s0) bel7 hgrow (by simp;omega) (fun g hg=>own_geD own7 hg) (Nat.le_refl _)
      have hs8:s0≤w8.heap.size:=by have:=bel8.size;have:=HS0.out;omega
      have hB8:Bs w8 (.slice hao N hcap) H:=hB.later (by rw [← HS0.out];exact bel8)
      clear hgrow hat own7 bl bel7
      go_wp2_with (first|(at_builtin;refine wpList_append_bs (by rfl) _ _ (by rfl) s0 _ _ ([x]++[131,(y2:Int),(q2:Int),(z:Int)]) (by rfl) own8 _ H (by rfl) hB8 (by rw [HNl.out];simp;omega) hs8 ?_;intro v9 w9 own9 hgrow hat)|fail)
      have bel9:=below_own (base:=s0) bel8 hgrow hs8 (fun g hg=>own_geD own8 hg) (Nat.le_refl _)
      go_ret
      refine ⟨v9,rfl,?_,bel.trans ((show Below s0 wr w9 from bel9).mono bsz)⟩
      have e9:bytesT (.mk c t false b ks)=([x]++[131,(y2:Int),(q2:Int),(z:Int)])++H:=by rw [HH.out,HX.out,HL.out];rfl
      rw [e9]
      have o9:=own_lowerD own9 bsz
      rw [HNl.out] at o9
      rw [List.length_append,HNl.out]
      exact o9
end Go.Proofs.YtnkipgbnnhahbaaGreatDoor
