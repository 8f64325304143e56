/- The program's Bits of layer 13. A signature: what manifest reads. -/
import Derived.Test.YtnkipgbnnhahbaaGreatDoorPrNumber
import Derived.Test.YtnkipgbnnhahbaaGreatDoorMfPln
import Derived.Test.YtnkipgbnnhahbaaGreatDoorEcTlv
import Derived.Test.YtnkipgbnnhahbaaGreatDoorCtPl
import Derived.Test.YtnkipgbnnhahbaaGreatDoorRows
import Derived.Deep.OwnRows
import Derived.Deep.AppendLies
import Derived.Great.BuildSlice
import Derived.BigQuiet
import Derived.Deep.WholeRow
import Derived.Deep.RegionHeld3
import Derived.Deep.DeepCutAuto
import Derived.Deep.DeepFit
import Derived.Laws.Rows
namespace Go.Proofs.YtnkipgbnnhahbaaGreatDoor
open Go.RowKit
/-- bits that are answered, and how many don't count, or an error's code -/
def RetK (w:World) (r:Except Nat (List Int × Int)) (e:Ending) (w':World):Prop:=(∀ n k,r=.ok (n,k)→∃ v':Value,e=.returned (.tuple #[v',.int .i64 k,.nilIface])∧Bs w' v' n∧NewV w v'∧Below w.heap.size w w')∧(∀ c,r=.error c→∃ (ao:Option Addr) (cap:Nat),e=.returned (.tuple #[.slice ao 0 cap,.int .i64 0,.iface 46 (.int .i64 (c:Int))])∧Below w.heap.size w w')
theorem RetK.ok {w w':World} {r:Except Nat (List Int × Int)} {n:List Int} {k:Int} {v:Value} (h:r=.ok (n,k)) (hb:Bs w' v n) (hn:NewV w v) (bel:Below w.heap.size w w'):RetK w r (.returned (.tuple #[v,.int .i64 k,.nilIface])) w' :=
 ⟨fun m j hm=>(by rw [h] at hm;cases hm;exact ⟨v,rfl,hb,hn,bel⟩),fun c hc=>(by rw [h] at hc;cases hc)⟩
theorem RetK.bad {w w':World} {r:Except Nat (List Int × Int)} {c:Nat} {ao:Option Addr} {cap:Nat} (h:r=.error c) (bel:Below w.heap.size w w'):RetK w r (.returned (.tuple #[.slice ao 0 cap,.int .i64 0,.iface 46 (.int .i64 (c:Int))])) w' :=
 ⟨fun m j hm=>(by rw [h] at hm;cases hm),fun c2 hc=>(by rw [h] at hc;cases hc;exact ⟨ao,cap,rfl,bel⟩)⟩
theorem u8_and_natP (a b:Nat) (ha:a < 256) (hb:b < 256):bits .and .u8 (a:Int) (b:Int)=((a &&& b:Nat):Int):=by
 have hx:a &&& b < 2 ^ 8:=Nat.and_lt_two_pow _ (by omega)
 show IntKind.u8.wrap ((BitVec.ofInt 8 (a:Int) &&& BitVec.ofInt 8 (b:Int)).toNat:Int)=_
 rw [BitVec.toNat_and,ofInt_u8 a (by omega),ofInt_u8 b (by omega),IntKind.wrap_u8]
 omega
theorem low_bits {a p:Nat} (ha:a < 256) (hp:p≤7):bits .and .u8 (a:Int) ((2 ^ p - 1:Nat):Int)=((a % 2 ^ p:Nat):Int):=by
 have h7:2 ^ p≤2 ^ 7:=Nat.pow_le_pow_right (by omega) hp
 rw [u8_and_natP a _ ha (by omega),Nat.and_two_pow_sub_one_eq_mod]
set_option linter.unusedSimpArgs false in
set_option maxRecDepth 100000 in
set_option maxHeartbeats 4000000 in
theorem c13_Bits {v:Value} {B:List Int} {w:World} (hv:Bs w v B) (b:byt B) (hl:B.length≤140737488351232) :
  Calls Tryz.prog 82 #[v] w (RetK w (bitsP B)):=by
 have HV:Hid (Bs w v B):=hv
 have HB:Hid (byt B):=b
 obtain ⟨ao,cap,rfl,h1,h2,h3⟩:=hv
 obtain ⟨N,hN⟩:∃ N,B.length=N:=⟨_,rfl⟩
 have HN:Hid (B.length=N):=hN
 rw [hN] at h2 h3 hl HV ⊢
 unfold maxLen at h1
 clear b hN
 by_cases c0:N=0
 ·have H:Hid (bitsP B=.error 7):=by show _=_;unfold bitsP;rw [if_pos (.inl (by rw [HN.out];exact c0))]
  have g0:(N:Int)=0:=by omega
  clear h3
  go_enter Tryz.func82,Tryz.ntmps82
  go_wp2_with fail
  refine bodyPost_ret (results_tmp3 rfl _ _ _) rfl ?_
  exact RetK.bad H.out (Below.refl _ _)
 have g0:¬ (N:Int)=0:=by omega
 obtain ⟨g,o,rfl,lg,HC'⟩:=h3 (by omega)
 have HC:Hid _:=HC'
 clear HC' h3
 have x0:=HC.out 0 (by omega)
 have y0:=HB.out 0
 rw [Nat.add_zero] at x0
 have gp:(0:Int) < (N:Int):=by omega
 have gn:0 < N:=by omega
 obtain ⟨p',hp'⟩:∃ p,B.getD 0 0=p:=⟨_,rfl⟩
 have HP:Hid (B.getD 0 0=p'):=hp'
 rw [hp'] at x0 y0
 clear hp'
 by_cases c1:7 < p'
 ·have H:Hid (bitsP B=.error 7):=by show _=_;unfold bitsP;rw [if_pos (.inr (.inl (by rw [HP.out];exact c1)))]
  go_enter Tryz.func82,Tryz.ntmps82
  go_wp2_with fail
  refine bodyPost_ret (results_tmp3 rfl _ _ _) rfl ?_
  exact RetK.bad H.out (Below.refl _ _)
 obtain ⟨p,rfl⟩:=Int.eq_ofNat_of_zero_le (by omega:0≤p')
 have e1:IntKind.i64.wrap (p:Int)=(p:Int):=by rw [IntKind.wrap_i64];omega
 have q1:(1:Int)≤(N:Int):=by omega
 have q2:1≤N:=by omega
 have q3:1≤cap:=by omega
 have HCut:Hid (∀ (wx:World) c ad m k,Bs wx (.slice (some ⟨g,o,none⟩) N c) B→m=N - 1→k=c - 1→(0 < m→ad=some ⟨g,o + 1,none⟩)→Bs wx (.slice ad m k) (B.drop 1)):=fun wx c ad m k hb hm hk ha=>bs_cutM hb HN.out (by omega) hm ha hk
 obtain ⟨M,uM⟩:∃ M,N - 1=M:=⟨_,rfl⟩
 rw [uM] at HCut
 have HMe:Hid (N - 1=M):=uM
 by_cases c2:M=0
 ·have gM:(M:Int)=0:=by omega
  have gM2:¬ (0:Int) < (M:Int):=by omega
  have gM3:¬ 0 < M:=by omega
  have HN1:Hid (N=1):=by show _=_;omega
  clear c2
  by_cases c3:p=0
  ·have H:Hid (bitsP B=.ok (B.drop 1,(p:Int))):=by
    show _=_
    unfold bitsP
    rw [HP.out,HN.out,if_neg (by have:=HN1.out;rintro (h|h|⟨_,h⟩)<;>omega),HN1.out,show 1 - 1=0 from rfl,HP.out,c3,if_pos (by decide)]
   have g3:¬ (0:Int) < (p:Int):=by omega
   clear c3
   go_enter Tryz.func82,Tryz.ntmps82
   go_upto_region 3 with fail
   go_region
   all_goals go_upto_region 6 with fail
   all_goals go_quiet (fail)
   all_goals go_wp2_with fail
   all_goals refine (c13_Clone (HCut.out _ _ _ _ _ (by first|exact HV.out|exact HV.out.later (Below.refl _ _).drew|exact HV.out.later (below_dN (Below.refl _ _) _)) (by first|rfl|omega) (by first|rfl|omega) (by intro h0;first|rfl|(rw [if_neg (by omega)])|omega)) (by rw [List.length_drop,HN.out];omega)).mono ?_
   all_goals rintro e w2 ⟨v2,rfl,b2,n2,bel⟩
   all_goals go_wp2_with fail
   all_goals refine bodyPost_ret (results_tmp3 rfl _ _ _) rfl ?_
   all_goals exact RetK.ok H.out b2 n2 ((below_dN (Below.refl _ _) _).trans bel)
  ·have H:Hid (bitsP B=.error 7):=by
    show _=_
    unfold bitsP
    rw [HP.out,HN.out,if_pos (.inr (.inr ⟨HN1.out,by omega⟩))]
   have g3:(0:Int) < (p:Int):=by omega
   clear c3
   go_enter Tryz.func82,Tryz.ntmps82
   go_upto_region 3 with fail
   go_region
   all_goals go_wp2_with fail
   all_goals refine bodyPost_ret (results_tmp3 rfl _ _ _) rfl ?_
   all_goals exact RetK.bad H.out (Below.refl _ _).drew
 have gM:¬ (M:Int)=0:=by omega
 have gM2:(0:Int) < (M:Int):=by omega
 have gM3:0 < M:=by omega
 have gx:¬ cap=1:=by omega
 have x1:=HC.out M (by omega)
 have y1:=HB.out M
 obtain ⟨L',hL⟩:∃ L,B.getD M 0=L:=⟨_,rfl⟩
 have H0:Hid (bitsP B=if L' % 2 ^ p=0 then .ok (B.drop 1,(p:Int)) else .error 7):=by
  show _=_
  unfold bitsP
  rw [HP.out,HN.out,uM,hL,if_neg (by rintro (h|h|⟨h,_⟩)<;>omega),Int.toNat_natCast]
 rw [hL] at x1 y1
 clear hL
 obtain ⟨L,rfl⟩:=Int.eq_ofNat_of_zero_le y1.1
 obtain ⟨M1,uM1⟩:∃ z,M - 1=z:=⟨_,rfl⟩
 have l1:IntKind.i64.wrap ((M:Int) - 1)=(M1:Int):=by rw [IntKind.wrap_i64];omega
 have l2:(0:Int)≤(M1:Int):=by omega
 have l3:(M1:Int) < (M:Int):=by omega
 have l4:o + 1 + M1=o + M:=by omega
 rw [← l4] at x1
 have s1:=low_bits (a:=L) (p:=p) (by omega) (by omega)
 have s2:(2:Nat) ^ p≤128:=by
  have:=Nat.pow_le_pow_right (n:=2) (by omega) (show p≤7 by omega)
  exact this
 have s3:0 < (2:Nat) ^ p:=Nat.two_pow_pos p
 have HM:Hid ((L:Int) % 2 ^ p=((L % 2 ^ p:Nat):Int)):=by show _=_;rw [Int.natCast_emod,Int.natCast_pow];rfl
 rw [HM.out] at H0
 have s6:((2:Int) ^ p)=((2 ^ p:Nat):Int):=by rw [Int.natCast_pow];rfl
 obtain ⟨t,ht⟩:∃ t,2 ^ p=t:=⟨_,rfl⟩
 obtain ⟨r,hr⟩:∃ r,L % 2 ^ p=r:=⟨_,rfl⟩
 rw [hr] at s1 H0
 rw [ht] at s1 s2 s3 s6
 obtain ⟨t1,ht1⟩:∃ z,t - 1=z:=⟨_,rfl⟩
 rw [ht1] at s1
 have s4:min p 64=p:=by omega
 have s5:IntKind.u8.wrap ((t:Int))=(t:Int):=by rw [IntKind.wrap_u8];omega
 have s7:IntKind.u8.wrap ((t:Int) - 1)=(t1:Int):=by rw [IntKind.wrap_u8];omega
 have s8:((2:Nat) ^ p)=t:=ht
 have g3:(0:Int)≤(p:Int):=by omega
 have g4:¬ (p:Int) < 0:=by omega
 clear hr HM uM1 ht1 l4
 by_cases c4:r=0
 ·have H:Hid (bitsP B=.ok (B.drop 1,(p:Int))):=by show _=_;rw [H0.out,if_pos (by omega)]
  have r1:((r:Int) != 0)=false:=by rw [c4];rfl
  have r2:((r:Int) == 0)=true:=by rw [c4];rfl
  clear c4 H0
  go_enter Tryz.func82,Tryz.ntmps82
  go_upto_region 3 with fail
  go_region
  all_goals go_upto_region 6 with fail
  all_goals go_quiet (fail)
  all_goals go_wp2_with fail
  all_goals refine (c13_Clone (HCut.out _ _ _ _ _ (by first|exact HV.out|exact HV.out.later (Below.refl _ _).drew|exact HV.out.later (below_dN (Below.refl _ _) _)) (by first|rfl|omega) (by first|rfl|omega) (by intro h0;first|rfl|(rw [if_neg (by omega)])|omega)) (by rw [List.length_drop,HN.out];omega)).mono ?_
  all_goals rintro e w2 ⟨v2,rfl,b2,n2,bel⟩
  all_goals go_wp2_with fail
  all_goals refine bodyPost_ret (results_tmp3 rfl _ _ _) rfl ?_
  all_goals exact RetK.ok H.out b2 n2 ((below_dN (Below.refl _ _) _).trans bel)
 ·have H:Hid (bitsP B=.error 7):=by show _=_;rw [H0.out,if_neg (by omega)]
  have r2:((r:Int) == 0)=false:=by rw [beq_eq_false_iff_ne];omega
  have r1:((r:Int) != 0)=true:=by rw [bne,r2];rfl
  clear c4 H0
  go_enter Tryz.func82,Tryz.ntmps82
  go_upto_region 3 with fail
  go_region
  all_goals go_upto_region 6 with fail
  all_goals go_quiet (fail)
  all_goals go_wp2_with fail
  all_goals refine bodyPost_ret (results_tmp3 rfl _ _ _) rfl ?_
  all_goals exact RetK.bad H.out (below_dN (Below.refl _ _) _)
theorem con_Bits {v:Value} {B:List Int} {w:World} (hv:Bs w v B) (b:byt B) (hl:B.length≤140737488351232) :
  Calls Tryz.prog 82 #[v] w fun e w'=>(∀ n k,bitsP B=.ok (n,k)→∃ v':Value,e=.returned (.tuple #[v',.int .i64 k,.nilIface])∧Bs w' v' n∧NewV w v'∧Below w.heap.size w w')∧(∀ c,bitsP B=.error c→∃ (ao:Option Addr) (cap:Nat),e=.returned (.tuple #[.slice ao 0 cap,.int .i64 0,.iface 46 (.int .i64 (c:Int))])∧Below w.heap.size w w'):=(c13_Bits hv b hl).mono (fun _ _ h=>h)
theorem size_sg8:(Tryz.prog.info? 27).map (·.size)=some 12:=by kernel_rfl
theorem zero_sg8:Hid (∀ w:World,(zeroValue 27).run Tryz.prog w=.ok (.agg #[.int .u64 0,.int .u64 0,.int .u64 0,.int .u64 0,.int .u64 0,.int .u64 0,.int .u64 0,.int .u64 0,.int .u64 0,.int .u64 0,.int .u64 0,.int .u64 0]) w):=fun w=>by kernel_rfl
theorem bits_byt {b n:List Int} {k:Int} (h:byt b) (e:bitsP b=.ok (n,k)):byt n:=by
 unfold bitsP at e
 split at e
 ·cases e
 ·split at e
  ·cases e
   exact byt_dropM h _
  ·cases e
set_option linter.unusedSimpArgs false in
set_option maxRecDepth 100000 in
set_option maxHeartbeats 2000000 in
theorem c20_sigOf {c t:Int} {m:Bool} {b:List Int} {ks:List Tl} {cs:List Value} {w:World} (G:GlsO w) (h:TlAt w (.mk c t m b ks) cs) (wf:WfT (.mk c t m b ks)) (hsz:b.length≤140737488351232):Calls Tryz.prog 51 #[.agg cs.toArray] w (SigO8 w ((bitD (.mk c t m b ks)).bind sigD)):=by
 have HG:Hid (GlsO w):=G
 have HSz:Hid (b.length≤140737488351232):=hsz
 have HBy:Hid (byt b):=by rw [WfT] at wf;exact wf.2.2.1
 clear wf hsz G
 have hz:=zero_sg8.out
 have HT9:Hid (TlAt w (.mk c t m b ks) cs):=h
 rw [TlAt] at h
 obtain ⟨bv,ao,kc,hcs,hbv,-,hkm,hkk⟩:=h
 have HBv:Hid (Bs w bv b):=hbv
 obtain ⟨ba,bc,rfl,-,-,-⟩:=hbv
 have HK:Hid (0 < ks.length→∃ g o,ao=some ⟨g,o,none⟩∧KidsAt w ks g o):=hkk
 obtain ⟨BL,hBL⟩:∃ z,b.length=z:=⟨_,rfl⟩
 obtain ⟨KL,hKL⟩:∃ z,ks.length=z:=⟨_,rfl⟩
 have HBL:Hid (b.length=BL):=hBL
 have HKL:Hid (ks.length=KL):=hKL
 have HKM:Hid (kc≤maxLen):=hkm
 rw [hBL] at hcs HBv
 rw [hKL] at hcs HK
 clear hBL hKL hkk hkm
 subst hcs
 have B0:=(Blk.new w [.int .i64 c,.int .i64 t,.bool m,.slice ba BL bc,.slice ao KL kc] 41 w.heap.size rfl).alloc (.cells #[.int .u64 0,.int .u64 0,.int .u64 0,.int .u64 0,.int .u64 0,.int .u64 0,.int .u64 0,.int .u64 0,.int .u64 0,.int .u64 0,.int .u64 0,.int .u64 0] 27)
 have R0:=Blk.new (w.alloc (.cells #[.int .i64 c,.int .i64 t,.bool m,.slice ba BL bc,.slice ao KL kc] 41)) [.int .u64 0,.int .u64 0,.int .u64 0,.int .u64 0,.int .u64 0,.int .u64 0,.int .u64 0,.int .u64 0,.int .u64 0,.int .u64 0,.int .u64 0,.int .u64 0] 27 (w.heap.size + 1) (by simp)
 have bel:Below w.heap.size w ((w.alloc (.cells #[.int .i64 c,.int .i64 t,.bool m,.slice ba BL bc,.slice ao KL kc] 41)).alloc (.cells #[.int .u64 0,.int .u64 0,.int .u64 0,.int .u64 0,.int .u64 0,.int .u64 0,.int .u64 0,.int .u64 0,.int .u64 0,.int .u64 0,.int .u64 0,.int .u64 0] 27)):=((Below.refl _ _).alloc (Nat.le_refl _) _).alloc (by simp) _
 go_enter Tryz.func51,Tryz.ntmps51
 go_upto_region 1 with fail
 generalize (w.alloc (.cells #[.int .i64 c,.int .i64 t,.bool m,.slice ba BL bc,.slice ao KL kc] 41)).alloc (.cells #[.int .u64 0,.int .u64 0,.int .u64 0,.int .u64 0,.int .u64 0,.int .u64 0,.int .u64 0,.int .u64 0,.int .u64 0,.int .u64 0,.int .u64 0,.int .u64 0] 27)=W at *
 clear hz
 have hld:(loadVar 41 ⟨w.heap.size,0,none⟩).run Tryz.prog W=.ok (.agg #[.int .i64 c,.int .i64 t,.bool m,.slice ba BL bc,.slice ao KL kc]) W:=B0.load Tryz.underlying41 rfl size_tlv rfl
 have l0:=B0.lt
 go_wp2_with (first|((with_reducible show wpList _ _ _ ({ dst:=_,op:=.load _ _,type:=_,pos:=_,after:=_,guard:=_ } :: _) _ _);refine wpList_load_run (by rfl) (by rfl) (by rfl) hld ?_)|fail)
 refine (c20_isPlain (HT9.out.later bel)).mono ?_
 rintro e w1 ⟨rfl,hb⟩
 replace B0:=B0.later hb
 replace R0:=R0.later hb
 replace bel:=below_step bel hb
 clear hb hld l0
 by_cases hp:c=0∧t=3∧m=false
 rotate_left
 ·have H:Hid ((bitD (.mk c t m b ks)).bind sigD=none):=by show _=_;rw [bitD_other hp];rfl
  rw [decide_eq_false hp]
  clear hp
  have hz:=zero_sg8.out
  obtain ⟨tR,hR⟩:=R0
  have HR1:Hid _:=hR
  clear hR
  go_wp2_with (first|((with_reducible show wpList _ _ _ ({ dst:=_,op:=.store _ _ _,type:=_,pos:=_,after:=_,guard:=_ } :: _) _ _);refine wpList_store_row rfl 27 _ _ rfl (w.heap.size + 1) #[.int .u64 0,.int .u64 0,.int .u64 0,.int .u64 0,.int .u64 0,.int .u64 0,.int .u64 0,.int .u64 0,.int .u64 0,.int .u64 0,.int .u64 0,.int .u64 0] rfl rfl tR _ HR1.out (by rw [size_sg8];rfl) rfl (by simp [Value.oneCell']) ?_)|fail)
  refine bodyPost_ret (results_row_tmp rfl _ _ (w.heap.size + 1) tR #[.int .u64 0,.int .u64 0,.int .u64 0,.int .u64 0,.int .u64 0,.int .u64 0,.int .u64 0,.int .u64 0,.int .u64 0,.int .u64 0,.int .u64 0,.int .u64 0] (0,0) _ rfl (setRow_heap _ _ _ _ _ _ HR1.out) Tryz.underlying27 rfl (by rw [size_sg8];rfl)) rfl ?_
  exact SigO8.bad H.out (errV_code 7) (below_setRow bel (by omega) _)
 obtain ⟨rfl,rfl,rfl⟩:=hp
 rw [decide_eq_true (show (0:Int)=0∧(3:Int)=3∧false=false from ⟨rfl,rfl,rfl⟩)]
 have e3:=B0.cell 3 _ rfl
 have l0:=B0.lt
 go_wp2_with fail
 refine (con_Bits (HBv.out.later bel) HBy.out HSz.out).mono ?_
 rintro e w2 ⟨hok,hbad⟩
 clear e3 l0
 cases hn:bitsP b with
 | error c9 =>
  obtain ⟨va,vc,rfl,hb⟩:=hbad c9 hn
  have H:Hid ((bitD (.mk 0 3 false b ks)).bind sigD=none):=by show _=_;rw [bitD_bad hn];rfl
  replace R0:=R0.later hb
  replace bel:=below_step bel hb
  clear hok hbad hb hn B0
  have q:=ne_codeL (c9:Int)
  have hz:=zero_sg8.out
  obtain ⟨tR,hR⟩:=R0
  have HR1:Hid _:=hR
  clear hR
  go_wp2_with (first|((with_reducible show wpList _ _ _ ({ dst:=_,op:=.store _ _ _,type:=_,pos:=_,after:=_,guard:=_ } :: _) _ _);refine wpList_store_row rfl 27 _ _ rfl (w.heap.size + 1) #[.int .u64 0,.int .u64 0,.int .u64 0,.int .u64 0,.int .u64 0,.int .u64 0,.int .u64 0,.int .u64 0,.int .u64 0,.int .u64 0,.int .u64 0,.int .u64 0] rfl rfl tR _ HR1.out (by rw [size_sg8];rfl) rfl (by simp [Value.oneCell']) ?_)|fail)
  refine bodyPost_ret (results_row_tmp rfl _ _ (w.heap.size + 1) tR #[.int .u64 0,.int .u64 0,.int .u64 0,.int .u64 0,.int .u64 0,.int .u64 0,.int .u64 0,.int .u64 0,.int .u64 0,.int .u64 0,.int .u64 0,.int .u64 0] (0,0) _ rfl (setRow_heap _ _ _ _ _ _ HR1.out) Tryz.underlying27 rfl (by rw [size_sg8];rfl)) rfl ?_
  exact SigO8.bad H.out (errV_code _) (below_setRow bel (by omega) _)
 | ok q9 =>
  obtain ⟨n,k⟩:=q9
  obtain ⟨v2,rfl,hv2,hn2,hb⟩:=hok n k hn
  have HN:Hid (bitsP b=.ok (n,k)):=hn
  have HB2:Hid (Bs w2 v2 n):=hv2
  have HYn:Hid (byt n):=bits_byt HBy.out hn
  obtain ⟨va,vc,hv3,-,-,-⟩:=id hv2
  obtain ⟨L2,hL2⟩:∃ z,n.length=z:=⟨_,rfl⟩
  rw [hL2] at hv3
  subst hv3
  replace R0:=R0.later hb
  replace bel:=below_step bel hb
  clear hok hbad hb hn hv2 hn2 hL2 B0
  have q:=ne_nilL
  by_cases k0:k=0
  rotate_left
  ·have H:Hid ((bitD (.mk 0 3 false b ks)).bind sigD=none):=by show _=_;rw [bitD_plain HN.out,if_neg k0];rfl
   have d1:(k == 0)=false:=by rw [beq_eq_false_iff_ne];exact k0
   have d2:(k != 0)=true:=by rw [bne,d1];rfl
   clear k0
   have hz:=zero_sg8.out
   obtain ⟨tR,hR⟩:=R0
   have HR1:Hid _:=hR
   clear hR
   go_wp2_with (first|((with_reducible show wpList _ _ _ ({ dst:=_,op:=.store _ _ _,type:=_,pos:=_,after:=_,guard:=_ } :: _) _ _);refine wpList_store_row rfl 27 _ _ rfl (w.heap.size + 1) #[.int .u64 0,.int .u64 0,.int .u64 0,.int .u64 0,.int .u64 0,.int .u64 0,.int .u64 0,.int .u64 0,.int .u64 0,.int .u64 0,.int .u64 0,.int .u64 0] rfl rfl tR _ HR1.out (by rw [size_sg8];rfl) rfl (by simp [Value.oneCell']) ?_)|fail)
   refine bodyPost_ret (results_row_tmp rfl _ _ (w.heap.size + 1) tR #[.int .u64 0,.int .u64 0,.int .u64 0,.int .u64 0,.int .u64 0,.int .u64 0,.int .u64 0,.int .u64 0,.int .u64 0,.int .u64 0,.int .u64 0,.int .u64 0] (0,0) _ rfl (setRow_heap _ _ _ _ _ _ HR1.out) Tryz.underlying27 rfl (by rw [size_sg8];rfl)) rfl ?_
   exact SigO8.bad H.out (errV_code 7) (below_setRow bel (by omega) _)
  subst k0
  go_wp2_with fail
  clear q
  refine (u_sigD (HG.out.below bel) HB2.out HYn.out).mono ?_
  rintro e w3 ⟨hb,hbad,hok⟩
  replace R0:=R0.later hb
  replace bel:=below_step bel hb
  clear hb
  have HE:Hid ((bitD (.mk 0 3 false b ks)).bind sigD=sigD n):=by show _=_;rw [bitD_plain HN.out,if_pos rfl];rfl
  cases hs:sigD n with
  | none =>
   obtain ⟨er,her,rfl⟩:=hbad hs
   have H:Hid ((bitD (.mk 0 3 false b ks)).bind sigD=none):=HE.out.trans hs
   have HEr:Hid (ErrV er):=her
   obtain ⟨ty,pv,rfl⟩:=her.1
   clear hok hbad hs her HE
   obtain ⟨tR,hR⟩:=R0
   have HR1:Hid _:=hR
   clear hR
   go_wp2_with (first|((with_reducible show wpList _ _ _ ({ dst:=_,op:=.store _ _ _,type:=_,pos:=_,after:=_,guard:=_ } :: _) _ _);refine wpList_store_row rfl 27 _ _ rfl (w.heap.size + 1) #[.int .u64 0,.int .u64 0,.int .u64 0,.int .u64 0,.int .u64 0,.int .u64 0,.int .u64 0,.int .u64 0,.int .u64 0,.int .u64 0,.int .u64 0,.int .u64 0] rfl rfl tR _ HR1.out (by rw [size_sg8];rfl) rfl (by simp [Value.oneCell']) ?_)|fail)
   refine bodyPost_ret (results_row_tmp rfl _ _ (w.heap.size + 1) tR #[.int .u64 0,.int .u64 0,.int .u64 0,.int .u64 0,.int .u64 0,.int .u64 0,.int .u64 0,.int .u64 0,.int .u64 0,.int .u64 0,.int .u64 0,.int .u64 0] (0,0) _ rfl (setRow_heap _ _ _ _ _ _ HR1.out) Tryz.underlying27 rfl (by rw [size_sg8];rfl)) rfl ?_
   exact SigO8.bad H.out HEr.out (below_setRow bel (by omega) _)
  | some q9 =>
   obtain ⟨x,y⟩:=q9
   obtain ⟨rs,ss,rfl,u1,u2⟩:=hok x y hs
   have H:Hid ((bitD (.mk 0 3 false b ks)).bind sigD=some (x,y)):=HE.out.trans hs
   have HU1:Hid (U6 rs x):=u1
   have HU2:Hid (U6 ss y):=u2
   obtain ⟨ts,hts⟩:∃ ts,rs++ss=ts:=⟨_,rfl⟩
   have HTs:Hid (rs++ss=ts):=hts
   have HLt:Hid (ts.length=12):=by show _=_;rw [← hts,List.length_append,u1.len,u2.len]
   have HSt:Hid (ts.toArray.size=12):=by show _=_;rw [List.size_toArray];exact HLt.out
   have HOt:Hid (OneR ts):=by rw [← hts];exact u1.ones.app u2.ones
   rw [hts]
   clear hok hbad hs HE u1 u2 hts
   obtain ⟨tR,hR⟩:=R0
   have HR1:Hid _:=hR
   clear hR
   go_wp2_with (first|((with_reducible show wpList _ _ _ ({ dst:=_,op:=.store _ _ _,type:=_,pos:=_,after:=_,guard:=_ } :: _) _ _);refine wpList_store_row rfl 27 _ _ rfl (w.heap.size + 1) ts.toArray rfl rfl tR _ HR1.out (by rw [size_sg8,HSt.out]) (by rw [HSt.out];rfl) HOt.out ?_)|fail)
   refine bodyPost_ret (results_row_tmp rfl _ _ (w.heap.size + 1) tR ts.toArray (0,0) _ rfl (setRow_heap _ _ _ _ _ _ HR1.out) Tryz.underlying27 rfl (by rw [size_sg8,HSt.out])) rfl ?_
   rw [← HTs.out]
   exact SigO8.ok H.out HU1.out HU2.out (below_setRow bel (by omega) _)
end Go.Proofs.YtnkipgbnnhahbaaGreatDoor
