/- The document's reader: what is amiss set down, and lengths. The document's element. -/
import Derived.Test.YtnkipgbnnhahbaaGreatDoorDrDep
import Derived.Test.YtnkipgbnnhahbaaGreatDoorDrPar
import Derived.Test.YtnkipgbnnhahbaaGreatDoorHeld3
import Derived.Test.YtnkipgbnnhahbaaGreatDoorDrBytes
import Derived.Test.YtnkipgbnnhahbaaGreatDoorRows
import Derived.Deep.WholeRow
import Derived.Deep.RegionHeld3
import Derived.Deep.DeepCutAuto
import Derived.Deep.DeepFit
import Derived.Deep.OwnRows
import Derived.Deep.AppendLies
import Derived.Great.BuildSlice
namespace Go.Proofs.YtnkipgbnnhahbaaGreatDoor
open Go.RowKit
theorem beV_lt {B:List Int} (b:byt B) (o:Nat):∀ k,beV B o k < 256 ^ k
 | 0=>by simp [beV]
 | k + 1=>by
  have:=beV_lt b o k
  have:=b (o + k)
  rw [beV,Nat.pow_succ]
  omega
set_option maxRecDepth 100000 in
theorem r12_fail {g:Nat} {bv x y:Value} {c p:Int} {w:World} (R:Blk w g [bv,x,y]) :
  Calls Tryz.prog 52 #[.pointer (some ⟨g,0,none⟩),.int .i64 c,.int .i64 p] w fun e w'=>e=.returned (.tuple #[])∧RdB w w' g [bv,.int .i64 c,.int .i64 p]:=by
 have r1:=RdB.cell (k:=1) R (.int .i64 c)
 have r2:=r1.self (RdB.cell (k:=2) r1.1 (.int .i64 p))
 have c1:=R.cell 1 _ rfl
 have f1:=R.frozen 1
 have c2:=r1.1.cell 2 _ rfl
 have f2:=r1.1.frozen 2
 have l1:=R.lt
 have l2:=r1.1.lt
 have HR:Hid _:=r2
 clear r1 r2 R
 go_enter Tryz.func52,Tryz.ntmps52
 go_wp2_with fail
 exact bodyPost_end (v:=.tuple #[]) (by simp [results,Tryz.results52,go_sem]) rfl ⟨rfl,HR.out⟩
set_option linter.unusedSimpArgs false in
set_option maxRecDepth 100000 in
set_option maxHeartbeats 1000000 in
theorem r12_length {g a en:Nat} {bv:Value} {a0:Int} {B:List Int} {w:World} (R:Blk w g [bv,.int .i64 0,.int .i64 a0]) (hv:Bs w bv B) (b:byt B) (he:en≤B.length) (hl:B.length≤1048576) (ha:a≤1048577) :
  Calls Tryz.prog 53 #[.pointer (some ⟨g,0,none⟩),.int .i64 (a:Int),.int .i64 (en:Int)] w fun e w'=>(∀ n f,lenP B a en=.ok (n,f)→e=.returned (.tuple #[.int .i64 (n:Int),.int .i64 (f:Int)])∧w'=w)∧(∀ c p,lenP B a en=.error (c,p)→e=.returned (.tuple #[.int .i64 0,.int .i64 0])∧RdB w w' g [bv,.int .i64 (c:Int),.int .i64 (p:Int)]):=by
 have HB:Hid (byt B):=b
 have HE:Hid (lenP B a en=lenP B a en):=rfl
 have HR:Hid (Blk w g [bv,.int .i64 0,.int .i64 a0]):=R
 have r0:=R.cell 0 _ rfl
 have rl:=R.lt
 clear R b
 obtain ⟨ao,cap,rfl,h1,h2,h3⟩:=hv
 unfold maxLen at h1
 by_cases c1:en≤a
 ·have H:Hid (lenP B a en=.error (6,a)):=by show _=_;unfold lenP;rw [if_pos c1]
  have g1:(en:Int)≤(a:Int):=by omega
  clear h3
  go_enter Tryz.func53,Tryz.ntmps53
  go_wp2_with fail
  refine (r12_fail HR.out).mono ?_
  rintro e w1 ⟨rfl,hr⟩
  go_wp2_with fail
  refine bodyPost_ret (results_tmp2 rfl _ _ _) rfl ?_
  exact ⟨fun n f h=>(by rw [H.out] at h;cases h),fun c p h=>by rw [H.out] at h;cases h;exact ⟨rfl,hr⟩⟩
 have g1:¬ (en:Int)≤(a:Int):=by omega
 have g1b:(a:Int) < ((B.length:Nat):Int):=by omega
 have g1c:(0:Int)≤(a:Int):=by omega
 obtain ⟨gb,ob,rfl,hb0,hc0⟩:=h3 (by omega)
 have HC:Hid _:=hc0
 clear h3 hc0
 have ca:=HC.out a (by omega)
 rw [byN_int HB.out] at ca
 have xa:=byN_lt HB.out a
 have HL:Hid (lenP B a en=if byN B a < 128 then .ok (byN B a,a + 1) else if byN B a=128∨131 < byN B a then .error (7,a) else if en < a + 1 + (byN B a - 128) then .error (6,a) else if byN B (a + 1)=0∨beV B (a + 1) (byN B a - 128) < 128 then .error (7,a) else .ok (beV B (a + 1) (byN B a - 128),a + 1 + (byN B a - 128))):=by
  show _=_
  unfold lenP
  rw [if_neg c1]
 obtain ⟨x,hx⟩:∃ x,byN B a=x:=⟨_,rfl⟩
 rw [hx] at ca xa HL
 clear hx
 have w1:IntKind.i64.wrap (x:Int)=(x:Int):=by rw [IntKind.wrap_i64];omega
 have w2:IntKind.i64.wrap ((a:Int) + 1)=(a:Int) + 1:=by rw [IntKind.wrap_i64];omega
 by_cases c2:x < 128
 ·have H:Hid (lenP B a en=.ok (x,a + 1)):=by show _=_;rw [HL.out,if_pos c2]
  have g2:(x:Int) < 128:=by omega
  go_enter Tryz.func53,Tryz.ntmps53
  go_wp2_with fail
  refine bodyPost_ret (results_tmp2 rfl _ _ _) rfl ?_
  exact ⟨fun n f h=>by rw [H.out] at h;cases h;exact ⟨rfl,rfl⟩,fun c p h=>by rw [H.out] at h;cases h⟩
 have g2:¬ (x:Int) < 128:=by omega
 by_cases c3:x=128∨131 < x
 ·have H:Hid (lenP B a en=.error (7,a)):=by show _=_;rw [HL.out,if_neg c2,if_pos c3]
  by_cases c4:x=128
  ·have g3:(x:Int)=128:=by omega
   go_enter Tryz.func53,Tryz.ntmps53
   go_wp2_with fail
   refine (r12_fail HR.out).mono ?_
   rintro e w1 ⟨rfl,hr⟩
   go_wp2_with fail
   refine bodyPost_ret (results_tmp2 rfl _ _ _) rfl ?_
   exact ⟨fun n f h=>(by rw [H.out] at h;cases h),fun c p h=>by rw [H.out] at h;cases h;exact ⟨rfl,hr⟩⟩
  ·have g3:¬ (x:Int)=128:=by omega
   have g4:(131:Int) < (x:Int):=by omega
   go_enter Tryz.func53,Tryz.ntmps53
   go_wp2_with fail
   refine (r12_fail HR.out).mono ?_
   rintro e w1 ⟨rfl,hr⟩
   go_wp2_with fail
   refine bodyPost_ret (results_tmp2 rfl _ _ _) rfl ?_
   exact ⟨fun n f h=>(by rw [H.out] at h;cases h),fun c p h=>by rw [H.out] at h;cases h;exact ⟨rfl,hr⟩⟩
 have g3:¬ (x:Int)=128:=by omega
 have g4:¬ (131:Int) < (x:Int):=by omega
 obtain ⟨m,hm⟩:∃ m,x - 128=m:=⟨_,rfl⟩
 have hm3:1≤m∧m≤3:=by omega
 have w3:IntKind.i64.wrap ((x:Int) - 128)=(m:Int):=by rw [IntKind.wrap_i64];omega
 have w4:IntKind.i64.wrap ((a:Int) + 1 + (m:Int))=(a:Int) + 1 + (m:Int):=by rw [IntKind.wrap_i64];omega
 rw [hm,if_neg c2,if_neg c3] at HL
 clear c2 c3 hm
 by_cases c5:en < a + 1 + m
 ·have H:Hid (lenP B a en=.error (6,a)):=by show _=_;rw [HL.out,if_pos c5]
  have g5:(en:Int) < (a:Int) + 1 + (m:Int):=by omega
  go_enter Tryz.func53,Tryz.ntmps53
  go_wp2_with fail
  refine (r12_fail HR.out).mono ?_
  rintro e w1 ⟨rfl,hr⟩
  go_wp2_with fail
  refine bodyPost_ret (results_tmp2 rfl _ _ _) rfl ?_
  exact ⟨fun n f h=>(by rw [H.out] at h;cases h),fun c p h=>by rw [H.out] at h;cases h;exact ⟨rfl,hr⟩⟩
 have g5:¬ (en:Int) < (a:Int) + 1 + (m:Int):=by omega
 replace HL:Hid (lenP B a en=if byN B (a + 1)=0∨beV B (a + 1) m < 128 then .error (7,a) else .ok (beV B (a + 1) m,a + 1 + m)):=by show _=_;rw [HL.out,if_neg c5]
 clear HE
 go_enter Tryz.func53,Tryz.ntmps53
 go_wp2_with fail
 go_loop [10,11] (fun vv iv=>∃ i:Nat,i≤m∧iv=.int .i64 ((i:Int) + 1)∧vv=.int .i64 ((beV B (a + 1) i:Nat):Int)) (fun _ iv=>5 - (intOf iv).toNat)
 case atStart=>exact ⟨0,by omega,rfl,rfl⟩
 case round =>
  obtain ⟨i,hi,rfl,rfl⟩:=hrel
  have bi:=beV_lt HB.out (a + 1) i
  have pw:256 ^ i≤256 ^ 3:=Nat.pow_le_pow_right (by decide) (by omega)
  have e3:(256:Nat) ^ 3=16777216:=by decide
  by_cases hil:i < m
  ·have g6:(i:Int) + 1≤(m:Int):=by omega
   have ci:=HC.out (a + 1 + i) (by omega)
   rw [byN_int HB.out] at ci
   have yi:=byN_lt HB.out (a + 1 + i)
   have HN:Hid (beV B (a + 1) (i + 1)=256 * beV B (a + 1) i + byN B (a + 1 + i)):=rfl
   obtain ⟨y,hy⟩:∃ y,byN B (a + 1 + i)=y:=⟨_,rfl⟩
   obtain ⟨v,hvv⟩:∃ v,beV B (a + 1) i=v:=⟨_,rfl⟩
   rw [hy] at ci yi HN
   rw [hvv] at bi HN ⊢
   clear hy hvv
   obtain ⟨n,hn⟩:∃ n,a + 1 + i=n:=⟨_,rfl⟩
   rw [hn] at ci
   have w5:IntKind.i64.wrap (256 * (v:Int))=256 * (v:Int):=by rw [IntKind.wrap_i64];omega
   have w6:IntKind.i64.wrap (y:Int)=(y:Int):=by rw [IntKind.wrap_i64];omega
   have w7:IntKind.i64.wrap (256 * (v:Int) + (y:Int))=256 * (v:Int) + (y:Int):=by rw [IntKind.wrap_i64];omega
   have w8:IntKind.i64.wrap ((a:Int) + ((i:Int) + 1))=(n:Int):=by rw [IntKind.wrap_i64];omega
   have w9:IntKind.i64.wrap ((i:Int) + 1 + 1)=(i:Int) + 1 + 1:=by rw [IntKind.wrap_i64];omega
   have g7:(n:Int) < ((B.length:Nat):Int):=by omega
   have g8:(0:Int)≤(n:Int):=by omega
   clear pw e3 bi
   go_wp2_with fail
   go_round
   case rel=>exact ⟨i + 1,by omega,by go_num,by rw [HN.out];rfl⟩
   case measure=>simp [intOf];omega
  ·have HI:Hid (i=m):=by show i=m;omega
   have g6:¬ (i:Int) + 1≤(m:Int):=by omega
   have c1x:=HC.out (a + 1) (by omega)
   rw [byN_int HB.out] at c1x
   have y1:=byN_lt HB.out (a + 1)
   obtain ⟨y,hy⟩:∃ y,byN B (a + 1)=y:=⟨_,rfl⟩
   obtain ⟨v,hvv⟩:∃ v,beV B (a + 1) i=v:=⟨_,rfl⟩
   have HLv:Hid (lenP B a en=if y=0∨v < 128 then .error (7,a) else .ok (v,a + 1 + m)):=by show _=_;rw [HL.out,hy,← HI.out,hvv]
   rw [hy] at c1x y1
   rw [hvv] at bi ⊢
   clear hy hvv pw
   obtain ⟨n,hn⟩:∃ n,a + 1=n:=⟨_,rfl⟩
   rw [hn] at c1x
   have w8:IntKind.i64.wrap ((a:Int) + 1)=(n:Int):=by rw [IntKind.wrap_i64];omega
   have g7:(n:Int) < ((B.length:Nat):Int):=by omega
   have g8:(0:Int)≤(n:Int):=by omega
   have en1:(a:Int) + 1=(n:Int):=by omega
   rw [en1] at w2 w4 g5
   by_cases c6:y=0
   ·have H:Hid (lenP B a en=.error (7,a)):=by show _=_;rw [HLv.out,if_pos (.inl c6)]
    have g9:(y:Int)=0:=by omega
    go_wp2_with fail
    refine (r12_fail HR.out).mono ?_
    rintro e w1 ⟨rfl,hr⟩
    go_wp2_with fail
    refine bodyPost_ret (results_tmp2 rfl _ _ _) rfl ?_
    exact ⟨fun n f h=>(by rw [H.out] at h;cases h),fun c p h=>by rw [H.out] at h;cases h;exact ⟨rfl,hr⟩⟩
   ·have g9:¬ (y:Int)=0:=by omega
    by_cases c7:v < 128
    ·have H:Hid (lenP B a en=.error (7,a)):=by show _=_;rw [HLv.out,if_pos (.inr c7)]
     have g10:(v:Int) < 128:=by omega
     go_wp2_with fail
     refine (r12_fail HR.out).mono ?_
     rintro e w1 ⟨rfl,hr⟩
     go_wp2_with fail
     refine bodyPost_ret (results_tmp2 rfl _ _ _) rfl ?_
     exact ⟨fun n f h=>(by rw [H.out] at h;cases h),fun c p h=>by rw [H.out] at h;cases h;exact ⟨rfl,hr⟩⟩
    ·have g10:¬ (v:Int) < 128:=by omega
     have H:Hid (lenP B a en=.ok (v,a + 1 + m)):=by show _=_;rw [HLv.out,if_neg (by omega)]
     have HV:Hid ((n:Int) + (m:Int)=((a + 1 + m:Nat):Int)):=by show _=_;omega
     go_wp2_with fail
     refine bodyPost_ret (results_tmp2 rfl _ _ _) rfl ?_
     exact ⟨fun n f h=>by rw [H.out] at h;cases h;exact ⟨by rw [← HV.out];rfl,rfl⟩,fun c p h=>by rw [H.out] at h;cases h⟩
set_option linter.unusedSimpArgs false in
set_option maxRecDepth 100000 in
set_option maxHeartbeats 4000000 in
theorem r12_elem {g:Nat} {bv:Value} {B:List Int} (b:byt B) (hl:B.length≤1048576) (d:Nat):∀ (a en:Nat) (a0:Int) (w:World),d≤16→a≤1048576→en≤B.length→Blk w g [bv,.int .i64 0,.int .i64 a0]→Bs w bv B →
    Calls Tryz.prog 26 #[.pointer (some ⟨g,0,none⟩),.int .i64 (a:Int),.int .i64 (en:Int),.int .i64 (16 - (d:Int))] w fun e w'=>(∀ T z,elemP B d a en=.ok (T,z)→∃ cs,e=.returned (.tuple #[.agg cs.toArray,.int .i64 (z:Int)])∧Dep (fun b=>w.heap.size≤b) w' T cs∧Below w.heap.size w w')∧(∀ c p,elemP B d a en=.error (c,p)→∃ cs:List Value,cs.length=5∧OneC cs∧e=.returned (.tuple #[.agg cs.toArray,.int .i64 0])∧RdB w w' g [bv,.int .i64 (c:Int),.int .i64 (p:Int)]):=by
  have HB:Hid (byt B):=b
  clear b
  obtain ⟨j0,hj0,hy0,hy1,hy2⟩:=info_partsD info_tlv
  induction d with
  | zero =>
    intro a en a0 w hd ha he Rd hv
    have hz:=zero_tlv.out
    have lg:=Rd.lt
    have HV:Hid (Bs w bv B):=hv
    have R0:=(Blk.new w [.int .i64 0,.int .i64 0,.bool false,.slice none 0 0,.slice none 0 0] 41 w.heap.size rfl).alloc (.cells #[.int .i64 0,.int .i64 0,.bool false,.slice none 0 0,.slice none 0 0] 41)
    have T0:=Blk.new (w.alloc (.cells #[.int .i64 0,.int .i64 0,.bool false,.slice none 0 0,.slice none 0 0] 41)) [.int .i64 0,.int .i64 0,.bool false,.slice none 0 0,.slice none 0 0] 41 (w.heap.size + 1) (by simp)
    replace Rd:=(Rd.alloc (.cells #[.int .i64 0,.int .i64 0,.bool false,.slice none 0 0,.slice none 0 0] 41)).alloc (.cells #[.int .i64 0,.int .i64 0,.bool false,.slice none 0 0,.slice none 0 0] 41)
    have bel:Below w.heap.size w ((w.alloc (.cells #[.int .i64 0,.int .i64 0,.bool false,.slice none 0 0,.slice none 0 0] 41)).alloc (.cells #[.int .i64 0,.int .i64 0,.bool false,.slice none 0 0,.slice none 0 0] 41)):=(((Below.refl _ _).alloc (Nat.le_refl _) _).alloc (by simp) _)
    have e16:16 - ((0:Nat):Int)=16:=by decide
    rw [e16]
    clear e16
    have H:Hid (elemP B 0 a en=.error (9,a)):=rfl
    go_enter Tryz.func26,Tryz.ntmps26
    go_upto_region 2 with fail
    generalize (w.alloc (.cells #[.int .i64 0,.int .i64 0,.bool false,.slice none 0 0,.slice none 0 0] 41)).alloc (.cells #[.int .i64 0,.int .i64 0,.bool false,.slice none 0 0,.slice none 0 0] 41)=W at *
    have HRD:Hid (Blk W g [bv,.int .i64 0,.int .i64 a0]):=Rd
    have lW:=Rd.lt
    clear Rd hz hv
    go_wp2_with fail
    refine (r12_fail HRD.out).mono ?_
    rintro e w1 ⟨rfl,hr⟩
    have T1:=hr.2.1 _ _ (by omega) T0
    have R1:=hr.2.1 _ _ (by omega) R0
    have HRd:Hid (RdB w w1 g _):=RdB.before lg bel hr
    obtain ⟨tR,hR⟩:=R1
    have HR1:Hid _:=hR
    clear hR
    go_wp2_with (first|(refine wpList_load_run (by rfl) (by rfl) (by rfl) (T1.load Tryz.underlying41 rfl size_tlv rfl) ?_)|(refine wpList_store_row rfl 41 _ _ rfl w.heap.size _ rfl rfl tR _ HR1.out (by rw [size_tlv];rfl) rfl (by simp [Value.oneCell']) ?_)|fail)
    exact bodyPost_ret (results_row_tmp rfl _ _ w.heap.size tR #[.int .i64 0,.int .i64 0,.bool false,.slice none 0 0,.slice none 0 0] (0,0) _ rfl (setRow_heap _ _ _ _ _ _ HR1.out) Tryz.underlying41 rfl (by rw [size_tlv];rfl)) rfl ⟨fun T z h=>(by rw [H.out] at h;cases h),fun c p h=>(by rw [H.out] at h;cases h;exact ⟨[.int .i64 0,.int .i64 0,.bool false,.slice none 0 0,.slice none 0 0],rfl,(by simp [OneC,Value.oneCell']),rfl,RdB.row lg (Nat.le_refl _) HRd.out⟩)⟩
  | succ d IH =>
    intro a en a0 w hd ha he Rd hv
    have hz:=zero_tlv.out
    have lg:=Rd.lt
    have HV:Hid (Bs w bv B):=hv
    have R0:=(Blk.new w [.int .i64 0,.int .i64 0,.bool false,.slice none 0 0,.slice none 0 0] 41 w.heap.size rfl).alloc (.cells #[.int .i64 0,.int .i64 0,.bool false,.slice none 0 0,.slice none 0 0] 41)
    have T0:=Blk.new (w.alloc (.cells #[.int .i64 0,.int .i64 0,.bool false,.slice none 0 0,.slice none 0 0] 41)) [.int .i64 0,.int .i64 0,.bool false,.slice none 0 0,.slice none 0 0] 41 (w.heap.size + 1) (by simp)
    replace Rd:=(Rd.alloc (.cells #[.int .i64 0,.int .i64 0,.bool false,.slice none 0 0,.slice none 0 0] 41)).alloc (.cells #[.int .i64 0,.int .i64 0,.bool false,.slice none 0 0,.slice none 0 0] 41)
    have bel:Below w.heap.size w ((w.alloc (.cells #[.int .i64 0,.int .i64 0,.bool false,.slice none 0 0,.slice none 0 0] 41)).alloc (.cells #[.int .i64 0,.int .i64 0,.bool false,.slice none 0 0,.slice none 0 0] 41)):=(((Below.refl _ _).alloc (Nat.le_refl _) _).alloc (by simp) _)
    obtain ⟨dn,hdn⟩:∃ dn:Int,16 - ((d + 1:Nat):Int)=dn:=⟨_,rfl⟩
    rw [hdn]
    have hdn2:dn=15 - (d:Int):=by omega
    have wd:IntKind.i64.wrap (dn + 1)=16 - (d:Int):=by rw [IntKind.wrap_i64];omega
    have g0:¬ (16:Int)≤dn:=by omega
    clear hdn hdn2
    go_enter Tryz.func26,Tryz.ntmps26
    go_upto_region 2 with fail
    generalize (w.alloc (.cells #[.int .i64 0,.int .i64 0,.bool false,.slice none 0 0,.slice none 0 0] 41)).alloc (.cells #[.int .i64 0,.int .i64 0,.bool false,.slice none 0 0,.slice none 0 0] 41)=W at *
    have HRD:Hid (Blk W g [bv,.int .i64 0,.int .i64 a0]):=Rd
    have lW:=Rd.lt
    clear Rd hz hv
    by_cases c1:en≤a
    · have H:Hid (elemP B (d + 1) a en=.error (6,a)):=by show _=_;rw [elemP,if_pos c1]
      have g1:(en:Int)≤(a:Int):=by omega
      go_wp2_with fail
      refine (r12_fail HRD.out).mono ?_
      rintro e w1 ⟨rfl,hr⟩
      have T1:=hr.2.1 _ _ (by omega) T0
      have R1:=hr.2.1 _ _ (by omega) R0
      have HRd:Hid (RdB w w1 g _):=RdB.before lg bel hr
      obtain ⟨tR,hR⟩:=R1
      have HR1:Hid _:=hR
      clear hR
      go_wp2_with (first|(refine wpList_load_run (by rfl) (by rfl) (by rfl) (T1.load Tryz.underlying41 rfl size_tlv rfl) ?_)|(refine wpList_store_row rfl 41 _ _ rfl w.heap.size _ rfl rfl tR _ HR1.out (by rw [size_tlv];rfl) rfl (by simp [Value.oneCell']) ?_)|fail)
      exact bodyPost_ret (results_row_tmp rfl _ _ w.heap.size tR #[.int .i64 0,.int .i64 0,.bool false,.slice none 0 0,.slice none 0 0] (0,0) _ rfl (setRow_heap _ _ _ _ _ _ HR1.out) Tryz.underlying41 rfl (by rw [size_tlv];rfl)) rfl ⟨fun T z h=>(by rw [H.out] at h;cases h),fun c p h=>(by rw [H.out] at h;cases h;exact ⟨[.int .i64 0,.int .i64 0,.bool false,.slice none 0 0,.slice none 0 0],rfl,(by simp [OneC,Value.oneCell']),rfl,RdB.row lg (Nat.le_refl _) HRd.out⟩)⟩
    have g1:¬ (en:Int)≤(a:Int):=by omega
    have hvW:=HV.out.later bel
    obtain ⟨ao,cap,rfl,h1,h2,h3⟩:=hvW
    obtain ⟨gb,ob,rfl,hb0,hc0⟩:=h3 (by omega)
    have HC:Hid _:=hc0
    clear h3 hc0
    unfold maxLen at h1
    have ca:=HC.out a (by omega)
    rw [byN_int HB.out] at ca
    have xa:=byN_lt HB.out a
    have HE:Hid (elemP B (d + 1) a en=if byN B a % 32=31 then .error (7,a) else match lenP B (a + 1) en with|.error e=>.error e|.ok (n,f)=>if en < f + n then .error (6,a + 1) else if byN B a / 32 % 2=1 then (match kidsP (elemP B d) (f + n) n f [] with|.error e=>.error e|.ok (ks,z)=>.ok (.mk ((byN B a / 64:Nat):Int) ((byN B a % 32:Nat):Int) true [] ks,z)) else .ok (.mk ((byN B a / 64:Nat):Int) ((byN B a % 32:Nat):Int) false ((B.drop f).take n) [],f + n)):=by
      show _=_
      rw [elemP,if_neg c1]
      rfl
    obtain ⟨x,hx⟩:∃ x,byN B a=x:=⟨_,rfl⟩
    rw [hx] at ca xa HE
    clear hx
    have w1:IntKind.i64.wrap (x:Int)=(x:Int):=by rw [IntKind.wrap_i64];omega
    obtain ⟨a1,ha1⟩:∃ a1,a + 1=a1:=⟨_,rfl⟩
    rw [ha1] at HE
    have w2:IntKind.i64.wrap ((a:Int) + 1)=(a1:Int):=by rw [IntKind.wrap_i64];omega
    have q1:(x:Int).tmod 32=((x % 32:Nat):Int):=by rw [Int.tmod_eq_emod_of_nonneg (by omega)];omega
    have g1b:(a:Int) < ((B.length:Nat):Int):=by omega
    have g1c:(0:Int)≤(a:Int):=by omega
    have r0:=HRD.out.cell 0 _ rfl
    have r1:=HRD.out.cell 1 _ rfl
    by_cases c2:x % 32=31
    · have H:Hid (elemP B (d + 1) a en=.error (7,a)):=by show _=_;rw [HE.out,if_pos c2]
      have g2:((x % 32:Nat):Int)=31:=by omega
      go_wp2_with fail
      refine (r12_fail HRD.out).mono ?_
      rintro e w1 ⟨rfl,hr⟩
      have T1:=hr.2.1 _ _ (by omega) T0
      have R1:=hr.2.1 _ _ (by omega) R0
      have HRd:Hid (RdB w w1 g _):=RdB.before lg bel hr
      obtain ⟨tR,hR⟩:=R1
      have HR1:Hid _:=hR
      clear hR
      go_wp2_with (first|(refine wpList_load_run (by rfl) (by rfl) (by rfl) (T1.load Tryz.underlying41 rfl size_tlv rfl) ?_)|(refine wpList_store_row rfl 41 _ _ rfl w.heap.size _ rfl rfl tR _ HR1.out (by rw [size_tlv];rfl) rfl (by simp [Value.oneCell']) ?_)|fail)
      exact bodyPost_ret (results_row_tmp rfl _ _ w.heap.size tR #[.int .i64 0,.int .i64 0,.bool false,.slice none 0 0,.slice none 0 0] (0,0) _ rfl (setRow_heap _ _ _ _ _ _ HR1.out) Tryz.underlying41 rfl (by rw [size_tlv];rfl)) rfl ⟨fun T z h=>(by rw [H.out] at h;cases h),fun c p h=>(by rw [H.out] at h;cases h;exact ⟨[.int .i64 0,.int .i64 0,.bool false,.slice none 0 0,.slice none 0 0],rfl,(by simp [OneC,Value.oneCell']),rfl,RdB.row lg (Nat.le_refl _) HRd.out⟩)⟩
    have g2:¬ ((x % 32:Nat):Int)=31:=by omega
    rw [if_neg c2] at HE
    clear c2
    go_wp2_with fail
    refine (r12_length HRD.out (HV.out.later bel) HB.out he hl (by omega)).mono ?_
    rintro e w1 ⟨hok,hbad⟩
    cases hlp:lenP B a1 en with
    | error q =>
      obtain ⟨c,p⟩:=q
      obtain ⟨rfl,hr⟩:=hbad c p hlp
      clear hok hbad
      have hcb:=lenP_bad hlp
      have H:Hid (elemP B (d + 1) a en=.error (c,p)):=by show _=_;rw [HE.out,hlp]
      clear hlp HE
      have rc:=hr.1.cell 1 _ rfl
      have lc:=hr.1.lt
      have gc:¬ (c:Int)=0:=by omega
      have T1:=hr.2.1 _ _ (by omega) T0
      have R1:=hr.2.1 _ _ (by omega) R0
      have HRd:Hid (RdB w w1 g _):=RdB.before lg bel hr
      obtain ⟨tR,hR⟩:=R1
      have HR1:Hid _:=hR
      clear hR
      go_wp2_with (first|(refine wpList_load_run (by rfl) (by rfl) (by rfl) (T1.load Tryz.underlying41 rfl size_tlv rfl) ?_)|(refine wpList_store_row rfl 41 _ _ rfl w.heap.size _ rfl rfl tR _ HR1.out (by rw [size_tlv];rfl) rfl (by simp [Value.oneCell']) ?_)|fail)
      exact bodyPost_ret (results_row_tmp rfl _ _ w.heap.size tR #[.int .i64 0,.int .i64 0,.bool false,.slice none 0 0,.slice none 0 0] (0,0) _ rfl (setRow_heap _ _ _ _ _ _ HR1.out) Tryz.underlying41 rfl (by rw [size_tlv];rfl)) rfl ⟨fun T z h=>(by rw [H.out] at h;cases h),fun c p h=>(by rw [H.out] at h;cases h;exact ⟨[.int .i64 0,.int .i64 0,.bool false,.slice none 0 0,.slice none 0 0],rfl,(by simp [OneC,Value.oneCell']),rfl,RdB.row lg (Nat.le_refl _) HRd.out⟩)⟩
    | ok q =>
      obtain ⟨n,f⟩:=q
      obtain ⟨rfl,hw1⟩:=hok n f hlp
      rw [hw1]
      clear hok hbad hw1
      have hlo:=len_ok HB.out hlp
      have lbp:=lenB_pos n
      have lb4:=lenB_len n
      rw [hlp] at HE
      replace HE:Hid (elemP B (d + 1) a en=if en < f + n then .error (6,a1) else if x / 32 % 2=1 then (match kidsP (elemP B d) (f + n) n f [] with|.error e=>.error e|.ok (ks,z)=>.ok (.mk ((x / 64:Nat):Int) ((x % 32:Nat):Int) true [] ks,z)) else .ok (.mk ((x / 64:Nat):Int) ((x % 32:Nat):Int) false ((B.drop f).take n) [],f + n)):=HE
      have hf1:a + 2≤f:=by omega
      have hf2:f≤en:=by omega
      have hn1:n < 16777216:=by omega
      clear hlo hlp lbp lb4
      obtain ⟨st,hst⟩:∃ st,f + n=st:=⟨_,rfl⟩
      rw [hst] at HE
      have w3:IntKind.i64.wrap ((f:Int) + (n:Int))=(st:Int):=by rw [IntKind.wrap_i64];omega
      by_cases c3:en < st
      · have H:Hid (elemP B (d + 1) a en=.error (6,a1)):=by show _=_;rw [HE.out,if_pos c3]
        have g3:(en:Int) < (st:Int):=by omega
        go_wp2_with fail
        refine (r12_fail HRD.out).mono ?_
        rintro e w1 ⟨rfl,hr⟩
        have T1:=hr.2.1 _ _ (by omega) T0
        have R1:=hr.2.1 _ _ (by omega) R0
        have HRd:Hid (RdB w w1 g _):=RdB.before lg bel hr
        obtain ⟨tR,hR⟩:=R1
        have HR1:Hid _:=hR
        clear hR
        go_wp2_with (first|(refine wpList_load_run (by rfl) (by rfl) (by rfl) (T1.load Tryz.underlying41 rfl size_tlv rfl) ?_)|(refine wpList_store_row rfl 41 _ _ rfl w.heap.size _ rfl rfl tR _ HR1.out (by rw [size_tlv];rfl) rfl (by simp [Value.oneCell']) ?_)|fail)
        exact bodyPost_ret (results_row_tmp rfl _ _ w.heap.size tR #[.int .i64 0,.int .i64 0,.bool false,.slice none 0 0,.slice none 0 0] (0,0) _ rfl (setRow_heap _ _ _ _ _ _ HR1.out) Tryz.underlying41 rfl (by rw [size_tlv];rfl)) rfl ⟨fun T z h=>(by rw [H.out] at h;cases h),fun c p h=>(by rw [H.out] at h;cases h;exact ⟨[.int .i64 0,.int .i64 0,.bool false,.slice none 0 0,.slice none 0 0],rfl,(by simp [OneC,Value.oneCell']),rfl,RdB.row lg (Nat.le_refl _) HRd.out⟩)⟩
      have g3:¬ (en:Int) < (st:Int):=by omega
      rw [if_neg c3] at HE
      have q2:(x:Int).tdiv 64=((x / 64:Nat):Int):=by rw [Int.tdiv_eq_ediv_of_nonneg (by omega)];omega
      have q3:(x:Int).tdiv 32=((x / 32:Nat):Int):=by rw [Int.tdiv_eq_ediv_of_nonneg (by omega)];omega
      have q4:((x / 32:Nat):Int).tmod 2=((x / 32 % 2:Nat):Int):=by rw [Int.tmod_eq_emod_of_nonneg (by omega)];omega
      have v2:IntKind.i64.wrap ((x / 64:Nat):Int)=((x / 64:Nat):Int):=by rw [IntKind.wrap_i64];omega
      have v3:IntKind.i64.wrap ((x / 32:Nat):Int)=((x / 32:Nat):Int):=by rw [IntKind.wrap_i64];omega
      obtain ⟨cc,hcc⟩:∃ cc,((x / 64:Nat):Int)=cc:=⟨_,rfl⟩
      obtain ⟨ct,hct⟩:∃ ct,((x % 32:Nat):Int)=ct:=⟨_,rfl⟩
      obtain ⟨xm,hxm⟩:∃ xm,x / 32 % 2=xm:=⟨_,rfl⟩
      obtain ⟨xd,hxd⟩:∃ xd,((x / 32:Nat):Int)=xd:=⟨_,rfl⟩
      rw [hcc] at q2 v2 HE
      rw [hct] at q1 g2 HE
      rw [hxm] at q4 HE
      rw [hxd] at q3 q4 v3
      clear hcc hct hxd
      by_cases c4:xm=1
      rotate_left
      · have g4:((xm:Int) == 1)=false:=by rw [beq_eq_false_iff_ne];omega
        rw [if_neg c4] at HE
        have s0:=T0.cell 0 _ rfl
        have f0:=T0.frozen 0
        have T1:=T0.set 0 (.int .i64 cc)
        have s1:=T1.cell 1 _ rfl
        have f1:=T1.frozen 1
        have T2:=T1.set 1 (.int .i64 ct)
        have s2:=T2.cell 2 _ rfl
        have f2:=T2.frozen 2
        have T3:=T2.set 2 (.bool false)
        have l0:=T0.lt
        have l1:=T1.lt
        have l2:=T2.lt
        have R3:=((R0.other ⟨w.heap.size + 1,0,none⟩ (.int .i64 cc) (by show w.heap.size≠w.heap.size + 1;omega)).other ⟨w.heap.size + 1,1,none⟩ (.int .i64 ct) (by show w.heap.size≠w.heap.size + 1;omega)).other ⟨w.heap.size + 1,2,none⟩ (.bool false) (by show w.heap.size≠w.heap.size + 1;omega)
        have RD3:=((HRD.out.other ⟨w.heap.size + 1,0,none⟩ (.int .i64 cc) (by show g≠w.heap.size + 1;omega)).other ⟨w.heap.size + 1,1,none⟩ (.int .i64 ct) (by show g≠w.heap.size + 1;omega)).other ⟨w.heap.size + 1,2,none⟩ (.bool false) (by show g≠w.heap.size + 1;omega)
        have bel3:=((bel.setCell (p:=⟨w.heap.size + 1,0,none⟩) (by show w.heap.size≤w.heap.size + 1;omega) (.int .i64 cc)).setCell (p:=⟨w.heap.size + 1,1,none⟩) (by show w.heap.size≤w.heap.size + 1;omega) (.int .i64 ct)).setCell (p:=⟨w.heap.size + 1,2,none⟩) (by show w.heap.size≤w.heap.size + 1;omega) (.bool false)
        go_upto_region 21 with fail
        replace T3:Blk _ (w.heap.size + 1) [.int .i64 cc,.int .i64 ct,.bool false,.slice none 0 0,.slice none 0 0]:=T3
        generalize World.setCell (World.setCell (World.setCell W _ _) _ _) _ _=V at *
        have HRD3:Hid (Blk V g [.slice (some ⟨gb,ob,none⟩) B.length cap,.int .i64 0,.int .i64 a0]):=RD3
        clear RD3 s0 f0 T1 s1 f1 T2 s2 f2 l0 l1 l2 T0 R0 bel
        have t2:=T3.cell 2 _ rfl
        have lt3:=T3.lt
        have own0:=own_lits V [] 0 V.heap.size rfl (Nat.le_refl _) (by decide)
        have r0a:(V.alloc (.cells #[] 5)).cell? ⟨g,0,none⟩=some (.slice (some ⟨gb,ob,none⟩) B.length cap):=cell_alloc (HRD3.out.cell 0 _ rfl)
        have lga:=HRD3.out.lt
        have HBs:Hid (Bs V (.slice (some ⟨gb,ob,none⟩) B.length cap) B):=HV.out.later bel3
        have HCut:Hid (∀ ad m k,m=n→(0 < n→ad=some ⟨gb,ob + f,none⟩)→n≤k→k≤maxLen→Bs (V.alloc (.cells #[] 5)) (.slice ad m k) ((B.drop f).take n)):=fun ad m k hmn h0 hk1 hk2=>by
          subst hmn
          have el:((B.drop f).take m).length=m:=by rw [List.length_take,List.length_drop];omega
          refine ⟨ad,k,by rw [el],hk2,by rw [el];exact hk1,fun hp=>?_⟩
          rw [el] at hp ⊢
          obtain ⟨a1,k1,e1,_,_,d3⟩:=HBs.out
          obtain ⟨rfl,_,rfl⟩:some ⟨gb,ob,none⟩=a1∧B.length=B.length∧cap=k1:=by simpa using e1
          obtain ⟨b1,o1,e2,hb1,hc1⟩:=d3 (by omega)
          obtain ⟨rfl,rfl⟩:gb=b1∧ob=o1:=by simpa using e2
          refine ⟨gb,ob + f,h0 hp,by simp;omega,fun j hj=>?_⟩
          rw [List.getD_eq_getElem?_getD,List.getElem?_take,if_pos hj,List.getElem?_drop,← List.getD_eq_getElem?_getD,Nat.add_assoc]
          exact (cell_alloc (hc1 (f + j) (by omega)))
        have HLn:Hid (((B.drop f).take n).length=n):=by show _=_;rw [List.length_take,List.length_drop];omega
        obtain ⟨bd,hbd⟩:∃ bd,(B.drop f).take n=bd:=⟨_,rfl⟩
        rw [hbd] at HE HCut HLn
        clear hbd
        have y1:(0:Int)≤(f:Int):=by omega
        have y2:(f:Int)≤(st:Int):=by omega
        have y3:st≤cap:=by omega
        have y4:f≤st:=by omega
        go_upto_region 23 with (first|(at_builtin;refine wpList_append_bs (by rfl) _ _ (by rfl) V.heap.size _ 0 [] (by rfl) own0 _ bd (by rfl) (HCut.out _ _ _ (by omega) (by intro hp;try rw [if_neg (by omega)]) (by omega) (by unfold maxLen;omega)) (by rw [HLn.out];omega) (by simp) ?_;intro v5 w5 own5 hgrow hat;rw [Nat.zero_add,List.nil_append,HLn.out] at own5;have hb5:=below_own (base:=V.heap.size) (Below.refl V.heap.size (V.alloc (.cells #[] 5))) hgrow (by simp) (fun g hg=>own_geD own0 hg) (Nat.le_refl _);have T5:=(T3.alloc (.cells #[] 5)).below hb5 lt3;have t5:=T5.cell 3 _ rfl;have f5:=T5.frozen 3;have l5:=T5.lt;obtain ⟨va,vc,hv5,vk1,vk2⟩:=own_slice own5;subst hv5)|fail)
        have T6:=T5.set 3 (.slice va n vc)
        replace T6:Blk (w5.setCell ⟨w.heap.size + 1,3,none⟩ (.slice va n vc)) (w.heap.size + 1) [.int .i64 cc,.int .i64 ct,.bool false,.slice va n vc,.slice none 0 0]:=T6
        have lr3:=R3.lt
        have R6:=((R3.alloc (.cells #[] 5)).below hb5 lr3).other ⟨w.heap.size + 1,3,none⟩ (.slice va n vc) (by show w.heap.size≠w.heap.size + 1;omega)
        have bel6:=((bel3.alloc bel3.size (.cells #[] 5)).trans (hb5.mono bel3.size)).setCell (p:=⟨w.heap.size + 1,3,none⟩) (by show w.heap.size≤w.heap.size + 1;omega) (.slice va n vc)
        obtain ⟨tR,hR⟩:=R6
        have HR1:Hid _:=hR
        clear hR
        have HA:Hid (Agr (fun b=>V.heap.size≤b) w5 ((w5.setCell ⟨w.heap.size + 1,3,none⟩ (.slice va n vc)).setRow w.heap.size #[.int .i64 cc,.int .i64 ct,.bool false,.slice va n vc,.slice none 0 0])):=Agr.row (Agr.cell (Agr.refl _ _) (by show ¬ V.heap.size≤w.heap.size + 1;omega)) (by show ¬ V.heap.size≤w.heap.size;omega)
        have HO:Hid _:=own_agr own5 HA.out (fun g hg=>own_geD own5 hg)
        clear t5 f5 l5 T5 hgrow hat own5 own0 hb5 HA
        go_wp2_with (first|(refine wpList_load_run (by rfl) (by rfl) (by rfl) (T6.load Tryz.underlying41 rfl size_tlv rfl) ?_)|(refine wpList_store_row rfl 41 _ _ rfl w.heap.size _ rfl rfl tR _ HR1.out (by rw [size_tlv];rfl) rfl (by simp [Value.oneCell']) ?_)|fail)
        all_goals exact bodyPost_ret (results_row_tmp rfl _ _ w.heap.size tR #[.int .i64 cc,.int .i64 ct,.bool false,.slice va n vc,.slice none 0 0] (0,0) _ rfl (setRow_heap _ _ _ _ _ _ HR1.out) Tryz.underlying41 rfl (by rw [size_tlv];rfl)) rfl ⟨fun T z h=>(by rw [HE.out] at h;cases h;exact ⟨[.int .i64 cc,.int .i64 ct,.bool false,.slice va n vc,.slice none 0 0],rfl,leaf_own HO.out HLn.out (fun g hg=>by have:=own_geD HO.out hg;show w.heap.size≤g;omega) _ _ _,below_setRow bel6 (Nat.le_refl _) _⟩),fun c p h=>(by rw [HE.out] at h;cases h)⟩
      have g4:((xm:Int) == 1)=true:=by rw [beq_iff_eq];omega
      rw [if_pos c4] at HE
      have s0:=T0.cell 0 _ rfl
      have f0:=T0.frozen 0
      have T1:=T0.set 0 (.int .i64 cc)
      have s1:=T1.cell 1 _ rfl
      have f1:=T1.frozen 1
      have T2:=T1.set 1 (.int .i64 ct)
      have s2:=T2.cell 2 _ rfl
      have f2:=T2.frozen 2
      have T3:=T2.set 2 (.bool true)
      have l0:=T0.lt
      have l1:=T1.lt
      have l2:=T2.lt
      have R3:=((R0.other ⟨w.heap.size + 1,0,none⟩ (.int .i64 cc) (by show w.heap.size≠w.heap.size + 1;omega)).other ⟨w.heap.size + 1,1,none⟩ (.int .i64 ct) (by show w.heap.size≠w.heap.size + 1;omega)).other ⟨w.heap.size + 1,2,none⟩ (.bool true) (by show w.heap.size≠w.heap.size + 1;omega)
      have RD3:=((HRD.out.other ⟨w.heap.size + 1,0,none⟩ (.int .i64 cc) (by show g≠w.heap.size + 1;omega)).other ⟨w.heap.size + 1,1,none⟩ (.int .i64 ct) (by show g≠w.heap.size + 1;omega)).other ⟨w.heap.size + 1,2,none⟩ (.bool true) (by show g≠w.heap.size + 1;omega)
      have bel3:=((bel.setCell (p:=⟨w.heap.size + 1,0,none⟩) (by show w.heap.size≤w.heap.size + 1;omega) (.int .i64 cc)).setCell (p:=⟨w.heap.size + 1,1,none⟩) (by show w.heap.size≤w.heap.size + 1;omega) (.int .i64 ct)).setCell (p:=⟨w.heap.size + 1,2,none⟩) (by show w.heap.size≤w.heap.size + 1;omega) (.bool true)
      go_upto_region 21 with fail
      replace T3:Blk _ (w.heap.size + 1) [.int .i64 cc,.int .i64 ct,.bool true,.slice none 0 0,.slice none 0 0]:=T3
      generalize World.setCell (World.setCell (World.setCell W _ _) _ _) _ _=V at *
      have HRD3:Hid (Blk V g [.slice (some ⟨gb,ob,none⟩) B.length cap,.int .i64 0,.int .i64 a0]):=RD3
      clear RD3 s0 f0 T1 s1 f1 T2 s2 f2 l0 l1 l2 T0 R0 bel
      have t2:=T3.cell 2 _ rfl
      have lt3:=T3.lt
      have HVV:Hid (Bs V (.slice (some ⟨gb,ob,none⟩) B.length cap) B):=HV.out.later bel3
      go_wp2_with fail
      go_loopw [14] (fun nv wx=>∃ (y k:Nat) (acc:List Tl) (kv:Value) (xs:List Value),y≤st∧nv=.int .i64 (y:Int)∧Hid (kidsP (elemP B d) st n f []=kidsP (elemP B d) st k y acc)∧st≤y + k∧2 * acc.length≤y∧wx.ownsRow (w.heap.size + 2) 41 5 kv acc.length xs∧Hid (∀ i t,acc[i]?=some t→Dep (fun b=>w.heap.size + 2≤b∧kv.ownBlock≠some b) wx t ((xs.drop (5 * i)).take 5))∧Blk wx (w.heap.size + 1) [.int .i64 cc,.int .i64 ct,.bool true,.slice none 0 0,kv]∧Blk wx w.heap.size [.int .i64 0,.int .i64 0,.bool false,.slice none 0 0,.slice none 0 0]∧Hid (Blk wx g [.slice (some ⟨gb,ob,none⟩) B.length cap,.int .i64 0,.int .i64 a0])∧Below w.heap.size w wx∧w.heap.size + 2≤wx.heap.size) (fun nv _=>st - (intOf nv).toNat)
      case atStart=>exact ⟨f,n,[],.slice none 0 0,[],by omega,rfl,rfl,by omega,by simp,⟨rfl,.inl ⟨rfl,rfl⟩⟩,fun i t h=>by simp at h,T3,R3,HRD3,bel3,by omega⟩
      case round =>
        clear T3 R3 HRD3 bel3 t2 lt3 HVV
        obtain ⟨y,k,acc,kv,xs,hy,rfl,HK,hyk,hac,own,HD,T3,R3,HRD3,bel3,hs2⟩:=hrel
        have HKV:Hid (∃ va vc,kv=.slice va acc.length vc):=by rcases own.2 with ⟨h,h'⟩|⟨_,_,_,h,_⟩;exact ⟨none,0,by rw [h,h']⟩;exact ⟨_,_,h⟩
        by_cases hyl:y < st
        · have g5:(y:Int) < (st:Int):=by omega
          obtain ⟨k',rfl⟩:∃ k',k=k' + 1:=⟨k - 1,by omega⟩
          go_wp2_with fail
          refine (IH y st a0 wr (by omega) (by omega) (by omega) HRD3.out (HV.out.later bel3)).mono ?_
          rintro e w1 ⟨hok,hbad⟩
          cases hep:elemP B d y st with
          | error q =>
            obtain ⟨c,p⟩:=q
            obtain ⟨cs,l5,o5,rfl,hr⟩:=hbad c p hep
            clear hok hbad
            have hcb:=elemP_bad hep
            have H:Hid (elemP B (d + 1) a en=.error (c,p)):=by show _=_;rw [HE.out,HK.out,kidsP,if_pos hyl,hep]
            clear hep HE HK own HD
            have gc:¬ (c:Int)=0:=by omega
            have HO5:Hid (OneC cs):=o5
            have HS5:Hid (cs.toArray.size=5):=by show _=_;rw [List.size_toArray];exact l5
            have T1:=hr.2.1 _ _ (by omega) T3
            have R1:=hr.2.1 _ _ (by omega) R3
            have HRd:Hid (RdB w w1 g _):=RdB.before lg bel3 hr
            have hz:=zero_tlv.out
            have rc:=hr.1.cell 1 _ rfl
            have lc:=hr.1.lt
            have rc2:=cell_alloc (o:=.cells cs.toArray 41) rc
            clear o5 l5 hr
            go_upto_region 27 with (first|(refine wpList_store_row rfl 41 _ _ rfl w1.heap.size cs.toArray rfl rfl 41 _ (heap_alloc_last _ _) (by rw [size_tlv,HS5.out]) (by rw [HS5.out];rfl) HO5.out ?_;rw [World.setRow_alloc_new])|fail)
            clear hz
            replace T1:=T1.alloc (.cells cs.toArray 41)
            replace R1:=R1.alloc (.cells cs.toArray 41)
            replace HRd:Hid (RdB w (w1.alloc (.cells cs.toArray 41)) g _):=RdB.more HRd.out _
            generalize w1.alloc (.cells cs.toArray 41)=w2 at *
            obtain ⟨tR,hR⟩:=R1
            have HR1:Hid _:=hR
            clear hR
            have lc2:=HRd.out.1.lt
            obtain ⟨va,vc,hkv⟩:∃ va vc,kv=.slice va acc.length vc:=HKV.out
            subst hkv
            go_wp2_with (first|(refine wpList_load_run (by rfl) (by rfl) (by rfl) (T1.load Tryz.underlying41 rfl size_tlv rfl) ?_)|(refine wpList_store_row rfl 41 _ _ rfl w.heap.size _ rfl rfl tR _ HR1.out (by rw [size_tlv];rfl) rfl (by simp [Value.oneCell']) ?_)|fail)
            exact bodyPost_ret (results_row_tmp rfl _ _ w.heap.size tR #[.int .i64 cc,.int .i64 ct,.bool true,.slice none 0 0,.slice va acc.length vc] (0,0) _ rfl (setRow_heap _ _ _ _ _ _ HR1.out) Tryz.underlying41 rfl (by rw [size_tlv];rfl)) rfl ⟨fun T z h=>(by rw [H.out] at h;cases h),fun c p h=>(by rw [H.out] at h;cases h;exact ⟨[.int .i64 cc,.int .i64 ct,.bool true,.slice none 0 0,.slice va acc.length vc],rfl,(by simp [OneC,Value.oneCell']),rfl,RdB.row lg (Nat.le_refl _) HRd.out⟩)⟩
          | ok q =>
            obtain ⟨T,z⟩:=q
            obtain ⟨cs,rfl,hdep,hb⟩:=hok T z hep
            clear hok hbad
            have heo:=elem_ok HB.out d y st T z (by omega) hep
            have hb2:=bytesT_two T
            have hz1:y + 2≤z:=by have:=heo.1.1;omega
            have hz2:z≤st:=heo.2
            clear heo hb2
            have HK2:Hid (kidsP (elemP B d) st n f []=kidsP (elemP B d) st k' z (acc++[T])):=by show _=_;rw [HK.out,kidsP,if_pos hyl,hep]
            clear hep HK
            have HO5:Hid (OneC cs):=hdep.now.ones
            have l5:=hdep.now.five
            have HL5:Hid (cs.length=5):=l5
            have HS5:Hid (cs.toArray.size=5):=by show _=_;rw [List.size_toArray];exact l5
            have HDp:Hid _:=hdep
            have HOw:Hid _:=own
            have HBw:Hid _:=hb
            have T1:=(T3.later hb).alloc (.cells cs.toArray 41)
            have R1:=(R3.later hb).alloc (.cells cs.toArray 41)
            have RD1:=(HRD3.out.later hb).alloc (.cells cs.toArray 41)
            have bel1:=below_alloc (o:=.cells cs.toArray 41) (below_stepD bel3 hb)
            have KB:=Blk.new w1 cs 41 w1.heap.size rfl
            have own1:=own_agr (S:=fun _=>True) own (Agr.below (hb.trans (((Below.refl _ _).alloc (Nat.le_refl _) (.cells cs.toArray 41)).mono hb.size))) (fun _ _=>trivial)
            have HB2:Hid (Below w1.heap.size w1 (w1.alloc (.cells cs.toArray 41))):=(Below.refl _ _).alloc (Nat.le_refl _) _
            have hz:=zero_tlv.out
            have hs1:=hb.size
            clear hb own hdep T3 R3 HRD3 bel3
            go_upto_region 27 with (first|(refine wpList_store_row rfl 41 _ _ rfl w1.heap.size cs.toArray rfl rfl 41 _ (heap_alloc_last _ _) (by rw [size_tlv,HS5.out]) (by rw [HS5.out];rfl) HO5.out ?_;rw [World.setRow_alloc_new])|fail)
            clear hz
            obtain ⟨g1,hg1⟩:∃ g1,g1=w1.heap.size:=⟨_,rfl⟩
            rw [← hg1] at KB hs1
            generalize w1.alloc (.cells cs.toArray 41)=w2 at *
            rw [← hg1]
            clear hg1
            have r1:=RD1.cell 1 _ rfl
            have lr:=RD1.lt
            have lT:=T1.lt
            have lR:=R1.lt
            have t4:=T1.cell 4 _ rfl
            have HRD1:Hid (Blk w2 g [.slice (some ⟨gb,ob,none⟩) B.length cap,.int .i64 0,.int .i64 a0]):=RD1
            clear RD1
            go_upto_region 29 with fail
            have HF:Hid _:=fill_5 HL5.out
            have NB:=Blk.new w2 cs 41 w2.heap.size rfl
            have HNews:Hid (∀ j u,cs[j]?=some u→(w2.alloc (.cells cs.toArray 41)).cell? ((⟨w2.heap.size,0,none⟩:Addr).add j)=some u):=fun j u hu=>by
              have e:(⟨w2.heap.size,0,none⟩:Addr).add j=⟨w2.heap.size,j,none⟩:=by unfold Addr.add;split<;>simp_all
              rw [e]
              exact NB.cell j u hu
            clear NB
            have HO1:Hid (∀ u∈cs,u.oneCell'=true):=by have:=HO5.out;unfold OneC at this;rw [Array.all_eq_true_iff_forall_mem] at this;exact fun u hu=>this u (by simpa using hu)
            have hkvs:=own1.2
            have HSz:Hid (w.heap.size + 2≤w2.heap.size):=by show _≤_;omega
            have HS3:Hid (Below w1.heap.size w1 (w2.alloc (.cells cs.toArray 41))):=HB2.out.alloc HB2.out.size _
            have lk1:=KB.lt
            clear hkvs
            go_upto_region 30 with (first
              | (refine wpList_load_run (by rfl) (by rfl) (by rfl) (KB.load Tryz.underlying41 rfl size_tlv HL5.out) ?_;refine Go.wpList_buildSlice rfl 39 41 1 _ rfl cs.toArray j0 _ Tryz.underlying39 hj0 hy0 (by rw [hy1];decide) (by rw [hy1];decide) (by rw [hy1];refine (congrArg _ (?_:_=[(0,Value.agg cs.toArray)])).trans HF.out;kernel_rfl) ?_)
              | (at_builtin;refine wpList_append_lies _ (by rfl) _ _ _ (by rfl) (w.heap.size + 2) 41 j0 _ 5 72 Tryz.underlying39 hj0 hy0 hy1 hy2 rfl (by omega) kv acc.length xs (by rfl) (own1.alloc _) ⟨w2.heap.size,0,none⟩ 1 1 cs (by rfl) HL5.out HNews.out HO1.out (by omega) (by unfold maxLen;omega) (by omega) (by simp;omega) (w2.heap.size + 1) (by simp) ?_;intro gg cap1 wz hownz hgrow hat hltz;have T9:=(T1.alloc (.cells cs.toArray 41)).grown hgrow (fun k hk=>by have:=(own_geK own1 hk).1;omega);have t9:=T9.cell 4 _ rfl;have f9:=T9.frozen 4;have l9:=T9.lt)
              | fail)
            have T10:=T9.set 4 (.slice (some ⟨gg,0,none⟩) (acc.length + 1) cap1)
            replace T10:Blk (wz.setCell ⟨w.heap.size + 1,4,none⟩ (.slice (some ⟨gg,0,none⟩) (acc.length + 1) cap1)) (w.heap.size + 1) [.int .i64 cc,.int .i64 ct,.bool true,.slice none 0 0,.slice (some ⟨gg,0,none⟩) (acc.length + 1) cap1]:=T10
            have R10:=((R1.alloc (.cells cs.toArray 41)).grown hgrow (fun k hk=>by have:=(own_geK own1 hk).1;omega)).other ⟨w.heap.size + 1,4,none⟩ (.slice (some ⟨gg,0,none⟩) (acc.length + 1) cap1) (by show w.heap.size≠w.heap.size + 1;omega)
            have HRD10:Hid (Blk (wz.setCell ⟨w.heap.size + 1,4,none⟩ (.slice (some ⟨gg,0,none⟩) (acc.length + 1) cap1)) g [.slice (some ⟨gb,ob,none⟩) B.length cap,.int .i64 0,.int .i64 a0]):=((HRD1.out.alloc (.cells cs.toArray 41)).grown hgrow (fun k hk=>by have:=(own_geK own1 hk).1;omega)).other ⟨w.heap.size + 1,4,none⟩ (.slice (some ⟨gg,0,none⟩) (acc.length + 1) cap1) (by show g≠w.heap.size + 1;omega)
            have bel10:=(Below.grown (bel1.alloc bel1.size (.cells cs.toArray 41)) hgrow (by simp;omega) (fun k hk=>by have:=(own_geK own1 hk).1;omega)).setCell (p:=⟨w.heap.size + 1,4,none⟩) (by show w.heap.size≤w.heap.size + 1;omega) (.slice (some ⟨gg,0,none⟩) (acc.length + 1) cap1)
            have hst4:=kids_step (gt:=w.heap.size + 1) (j:=4) (u:=.slice (some ⟨gg,0,none⟩) (acc.length + 1) cap1) HOw.out HD.out HBw.out HDp.out HL5.out HS3.out hgrow (by rcases hat with h|h;exact .inl h;exact .inr (by rw [h];simp)) (by omega) hs2 hownz
            have hsz10:=hgrow.size
            have Hz10:Hid (w.heap.size + 2≤(wz.setCell ⟨w.heap.size + 1,4,none⟩ (.slice (some ⟨gg,0,none⟩) (acc.length + 1) cap1)).heap.size):=by show _≤_;have:=HSz.out;simp at hsz10 ⊢;omega
            have HST:Hid _:=hst4
            clear hst4 T9 t9 f9 l9 hgrow hownz hat hltz hsz10 R1 T1 bel1 own1 KB
            generalize World.setCell wz _ _=w4 at *
            go_wp2_with fail
            go_roundw
            case rel=>exact ⟨z,k',acc++[T],_,xs++cs,hz2,rfl,HK2,by omega,by rw [List.length_append];simp;omega,HST.out.1,HST.out.2,T10,R10,HRD10,bel10,Hz10.out⟩
            case measure=>simp [intOf];omega
        · have g5:¬ (y:Int) < (st:Int):=by omega
          have HY:Hid (y=st):=by show y=st;omega
          have H:Hid (elemP B (d + 1) a en=.ok (.mk cc ct true [] acc,y)):=by
            have e:kidsP (elemP B d) st k y acc=.ok (acc,y):=by
              cases k with
              | zero=>rw [kidsP]
              | succ k=>rw [kidsP,if_neg hyl]
            show _=_
            rw [HE.out,HK.out,e]
          clear HE HK
          have HA:Hid (Agr (fun b=>w.heap.size + 2≤b) wr (wr.setRow w.heap.size #[.int .i64 cc,.int .i64 ct,.bool true,.slice none 0 0,kv])):=Agr.row (Agr.refl _ _) (by show ¬ w.heap.size + 2≤w.heap.size;omega)
          have HO:Hid _:=own_agr own HA.out (fun g hg=>(own_geK own hg).1)
          have HD2:Hid (∀ i t,acc[i]?=some t→Dep (fun b=>w.heap.size + 2≤b∧kv.ownBlock≠some b) (wr.setRow w.heap.size #[.int .i64 cc,.int .i64 ct,.bool true,.slice none 0 0,kv]) t ((xs.drop (5 * i)).take 5)):=fun i t h=>(HD.out i t h).next (Agr.row (Agr.refl _ _) (by show ¬ (w.heap.size + 2≤w.heap.size∧_);omega)) (fun b hb _=>hb)
          have HG:Hid (∀ g,kv.ownBlock=some g→w.heap.size≤g):=fun g hg=>by have:=(own_geK own hg).1;omega
          clear own HD HA
          obtain ⟨va,vc,hkv⟩:∃ va vc,kv=.slice va acc.length vc:=HKV.out
          subst hkv
          obtain ⟨tR,hR⟩:=R3
          have HR1:Hid _:=hR
          clear hR
          go_wp2_with (first|(refine wpList_load_run (by rfl) (by rfl) (by rfl) (T3.load Tryz.underlying41 rfl size_tlv rfl) ?_)|(refine wpList_store_row rfl 41 _ _ rfl w.heap.size _ rfl rfl tR _ HR1.out (by rw [size_tlv];rfl) rfl (by simp [Value.oneCell']) ?_)|fail)
          all_goals exact bodyPost_ret (results_row_tmp rfl _ _ w.heap.size tR #[.int .i64 cc,.int .i64 ct,.bool true,.slice none 0 0,.slice va acc.length vc] (0,0) _ rfl (setRow_heap _ _ _ _ _ _ HR1.out) Tryz.underlying41 rfl (by rw [size_tlv];rfl)) rfl ⟨fun T z h=>(by rw [H.out] at h;cases h;exact ⟨[.int .i64 cc,.int .i64 ct,.bool true,.slice none 0 0,.slice va acc.length vc],rfl,kids_own HO.out HD2.out _ _ _ (fun b hb=>by have:=hb.1;omega) HG.out,below_setRow bel3 (Nat.le_refl _) _⟩),fun c p h=>(by rw [H.out] at h;cases h)⟩
end Go.Proofs.YtnkipgbnnhahbaaGreatDoor
