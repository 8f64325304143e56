/- The document's reader: what is amiss set down, and lengths. -/
import Derived.Test.YtnkipgbnnhahbaaDoorDrDep
import Derived.Test.YtnkipgbnnhahbaaDoorDrPar
import Derived.Test.YtnkipgbnnhahbaaDoorCPt
import Derived.Test.YtnkipgbnnhahbaaDoorRows
import Derived.Deep.WholeRow
import Derived.Deep.RegionHeld3
import Derived.Deep.DeepCutAuto
import Derived.Deep.DeepFit
namespace Go.Proofs.YtnkipgbnnhahbaaDoor
open Go.RowKit
theorem beV_lt {B:List Int} (b:byt B) (o:Nat):∀ k,beV B o k < 256 ^ k
 | 0=>by simp [beV]
 | k + 1=>by
  have:=beV_lt b o k
  have:=b (o + k)
  rw [beV,Nat.pow_succ]
  omega
set_option maxRecDepth 100000 in
theorem r12_fail {g:Nat} {bv x y:Value} {c p:Int} {w:World} (R:Blk w g [bv,x,y]) :
  Calls Tryd.prog 23 #[.pointer (some ⟨g,0,none⟩),.int .i64 c,.int .i64 p] w fun e w'=>e=.returned (.tuple #[])∧RdB w w' g [bv,.int .i64 c,.int .i64 p]:=by
 have r1:=RdB.cell (k:=1) R (.int .i64 c)
 have r2:=r1.self (RdB.cell (k:=2) r1.1 (.int .i64 p))
 have c1:=R.cell 1 _ rfl
 have f1:=R.frozen 1
 have c2:=r1.1.cell 2 _ rfl
 have f2:=r1.1.frozen 2
 have l1:=R.lt
 have l2:=r1.1.lt
 have HR:Hid _:=r2
 clear r1 r2 R
 go_enter Tryd.func23,Tryd.ntmps23
 go_wp2_with fail
 exact bodyPost_end (v:=.tuple #[]) (by simp [results,Tryd.results23,go_sem]) rfl ⟨rfl,HR.out⟩
set_option linter.unusedSimpArgs false in
set_option maxRecDepth 100000 in
set_option maxHeartbeats 1000000 in
theorem r12_length {g a en:Nat} {bv:Value} {a0:Int} {B:List Int} {w:World} (R:Blk w g [bv,.int .i64 0,.int .i64 a0]) (hv:Bs w bv B) (b:byt B) (he:en≤B.length) (hl:B.length≤1048576) (ha:a≤1048577) :
  Calls Tryd.prog 24 #[.pointer (some ⟨g,0,none⟩),.int .i64 (a:Int),.int .i64 (en:Int)] w fun e w'=>(∀ n f,lenP B a en=.ok (n,f)→e=.returned (.tuple #[.int .i64 (n:Int),.int .i64 (f:Int)])∧w'=w)∧(∀ c p,lenP B a en=.error (c,p)→e=.returned (.tuple #[.int .i64 0,.int .i64 0])∧RdB w w' g [bv,.int .i64 (c:Int),.int .i64 (p:Int)]):=by
 have HB:Hid (byt B):=b
 have HE:Hid (lenP B a en=lenP B a en):=rfl
 have HR:Hid (Blk w g [bv,.int .i64 0,.int .i64 a0]):=R
 have r0:=R.cell 0 _ rfl
 have rl:=R.lt
 clear R b
 obtain ⟨ao,cap,rfl,h1,h2,h3⟩:=hv
 unfold maxLen at h1
 by_cases c1:en≤a
 ·have H:Hid (lenP B a en=.error (6,a)):=by show _=_;unfold lenP;rw [if_pos c1]
  have g1:(en:Int)≤(a:Int):=by omega
  clear h3
  go_enter Tryd.func24,Tryd.ntmps24
  go_wp2_with fail
  refine (r12_fail HR.out).mono ?_
  rintro e w1 ⟨rfl,hr⟩
  go_wp2_with fail
  refine bodyPost_ret (results_tmp2 rfl _ _ _) rfl ?_
  exact ⟨fun n f h=>(by rw [H.out] at h;cases h),fun c p h=>by rw [H.out] at h;cases h;exact ⟨rfl,hr⟩⟩
 have g1:¬ (en:Int)≤(a:Int):=by omega
 have g1b:(a:Int) < ((B.length:Nat):Int):=by omega
 have g1c:(0:Int)≤(a:Int):=by omega
 obtain ⟨gb,ob,rfl,hb0,hc0⟩:=h3 (by omega)
 have HC:Hid _:=hc0
 clear h3 hc0
 have ca:=HC.out a (by omega)
 rw [byN_int HB.out] at ca
 have xa:=byN_lt HB.out a
 have HL:Hid (lenP B a en=if byN B a < 128 then .ok (byN B a,a + 1) else if byN B a=128∨131 < byN B a then .error (7,a) else if en < a + 1 + (byN B a - 128) then .error (6,a) else if byN B (a + 1)=0∨beV B (a + 1) (byN B a - 128) < 128 then .error (7,a) else .ok (beV B (a + 1) (byN B a - 128),a + 1 + (byN B a - 128))):=by
  show _=_
  unfold lenP
  rw [if_neg c1]
 obtain ⟨x,hx⟩:∃ x,byN B a=x:=⟨_,rfl⟩
 rw [hx] at ca xa HL
 clear hx
 have w1:IntKind.i64.wrap (x:Int)=(x:Int):=by rw [IntKind.wrap_i64];omega
 have w2:IntKind.i64.wrap ((a:Int) + 1)=(a:Int) + 1:=by rw [IntKind.wrap_i64];omega
 by_cases c2:x < 128
 ·have H:Hid (lenP B a en=.ok (x,a + 1)):=by show _=_;rw [HL.out,if_pos c2]
  have g2:(x:Int) < 128:=by omega
  go_enter Tryd.func24,Tryd.ntmps24
  go_wp2_with fail
  refine bodyPost_ret (results_tmp2 rfl _ _ _) rfl ?_
  exact ⟨fun n f h=>by rw [H.out] at h;cases h;exact ⟨rfl,rfl⟩,fun c p h=>by rw [H.out] at h;cases h⟩
 have g2:¬ (x:Int) < 128:=by omega
 by_cases c3:x=128∨131 < x
 ·have H:Hid (lenP B a en=.error (7,a)):=by show _=_;rw [HL.out,if_neg c2,if_pos c3]
  by_cases c4:x=128
  ·have g3:(x:Int)=128:=by omega
   go_enter Tryd.func24,Tryd.ntmps24
   go_wp2_with fail
   refine (r12_fail HR.out).mono ?_
   rintro e w1 ⟨rfl,hr⟩
   go_wp2_with fail
   refine bodyPost_ret (results_tmp2 rfl _ _ _) rfl ?_
   exact ⟨fun n f h=>(by rw [H.out] at h;cases h),fun c p h=>by rw [H.out] at h;cases h;exact ⟨rfl,hr⟩⟩
  ·have g3:¬ (x:Int)=128:=by omega
   have g4:(131:Int) < (x:Int):=by omega
   go_enter Tryd.func24,Tryd.ntmps24
   go_wp2_with fail
   refine (r12_fail HR.out).mono ?_
   rintro e w1 ⟨rfl,hr⟩
   go_wp2_with fail
   refine bodyPost_ret (results_tmp2 rfl _ _ _) rfl ?_
   exact ⟨fun n f h=>(by rw [H.out] at h;cases h),fun c p h=>by rw [H.out] at h;cases h;exact ⟨rfl,hr⟩⟩
 have g3:¬ (x:Int)=128:=by omega
 have g4:¬ (131:Int) < (x:Int):=by omega
 obtain ⟨m,hm⟩:∃ m,x - 128=m:=⟨_,rfl⟩
 have hm3:1≤m∧m≤3:=by omega
 have w3:IntKind.i64.wrap ((x:Int) - 128)=(m:Int):=by rw [IntKind.wrap_i64];omega
 have w4:IntKind.i64.wrap ((a:Int) + 1 + (m:Int))=(a:Int) + 1 + (m:Int):=by rw [IntKind.wrap_i64];omega
 rw [hm,if_neg c2,if_neg c3] at HL
 clear c2 c3 hm
 by_cases c5:en < a + 1 + m
 ·have H:Hid (lenP B a en=.error (6,a)):=by show _=_;rw [HL.out,if_pos c5]
  have g5:(en:Int) < (a:Int) + 1 + (m:Int):=by omega
  go_enter Tryd.func24,Tryd.ntmps24
  go_wp2_with fail
  refine (r12_fail HR.out).mono ?_
  rintro e w1 ⟨rfl,hr⟩
  go_wp2_with fail
  refine bodyPost_ret (results_tmp2 rfl _ _ _) rfl ?_
  exact ⟨fun n f h=>(by rw [H.out] at h;cases h),fun c p h=>by rw [H.out] at h;cases h;exact ⟨rfl,hr⟩⟩
 have g5:¬ (en:Int) < (a:Int) + 1 + (m:Int):=by omega
 replace HL:Hid (lenP B a en=if byN B (a + 1)=0∨beV B (a + 1) m < 128 then .error (7,a) else .ok (beV B (a + 1) m,a + 1 + m)):=by show _=_;rw [HL.out,if_neg c5]
 clear HE
 go_enter Tryd.func24,Tryd.ntmps24
 go_wp2_with fail
 go_loop [10,11] (fun vv iv=>∃ i:Nat,i≤m∧iv=.int .i64 ((i:Int) + 1)∧vv=.int .i64 ((beV B (a + 1) i:Nat):Int)) (fun _ iv=>5 - (intOf iv).toNat)
 case atStart=>exact ⟨0,by omega,rfl,rfl⟩
 case round =>
  obtain ⟨i,hi,rfl,rfl⟩:=hrel
  have bi:=beV_lt HB.out (a + 1) i
  have pw:256 ^ i≤256 ^ 3:=Nat.pow_le_pow_right (by decide) (by omega)
  have e3:(256:Nat) ^ 3=16777216:=by decide
  by_cases hil:i < m
  ·have g6:(i:Int) + 1≤(m:Int):=by omega
   have ci:=HC.out (a + 1 + i) (by omega)
   rw [byN_int HB.out] at ci
   have yi:=byN_lt HB.out (a + 1 + i)
   have HN:Hid (beV B (a + 1) (i + 1)=256 * beV B (a + 1) i + byN B (a + 1 + i)):=rfl
   obtain ⟨y,hy⟩:∃ y,byN B (a + 1 + i)=y:=⟨_,rfl⟩
   obtain ⟨v,hvv⟩:∃ v,beV B (a + 1) i=v:=⟨_,rfl⟩
   rw [hy] at ci yi HN
   rw [hvv] at bi HN ⊢
   clear hy hvv
   obtain ⟨n,hn⟩:∃ n,a + 1 + i=n:=⟨_,rfl⟩
   rw [hn] at ci
   have w5:IntKind.i64.wrap (256 * (v:Int))=256 * (v:Int):=by rw [IntKind.wrap_i64];omega
   have w6:IntKind.i64.wrap (y:Int)=(y:Int):=by rw [IntKind.wrap_i64];omega
   have w7:IntKind.i64.wrap (256 * (v:Int) + (y:Int))=256 * (v:Int) + (y:Int):=by rw [IntKind.wrap_i64];omega
   have w8:IntKind.i64.wrap ((a:Int) + ((i:Int) + 1))=(n:Int):=by rw [IntKind.wrap_i64];omega
   have w9:IntKind.i64.wrap ((i:Int) + 1 + 1)=(i:Int) + 1 + 1:=by rw [IntKind.wrap_i64];omega
   have g7:(n:Int) < ((B.length:Nat):Int):=by omega
   have g8:(0:Int)≤(n:Int):=by omega
   clear pw e3 bi
   go_wp2_with fail
   go_round
   case rel=>exact ⟨i + 1,by omega,by go_num,by rw [HN.out];rfl⟩
   case measure=>simp [intOf];omega
  ·have HI:Hid (i=m):=by show i=m;omega
   have g6:¬ (i:Int) + 1≤(m:Int):=by omega
   have c1x:=HC.out (a + 1) (by omega)
   rw [byN_int HB.out] at c1x
   have y1:=byN_lt HB.out (a + 1)
   obtain ⟨y,hy⟩:∃ y,byN B (a + 1)=y:=⟨_,rfl⟩
   obtain ⟨v,hvv⟩:∃ v,beV B (a + 1) i=v:=⟨_,rfl⟩
   have HLv:Hid (lenP B a en=if y=0∨v < 128 then .error (7,a) else .ok (v,a + 1 + m)):=by show _=_;rw [HL.out,hy,← HI.out,hvv]
   rw [hy] at c1x y1
   rw [hvv] at bi ⊢
   clear hy hvv pw
   obtain ⟨n,hn⟩:∃ n,a + 1=n:=⟨_,rfl⟩
   rw [hn] at c1x
   have w8:IntKind.i64.wrap ((a:Int) + 1)=(n:Int):=by rw [IntKind.wrap_i64];omega
   have g7:(n:Int) < ((B.length:Nat):Int):=by omega
   have g8:(0:Int)≤(n:Int):=by omega
   have en1:(a:Int) + 1=(n:Int):=by omega
   rw [en1] at w2 w4 g5
   by_cases c6:y=0
   ·have H:Hid (lenP B a en=.error (7,a)):=by show _=_;rw [HLv.out,if_pos (.inl c6)]
    have g9:(y:Int)=0:=by omega
    go_wp2_with fail
    refine (r12_fail HR.out).mono ?_
    rintro e w1 ⟨rfl,hr⟩
    go_wp2_with fail
    refine bodyPost_ret (results_tmp2 rfl _ _ _) rfl ?_
    exact ⟨fun n f h=>(by rw [H.out] at h;cases h),fun c p h=>by rw [H.out] at h;cases h;exact ⟨rfl,hr⟩⟩
   ·have g9:¬ (y:Int)=0:=by omega
    by_cases c7:v < 128
    ·have H:Hid (lenP B a en=.error (7,a)):=by show _=_;rw [HLv.out,if_pos (.inr c7)]
     have g10:(v:Int) < 128:=by omega
     go_wp2_with fail
     refine (r12_fail HR.out).mono ?_
     rintro e w1 ⟨rfl,hr⟩
     go_wp2_with fail
     refine bodyPost_ret (results_tmp2 rfl _ _ _) rfl ?_
     exact ⟨fun n f h=>(by rw [H.out] at h;cases h),fun c p h=>by rw [H.out] at h;cases h;exact ⟨rfl,hr⟩⟩
    ·have g10:¬ (v:Int) < 128:=by omega
     have H:Hid (lenP B a en=.ok (v,a + 1 + m)):=by show _=_;rw [HLv.out,if_neg (by omega)]
     have HV:Hid ((n:Int) + (m:Int)=((a + 1 + m:Nat):Int)):=by show _=_;omega
     go_wp2_with fail
     refine bodyPost_ret (results_tmp2 rfl _ _ _) rfl ?_
     exact ⟨fun n f h=>by rw [H.out] at h;cases h;exact ⟨by rw [← HV.out];rfl,rfl⟩,fun c p h=>by rw [H.out] at h;cases h⟩
end Go.Proofs.YtnkipgbnnhahbaaDoor
