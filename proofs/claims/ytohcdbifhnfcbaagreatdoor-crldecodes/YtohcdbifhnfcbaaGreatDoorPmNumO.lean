import Derived.Test.YtohcdbifhnfcbaaGreatDoorPmNG
import Derived.Test.YtohcdbifhnfcbaaGreatDoorRows
import Derived.Deep.OwnRows
import Derived.Deep.AppendLies
import Derived.Deep.WholeRow
import Derived.Deep.RegionHeld3
import Derived.Deep.DeepCutAuto
import Derived.Deep.DeepFit
namespace Go.Proofs.YtohcdbifhnfcbaaGreatDoor
open Go.RowKit
set_option linter.unusedSimpArgs false in
set_option maxRecDepth 100000 in
set_option maxHeartbeats 2000000 in
theorem ZiH {v:Value} {B:List Int} {w:World} (hv:Bs w v B) (b:byt B) (hl:B.length≤140737488355328) :
  Calls Tryz.prog 114 #[v] w fun e w'=>(∀ n,Zbi B=.ok n→∃ v':Value,e=.returned (.tuple #[v',.int .i64 0])∧Bs w' v' n∧Zbg w v'∧Below w.heap.size w w')∧(∀ c,Zbi B=.error c→e=.returned (.tuple #[.slice none 0 0,.int .i64 (c:Int)])∧Below w.heap.size w w'):=by
 have HV:Hid (Bs w v B):=hv;have HB:Hid (byt B):=b;obtain ⟨ao,cap,rfl,h1,h2,h3⟩:=hv;unfold maxLen at h1;clear b
 by_cases c0:B.length=0
 ·have H:Hid (Zbi B=.error 7):=by show _=_;unfold Zbi;rw[if_pos (.inl c0)]
  have g0:((B.length:Nat):Int)=0:=by omega
  clear h3;go_enter Tryz.func114,Tryz.ntmps114;go_wp2_with fail;refine bodyPost_ret (results_tmp2 rfl _ _ _) rfl ?_;exact ⟨fun n h=>(by rw[H.out] at h;cases h),fun c h=>(by rw[H.out] at h;cases h;exact ⟨rfl,Below.refl _ _⟩)⟩
 have g0:¬ ((B.length:Nat):Int)=0:=by omega
 have hne:¬ B=[]:=fun h=>c0 (by rw[h];rfl);obtain ⟨gb,ob,rfl,hb0,hc0⟩:=h3 (by omega);have HC:Hid _:=hc0;clear h3 hc0;have x0:=HC.out 0 (by omega);have y0:=HB.out 0;rw[Nat.add_zero] at x0;have gp:(0:Int)<((B.length:Nat):Int):=by omega
 obtain⟨p,hp⟩:∃ p,B.getD 0 0=p:=⟨_,rfl⟩;rw[hp] at x0 y0
 by_cases c1:127<p
 ·have H:Hid (Zbi B=.error 7):=by show _=_;unfold Zbi;rw[if_pos (.inr (.inl (by rw[hp];exact c1)))]
  go_enter Tryz.func114,Tryz.ntmps114;go_wp2_with fail;refine bodyPost_ret (results_tmp2 rfl _ _ _) rfl ?_;exact ⟨fun n h=>(by rw[H.out] at h;cases h),fun c h=>(by rw[H.out] at h;cases h;exact ⟨rfl,Below.refl _ _⟩)⟩
 by_cases c2:1<B.length∧p=0∧B.getD 1 0<128
 ·have H:Hid (Zbi B=.error 7):=by show _=_;unfold Zbi;rw[hp,if_pos (.inr (.inr c2))]
  have x1:=HC.out 1 (by omega);have g1:(1:Int)<((B.length:Nat):Int):=by omega
  obtain⟨q,hq⟩:∃ q,B.getD 1 0=q:=⟨_,rfl⟩;rw[hq] at x1 c2;obtain ⟨_,c2a,c2b⟩:=c2;go_enter Tryz.func114,Tryz.ntmps114;go_wp2_with fail;refine bodyPost_ret (results_tmp2 rfl _ _ _) rfl ?_;exact ⟨fun n h=>(by rw[H.out] at h;cases h),fun c h=>(by rw[H.out] at h;cases h;exact ⟨rfl,Below.refl _ _⟩)⟩
 have HN:Hid (Zbi B=if 64<(if p=0 then B.drop 1 else B).length then .error 2 else .ok (if p=0 then B.drop 1 else B)):=by
  show _=_;unfold Zbi;rw[hp,if_neg (by rintro (h|h|h);exact c0 h;exact c1 h;exact c2 h)]
 have own0:=ZcE w;have hbl:=bal w (.cells #[] 5);have bsb:=HV.out.later hbl;have HP0:Hid (B.getD 0 0=p):=hp;have HX1:Hid (∀ q,1<B.length→B.getD 1 0=q→w.cell? ⟨gb,ob+1,none⟩=some (.int .u8 q)):=fun q h hq=>by rw[HC.out 1 h,hq]
 have step:∀ (P:Prop),((¬ (1:Int)<((B.length:Nat):Int))→P)→((1:Int)<((B.length:Nat):Int)→¬ p=0→P)→((1:Int)<((B.length:Nat):Int)→p=0→∀ q:Int,w.cell? ⟨gb,ob+1,none⟩=some (.int .u8 q)→¬ q<128→P)→P:=fun P f1 f2 f3=>by
  by_cases k1:1<B.length
  ·by_cases k2:p=0
   ·exact f3 (by omega) k2 _ (HX1.out _ k1 rfl) (fun h=>c2 ⟨k1,k2,h⟩)
   ·exact f2 (by omega) k2
  ·exact f1 (by omega)
 clear c0 c2 hp HX1;go_enter Tryz.func114,Tryz.ntmps114;refine step _ (fun k1=>?_) (fun k1 k2=>?_) (fun k1 k2 q x1 k3=>?_)
 ·clear step
  go_upto_region 4 with (first|(at_builtin;refine Zad (by rfl) _ _ (by rfl) w.heap.size _ 0 [] (by rfl) own0 _ B (by rfl) bsb (by omega) (by simp) ?_;intro v3 w3 own3 hgrow hat)|fail);rw[Nat.zero_add,List.nil_append] at own3;have bel:=Zag (base:=w.heap.size) hbl hgrow (by simp) (fun g hg=>Zao own0 hg) (Nat.le_refl _);have bs3:=Bs.of_own own3;have n3:Zbg w v3:=Zbg.of_own own3;clear own0 hbl bsb hgrow hat own3;have bs4:=bs3;obtain ⟨a3,kc,rfl,m1,m2,m3⟩:=bs3;obtain ⟨g3,o3,rfl,l3,d3⟩:=m3 (by omega);have HN3:Hid (w.heap.size≤g3):=n3 _ _ _ rfl (by omega);clear n3;have e0:=d3 0 (by omega);rw[Nat.add_zero,HP0.out] at e0;unfold maxLen at m1;clear d3 m3
  by_cases z0:p=0
  ·have HN2:Hid (Zbi B=if 64<(B.drop 1).length then .error 2 else .ok (B.drop 1)):=by show _=_;rw[HN.out,if_pos z0]
   have g9:1≤B.length:=by omega
   have g10:1≤kc:=by omega
   have HCut:Hid (∀ ad k,k=kc-1→(0<B.length-1→ad=some ⟨g3,o3+1,none⟩)→Bs w3 (.slice ad (B.length-1) k) (B.drop 1)∧Zbg w (.slice ad (B.length-1) k)):=fun ad k hk ha=>⟨ZcI bs4 rfl g9 rfl ha hk,fun a n c e h0=>by
    simp only[Value.slice.injEq] at e;obtain ⟨e1,e2,-⟩:=e;have h:=ha (by omega);rw[h] at e1
    cases e1
    exact HN3.out⟩
   have ed:(B.drop 1).length=B.length-1:=List.length_drop;rw[ed] at HN2;obtain ⟨N,hN⟩:∃ N,B.length-1=N:=⟨_,rfl⟩;have HK:Hid (B.length=N+1):=by show _=_;omega
   rw[hN] at HN2 HCut;have hNk:N+1≤kc:=by omega
   clear hN ed bs4
   by_cases z1:64<N
   ·have H:Hid (Zbi B=.error 2):=by show _=_;rw[HN2.out,if_pos z1]
    have u1:(64:Int)<(N:Int):=by omega
    have u2:B.length-1=N:=by rw[HK.out];omega
    go_wp2_with fail
    all_goals refine bodyPost_ret (results_tmp2 rfl _ _ _) rfl ?_
    all_goals exact ⟨fun n h=>(by rw[H.out] at h;cases h),fun c h=>(by rw[H.out] at h;cases h;exact ⟨rfl,bel⟩)⟩
   ·have H:Hid (Zbi B=.ok (B.drop 1)):=by show _=_;rw[HN2.out,if_neg z1]
    have u1:¬ (64:Int)<(N:Int):=by omega
    have u2:B.length-1=N:=by rw[HK.out];omega
    go_wp2_with fail
    all_goals refine bodyPost_ret (results_tmp2 rfl _ _ _) rfl ?_
    all_goals exact ⟨fun n h=>(by rw[H.out] at h;cases h;exact (fun hc=>⟨_,rfl,hc.1,hc.2,bel⟩) (HCut.out _ _ (by first|rfl|omega) (by intro h0;first|rfl|(rw[if_neg (by omega)])|omega))),fun c h=>(by rw[H.out] at h;cases h)⟩
  ·have HN2:Hid (Zbi B=if 64<B.length then .error 2 else .ok B):=by show _=_;rw[HN.out,if_neg z0]
   by_cases z1:64<B.length
   ·have H:Hid (Zbi B=.error 2):=by show _=_;rw[HN2.out,if_pos z1]
    have u1:(64:Int)<((B.length:Nat):Int):=by omega
    go_wp2_with fail
    all_goals refine bodyPost_ret (results_tmp2 rfl _ _ _) rfl ?_
    all_goals exact ⟨fun n h=>(by rw[H.out] at h;cases h),fun c h=>(by rw[H.out] at h;cases h;exact ⟨rfl,bel⟩)⟩
   ·have H:Hid (Zbi B=.ok B):=by show _=_;rw[HN2.out,if_neg z1]
    have u1:¬ (64:Int)<((B.length:Nat):Int):=by omega
    have HB4:Hid _:=bs4;clear bs4;go_wp2_with fail
    all_goals refine bodyPost_ret (results_tmp2 rfl _ _ _) rfl ?_
    all_goals exact ⟨fun n h=>(by rw[H.out] at h;cases h;exact ⟨_,rfl,HB4.out,fun a n c e h0=>by (cases e;exact HN3.out),bel⟩),fun c h=>(by rw[H.out] at h;cases h)⟩
 ·clear step
  go_upto_region 4 with (first|(at_builtin;refine Zad (by rfl) _ _ (by rfl) w.heap.size _ 0 [] (by rfl) own0 _ B (by rfl) bsb (by omega) (by simp) ?_;intro v3 w3 own3 hgrow hat)|fail);rw[Nat.zero_add,List.nil_append] at own3;have bel:=Zag (base:=w.heap.size) hbl hgrow (by simp) (fun g hg=>Zao own0 hg) (Nat.le_refl _);have bs3:=Bs.of_own own3;have n3:Zbg w v3:=Zbg.of_own own3;clear own0 hbl bsb hgrow hat own3;have bs4:=bs3;obtain ⟨a3,kc,rfl,m1,m2,m3⟩:=bs3;obtain ⟨g3,o3,rfl,l3,d3⟩:=m3 (by omega);have HN3:Hid (w.heap.size≤g3):=n3 _ _ _ rfl (by omega);clear n3;have e0:=d3 0 (by omega);rw[Nat.add_zero,HP0.out] at e0;unfold maxLen at m1;clear d3 m3
  by_cases z0:p=0
  ·have HN2:Hid (Zbi B=if 64<(B.drop 1).length then .error 2 else .ok (B.drop 1)):=by show _=_;rw[HN.out,if_pos z0]
   have g9:1≤B.length:=by omega
   have g10:1≤kc:=by omega
   have HCut:Hid (∀ ad k,k=kc-1→(0<B.length-1→ad=some ⟨g3,o3+1,none⟩)→Bs w3 (.slice ad (B.length-1) k) (B.drop 1)∧Zbg w (.slice ad (B.length-1) k)):=fun ad k hk ha=>⟨ZcI bs4 rfl g9 rfl ha hk,fun a n c e h0=>by
    simp only[Value.slice.injEq] at e;obtain ⟨e1,e2,-⟩:=e;have h:=ha (by omega);rw[h] at e1
    cases e1
    exact HN3.out⟩
   have ed:(B.drop 1).length=B.length-1:=List.length_drop;rw[ed] at HN2;obtain ⟨N,hN⟩:∃ N,B.length-1=N:=⟨_,rfl⟩;have HK:Hid (B.length=N+1):=by show _=_;omega
   rw[hN] at HN2 HCut;have hNk:N+1≤kc:=by omega
   clear hN ed bs4
   by_cases z1:64<N
   ·have H:Hid (Zbi B=.error 2):=by show _=_;rw[HN2.out,if_pos z1]
    have u1:(64:Int)<(N:Int):=by omega
    have u2:B.length-1=N:=by rw[HK.out];omega
    go_wp2_with fail
    all_goals refine bodyPost_ret (results_tmp2 rfl _ _ _) rfl ?_
    all_goals exact ⟨fun n h=>(by rw[H.out] at h;cases h),fun c h=>(by rw[H.out] at h;cases h;exact ⟨rfl,bel⟩)⟩
   ·have H:Hid (Zbi B=.ok (B.drop 1)):=by show _=_;rw[HN2.out,if_neg z1]
    have u1:¬ (64:Int)<(N:Int):=by omega
    have u2:B.length-1=N:=by rw[HK.out];omega
    go_wp2_with fail
    all_goals refine bodyPost_ret (results_tmp2 rfl _ _ _) rfl ?_
    all_goals exact ⟨fun n h=>(by rw[H.out] at h;cases h;exact (fun hc=>⟨_,rfl,hc.1,hc.2,bel⟩) (HCut.out _ _ (by first|rfl|omega) (by intro h0;first|rfl|(rw[if_neg (by omega)])|omega))),fun c h=>(by rw[H.out] at h;cases h)⟩
  ·have HN2:Hid (Zbi B=if 64<B.length then .error 2 else .ok B):=by show _=_;rw[HN.out,if_neg z0]
   by_cases z1:64<B.length
   ·have H:Hid (Zbi B=.error 2):=by show _=_;rw[HN2.out,if_pos z1]
    have u1:(64:Int)<((B.length:Nat):Int):=by omega
    go_wp2_with fail
    all_goals refine bodyPost_ret (results_tmp2 rfl _ _ _) rfl ?_
    all_goals exact ⟨fun n h=>(by rw[H.out] at h;cases h),fun c h=>(by rw[H.out] at h;cases h;exact ⟨rfl,bel⟩)⟩
   ·have H:Hid (Zbi B=.ok B):=by show _=_;rw[HN2.out,if_neg z1]
    have u1:¬ (64:Int)<((B.length:Nat):Int):=by omega
    have HB4:Hid _:=bs4;clear bs4;go_wp2_with fail
    all_goals refine bodyPost_ret (results_tmp2 rfl _ _ _) rfl ?_
    all_goals exact ⟨fun n h=>(by rw[H.out] at h;cases h;exact ⟨_,rfl,HB4.out,fun a n c e h0=>by (cases e;exact HN3.out),bel⟩),fun c h=>(by rw[H.out] at h;cases h)⟩
 ·clear step
  go_upto_region 4 with (first|(at_builtin;refine Zad (by rfl) _ _ (by rfl) w.heap.size _ 0 [] (by rfl) own0 _ B (by rfl) bsb (by omega) (by simp) ?_;intro v3 w3 own3 hgrow hat)|fail);rw[Nat.zero_add,List.nil_append] at own3;have bel:=Zag (base:=w.heap.size) hbl hgrow (by simp) (fun g hg=>Zao own0 hg) (Nat.le_refl _);have bs3:=Bs.of_own own3;have n3:Zbg w v3:=Zbg.of_own own3;clear own0 hbl bsb hgrow hat own3;have bs4:=bs3;obtain ⟨a3,kc,rfl,m1,m2,m3⟩:=bs3;obtain ⟨g3,o3,rfl,l3,d3⟩:=m3 (by omega);have HN3:Hid (w.heap.size≤g3):=n3 _ _ _ rfl (by omega);clear n3;have e0:=d3 0 (by omega);rw[Nat.add_zero,HP0.out] at e0;unfold maxLen at m1;clear d3 m3
  by_cases z0:p=0
  ·have HN2:Hid (Zbi B=if 64<(B.drop 1).length then .error 2 else .ok (B.drop 1)):=by show _=_;rw[HN.out,if_pos z0]
   have g9:1≤B.length:=by omega
   have g10:1≤kc:=by omega
   have HCut:Hid (∀ ad k,k=kc-1→(0<B.length-1→ad=some ⟨g3,o3+1,none⟩)→Bs w3 (.slice ad (B.length-1) k) (B.drop 1)∧Zbg w (.slice ad (B.length-1) k)):=fun ad k hk ha=>⟨ZcI bs4 rfl g9 rfl ha hk,fun a n c e h0=>by
    simp only[Value.slice.injEq] at e;obtain ⟨e1,e2,-⟩:=e;have h:=ha (by omega);rw[h] at e1
    cases e1
    exact HN3.out⟩
   have ed:(B.drop 1).length=B.length-1:=List.length_drop;rw[ed] at HN2;obtain ⟨N,hN⟩:∃ N,B.length-1=N:=⟨_,rfl⟩;have HK:Hid (B.length=N+1):=by show _=_;omega
   rw[hN] at HN2 HCut;have hNk:N+1≤kc:=by omega
   clear hN ed bs4
   by_cases z1:64<N
   ·have H:Hid (Zbi B=.error 2):=by show _=_;rw[HN2.out,if_pos z1]
    have u1:(64:Int)<(N:Int):=by omega
    have u2:B.length-1=N:=by rw[HK.out];omega
    go_wp2_with fail
    all_goals refine bodyPost_ret (results_tmp2 rfl _ _ _) rfl ?_
    all_goals exact ⟨fun n h=>(by rw[H.out] at h;cases h),fun c h=>(by rw[H.out] at h;cases h;exact ⟨rfl,bel⟩)⟩
   ·have H:Hid (Zbi B=.ok (B.drop 1)):=by show _=_;rw[HN2.out,if_neg z1]
    have u1:¬ (64:Int)<(N:Int):=by omega
    have u2:B.length-1=N:=by rw[HK.out];omega
    go_wp2_with fail
    all_goals refine bodyPost_ret (results_tmp2 rfl _ _ _) rfl ?_
    all_goals exact ⟨fun n h=>(by rw[H.out] at h;cases h;exact (fun hc=>⟨_,rfl,hc.1,hc.2,bel⟩) (HCut.out _ _ (by first|rfl|omega) (by intro h0;first|rfl|(rw[if_neg (by omega)])|omega))),fun c h=>(by rw[H.out] at h;cases h)⟩
  ·have HN2:Hid (Zbi B=if 64<B.length then .error 2 else .ok B):=by show _=_;rw[HN.out,if_neg z0]
   by_cases z1:64<B.length
   ·have H:Hid (Zbi B=.error 2):=by show _=_;rw[HN2.out,if_pos z1]
    have u1:(64:Int)<((B.length:Nat):Int):=by omega
    go_wp2_with fail
    all_goals refine bodyPost_ret (results_tmp2 rfl _ _ _) rfl ?_
    all_goals exact ⟨fun n h=>(by rw[H.out] at h;cases h),fun c h=>(by rw[H.out] at h;cases h;exact ⟨rfl,bel⟩)⟩
   ·have H:Hid (Zbi B=.ok B):=by show _=_;rw[HN2.out,if_neg z1]
    have u1:¬ (64:Int)<((B.length:Nat):Int):=by omega
    have HB4:Hid _:=bs4;clear bs4;go_wp2_with fail
    all_goals refine bodyPost_ret (results_tmp2 rfl _ _ _) rfl ?_
    all_goals exact ⟨fun n h=>(by rw[H.out] at h;cases h;exact ⟨_,rfl,HB4.out,fun a n c e h0=>by (cases e;exact HN3.out),bel⟩),fun c h=>(by rw[H.out] at h;cases h)⟩
set_option linter.unusedSimpArgs false in
set_option maxRecDepth 100000 in
set_option maxHeartbeats 4000000 in
theorem Zg7 {v:Value} {B:List Int} {w:World} (hv:Bs w v B) (b:byt B) (hl:B.length≤140737488355327) :
  Calls Tryz.prog 64 #[v] w fun e w'=>(∀ n,ZaG B=.ok n→∃ v':Value,e=.returned (.tuple #[v',.int .i64 0])∧Bs w' v' n∧Zbg w v'∧Below w.heap.size w w')∧(∀ c,ZaG B=.error c→e=.returned (.tuple #[.slice none 0 0,.int .i64 (c:Int)])∧Below w.heap.size w w'):=by
 have HV:Hid (Bs w v B):=hv;have HB:Hid (byt B):=b;obtain ⟨ao,cap,rfl,h1,h2,h3⟩:=hv;unfold maxLen at h1;have HZl:=ZgV B;have HZg:Hid _:=ZfM B;have HZn:Hid _:=ZdH B;have HD:Hid (ZaF B=B.drop (Zd3 B)):=Zbm B;obtain ⟨z,hz⟩:∃ z,Zd3 B=z:=⟨_,rfl⟩;rw[hz] at HZl HZg HZn HD;obtain ⟨N,hN⟩:∃ N,B.length=N:=⟨_,rfl⟩;have HN:Hid (B.length=N):=hN;rw[hN] at h2 h3 hl HZl HZn HV ⊢;have HC:Hid (∀ j,j<N→∃ g o,ao=some ⟨g,o,none⟩∧w.cell? ⟨g,o+j,none⟩=some (.int .u8 (B.getD j 0))∧g<w.heap.size):=fun j hj=>by
  obtain⟨g,o,e1,e2,e3⟩:=h3 (by omega);exact ⟨g,o,e1,e3 j hj,e2⟩
 clear b hz h3;go_enter Tryz.func64,Tryz.ntmps64;go_wp2_with fail;go_loop [4] (fun iv=>∃ i:Nat,i≤z∧iv=.int .i64 (i:Int)) (fun iv=>z-(intOf iv).toNat)
 case atStart=>exact ⟨0,by omega,rfl⟩
 case round =>
  obtain⟨i,hi,rfl⟩:=hrel
  by_cases hil:i<z
  ·have g1:(i:Int)<(N:Int):=by omega
   have g2:(0:Int)≤(i:Int):=by omega
   have gi:IntKind.i64.wrap ((i:Int)+1)=(i:Int)+1:=by rw[IntKind.wrap_i64];omega
   obtain⟨g,o,rfl,cx,lg⟩:=HC.out i (by omega);rw[HZg.out i hil] at cx;go_wp2_with fail;go_round
   case rel=>exact ⟨i+1,by omega,by go_num⟩
   case measure=>simp[intOf];omega
  ·have hz2:i=z:=by omega
   subst hz2;have g2:(0:Int)≤(i:Int):=by omega
   have y2:(i:Int)≤(N:Int):=by omega
   have y3:i≤N:=by omega
   have y4:i≤cap:=by omega
   clear hil hi
   by_cases k0:i<N
   ·obtain ⟨g,o,rfl,cx,lg⟩:=HC.out i k0
    have nz:=HZn.out k0;obtain ⟨x,hx⟩:∃ x,B.getD i 0=x:=⟨_,rfl⟩;rw[hx] at cx nz;have g1:(i:Int)<(N:Int):=by omega
    have gx:¬ cap=i:=by omega
    clear hx;have HCut:Hid (∀ ad m k,m=N-i→k=cap-i→(0<m→ad=some ⟨g,o+i,none⟩)→Bs (w.alloc (.cells #[] 5)) (.slice ad m k) (B.drop i)):=fun ad m k hm hk ha=>ZcI (HV.out.later ((Below.refl _ _).alloc (Nat.le_refl _) _)) HN.out y3 hm ha hk;have own0:=ZcE w;have hbl:=bal w (.cells #[] 5);have HLe:Hid ((B.drop i).length=N-i):=by show _=_;rw[List.length_drop,HN.out]
    obtain⟨R,hR⟩:∃ R,B.drop i=R:=⟨_,rfl⟩;have HRb:Hid (byt R):=by rw[← hR];exact Zba HB.out i
    have HNo:Hid (ZaG B=if 64<N-i then .error 2 else if N-i=0∨127<R.getD 0 0 then .ok ((0:Int)::R) else .ok R):=by show _=_;unfold ZaG;rw[HD.out,hR];rw[hR] at HLe;rw[HLe.out]
    rw[hR] at HCut HLe;clear hR;go_upto_region 5 with (first|(at_builtin;refine Zad (by rfl) _ _ (by rfl) w.heap.size _ 0 [] (by rfl) own0 _ R (by rfl) (HCut.out _ _ _ (by first|rfl|omega) (by first|rfl|omega) (by intro h0;first|rfl|(rw[if_neg (by omega)])|omega)) (by rw[HLe.out];omega) (by simp) ?_;intro v3 w3 own3 hgrow hat)|fail);rw[Nat.zero_add,List.nil_append,HLe.out] at own3;have bel:=Zag (base:=w.heap.size) hbl hgrow (by simp) (fun g hg=>Zao own0 hg) (Nat.le_refl _);have bs3:=Bs.of_own own3;clear own0 hbl hgrow hat HCut;obtain ⟨M,hM⟩:∃ M,N-i=M:=⟨_,rfl⟩;rw[hM] at own3 HLe HNo;clear hM;obtain ⟨va,vc,rfl,vk1,vk2⟩:=Zbc own3;unfold maxLen at vk2
    by_cases z1:64<M
    ·have H:Hid (ZaG B=.error 2):=by show _=_;rw[HNo.out,if_pos z1]
     have u1:(64:Int)<(M:Int):=by omega
     go_wp2_with fail
     all_goals refine bodyPost_ret (results_tmp2 rfl _ _ _) rfl ?_
     all_goals exact ⟨fun n h=>(by rw[H.out] at h;cases h),fun c h=>(by rw[H.out] at h;cases h;exact ⟨rfl,bel⟩)⟩
    have u1:¬ (64:Int)<(M:Int):=by omega
    rw[if_neg z1] at HNo;have own4:=ZaW w3 [.int .u8 0] 5 1 w3.heap.size rfl (Nat.le_refl _) (by decide);have hbl:=bal w3 (.cells #[.int .u8 0] 5);have bs4:=bs3.later hbl
    by_cases z2:M=0
    ·subst z2
     have H:Hid (ZaG B=.ok ((0:Int)::R)):=by show _=_;rw[HNo.out,if_pos (.inl rfl)]
     go_wp2_with (first|(at_builtin;refine Zad (by rfl) _ _ (by rfl) w3.heap.size _ 1 [0] (by rfl) own4 _ R (by rfl) bs4 (by rw[HLe.out];omega) (by simp) ?_;intro v5 w5 own5 hgrow hat)|fail);have hb5:=Zag (base:=w3.heap.size) hbl hgrow (by simp) (fun g hg=>Zao own4 hg) (Nat.le_refl _);have b5:=Bs.of_own own5;have n5:=(Zbg.of_own own5).upN bel.size;replace bel:=bel.trans (hb5.mono bel.size);refine bodyPost_ret (results_tmp2 rfl _ _ _) rfl ?_;exact ⟨fun n h=>(by rw[H.out] at h;cases h;exact ⟨_,rfl,b5,n5,bel⟩),fun c h=>(by rw[H.out] at h;cases h)⟩
    have z3:¬ (M:Int)=0:=by omega
    obtain⟨a3,k3,e3,m1,m2,m3⟩:=bs3;rw[HLe.out] at e3 m3;obtain ⟨rfl,rfl⟩:va=a3∧vc=k3:=by simpa using e3
    obtain⟨g3,o3,rfl,l3,d3⟩:=m3 (by omega);have x0:=d3 0 (by omega);rw[Nat.add_zero] at x0;have y0:=HRb.out 0;have gp:(0:Int)<(M:Int):=by omega
    obtain⟨p,hp⟩:∃ p,R.getD 0 0=p:=⟨_,rfl⟩;rw[hp] at x0 y0 HNo;have HB3:Hid _:=bs4;have HOw:Hid _:=own3;clear d3 m3 hp e3
    by_cases z4:127<p
    ·have H:Hid (ZaG B=.ok ((0:Int)::R)):=by show _=_;rw[HNo.out,if_pos (.inr z4)]
     go_wp2_with (first|(at_builtin;refine Zad (by rfl) _ _ (by rfl) w3.heap.size _ 1 [0] (by rfl) own4 _ R (by rfl) bs4 (by rw[HLe.out];omega) (by simp) ?_;intro v5 w5 own5 hgrow hat)|fail);have hb5:=Zag (base:=w3.heap.size) hbl hgrow (by simp) (fun g hg=>Zao own4 hg) (Nat.le_refl _);have b5:=Bs.of_own own5;have n5:=(Zbg.of_own own5).upN bel.size;replace bel:=bel.trans (hb5.mono bel.size);refine bodyPost_ret (results_tmp2 rfl _ _ _) rfl ?_;exact ⟨fun n h=>(by rw[H.out] at h;cases h;exact ⟨_,rfl,b5,n5,bel⟩),fun c h=>(by rw[H.out] at h;cases h)⟩
    ·have H:Hid (ZaG B=.ok R):=by show _=_;rw[HNo.out,if_neg (by rintro (h|h);exact z2 h;exact z4 h)]
     clear own4 hbl bs4;go_wp2_with fail;refine bodyPost_ret (results_tmp2 rfl _ _ _) rfl ?_;exact ⟨fun n h=>(by rw[H.out] at h;cases h;exact ⟨_,rfl,Bs.of_own HOw.out,Zbg.of_own HOw.out,bel⟩),fun c h=>(by rw[H.out] at h;cases h)⟩
   ·have g1:¬ (i:Int)<(N:Int):=by omega
    have HCut:Hid (∀ ad m k,m=N-i→k=cap-i→(0<m→True)→Bs (w.alloc (.cells #[] 5)) (.slice ad m k) (B.drop i)):=fun ad m k hm hk _=>by
     have el:(B.drop i).length=m:=by rw[List.length_drop,HN.out,hm]
     exact⟨ad,k,by rw[el],by unfold maxLen;omega,by omega,fun h0=>by omega⟩
    cases ao with
    | none =>
     have own0:=ZcE w;have hbl:=bal w (.cells #[] 5);have HLe:Hid ((B.drop i).length=N-i):=by show _=_;rw[List.length_drop,HN.out]
     obtain⟨R,hR⟩:∃ R,B.drop i=R:=⟨_,rfl⟩;have HRb:Hid (byt R):=by rw[← hR];exact Zba HB.out i
     have HNo:Hid (ZaG B=if 64<N-i then .error 2 else if N-i=0∨127<R.getD 0 0 then .ok ((0:Int)::R) else .ok R):=by show _=_;unfold ZaG;rw[HD.out,hR];rw[hR] at HLe;rw[HLe.out]
     rw[hR] at HCut HLe;clear hR;go_upto_region 5 with (first|(at_builtin;refine Zad (by rfl) _ _ (by rfl) w.heap.size _ 0 [] (by rfl) own0 _ R (by rfl) (HCut.out _ _ _ (by first|rfl|omega) (by first|rfl|omega) (fun _=>trivial)) (by rw[HLe.out];omega) (by simp) ?_;intro v3 w3 own3 hgrow hat)|fail);rw[Nat.zero_add,List.nil_append,HLe.out] at own3;have bel:=Zag (base:=w.heap.size) hbl hgrow (by simp) (fun g hg=>Zao own0 hg) (Nat.le_refl _);have bs3:=Bs.of_own own3;clear own0 hbl hgrow hat HCut;obtain ⟨M,hM⟩:∃ M,N-i=M:=⟨_,rfl⟩;rw[hM] at own3 HLe HNo;clear hM;obtain ⟨va,vc,rfl,vk1,vk2⟩:=Zbc own3;unfold maxLen at vk2
     by_cases z1:64<M
     ·have H:Hid (ZaG B=.error 2):=by show _=_;rw[HNo.out,if_pos z1]
      have u1:(64:Int)<(M:Int):=by omega
      go_wp2_with fail
      all_goals refine bodyPost_ret (results_tmp2 rfl _ _ _) rfl ?_
      all_goals exact ⟨fun n h=>(by rw[H.out] at h;cases h),fun c h=>(by rw[H.out] at h;cases h;exact ⟨rfl,bel⟩)⟩
     have u1:¬ (64:Int)<(M:Int):=by omega
     rw[if_neg z1] at HNo;have own4:=ZaW w3 [.int .u8 0] 5 1 w3.heap.size rfl (Nat.le_refl _) (by decide);have hbl:=bal w3 (.cells #[.int .u8 0] 5);have bs4:=bs3.later hbl
     by_cases z2:M=0
     ·subst z2
      have H:Hid (ZaG B=.ok ((0:Int)::R)):=by show _=_;rw[HNo.out,if_pos (.inl rfl)]
      go_wp2_with (first|(at_builtin;refine Zad (by rfl) _ _ (by rfl) w3.heap.size _ 1 [0] (by rfl) own4 _ R (by rfl) bs4 (by rw[HLe.out];omega) (by simp) ?_;intro v5 w5 own5 hgrow hat)|fail);have hb5:=Zag (base:=w3.heap.size) hbl hgrow (by simp) (fun g hg=>Zao own4 hg) (Nat.le_refl _);have b5:=Bs.of_own own5;have n5:=(Zbg.of_own own5).upN bel.size;replace bel:=bel.trans (hb5.mono bel.size);refine bodyPost_ret (results_tmp2 rfl _ _ _) rfl ?_;exact ⟨fun n h=>(by rw[H.out] at h;cases h;exact ⟨_,rfl,b5,n5,bel⟩),fun c h=>(by rw[H.out] at h;cases h)⟩
     have z3:¬ (M:Int)=0:=by omega
     obtain⟨a3,k3,e3,m1,m2,m3⟩:=bs3;rw[HLe.out] at e3 m3;obtain ⟨rfl,rfl⟩:va=a3∧vc=k3:=by simpa using e3
     obtain⟨g3,o3,rfl,l3,d3⟩:=m3 (by omega);have x0:=d3 0 (by omega);rw[Nat.add_zero] at x0;have y0:=HRb.out 0;have gp:(0:Int)<(M:Int):=by omega
     obtain⟨p,hp⟩:∃ p,R.getD 0 0=p:=⟨_,rfl⟩;rw[hp] at x0 y0 HNo;have HB3:Hid _:=bs4;have HOw:Hid _:=own3;clear d3 m3 hp e3
     by_cases z4:127<p
     ·have H:Hid (ZaG B=.ok ((0:Int)::R)):=by show _=_;rw[HNo.out,if_pos (.inr z4)]
      go_wp2_with (first|(at_builtin;refine Zad (by rfl) _ _ (by rfl) w3.heap.size _ 1 [0] (by rfl) own4 _ R (by rfl) bs4 (by rw[HLe.out];omega) (by simp) ?_;intro v5 w5 own5 hgrow hat)|fail);have hb5:=Zag (base:=w3.heap.size) hbl hgrow (by simp) (fun g hg=>Zao own4 hg) (Nat.le_refl _);have b5:=Bs.of_own own5;have n5:=(Zbg.of_own own5).upN bel.size;replace bel:=bel.trans (hb5.mono bel.size);refine bodyPost_ret (results_tmp2 rfl _ _ _) rfl ?_;exact ⟨fun n h=>(by rw[H.out] at h;cases h;exact ⟨_,rfl,b5,n5,bel⟩),fun c h=>(by rw[H.out] at h;cases h)⟩
     ·have H:Hid (ZaG B=.ok R):=by show _=_;rw[HNo.out,if_neg (by rintro (h|h);exact z2 h;exact z4 h)]
      clear own4 hbl bs4;go_wp2_with fail;refine bodyPost_ret (results_tmp2 rfl _ _ _) rfl ?_;exact ⟨fun n h=>(by rw[H.out] at h;cases h;exact ⟨_,rfl,Bs.of_own HOw.out,Zbg.of_own HOw.out,bel⟩),fun c h=>(by rw[H.out] at h;cases h)⟩
    | some ad0 =>
     obtain⟨g,o,sp⟩:=ad0
     by_cases gx:cap=i
     ·have own0:=ZcE w
      have hbl:=bal w (.cells #[] 5);have HLe:Hid ((B.drop i).length=N-i):=by show _=_;rw[List.length_drop,HN.out]
      obtain⟨R,hR⟩:∃ R,B.drop i=R:=⟨_,rfl⟩;have HRb:Hid (byt R):=by rw[← hR];exact Zba HB.out i
      have HNo:Hid (ZaG B=if 64<N-i then .error 2 else if N-i=0∨127<R.getD 0 0 then .ok ((0:Int)::R) else .ok R):=by show _=_;unfold ZaG;rw[HD.out,hR];rw[hR] at HLe;rw[HLe.out]
      rw[hR] at HCut HLe;clear hR;go_upto_region 5 with (first|(at_builtin;refine Zad (by rfl) _ _ (by rfl) w.heap.size _ 0 [] (by rfl) own0 _ R (by rfl) (HCut.out _ _ _ (by first|rfl|omega) (by first|rfl|omega) (fun _=>trivial)) (by rw[HLe.out];omega) (by simp) ?_;intro v3 w3 own3 hgrow hat)|fail);rw[Nat.zero_add,List.nil_append,HLe.out] at own3;have bel:=Zag (base:=w.heap.size) hbl hgrow (by simp) (fun g hg=>Zao own0 hg) (Nat.le_refl _);have bs3:=Bs.of_own own3;clear own0 hbl hgrow hat HCut;obtain ⟨M,hM⟩:∃ M,N-i=M:=⟨_,rfl⟩;rw[hM] at own3 HLe HNo;clear hM;obtain ⟨va,vc,rfl,vk1,vk2⟩:=Zbc own3;unfold maxLen at vk2
      by_cases z1:64<M
      ·have H:Hid (ZaG B=.error 2):=by show _=_;rw[HNo.out,if_pos z1]
       have u1:(64:Int)<(M:Int):=by omega
       go_wp2_with fail
       all_goals refine bodyPost_ret (results_tmp2 rfl _ _ _) rfl ?_
       all_goals exact ⟨fun n h=>(by rw[H.out] at h;cases h),fun c h=>(by rw[H.out] at h;cases h;exact ⟨rfl,bel⟩)⟩
      have u1:¬ (64:Int)<(M:Int):=by omega
      rw[if_neg z1] at HNo;have own4:=ZaW w3 [.int .u8 0] 5 1 w3.heap.size rfl (Nat.le_refl _) (by decide);have hbl:=bal w3 (.cells #[.int .u8 0] 5);have bs4:=bs3.later hbl
      by_cases z2:M=0
      ·subst z2
       have H:Hid (ZaG B=.ok ((0:Int)::R)):=by show _=_;rw[HNo.out,if_pos (.inl rfl)]
       go_wp2_with (first|(at_builtin;refine Zad (by rfl) _ _ (by rfl) w3.heap.size _ 1 [0] (by rfl) own4 _ R (by rfl) bs4 (by rw[HLe.out];omega) (by simp) ?_;intro v5 w5 own5 hgrow hat)|fail);have hb5:=Zag (base:=w3.heap.size) hbl hgrow (by simp) (fun g hg=>Zao own4 hg) (Nat.le_refl _);have b5:=Bs.of_own own5;have n5:=(Zbg.of_own own5).upN bel.size;replace bel:=bel.trans (hb5.mono bel.size);refine bodyPost_ret (results_tmp2 rfl _ _ _) rfl ?_;exact ⟨fun n h=>(by rw[H.out] at h;cases h;exact ⟨_,rfl,b5,n5,bel⟩),fun c h=>(by rw[H.out] at h;cases h)⟩
      have z3:¬ (M:Int)=0:=by omega
      obtain⟨a3,k3,e3,m1,m2,m3⟩:=bs3;rw[HLe.out] at e3 m3;obtain ⟨rfl,rfl⟩:va=a3∧vc=k3:=by simpa using e3
      obtain⟨g3,o3,rfl,l3,d3⟩:=m3 (by omega);have x0:=d3 0 (by omega);rw[Nat.add_zero] at x0;have y0:=HRb.out 0;have gp:(0:Int)<(M:Int):=by omega
      obtain⟨p,hp⟩:∃ p,R.getD 0 0=p:=⟨_,rfl⟩;rw[hp] at x0 y0 HNo;have HB3:Hid _:=bs4;have HOw:Hid _:=own3;clear d3 m3 hp e3
      by_cases z4:127<p
      ·have H:Hid (ZaG B=.ok ((0:Int)::R)):=by show _=_;rw[HNo.out,if_pos (.inr z4)]
       go_wp2_with (first|(at_builtin;refine Zad (by rfl) _ _ (by rfl) w3.heap.size _ 1 [0] (by rfl) own4 _ R (by rfl) bs4 (by rw[HLe.out];omega) (by simp) ?_;intro v5 w5 own5 hgrow hat)|fail);have hb5:=Zag (base:=w3.heap.size) hbl hgrow (by simp) (fun g hg=>Zao own4 hg) (Nat.le_refl _);have b5:=Bs.of_own own5;have n5:=(Zbg.of_own own5).upN bel.size;replace bel:=bel.trans (hb5.mono bel.size);refine bodyPost_ret (results_tmp2 rfl _ _ _) rfl ?_;exact ⟨fun n h=>(by rw[H.out] at h;cases h;exact ⟨_,rfl,b5,n5,bel⟩),fun c h=>(by rw[H.out] at h;cases h)⟩
      ·have H:Hid (ZaG B=.ok R):=by show _=_;rw[HNo.out,if_neg (by rintro (h|h);exact z2 h;exact z4 h)]
       clear own4 hbl bs4;go_wp2_with fail;refine bodyPost_ret (results_tmp2 rfl _ _ _) rfl ?_;exact ⟨fun n h=>(by rw[H.out] at h;cases h;exact ⟨_,rfl,Bs.of_own HOw.out,Zbg.of_own HOw.out,bel⟩),fun c h=>(by rw[H.out] at h;cases h)⟩
     ·have own0:=ZcE w
      have hbl:=bal w (.cells #[] 5);have HLe:Hid ((B.drop i).length=N-i):=by show _=_;rw[List.length_drop,HN.out]
      obtain⟨R,hR⟩:∃ R,B.drop i=R:=⟨_,rfl⟩;have HRb:Hid (byt R):=by rw[← hR];exact Zba HB.out i
      have HNo:Hid (ZaG B=if 64<N-i then .error 2 else if N-i=0∨127<R.getD 0 0 then .ok ((0:Int)::R) else .ok R):=by show _=_;unfold ZaG;rw[HD.out,hR];rw[hR] at HLe;rw[HLe.out]
      rw[hR] at HCut HLe;clear hR;go_upto_region 5 with (first|(at_builtin;refine Zad (by rfl) _ _ (by rfl) w.heap.size _ 0 [] (by rfl) own0 _ R (by rfl) (HCut.out _ _ _ (by first|rfl|omega) (by first|rfl|omega) (fun _=>trivial)) (by rw[HLe.out];omega) (by simp) ?_;intro v3 w3 own3 hgrow hat)|fail);rw[Nat.zero_add,List.nil_append,HLe.out] at own3;have bel:=Zag (base:=w.heap.size) hbl hgrow (by simp) (fun g hg=>Zao own0 hg) (Nat.le_refl _);have bs3:=Bs.of_own own3;clear own0 hbl hgrow hat HCut;obtain ⟨M,hM⟩:∃ M,N-i=M:=⟨_,rfl⟩;rw[hM] at own3 HLe HNo;clear hM;obtain ⟨va,vc,rfl,vk1,vk2⟩:=Zbc own3;unfold maxLen at vk2
      by_cases z1:64<M
      ·have H:Hid (ZaG B=.error 2):=by show _=_;rw[HNo.out,if_pos z1]
       have u1:(64:Int)<(M:Int):=by omega
       go_wp2_with fail
       all_goals refine bodyPost_ret (results_tmp2 rfl _ _ _) rfl ?_
       all_goals exact ⟨fun n h=>(by rw[H.out] at h;cases h),fun c h=>(by rw[H.out] at h;cases h;exact ⟨rfl,bel⟩)⟩
      have u1:¬ (64:Int)<(M:Int):=by omega
      rw[if_neg z1] at HNo;have own4:=ZaW w3 [.int .u8 0] 5 1 w3.heap.size rfl (Nat.le_refl _) (by decide);have hbl:=bal w3 (.cells #[.int .u8 0] 5);have bs4:=bs3.later hbl
      by_cases z2:M=0
      ·subst z2
       have H:Hid (ZaG B=.ok ((0:Int)::R)):=by show _=_;rw[HNo.out,if_pos (.inl rfl)]
       go_wp2_with (first|(at_builtin;refine Zad (by rfl) _ _ (by rfl) w3.heap.size _ 1 [0] (by rfl) own4 _ R (by rfl) bs4 (by rw[HLe.out];omega) (by simp) ?_;intro v5 w5 own5 hgrow hat)|fail);have hb5:=Zag (base:=w3.heap.size) hbl hgrow (by simp) (fun g hg=>Zao own4 hg) (Nat.le_refl _);have b5:=Bs.of_own own5;have n5:=(Zbg.of_own own5).upN bel.size;replace bel:=bel.trans (hb5.mono bel.size);refine bodyPost_ret (results_tmp2 rfl _ _ _) rfl ?_;exact ⟨fun n h=>(by rw[H.out] at h;cases h;exact ⟨_,rfl,b5,n5,bel⟩),fun c h=>(by rw[H.out] at h;cases h)⟩
      have z3:¬ (M:Int)=0:=by omega
      obtain⟨a3,k3,e3,m1,m2,m3⟩:=bs3;rw[HLe.out] at e3 m3;obtain ⟨rfl,rfl⟩:va=a3∧vc=k3:=by simpa using e3
      obtain⟨g3,o3,rfl,l3,d3⟩:=m3 (by omega);have x0:=d3 0 (by omega);rw[Nat.add_zero] at x0;have y0:=HRb.out 0;have gp:(0:Int)<(M:Int):=by omega
      obtain⟨p,hp⟩:∃ p,R.getD 0 0=p:=⟨_,rfl⟩;rw[hp] at x0 y0 HNo;have HB3:Hid _:=bs4;have HOw:Hid _:=own3;clear d3 m3 hp e3
      by_cases z4:127<p
      ·have H:Hid (ZaG B=.ok ((0:Int)::R)):=by show _=_;rw[HNo.out,if_pos (.inr z4)]
       go_wp2_with (first|(at_builtin;refine Zad (by rfl) _ _ (by rfl) w3.heap.size _ 1 [0] (by rfl) own4 _ R (by rfl) bs4 (by rw[HLe.out];omega) (by simp) ?_;intro v5 w5 own5 hgrow hat)|fail);have hb5:=Zag (base:=w3.heap.size) hbl hgrow (by simp) (fun g hg=>Zao own4 hg) (Nat.le_refl _);have b5:=Bs.of_own own5;have n5:=(Zbg.of_own own5).upN bel.size;replace bel:=bel.trans (hb5.mono bel.size);refine bodyPost_ret (results_tmp2 rfl _ _ _) rfl ?_;exact ⟨fun n h=>(by rw[H.out] at h;cases h;exact ⟨_,rfl,b5,n5,bel⟩),fun c h=>(by rw[H.out] at h;cases h)⟩
      ·have H:Hid (ZaG B=.ok R):=by show _=_;rw[HNo.out,if_neg (by rintro (h|h);exact z2 h;exact z4 h)]
       clear own4 hbl bs4;go_wp2_with fail;refine bodyPost_ret (results_tmp2 rfl _ _ _) rfl ?_;exact ⟨fun n h=>(by rw[H.out] at h;cases h;exact ⟨_,rfl,Bs.of_own HOw.out,Zbg.of_own HOw.out,bel⟩),fun c h=>(by rw[H.out] at h;cases h)⟩
theorem ZeZ {v:Value} {B:List Int} {w:World} (hv:Bs w v B) (b:byt B) (hl:B.length≤140737488355327) :
  Calls Tryz.prog 64 #[v] w fun e w'=>(∀ n,ZaG B=.ok n→∃ v':Value,e=.returned (.tuple #[v',.int .i64 0])∧Bs w' v' n∧Below w.heap.size w w')∧(∀ c,ZaG B=.error c→e=.returned (.tuple #[.slice none 0 0,.int .i64 (c:Int)])∧Below w.heap.size w w') :=
 (Zg7 hv b hl).mono fun _ _ ⟨h1,h2⟩=>⟨fun n h=>by obtain ⟨v',e,k1,_,k2⟩:=h1 n h;exact ⟨v',e,k1,k2⟩,h2⟩
end Go.Proofs.YtohcdbifhnfcbaaGreatDoor
