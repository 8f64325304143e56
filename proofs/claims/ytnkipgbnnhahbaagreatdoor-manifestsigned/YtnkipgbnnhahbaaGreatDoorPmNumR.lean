/- The document's Number of layer 13. -/
import Derived.Test.YtnkipgbnnhahbaaGreatDoorCtPl
import Derived.Test.YtnkipgbnnhahbaaGreatDoorClWr
import Derived.Test.YtnkipgbnnhahbaaGreatDoorRows
import Derived.Deep.OwnRows
import Derived.Deep.AppendLies
import Derived.Deep.WholeRow
import Derived.Deep.RegionHeld3
import Derived.Deep.DeepCutAuto
import Derived.Deep.DeepFit
namespace Go.Proofs.YtnkipgbnnhahbaaGreatDoor
open Go.RowKit
set_option linter.unusedSimpArgs false in
set_option maxRecDepth 100000 in
set_option maxHeartbeats 2000000 in
theorem r13_NumberN {v:Value} {B:List Int} {w:World} (hv:Bs w v B) (b:byt B) (hl:B.length≤140737488355328) :
  Calls Tryz.prog 55 #[v] w fun e w'=>(∀ n,numP B=.ok n→∃ v':Value,e=.returned (.tuple #[v',.int .i64 0])∧Bs w' v' n∧NewV w v'∧Below w.heap.size w w')∧(∀ c,numP B=.error c→e=.returned (.tuple #[.slice none 0 0,.int .i64 (c:Int)])∧Below w.heap.size w w'):=by
 have HV:Hid (Bs w v B):=hv
 have HB:Hid (byt B):=b
 obtain ⟨ao,cap,rfl,h1,h2,h3⟩:=hv
 unfold maxLen at h1
 clear b
 by_cases c0:B.length=0
 ·have H:Hid (numP B=.error 7):=by show _=_;unfold numP;rw [if_pos (.inl c0)]
  have g0:((B.length:Nat):Int)=0:=by omega
  clear h3
  go_enter Tryz.func55,Tryz.ntmps55
  go_wp2_with fail
  refine bodyPost_ret (results_tmp2 rfl _ _ _) rfl ?_
  exact ⟨fun n h=>(by rw [H.out] at h;cases h),fun c h=>(by rw [H.out] at h;cases h;exact ⟨rfl,Below.refl _ _⟩)⟩
 have g0:¬ ((B.length:Nat):Int)=0:=by omega
 have hne:¬ B=[]:=fun h=>c0 (by rw [h];rfl)
 obtain ⟨gb,ob,rfl,hb0,hc0⟩:=h3 (by omega)
 have HC:Hid _:=hc0
 clear h3 hc0
 have x0:=HC.out 0 (by omega)
 have y0:=HB.out 0
 rw [Nat.add_zero] at x0
 have gp:(0:Int) < ((B.length:Nat):Int):=by omega
 obtain ⟨p,hp⟩:∃ p,B.getD 0 0=p:=⟨_,rfl⟩
 rw [hp] at x0 y0
 by_cases c1:127 < p
 ·have H:Hid (numP B=.error 7):=by show _=_;unfold numP;rw [if_pos (.inr (.inl (by rw [hp];exact c1)))]
  go_enter Tryz.func55,Tryz.ntmps55
  go_wp2_with fail
  refine bodyPost_ret (results_tmp2 rfl _ _ _) rfl ?_
  exact ⟨fun n h=>(by rw [H.out] at h;cases h),fun c h=>(by rw [H.out] at h;cases h;exact ⟨rfl,Below.refl _ _⟩)⟩
 by_cases c2:1 < B.length∧p=0∧B.getD 1 0 < 128
 ·have H:Hid (numP B=.error 7):=by show _=_;unfold numP;rw [hp,if_pos (.inr (.inr c2))]
  have x1:=HC.out 1 (by omega)
  have g1:(1:Int) < ((B.length:Nat):Int):=by omega
  obtain ⟨q,hq⟩:∃ q,B.getD 1 0=q:=⟨_,rfl⟩
  rw [hq] at x1 c2
  obtain ⟨_,c2a,c2b⟩:=c2
  go_enter Tryz.func55,Tryz.ntmps55
  go_wp2_with fail
  refine bodyPost_ret (results_tmp2 rfl _ _ _) rfl ?_
  exact ⟨fun n h=>(by rw [H.out] at h;cases h),fun c h=>(by rw [H.out] at h;cases h;exact ⟨rfl,Below.refl _ _⟩)⟩
 have HN:Hid (numP B=if 64 < (if p=0 then B.drop 1 else B).length then .error 2 else .ok (if p=0 then B.drop 1 else B)):=by
  show _=_
  unfold numP
  rw [hp,if_neg (by rintro (h|h|h);exact c0 h;exact c1 h;exact c2 h)]
 have own0:=own_nilM w
 have hbl:Below w.heap.size w (w.alloc (.cells #[] 5)):=(Below.refl _ _).alloc (Nat.le_refl _) _
 have bsb:=HV.out.later hbl
 have HP0:Hid (B.getD 0 0=p):=hp
 have HX1:Hid (∀ q,1 < B.length→B.getD 1 0=q→w.cell? ⟨gb,ob + 1,none⟩=some (.int .u8 q)):=fun q h hq=>by rw [HC.out 1 h,hq]
 have step:∀ (P:Prop),((¬ (1:Int) < ((B.length:Nat):Int))→P)→((1:Int) < ((B.length:Nat):Int)→¬ p=0→P)→((1:Int) < ((B.length:Nat):Int)→p=0→∀ q:Int,w.cell? ⟨gb,ob + 1,none⟩=some (.int .u8 q)→¬ q < 128→P)→P:=fun P f1 f2 f3=>by
  by_cases k1:1 < B.length
  ·by_cases k2:p=0
   ·exact f3 (by omega) k2 _ (HX1.out _ k1 rfl) (fun h=>c2 ⟨k1,k2,h⟩)
   ·exact f2 (by omega) k2
  ·exact f1 (by omega)
 clear c0 c2 hp HX1
 go_enter Tryz.func55,Tryz.ntmps55
 refine step _ (fun k1=>?_) (fun k1 k2=>?_) (fun k1 k2 q x1 k3=>?_)
 ·clear step
  go_upto_region 4 with (first|(at_builtin;refine wpList_append_bs (by rfl) _ _ (by rfl) w.heap.size _ 0 [] (by rfl) own0 _ B (by rfl) bsb (by omega) (by simp) ?_;intro v3 w3 own3 hgrow hat)|fail)
  rw [Nat.zero_add,List.nil_append] at own3
  have bel:=below_own (base:=w.heap.size) hbl hgrow (by simp) (fun g hg=>own_geM own0 hg) (Nat.le_refl _)
  have bs3:=Bs.of_own own3
  have n3:NewV w v3:=NewV.of_own own3
  clear own0 hbl bsb hgrow hat own3
  have bs4:=bs3
  obtain ⟨a3,kc,rfl,m1,m2,m3⟩:=bs3
  obtain ⟨g3,o3,rfl,l3,d3⟩:=m3 (by omega)
  have HN3:Hid (w.heap.size≤g3):=n3 _ _ _ rfl (by omega)
  clear n3
  have e0:=d3 0 (by omega)
  rw [Nat.add_zero,HP0.out] at e0
  unfold maxLen at m1
  clear d3 m3
  by_cases z0:p=0
  ·have HN2:Hid (numP B=if 64 < (B.drop 1).length then .error 2 else .ok (B.drop 1)):=by show _=_;rw [HN.out,if_pos z0]
   have g9:1≤B.length:=by omega
   have g10:1≤kc:=by omega
   have HCut:Hid (∀ ad k,k=kc - 1→(0 < B.length - 1→ad=some ⟨g3,o3 + 1,none⟩)→Bs w3 (.slice ad (B.length - 1) k) (B.drop 1)∧NewV w (.slice ad (B.length - 1) k)):=fun ad k hk ha=>⟨bs_cutM bs4 rfl g9 rfl ha hk,fun a n c e h0=>by
    simp only [Value.slice.injEq] at e
    obtain ⟨e1,e2,-⟩:=e
    have h:=ha (by omega)
    rw [h] at e1
    cases e1
    exact HN3.out⟩
   have ed:(B.drop 1).length=B.length - 1:=List.length_drop
   rw [ed] at HN2
   obtain ⟨N,hN⟩:∃ N,B.length - 1=N:=⟨_,rfl⟩
   have HK:Hid (B.length=N + 1):=by show _=_;omega
   rw [hN] at HN2 HCut
   have hNk:N + 1≤kc:=by omega
   clear hN ed bs4
   by_cases z1:64 < N
   ·have H:Hid (numP B=.error 2):=by show _=_;rw [HN2.out,if_pos z1]
    have u1:(64:Int) < (N:Int):=by omega
    have u2:B.length - 1=N:=by rw [HK.out];omega
    go_wp2_with fail
    all_goals refine bodyPost_ret (results_tmp2 rfl _ _ _) rfl ?_
    all_goals exact ⟨fun n h=>(by rw [H.out] at h;cases h),fun c h=>(by rw [H.out] at h;cases h;exact ⟨rfl,bel⟩)⟩
   ·have H:Hid (numP B=.ok (B.drop 1)):=by show _=_;rw [HN2.out,if_neg z1]
    have u1:¬ (64:Int) < (N:Int):=by omega
    have u2:B.length - 1=N:=by rw [HK.out];omega
    go_wp2_with fail
    all_goals refine bodyPost_ret (results_tmp2 rfl _ _ _) rfl ?_
    all_goals exact ⟨fun n h=>(by rw [H.out] at h;cases h;exact (fun hc=>⟨_,rfl,hc.1,hc.2,bel⟩) (HCut.out _ _ (by first|rfl|omega) (by intro h0;first|rfl|(rw [if_neg (by omega)])|omega))),fun c h=>(by rw [H.out] at h;cases h)⟩
  ·have HN2:Hid (numP B=if 64 < B.length then .error 2 else .ok B):=by show _=_;rw [HN.out,if_neg z0]
   by_cases z1:64 < B.length
   ·have H:Hid (numP B=.error 2):=by show _=_;rw [HN2.out,if_pos z1]
    have u1:(64:Int) < ((B.length:Nat):Int):=by omega
    go_wp2_with fail
    all_goals refine bodyPost_ret (results_tmp2 rfl _ _ _) rfl ?_
    all_goals exact ⟨fun n h=>(by rw [H.out] at h;cases h),fun c h=>(by rw [H.out] at h;cases h;exact ⟨rfl,bel⟩)⟩
   ·have H:Hid (numP B=.ok B):=by show _=_;rw [HN2.out,if_neg z1]
    have u1:¬ (64:Int) < ((B.length:Nat):Int):=by omega
    have HB4:Hid _:=bs4
    clear bs4
    go_wp2_with fail
    all_goals refine bodyPost_ret (results_tmp2 rfl _ _ _) rfl ?_
    all_goals exact ⟨fun n h=>(by rw [H.out] at h;cases h;exact ⟨_,rfl,HB4.out,fun a n c e h0=>by (cases e;exact HN3.out),bel⟩),fun c h=>(by rw [H.out] at h;cases h)⟩
 ·clear step
  go_upto_region 4 with (first|(at_builtin;refine wpList_append_bs (by rfl) _ _ (by rfl) w.heap.size _ 0 [] (by rfl) own0 _ B (by rfl) bsb (by omega) (by simp) ?_;intro v3 w3 own3 hgrow hat)|fail)
  rw [Nat.zero_add,List.nil_append] at own3
  have bel:=below_own (base:=w.heap.size) hbl hgrow (by simp) (fun g hg=>own_geM own0 hg) (Nat.le_refl _)
  have bs3:=Bs.of_own own3
  have n3:NewV w v3:=NewV.of_own own3
  clear own0 hbl bsb hgrow hat own3
  have bs4:=bs3
  obtain ⟨a3,kc,rfl,m1,m2,m3⟩:=bs3
  obtain ⟨g3,o3,rfl,l3,d3⟩:=m3 (by omega)
  have HN3:Hid (w.heap.size≤g3):=n3 _ _ _ rfl (by omega)
  clear n3
  have e0:=d3 0 (by omega)
  rw [Nat.add_zero,HP0.out] at e0
  unfold maxLen at m1
  clear d3 m3
  by_cases z0:p=0
  ·have HN2:Hid (numP B=if 64 < (B.drop 1).length then .error 2 else .ok (B.drop 1)):=by show _=_;rw [HN.out,if_pos z0]
   have g9:1≤B.length:=by omega
   have g10:1≤kc:=by omega
   have HCut:Hid (∀ ad k,k=kc - 1→(0 < B.length - 1→ad=some ⟨g3,o3 + 1,none⟩)→Bs w3 (.slice ad (B.length - 1) k) (B.drop 1)∧NewV w (.slice ad (B.length - 1) k)):=fun ad k hk ha=>⟨bs_cutM bs4 rfl g9 rfl ha hk,fun a n c e h0=>by
    simp only [Value.slice.injEq] at e
    obtain ⟨e1,e2,-⟩:=e
    have h:=ha (by omega)
    rw [h] at e1
    cases e1
    exact HN3.out⟩
   have ed:(B.drop 1).length=B.length - 1:=List.length_drop
   rw [ed] at HN2
   obtain ⟨N,hN⟩:∃ N,B.length - 1=N:=⟨_,rfl⟩
   have HK:Hid (B.length=N + 1):=by show _=_;omega
   rw [hN] at HN2 HCut
   have hNk:N + 1≤kc:=by omega
   clear hN ed bs4
   by_cases z1:64 < N
   ·have H:Hid (numP B=.error 2):=by show _=_;rw [HN2.out,if_pos z1]
    have u1:(64:Int) < (N:Int):=by omega
    have u2:B.length - 1=N:=by rw [HK.out];omega
    go_wp2_with fail
    all_goals refine bodyPost_ret (results_tmp2 rfl _ _ _) rfl ?_
    all_goals exact ⟨fun n h=>(by rw [H.out] at h;cases h),fun c h=>(by rw [H.out] at h;cases h;exact ⟨rfl,bel⟩)⟩
   ·have H:Hid (numP B=.ok (B.drop 1)):=by show _=_;rw [HN2.out,if_neg z1]
    have u1:¬ (64:Int) < (N:Int):=by omega
    have u2:B.length - 1=N:=by rw [HK.out];omega
    go_wp2_with fail
    all_goals refine bodyPost_ret (results_tmp2 rfl _ _ _) rfl ?_
    all_goals exact ⟨fun n h=>(by rw [H.out] at h;cases h;exact (fun hc=>⟨_,rfl,hc.1,hc.2,bel⟩) (HCut.out _ _ (by first|rfl|omega) (by intro h0;first|rfl|(rw [if_neg (by omega)])|omega))),fun c h=>(by rw [H.out] at h;cases h)⟩
  ·have HN2:Hid (numP B=if 64 < B.length then .error 2 else .ok B):=by show _=_;rw [HN.out,if_neg z0]
   by_cases z1:64 < B.length
   ·have H:Hid (numP B=.error 2):=by show _=_;rw [HN2.out,if_pos z1]
    have u1:(64:Int) < ((B.length:Nat):Int):=by omega
    go_wp2_with fail
    all_goals refine bodyPost_ret (results_tmp2 rfl _ _ _) rfl ?_
    all_goals exact ⟨fun n h=>(by rw [H.out] at h;cases h),fun c h=>(by rw [H.out] at h;cases h;exact ⟨rfl,bel⟩)⟩
   ·have H:Hid (numP B=.ok B):=by show _=_;rw [HN2.out,if_neg z1]
    have u1:¬ (64:Int) < ((B.length:Nat):Int):=by omega
    have HB4:Hid _:=bs4
    clear bs4
    go_wp2_with fail
    all_goals refine bodyPost_ret (results_tmp2 rfl _ _ _) rfl ?_
    all_goals exact ⟨fun n h=>(by rw [H.out] at h;cases h;exact ⟨_,rfl,HB4.out,fun a n c e h0=>by (cases e;exact HN3.out),bel⟩),fun c h=>(by rw [H.out] at h;cases h)⟩
 ·clear step
  go_upto_region 4 with (first|(at_builtin;refine wpList_append_bs (by rfl) _ _ (by rfl) w.heap.size _ 0 [] (by rfl) own0 _ B (by rfl) bsb (by omega) (by simp) ?_;intro v3 w3 own3 hgrow hat)|fail)
  rw [Nat.zero_add,List.nil_append] at own3
  have bel:=below_own (base:=w.heap.size) hbl hgrow (by simp) (fun g hg=>own_geM own0 hg) (Nat.le_refl _)
  have bs3:=Bs.of_own own3
  have n3:NewV w v3:=NewV.of_own own3
  clear own0 hbl bsb hgrow hat own3
  have bs4:=bs3
  obtain ⟨a3,kc,rfl,m1,m2,m3⟩:=bs3
  obtain ⟨g3,o3,rfl,l3,d3⟩:=m3 (by omega)
  have HN3:Hid (w.heap.size≤g3):=n3 _ _ _ rfl (by omega)
  clear n3
  have e0:=d3 0 (by omega)
  rw [Nat.add_zero,HP0.out] at e0
  unfold maxLen at m1
  clear d3 m3
  by_cases z0:p=0
  ·have HN2:Hid (numP B=if 64 < (B.drop 1).length then .error 2 else .ok (B.drop 1)):=by show _=_;rw [HN.out,if_pos z0]
   have g9:1≤B.length:=by omega
   have g10:1≤kc:=by omega
   have HCut:Hid (∀ ad k,k=kc - 1→(0 < B.length - 1→ad=some ⟨g3,o3 + 1,none⟩)→Bs w3 (.slice ad (B.length - 1) k) (B.drop 1)∧NewV w (.slice ad (B.length - 1) k)):=fun ad k hk ha=>⟨bs_cutM bs4 rfl g9 rfl ha hk,fun a n c e h0=>by
    simp only [Value.slice.injEq] at e
    obtain ⟨e1,e2,-⟩:=e
    have h:=ha (by omega)
    rw [h] at e1
    cases e1
    exact HN3.out⟩
   have ed:(B.drop 1).length=B.length - 1:=List.length_drop
   rw [ed] at HN2
   obtain ⟨N,hN⟩:∃ N,B.length - 1=N:=⟨_,rfl⟩
   have HK:Hid (B.length=N + 1):=by show _=_;omega
   rw [hN] at HN2 HCut
   have hNk:N + 1≤kc:=by omega
   clear hN ed bs4
   by_cases z1:64 < N
   ·have H:Hid (numP B=.error 2):=by show _=_;rw [HN2.out,if_pos z1]
    have u1:(64:Int) < (N:Int):=by omega
    have u2:B.length - 1=N:=by rw [HK.out];omega
    go_wp2_with fail
    all_goals refine bodyPost_ret (results_tmp2 rfl _ _ _) rfl ?_
    all_goals exact ⟨fun n h=>(by rw [H.out] at h;cases h),fun c h=>(by rw [H.out] at h;cases h;exact ⟨rfl,bel⟩)⟩
   ·have H:Hid (numP B=.ok (B.drop 1)):=by show _=_;rw [HN2.out,if_neg z1]
    have u1:¬ (64:Int) < (N:Int):=by omega
    have u2:B.length - 1=N:=by rw [HK.out];omega
    go_wp2_with fail
    all_goals refine bodyPost_ret (results_tmp2 rfl _ _ _) rfl ?_
    all_goals exact ⟨fun n h=>(by rw [H.out] at h;cases h;exact (fun hc=>⟨_,rfl,hc.1,hc.2,bel⟩) (HCut.out _ _ (by first|rfl|omega) (by intro h0;first|rfl|(rw [if_neg (by omega)])|omega))),fun c h=>(by rw [H.out] at h;cases h)⟩
  ·have HN2:Hid (numP B=if 64 < B.length then .error 2 else .ok B):=by show _=_;rw [HN.out,if_neg z0]
   by_cases z1:64 < B.length
   ·have H:Hid (numP B=.error 2):=by show _=_;rw [HN2.out,if_pos z1]
    have u1:(64:Int) < ((B.length:Nat):Int):=by omega
    go_wp2_with fail
    all_goals refine bodyPost_ret (results_tmp2 rfl _ _ _) rfl ?_
    all_goals exact ⟨fun n h=>(by rw [H.out] at h;cases h),fun c h=>(by rw [H.out] at h;cases h;exact ⟨rfl,bel⟩)⟩
   ·have H:Hid (numP B=.ok B):=by show _=_;rw [HN2.out,if_neg z1]
    have u1:¬ (64:Int) < ((B.length:Nat):Int):=by omega
    have HB4:Hid _:=bs4
    clear bs4
    go_wp2_with fail
    all_goals refine bodyPost_ret (results_tmp2 rfl _ _ _) rfl ?_
    all_goals exact ⟨fun n h=>(by rw [H.out] at h;cases h;exact ⟨_,rfl,HB4.out,fun a n c e h0=>by (cases e;exact HN3.out),bel⟩),fun c h=>(by rw [H.out] at h;cases h)⟩
end Go.Proofs.YtnkipgbnnhahbaaGreatDoor
