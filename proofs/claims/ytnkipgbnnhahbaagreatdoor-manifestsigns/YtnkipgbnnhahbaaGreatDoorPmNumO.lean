/- The document's NumberOf of layer 13. -/
import Derived.Test.YtnkipgbnnhahbaaGreatDoorCtPl
import Derived.Test.YtnkipgbnnhahbaaGreatDoorPmNumR
import Derived.Test.YtnkipgbnnhahbaaGreatDoorRows
import Derived.Deep.OwnRows
import Derived.Deep.AppendLies
import Derived.Deep.WholeRow
import Derived.Deep.RegionHeld3
import Derived.Deep.DeepCutAuto
import Derived.Deep.DeepFit
namespace Go.Proofs.YtnkipgbnnhahbaaGreatDoor
open Go.RowKit
set_option linter.unusedSimpArgs false in
set_option maxRecDepth 100000 in
set_option maxHeartbeats 4000000 in
theorem r13_NumberOfN {v:Value} {B:List Int} {w:World} (hv:Bs w v B) (b:byt B) (hl:B.length≤140737488355327) :
  Calls Tryz.prog 42 #[v] w fun e w'=>(∀ n,numOf B=.ok n→∃ v':Value,e=.returned (.tuple #[v',.int .i64 0])∧Bs w' v' n∧NewV w v'∧Below w.heap.size w w')∧(∀ c,numOf B=.error c→e=.returned (.tuple #[.slice none 0 0,.int .i64 (c:Int)])∧Below w.heap.size w w'):=by
 have HV:Hid (Bs w v B):=hv
 have HB:Hid (byt B):=b
 obtain ⟨ao,cap,rfl,h1,h2,h3⟩:=hv
 unfold maxLen at h1
 have HZl:=leadZ_le B
 have HZg:Hid _:=leadZ_get B
 have HZn:Hid _:=leadZ_next B
 have HD:Hid (lessZ B=B.drop (leadZ B)):=lessZ_drop B
 obtain ⟨z,hz⟩:∃ z,leadZ B=z:=⟨_,rfl⟩
 rw [hz] at HZl HZg HZn HD
 obtain ⟨N,hN⟩:∃ N,B.length=N:=⟨_,rfl⟩
 have HN:Hid (B.length=N):=hN
 rw [hN] at h2 h3 hl HZl HZn HV ⊢
 have HC:Hid (∀ j,j < N→∃ g o,ao=some ⟨g,o,none⟩∧w.cell? ⟨g,o + j,none⟩=some (.int .u8 (B.getD j 0))∧g < w.heap.size):=fun j hj=>by
  obtain ⟨g,o,e1,e2,e3⟩:=h3 (by omega)
  exact ⟨g,o,e1,e3 j hj,e2⟩
 clear b hz h3
 go_enter Tryz.func42,Tryz.ntmps42
 go_wp2_with fail
 go_loop [4] (fun iv=>∃ i:Nat,i≤z∧iv=.int .i64 (i:Int)) (fun iv=>z - (intOf iv).toNat)
 case atStart=>exact ⟨0,by omega,rfl⟩
 case round =>
  obtain ⟨i,hi,rfl⟩:=hrel
  by_cases hil:i < z
  ·have g1:(i:Int) < (N:Int):=by omega
   have g2:(0:Int)≤(i:Int):=by omega
   have gi:IntKind.i64.wrap ((i:Int) + 1)=(i:Int) + 1:=by rw [IntKind.wrap_i64];omega
   obtain ⟨g,o,rfl,cx,lg⟩:=HC.out i (by omega)
   rw [HZg.out i hil] at cx
   go_wp2_with fail
   go_round
   case rel=>exact ⟨i + 1,by omega,by go_num⟩
   case measure=>simp [intOf];omega
  ·have hz2:i=z:=by omega
   subst hz2
   have g2:(0:Int)≤(i:Int):=by omega
   have y2:(i:Int)≤(N:Int):=by omega
   have y3:i≤N:=by omega
   have y4:i≤cap:=by omega
   clear hil hi
   by_cases k0:i < N
   ·obtain ⟨g,o,rfl,cx,lg⟩:=HC.out i k0
    have nz:=HZn.out k0
    obtain ⟨x,hx⟩:∃ x,B.getD i 0=x:=⟨_,rfl⟩
    rw [hx] at cx nz
    have g1:(i:Int) < (N:Int):=by omega
    have gx:¬ cap=i:=by omega
    clear hx
    have HCut:Hid (∀ ad m k,m=N - i→k=cap - i→(0 < m→ad=some ⟨g,o + i,none⟩)→Bs (w.alloc (.cells #[] 5)) (.slice ad m k) (B.drop i)):=fun ad m k hm hk ha=>bs_cutM (HV.out.later ((Below.refl _ _).alloc (Nat.le_refl _) _)) HN.out y3 hm ha hk
    have own0:=own_nilM w
    have hbl:Below w.heap.size w (w.alloc (.cells #[] 5)):=(Below.refl _ _).alloc (Nat.le_refl _) _
    have HLe:Hid ((B.drop i).length=N - i):=by show _=_;rw [List.length_drop,HN.out]
    obtain ⟨R,hR⟩:∃ R,B.drop i=R:=⟨_,rfl⟩
    have HRb:Hid (byt R):=by rw [← hR];exact byt_dropM HB.out i
    have HNo:Hid (numOf B=if 64 < N - i then .error 2 else if N - i=0∨127 < R.getD 0 0 then .ok ((0:Int) :: R) else .ok R):=by show _=_;unfold numOf;rw [HD.out,hR];rw [hR] at HLe;rw [HLe.out]
    rw [hR] at HCut HLe
    clear hR
    go_upto_region 5 with (first|(at_builtin;refine wpList_append_bs (by rfl) _ _ (by rfl) w.heap.size _ 0 [] (by rfl) own0 _ R (by rfl) (HCut.out _ _ _ (by first|rfl|omega) (by first|rfl|omega) (by intro h0;first|rfl|(rw [if_neg (by omega)])|omega)) (by rw [HLe.out];omega) (by simp) ?_;intro v3 w3 own3 hgrow hat)|fail)
    rw [Nat.zero_add,List.nil_append,HLe.out] at own3
    have bel:=below_own (base:=w.heap.size) hbl hgrow (by simp) (fun g hg=>own_geM own0 hg) (Nat.le_refl _)
    have bs3:=Bs.of_own own3
    clear own0 hbl hgrow hat HCut
    obtain ⟨M,hM⟩:∃ M,N - i=M:=⟨_,rfl⟩
    rw [hM] at own3 HLe HNo
    clear hM
    obtain ⟨va,vc,rfl,vk1,vk2⟩:=own_slice own3
    unfold maxLen at vk2
    by_cases z1:64 < M
    ·have H:Hid (numOf B=.error 2):=by show _=_;rw [HNo.out,if_pos z1]
     have u1:(64:Int) < (M:Int):=by omega
     go_wp2_with fail
     all_goals refine bodyPost_ret (results_tmp2 rfl _ _ _) rfl ?_
     all_goals exact ⟨fun n h=>(by rw [H.out] at h;cases h),fun c h=>(by rw [H.out] at h;cases h;exact ⟨rfl,bel⟩)⟩
    have u1:¬ (64:Int) < (M:Int):=by omega
    rw [if_neg z1] at HNo
    have own4:=own_made w3 [.int .u8 0] 5 1 w3.heap.size rfl (Nat.le_refl _) (by decide)
    have hbl:Below w3.heap.size w3 (w3.alloc (.cells #[.int .u8 0] 5)):=(Below.refl _ _).alloc (Nat.le_refl _) _
    have bs4:=bs3.later hbl
    by_cases z2:M=0
    ·subst z2
     have H:Hid (numOf B=.ok ((0:Int) :: R)):=by show _=_;rw [HNo.out,if_pos (.inl rfl)]
     go_wp2_with (first|(at_builtin;refine wpList_append_bs (by rfl) _ _ (by rfl) w3.heap.size _ 1 [0] (by rfl) own4 _ R (by rfl) bs4 (by rw [HLe.out];omega) (by simp) ?_;intro v5 w5 own5 hgrow hat)|fail)
     have hb5:=below_own (base:=w3.heap.size) hbl hgrow (by simp) (fun g hg=>own_geM own4 hg) (Nat.le_refl _)
     have b5:=Bs.of_own own5
     have n5:=(NewV.of_own own5).upN bel.size
     replace bel:=bel.trans (hb5.mono bel.size)
     refine bodyPost_ret (results_tmp2 rfl _ _ _) rfl ?_
     exact ⟨fun n h=>(by rw [H.out] at h;cases h;exact ⟨_,rfl,b5,n5,bel⟩),fun c h=>(by rw [H.out] at h;cases h)⟩
    have z3:¬ (M:Int)=0:=by omega
    obtain ⟨a3,k3,e3,m1,m2,m3⟩:=bs3
    rw [HLe.out] at e3 m3
    obtain ⟨rfl,rfl⟩:va=a3∧vc=k3:=by simpa using e3
    obtain ⟨g3,o3,rfl,l3,d3⟩:=m3 (by omega)
    have x0:=d3 0 (by omega)
    rw [Nat.add_zero] at x0
    have y0:=HRb.out 0
    have gp:(0:Int) < (M:Int):=by omega
    obtain ⟨p,hp⟩:∃ p,R.getD 0 0=p:=⟨_,rfl⟩
    rw [hp] at x0 y0 HNo
    have HB3:Hid _:=bs4
    have HOw:Hid _:=own3
    clear d3 m3 hp e3
    by_cases z4:127 < p
    ·have H:Hid (numOf B=.ok ((0:Int) :: R)):=by show _=_;rw [HNo.out,if_pos (.inr z4)]
     go_wp2_with (first|(at_builtin;refine wpList_append_bs (by rfl) _ _ (by rfl) w3.heap.size _ 1 [0] (by rfl) own4 _ R (by rfl) bs4 (by rw [HLe.out];omega) (by simp) ?_;intro v5 w5 own5 hgrow hat)|fail)
     have hb5:=below_own (base:=w3.heap.size) hbl hgrow (by simp) (fun g hg=>own_geM own4 hg) (Nat.le_refl _)
     have b5:=Bs.of_own own5
     have n5:=(NewV.of_own own5).upN bel.size
     replace bel:=bel.trans (hb5.mono bel.size)
     refine bodyPost_ret (results_tmp2 rfl _ _ _) rfl ?_
     exact ⟨fun n h=>(by rw [H.out] at h;cases h;exact ⟨_,rfl,b5,n5,bel⟩),fun c h=>(by rw [H.out] at h;cases h)⟩
    ·have H:Hid (numOf B=.ok R):=by show _=_;rw [HNo.out,if_neg (by rintro (h|h);exact z2 h;exact z4 h)]
     clear own4 hbl bs4
     go_wp2_with fail
     refine bodyPost_ret (results_tmp2 rfl _ _ _) rfl ?_
     exact ⟨fun n h=>(by rw [H.out] at h;cases h;exact ⟨_,rfl,Bs.of_own HOw.out,NewV.of_own HOw.out,bel⟩),fun c h=>(by rw [H.out] at h;cases h)⟩
   ·have g1:¬ (i:Int) < (N:Int):=by omega
    have HCut:Hid (∀ ad m k,m=N - i→k=cap - i→(0 < m→True)→Bs (w.alloc (.cells #[] 5)) (.slice ad m k) (B.drop i)):=fun ad m k hm hk _=>by
     have el:(B.drop i).length=m:=by rw [List.length_drop,HN.out,hm]
     exact ⟨ad,k,by rw [el],by unfold maxLen;omega,by omega,fun h0=>by omega⟩
    cases ao with
    | none =>
     have own0:=own_nilM w
     have hbl:Below w.heap.size w (w.alloc (.cells #[] 5)):=(Below.refl _ _).alloc (Nat.le_refl _) _
     have HLe:Hid ((B.drop i).length=N - i):=by show _=_;rw [List.length_drop,HN.out]
     obtain ⟨R,hR⟩:∃ R,B.drop i=R:=⟨_,rfl⟩
     have HRb:Hid (byt R):=by rw [← hR];exact byt_dropM HB.out i
     have HNo:Hid (numOf B=if 64 < N - i then .error 2 else if N - i=0∨127 < R.getD 0 0 then .ok ((0:Int) :: R) else .ok R):=by show _=_;unfold numOf;rw [HD.out,hR];rw [hR] at HLe;rw [HLe.out]
     rw [hR] at HCut HLe
     clear hR
     go_upto_region 5 with (first|(at_builtin;refine wpList_append_bs (by rfl) _ _ (by rfl) w.heap.size _ 0 [] (by rfl) own0 _ R (by rfl) (HCut.out _ _ _ (by first|rfl|omega) (by first|rfl|omega) (fun _=>trivial)) (by rw [HLe.out];omega) (by simp) ?_;intro v3 w3 own3 hgrow hat)|fail)
     rw [Nat.zero_add,List.nil_append,HLe.out] at own3
     have bel:=below_own (base:=w.heap.size) hbl hgrow (by simp) (fun g hg=>own_geM own0 hg) (Nat.le_refl _)
     have bs3:=Bs.of_own own3
     clear own0 hbl hgrow hat HCut
     obtain ⟨M,hM⟩:∃ M,N - i=M:=⟨_,rfl⟩
     rw [hM] at own3 HLe HNo
     clear hM
     obtain ⟨va,vc,rfl,vk1,vk2⟩:=own_slice own3
     unfold maxLen at vk2
     by_cases z1:64 < M
     ·have H:Hid (numOf B=.error 2):=by show _=_;rw [HNo.out,if_pos z1]
      have u1:(64:Int) < (M:Int):=by omega
      go_wp2_with fail
      all_goals refine bodyPost_ret (results_tmp2 rfl _ _ _) rfl ?_
      all_goals exact ⟨fun n h=>(by rw [H.out] at h;cases h),fun c h=>(by rw [H.out] at h;cases h;exact ⟨rfl,bel⟩)⟩
     have u1:¬ (64:Int) < (M:Int):=by omega
     rw [if_neg z1] at HNo
     have own4:=own_made w3 [.int .u8 0] 5 1 w3.heap.size rfl (Nat.le_refl _) (by decide)
     have hbl:Below w3.heap.size w3 (w3.alloc (.cells #[.int .u8 0] 5)):=(Below.refl _ _).alloc (Nat.le_refl _) _
     have bs4:=bs3.later hbl
     by_cases z2:M=0
     ·subst z2
      have H:Hid (numOf B=.ok ((0:Int) :: R)):=by show _=_;rw [HNo.out,if_pos (.inl rfl)]
      go_wp2_with (first|(at_builtin;refine wpList_append_bs (by rfl) _ _ (by rfl) w3.heap.size _ 1 [0] (by rfl) own4 _ R (by rfl) bs4 (by rw [HLe.out];omega) (by simp) ?_;intro v5 w5 own5 hgrow hat)|fail)
      have hb5:=below_own (base:=w3.heap.size) hbl hgrow (by simp) (fun g hg=>own_geM own4 hg) (Nat.le_refl _)
      have b5:=Bs.of_own own5
      have n5:=(NewV.of_own own5).upN bel.size
      replace bel:=bel.trans (hb5.mono bel.size)
      refine bodyPost_ret (results_tmp2 rfl _ _ _) rfl ?_
      exact ⟨fun n h=>(by rw [H.out] at h;cases h;exact ⟨_,rfl,b5,n5,bel⟩),fun c h=>(by rw [H.out] at h;cases h)⟩
     have z3:¬ (M:Int)=0:=by omega
     obtain ⟨a3,k3,e3,m1,m2,m3⟩:=bs3
     rw [HLe.out] at e3 m3
     obtain ⟨rfl,rfl⟩:va=a3∧vc=k3:=by simpa using e3
     obtain ⟨g3,o3,rfl,l3,d3⟩:=m3 (by omega)
     have x0:=d3 0 (by omega)
     rw [Nat.add_zero] at x0
     have y0:=HRb.out 0
     have gp:(0:Int) < (M:Int):=by omega
     obtain ⟨p,hp⟩:∃ p,R.getD 0 0=p:=⟨_,rfl⟩
     rw [hp] at x0 y0 HNo
     have HB3:Hid _:=bs4
     have HOw:Hid _:=own3
     clear d3 m3 hp e3
     by_cases z4:127 < p
     ·have H:Hid (numOf B=.ok ((0:Int) :: R)):=by show _=_;rw [HNo.out,if_pos (.inr z4)]
      go_wp2_with (first|(at_builtin;refine wpList_append_bs (by rfl) _ _ (by rfl) w3.heap.size _ 1 [0] (by rfl) own4 _ R (by rfl) bs4 (by rw [HLe.out];omega) (by simp) ?_;intro v5 w5 own5 hgrow hat)|fail)
      have hb5:=below_own (base:=w3.heap.size) hbl hgrow (by simp) (fun g hg=>own_geM own4 hg) (Nat.le_refl _)
      have b5:=Bs.of_own own5
      have n5:=(NewV.of_own own5).upN bel.size
      replace bel:=bel.trans (hb5.mono bel.size)
      refine bodyPost_ret (results_tmp2 rfl _ _ _) rfl ?_
      exact ⟨fun n h=>(by rw [H.out] at h;cases h;exact ⟨_,rfl,b5,n5,bel⟩),fun c h=>(by rw [H.out] at h;cases h)⟩
     ·have H:Hid (numOf B=.ok R):=by show _=_;rw [HNo.out,if_neg (by rintro (h|h);exact z2 h;exact z4 h)]
      clear own4 hbl bs4
      go_wp2_with fail
      refine bodyPost_ret (results_tmp2 rfl _ _ _) rfl ?_
      exact ⟨fun n h=>(by rw [H.out] at h;cases h;exact ⟨_,rfl,Bs.of_own HOw.out,NewV.of_own HOw.out,bel⟩),fun c h=>(by rw [H.out] at h;cases h)⟩
    | some ad0 =>
     obtain ⟨g,o,sp⟩:=ad0
     by_cases gx:cap=i
     ·have own0:=own_nilM w
      have hbl:Below w.heap.size w (w.alloc (.cells #[] 5)):=(Below.refl _ _).alloc (Nat.le_refl _) _
      have HLe:Hid ((B.drop i).length=N - i):=by show _=_;rw [List.length_drop,HN.out]
      obtain ⟨R,hR⟩:∃ R,B.drop i=R:=⟨_,rfl⟩
      have HRb:Hid (byt R):=by rw [← hR];exact byt_dropM HB.out i
      have HNo:Hid (numOf B=if 64 < N - i then .error 2 else if N - i=0∨127 < R.getD 0 0 then .ok ((0:Int) :: R) else .ok R):=by show _=_;unfold numOf;rw [HD.out,hR];rw [hR] at HLe;rw [HLe.out]
      rw [hR] at HCut HLe
      clear hR
      go_upto_region 5 with (first|(at_builtin;refine wpList_append_bs (by rfl) _ _ (by rfl) w.heap.size _ 0 [] (by rfl) own0 _ R (by rfl) (HCut.out _ _ _ (by first|rfl|omega) (by first|rfl|omega) (fun _=>trivial)) (by rw [HLe.out];omega) (by simp) ?_;intro v3 w3 own3 hgrow hat)|fail)
      rw [Nat.zero_add,List.nil_append,HLe.out] at own3
      have bel:=below_own (base:=w.heap.size) hbl hgrow (by simp) (fun g hg=>own_geM own0 hg) (Nat.le_refl _)
      have bs3:=Bs.of_own own3
      clear own0 hbl hgrow hat HCut
      obtain ⟨M,hM⟩:∃ M,N - i=M:=⟨_,rfl⟩
      rw [hM] at own3 HLe HNo
      clear hM
      obtain ⟨va,vc,rfl,vk1,vk2⟩:=own_slice own3
      unfold maxLen at vk2
      by_cases z1:64 < M
      ·have H:Hid (numOf B=.error 2):=by show _=_;rw [HNo.out,if_pos z1]
       have u1:(64:Int) < (M:Int):=by omega
       go_wp2_with fail
       all_goals refine bodyPost_ret (results_tmp2 rfl _ _ _) rfl ?_
       all_goals exact ⟨fun n h=>(by rw [H.out] at h;cases h),fun c h=>(by rw [H.out] at h;cases h;exact ⟨rfl,bel⟩)⟩
      have u1:¬ (64:Int) < (M:Int):=by omega
      rw [if_neg z1] at HNo
      have own4:=own_made w3 [.int .u8 0] 5 1 w3.heap.size rfl (Nat.le_refl _) (by decide)
      have hbl:Below w3.heap.size w3 (w3.alloc (.cells #[.int .u8 0] 5)):=(Below.refl _ _).alloc (Nat.le_refl _) _
      have bs4:=bs3.later hbl
      by_cases z2:M=0
      ·subst z2
       have H:Hid (numOf B=.ok ((0:Int) :: R)):=by show _=_;rw [HNo.out,if_pos (.inl rfl)]
       go_wp2_with (first|(at_builtin;refine wpList_append_bs (by rfl) _ _ (by rfl) w3.heap.size _ 1 [0] (by rfl) own4 _ R (by rfl) bs4 (by rw [HLe.out];omega) (by simp) ?_;intro v5 w5 own5 hgrow hat)|fail)
       have hb5:=below_own (base:=w3.heap.size) hbl hgrow (by simp) (fun g hg=>own_geM own4 hg) (Nat.le_refl _)
       have b5:=Bs.of_own own5
       have n5:=(NewV.of_own own5).upN bel.size
       replace bel:=bel.trans (hb5.mono bel.size)
       refine bodyPost_ret (results_tmp2 rfl _ _ _) rfl ?_
       exact ⟨fun n h=>(by rw [H.out] at h;cases h;exact ⟨_,rfl,b5,n5,bel⟩),fun c h=>(by rw [H.out] at h;cases h)⟩
      have z3:¬ (M:Int)=0:=by omega
      obtain ⟨a3,k3,e3,m1,m2,m3⟩:=bs3
      rw [HLe.out] at e3 m3
      obtain ⟨rfl,rfl⟩:va=a3∧vc=k3:=by simpa using e3
      obtain ⟨g3,o3,rfl,l3,d3⟩:=m3 (by omega)
      have x0:=d3 0 (by omega)
      rw [Nat.add_zero] at x0
      have y0:=HRb.out 0
      have gp:(0:Int) < (M:Int):=by omega
      obtain ⟨p,hp⟩:∃ p,R.getD 0 0=p:=⟨_,rfl⟩
      rw [hp] at x0 y0 HNo
      have HB3:Hid _:=bs4
      have HOw:Hid _:=own3
      clear d3 m3 hp e3
      by_cases z4:127 < p
      ·have H:Hid (numOf B=.ok ((0:Int) :: R)):=by show _=_;rw [HNo.out,if_pos (.inr z4)]
       go_wp2_with (first|(at_builtin;refine wpList_append_bs (by rfl) _ _ (by rfl) w3.heap.size _ 1 [0] (by rfl) own4 _ R (by rfl) bs4 (by rw [HLe.out];omega) (by simp) ?_;intro v5 w5 own5 hgrow hat)|fail)
       have hb5:=below_own (base:=w3.heap.size) hbl hgrow (by simp) (fun g hg=>own_geM own4 hg) (Nat.le_refl _)
       have b5:=Bs.of_own own5
       have n5:=(NewV.of_own own5).upN bel.size
       replace bel:=bel.trans (hb5.mono bel.size)
       refine bodyPost_ret (results_tmp2 rfl _ _ _) rfl ?_
       exact ⟨fun n h=>(by rw [H.out] at h;cases h;exact ⟨_,rfl,b5,n5,bel⟩),fun c h=>(by rw [H.out] at h;cases h)⟩
      ·have H:Hid (numOf B=.ok R):=by show _=_;rw [HNo.out,if_neg (by rintro (h|h);exact z2 h;exact z4 h)]
       clear own4 hbl bs4
       go_wp2_with fail
       refine bodyPost_ret (results_tmp2 rfl _ _ _) rfl ?_
       exact ⟨fun n h=>(by rw [H.out] at h;cases h;exact ⟨_,rfl,Bs.of_own HOw.out,NewV.of_own HOw.out,bel⟩),fun c h=>(by rw [H.out] at h;cases h)⟩
     ·have own0:=own_nilM w
      have hbl:Below w.heap.size w (w.alloc (.cells #[] 5)):=(Below.refl _ _).alloc (Nat.le_refl _) _
      have HLe:Hid ((B.drop i).length=N - i):=by show _=_;rw [List.length_drop,HN.out]
      obtain ⟨R,hR⟩:∃ R,B.drop i=R:=⟨_,rfl⟩
      have HRb:Hid (byt R):=by rw [← hR];exact byt_dropM HB.out i
      have HNo:Hid (numOf B=if 64 < N - i then .error 2 else if N - i=0∨127 < R.getD 0 0 then .ok ((0:Int) :: R) else .ok R):=by show _=_;unfold numOf;rw [HD.out,hR];rw [hR] at HLe;rw [HLe.out]
      rw [hR] at HCut HLe
      clear hR
      go_upto_region 5 with (first|(at_builtin;refine wpList_append_bs (by rfl) _ _ (by rfl) w.heap.size _ 0 [] (by rfl) own0 _ R (by rfl) (HCut.out _ _ _ (by first|rfl|omega) (by first|rfl|omega) (fun _=>trivial)) (by rw [HLe.out];omega) (by simp) ?_;intro v3 w3 own3 hgrow hat)|fail)
      rw [Nat.zero_add,List.nil_append,HLe.out] at own3
      have bel:=below_own (base:=w.heap.size) hbl hgrow (by simp) (fun g hg=>own_geM own0 hg) (Nat.le_refl _)
      have bs3:=Bs.of_own own3
      clear own0 hbl hgrow hat HCut
      obtain ⟨M,hM⟩:∃ M,N - i=M:=⟨_,rfl⟩
      rw [hM] at own3 HLe HNo
      clear hM
      obtain ⟨va,vc,rfl,vk1,vk2⟩:=own_slice own3
      unfold maxLen at vk2
      by_cases z1:64 < M
      ·have H:Hid (numOf B=.error 2):=by show _=_;rw [HNo.out,if_pos z1]
       have u1:(64:Int) < (M:Int):=by omega
       go_wp2_with fail
       all_goals refine bodyPost_ret (results_tmp2 rfl _ _ _) rfl ?_
       all_goals exact ⟨fun n h=>(by rw [H.out] at h;cases h),fun c h=>(by rw [H.out] at h;cases h;exact ⟨rfl,bel⟩)⟩
      have u1:¬ (64:Int) < (M:Int):=by omega
      rw [if_neg z1] at HNo
      have own4:=own_made w3 [.int .u8 0] 5 1 w3.heap.size rfl (Nat.le_refl _) (by decide)
      have hbl:Below w3.heap.size w3 (w3.alloc (.cells #[.int .u8 0] 5)):=(Below.refl _ _).alloc (Nat.le_refl _) _
      have bs4:=bs3.later hbl
      by_cases z2:M=0
      ·subst z2
       have H:Hid (numOf B=.ok ((0:Int) :: R)):=by show _=_;rw [HNo.out,if_pos (.inl rfl)]
       go_wp2_with (first|(at_builtin;refine wpList_append_bs (by rfl) _ _ (by rfl) w3.heap.size _ 1 [0] (by rfl) own4 _ R (by rfl) bs4 (by rw [HLe.out];omega) (by simp) ?_;intro v5 w5 own5 hgrow hat)|fail)
       have hb5:=below_own (base:=w3.heap.size) hbl hgrow (by simp) (fun g hg=>own_geM own4 hg) (Nat.le_refl _)
       have b5:=Bs.of_own own5
       have n5:=(NewV.of_own own5).upN bel.size
       replace bel:=bel.trans (hb5.mono bel.size)
       refine bodyPost_ret (results_tmp2 rfl _ _ _) rfl ?_
       exact ⟨fun n h=>(by rw [H.out] at h;cases h;exact ⟨_,rfl,b5,n5,bel⟩),fun c h=>(by rw [H.out] at h;cases h)⟩
      have z3:¬ (M:Int)=0:=by omega
      obtain ⟨a3,k3,e3,m1,m2,m3⟩:=bs3
      rw [HLe.out] at e3 m3
      obtain ⟨rfl,rfl⟩:va=a3∧vc=k3:=by simpa using e3
      obtain ⟨g3,o3,rfl,l3,d3⟩:=m3 (by omega)
      have x0:=d3 0 (by omega)
      rw [Nat.add_zero] at x0
      have y0:=HRb.out 0
      have gp:(0:Int) < (M:Int):=by omega
      obtain ⟨p,hp⟩:∃ p,R.getD 0 0=p:=⟨_,rfl⟩
      rw [hp] at x0 y0 HNo
      have HB3:Hid _:=bs4
      have HOw:Hid _:=own3
      clear d3 m3 hp e3
      by_cases z4:127 < p
      ·have H:Hid (numOf B=.ok ((0:Int) :: R)):=by show _=_;rw [HNo.out,if_pos (.inr z4)]
       go_wp2_with (first|(at_builtin;refine wpList_append_bs (by rfl) _ _ (by rfl) w3.heap.size _ 1 [0] (by rfl) own4 _ R (by rfl) bs4 (by rw [HLe.out];omega) (by simp) ?_;intro v5 w5 own5 hgrow hat)|fail)
       have hb5:=below_own (base:=w3.heap.size) hbl hgrow (by simp) (fun g hg=>own_geM own4 hg) (Nat.le_refl _)
       have b5:=Bs.of_own own5
       have n5:=(NewV.of_own own5).upN bel.size
       replace bel:=bel.trans (hb5.mono bel.size)
       refine bodyPost_ret (results_tmp2 rfl _ _ _) rfl ?_
       exact ⟨fun n h=>(by rw [H.out] at h;cases h;exact ⟨_,rfl,b5,n5,bel⟩),fun c h=>(by rw [H.out] at h;cases h)⟩
      ·have H:Hid (numOf B=.ok R):=by show _=_;rw [HNo.out,if_neg (by rintro (h|h);exact z2 h;exact z4 h)]
       clear own4 hbl bs4
       go_wp2_with fail
       refine bodyPost_ret (results_tmp2 rfl _ _ _) rfl ?_
       exact ⟨fun n h=>(by rw [H.out] at h;cases h;exact ⟨_,rfl,Bs.of_own HOw.out,NewV.of_own HOw.out,bel⟩),fun c h=>(by rw [H.out] at h;cases h)⟩
theorem r13_NumberOf {v:Value} {B:List Int} {w:World} (hv:Bs w v B) (b:byt B) (hl:B.length≤140737488355327) :
  Calls Tryz.prog 42 #[v] w fun e w'=>(∀ n,numOf B=.ok n→∃ v':Value,e=.returned (.tuple #[v',.int .i64 0])∧Bs w' v' n∧Below w.heap.size w w')∧(∀ c,numOf B=.error c→e=.returned (.tuple #[.slice none 0 0,.int .i64 (c:Int)])∧Below w.heap.size w w') :=
 (r13_NumberOfN hv b hl).mono fun _ _ ⟨h1,h2⟩=>⟨fun n h=>by obtain ⟨v',e,k1,_,k2⟩:=h1 n h;exact ⟨v',e,k1,k2⟩,h2⟩
end Go.Proofs.YtnkipgbnnhahbaaGreatDoor
