/- The document's Text of layer 13; bits of a byte. The document's Bits of layer 13. -/
import Derived.Test.YtnkipgbnnhahbaaGreatDoorClWr
import Derived.Test.YtnkipgbnnhahbaaGreatDoorDrDep
import Derived.Test.YtnkipgbnnhahbaaGreatDoorHeld3
import Derived.Test.YtnkipgbnnhahbaaGreatDoorDcWrite
import Derived.Test.YtnkipgbnnhahbaaGreatDoorRows
import Derived.Deep.OwnRows
import Derived.Deep.AppendLies
import Derived.Deep.WholeRow
import Derived.Deep.RegionHeld3
import Derived.Deep.DeepCutAuto
import Derived.Deep.DeepFit
namespace Go.Proofs.YtnkipgbnnhahbaaGreatDoor
open Go.RowKit
theorem bits_odd {L y:Int} {i p:Nat} (h:L=2 ^ i * y) (hy:y % 2=1) (hip:i < p) (hp:p≤7):¬ L % 2 ^ p=0:=by
 have hi:i=0∨i=1∨i=2∨i=3∨i=4∨i=5∨i=6:=by omega
 have hq:p=1∨p=2∨p=3∨p=4∨p=5∨p=6∨p=7:=by omega
 rcases hi with rfl|rfl|rfl|rfl|rfl|rfl|rfl<;>rcases hq with rfl|rfl|rfl|rfl|rfl|rfl|rfl<;>omega
theorem bits_even {L y:Int} {i:Nat} (h:L=2 ^ i * y) (hy:¬ y % 2=1):L=2 ^ (i + 1) * (y / 2):=by
 rw [h,Int.pow_succ,Int.mul_assoc]
 congr 1
 omega
theorem bits_end {L y:Int} {i:Nat} (h:L=2 ^ i * y):L % 2 ^ i=0:=by
 rw [h,Int.mul_emod_right]
set_option linter.unusedSimpArgs false in
set_option maxRecDepth 100000 in
set_option maxHeartbeats 2000000 in
theorem r13_Bits {v:Value} {B:List Int} {w:World} (hv:Bs w v B) (b:byt B) (hl:B.length≤140737488355328) :
  Calls Tryz.prog 54 #[v] w fun e w'=>(∀ n k,bitsP B=.ok (n,k)→∃ v':Value,e=.returned (.tuple #[v',.int .i64 k,.int .i64 0])∧Bs w' v' n∧Below w.heap.size w w')∧(∀ c,bitsP B=.error c→e=.returned (.tuple #[.slice none 0 0,.int .i64 0,.int .i64 (c:Int)])∧Below w.heap.size w w'):=by
 have HV:Hid (Bs w v B):=hv
 have HB:Hid (byt B):=b
 obtain ⟨ao,cap,rfl,h1,h2,h3⟩:=hv
 obtain ⟨N,hN⟩:∃ N,B.length=N:=⟨_,rfl⟩
 have HN:Hid (B.length=N):=hN
 rw [hN] at h2 h3 hl HV ⊢
 unfold maxLen at h1
 clear b hN
 by_cases c0:N=0
 ·have H:Hid (bitsP B=.error 7):=by show _=_;unfold bitsP;rw [if_pos (.inl (by rw [HN.out];exact c0))]
  have g0:(N:Int)=0:=by omega
  clear h3
  go_enter Tryz.func54,Tryz.ntmps54
  go_wp2_with fail
  refine bodyPost_ret (results_tmp3 rfl _ _ _) rfl ?_
  exact ⟨fun n k h=>(by rw [H.out] at h;cases h),fun c h=>(by rw [H.out] at h;cases h;exact ⟨rfl,Below.refl _ _⟩)⟩
 have g0:¬ (N:Int)=0:=by omega
 obtain ⟨g,o,rfl,lg,HC'⟩:=h3 (by omega)
 have HC:Hid _:=HC'
 clear HC' h3
 have x0:=HC.out 0 (by omega)
 have y0:=HB.out 0
 rw [Nat.add_zero] at x0
 have gp:(0:Int) < (N:Int):=by omega
 obtain ⟨p',hp'⟩:∃ p,B.getD 0 0=p:=⟨_,rfl⟩
 have HP:Hid (B.getD 0 0=p'):=hp'
 rw [hp'] at x0 y0
 clear hp'
 by_cases c1:7 < p'
 ·have H:Hid (bitsP B=.error 7):=by show _=_;unfold bitsP;rw [if_pos (.inr (.inl (by rw [HP.out];exact c1)))]
  go_enter Tryz.func54,Tryz.ntmps54
  go_wp2_with fail
  refine bodyPost_ret (results_tmp3 rfl _ _ _) rfl ?_
  exact ⟨fun n k h=>(by rw [H.out] at h;cases h),fun c h=>(by rw [H.out] at h;cases h;exact ⟨rfl,Below.refl _ _⟩)⟩
 by_cases c2:N=1∧¬ p'=0
 ·have H:Hid (bitsP B=.error 7):=by show _=_;unfold bitsP;rw [if_pos (.inr (.inr (by rw [HP.out,HN.out];exact c2)))]
  obtain ⟨c2a,c2b⟩:=c2
  have g1:(N:Int)=1:=by omega
  go_enter Tryz.func54,Tryz.ntmps54
  go_wp2_with fail
  refine bodyPost_ret (results_tmp3 rfl _ _ _) rfl ?_
  exact ⟨fun n k h=>(by rw [H.out] at h;cases h),fun c h=>(by rw [H.out] at h;cases h;exact ⟨rfl,Below.refl _ _⟩)⟩
 obtain ⟨p,rfl⟩:=Int.eq_ofNat_of_zero_le (by omega:0≤p')
 have x1:=HC.out (N - 1) (by omega)
 have y1:=HB.out (N - 1)
 obtain ⟨L,hL⟩:∃ L,B.getD (N - 1) 0=L:=⟨_,rfl⟩
 have H0:Hid (bitsP B=if L % 2 ^ p=0 then .ok (B.drop 1,(p:Int)) else .error 7):=by
  show _=_
  unfold bitsP
  rw [HP.out,HN.out,hL,if_neg (by rintro (h|h|h);exact c0 h;exact c1 h;exact c2 h),Int.toNat_natCast]
 rw [hL] at x1 y1
 have HL:Hid (B.getD (N - 1) 0=L):=hL
 clear hL
 have i1:IntKind.i64.wrap ((N:Int) - 1)=((N - 1:Nat):Int):=by rw [IntKind.wrap_i64];omega
 have i2:((N - 1:Nat):Int) < (N:Int):=by omega
 have i3:(0:Int)≤((N - 1:Nat):Int):=by omega
 have i4:IntKind.i64.wrap L=L:=by rw [IntKind.wrap_i64];omega
 have i5:IntKind.i64.wrap (p:Int)=(p:Int):=by rw [IntKind.wrap_i64];omega
 by_cases c3:N=1
 ·have g1:(N:Int)=1:=by omega
  have g2:(p:Int)=0:=by omega
  obtain rfl:L=0:=by
   have z:=HL.out
   rw [c3,HP.out] at z
   omega
  clear c2
  go_enter Tryz.func54,Tryz.ntmps54
  go_wp2_with fail
  go_loop [5,6] (fun lv iv=>∃ (i:Nat) (y:Int),i≤p∧iv=.int .i64 (i:Int)∧lv=.int .i64 y∧(0≤y∧y≤255)∧Hid ((0:Int)=2 ^ i * y)) (fun _ iv=>p - (intOf iv).toNat)
  case atStart=>exact ⟨0,0,by omega,rfl,rfl,by omega,by show _=_;omega⟩
  case round =>
   obtain ⟨i,y,hi,rfl,rfl,hy,HE⟩:=hrel
   by_cases hil:i < p
   ·exact absurd hil (by omega)
   ·have k1:¬ (i:Int) < (p:Int):=by omega
    obtain rfl:i=p:=by omega
    have H:Hid (bitsP B=.ok (B.drop 1,(0:Int))):=by show _=_;rw [H0.out,if_pos (bits_end HE.out),show (i:Int)=0 by omega]
    have q1:(1:Int)≤(N:Int):=by omega
    have q2:1≤N:=by omega
    have q3:1≤cap:=by omega
    obtain ⟨S1,hS1,KL1,KA1,KD1,KS1,KQ1,KN1,KB1,KM1,KR1⟩:=held3 (w0:=w) (W:=w) [] (by intro b X h;simp at h) (Below.refl _ _)
    have cx:∀ wx,Hd S1 wx→wx.cell? ⟨g,o,none⟩=some (.int .u8 (i:Int)):=fun wx h=>cell_later x0 (KB1.out wx h)
    have lx:∀ wx,Hd S1 wx→g < wx.heap.size:=fun wx h=>Nat.lt_of_lt_of_le lg (KB1.out wx h).size
    clear KS1 KQ1 KN1 KM1 KR1 x0
    go_upto_region 10 with fail
    refine wp_region_noPanic ?_
    refine wp_region_held_drew (S:=Hd S1) (by kernel_rfl) (KD1.out _ hS1) (fun hHeld=>?_)
    clear hS1
    generalize World.drew _=wd at *
    refine wpAnyH_take (i:=1) (v:=?_) rfl (by kernel_rfl) (by kernel_rfl) (by kernel_rfl) (fun _ _ _ h=>h) (Or.inl ⟨by rfl,?_⟩) (by assumption) ?_
    rotate_left
    ·intro w hSw
     go_simp
     with_reducible rfl
    try simp only [Act.put,List.getElem_toArray,List.getElem_cons_zero,List.getElem_cons_succ,List.setIfInBounds_toArray,List.set_cons_zero,List.set_cons_succ]
    refine wpAnyH_take (i:=2) (v:=?_) rfl (by kernel_rfl) (by kernel_rfl) (by kernel_rfl) (fun _ _ _ h=>h) (Or.inl ⟨by rfl,?_⟩) (by assumption) ?_
    rotate_left
    ·intro w hSw
     go_simp
     with_reducible rfl
    try simp only [Act.put,List.getElem_toArray,List.getElem_cons_zero,List.getElem_cons_succ,List.setIfInBounds_toArray,List.set_cons_zero,List.set_cons_succ]
    refine wpAnyH_take (i:=4) (v:=?_) rfl (by kernel_rfl) (by kernel_rfl) (by kernel_rfl) (fun _ _ _ h=>h) (Or.inl ⟨by rfl,?_⟩) (by assumption) ?_
    rotate_left
    ·intro w hSw
     go_simp
     with_reducible rfl
    try simp only [Act.put,List.getElem_toArray,List.getElem_cons_zero,List.getElem_cons_succ,List.setIfInBounds_toArray,List.set_cons_zero,List.set_cons_succ]
    refine wpAnyH_take (i:=5) (v:=?_) rfl (by kernel_rfl) (by kernel_rfl) (by kernel_rfl) (fun _ _ _ h=>h) (Or.inl ⟨by rfl,?_⟩) (by assumption) ?_
    rotate_left
    ·intro w hSw
     go_simp
     with_reducible rfl
    try simp only [Act.put,List.getElem_toArray,List.getElem_cons_zero,List.getElem_cons_succ,List.setIfInBounds_toArray,List.set_cons_zero,List.set_cons_succ]
    refine wpAnyH_take (i:=6) (v:=?_) rfl (by kernel_rfl) (by kernel_rfl) (by kernel_rfl) (fun _ _ _ h=>h) (Or.inl ⟨by rfl,?_⟩) (by assumption) ?_
    rotate_left
    ·intro w hSw
     go_simp
     with_reducible rfl
    try simp only [Act.put,List.getElem_toArray,List.getElem_cons_zero,List.getElem_cons_succ,List.setIfInBounds_toArray,List.set_cons_zero,List.set_cons_succ]
    refine wpAnyH_take (i:=7) (v:=?_) rfl (by kernel_rfl) (by kernel_rfl) (by kernel_rfl) (fun _ _ _ h=>h) (Or.inl ⟨by rfl,?_⟩) (by assumption) ?_
    rotate_left
    ·intro w hSw
     go_simp
     with_reducible rfl
    try simp only [Act.put,List.getElem_toArray,List.getElem_cons_zero,List.getElem_cons_succ,List.setIfInBounds_toArray,List.set_cons_zero,List.set_cons_succ]
    have HH0:Hid (Hd S1 wd):=hHeld
    refine wpAnyH_ready (rs:=[0]) (by kernel_rfl) (by simp) ?_
    refine AllReadyH.cons rfl (fun K hK=>?_) ?_
    ·go_simp
     refine hK.out _ _ ?_ (fun hHeld2=>?_)
     ·exact KA1.out _ _ hHeld
     ·clear hK K hHeld
      have hHeld:=hHeld2
      clear hHeld2
      try simp only [Act.put,List.getElem_toArray,List.getElem_cons_zero,List.getElem_cons_succ,List.setIfInBounds_toArray,List.set_cons_zero,List.set_cons_succ]
      refine wpAnyH_ready (rs:=[3]) (by kernel_rfl) (by simp) ?_
      refine AllReadyH.cons rfl (fun K hK=>?_) ?_
      ·have own0:=own_nilM wd
       have hbl:Below wd.heap.size wd (wd.alloc (.cells #[] 5)):=(Below.refl _ _).alloc (Nat.le_refl _) _
       have HCut:Hid (∀ ad m k,m=N - 1→k=cap - 1→(0 < m→ad=some ⟨g,o + 1,none⟩)→Bs (wd.alloc (.cells #[] 5)) (.slice ad m k) (B.drop 1)):=fun ad m k hm hk ha=>bs_cutM ((HV.out.later (KB1.out _ HH0.out)).later hbl) HN.out (by omega) hm ha hk
       have HLe:Hid ((B.drop 1).length=N - 1):=by show _=_;rw [List.length_drop,HN.out]
       obtain ⟨R,hR⟩:∃ R,B.drop 1=R:=⟨_,rfl⟩
       rw [hR] at HCut HLe H
       clear hR
       rw [if_pos (show Region.wanted _ _=true from rfl)]
       refine wp_of_list (ops:=#[]) rfl ?_
       refine wpList_append_bs (by rfl) _ _ (by rfl) wd.heap.size _ 0 [] (by rfl) own0 _ R (by rfl) (HCut.out _ _ _ (by first|rfl|omega) (by first|rfl|omega) (by intro h0;first|rfl|(rw [if_neg (by omega)])|omega)) (by rw [HLe.out];omega) (by simp) ?_
       intro v3 w3 own3 hgrow hat
       rw [Nat.zero_add,List.nil_append] at own3
       have bel:=below_own (base:=wd.heap.size) hbl hgrow (by simp) (fun g hg=>own_geM own0 hg) (Nat.le_refl _)
       have bs3:=Bs.of_own own3
       clear own0 hbl hgrow hat own3 HCut
       refine ⟨rfl,?_⟩
       refine hK.out _ _ ?_ (fun hHeld2=>?_)
       ·exact KL1.out _ _ HH0.out bel
       ·clear hK K hHeld
        have hHeld:=hHeld2
        clear hHeld2
        try simp only [Act.put,List.getElem_toArray,List.getElem_cons_zero,List.getElem_cons_succ,List.setIfInBounds_toArray,List.set_cons_zero,List.set_cons_succ]
        refine wpAnyH_take (i:=8) (v:=?_) rfl (by kernel_rfl) (by kernel_rfl) (by kernel_rfl) (fun _ _ _ h=>h) (Or.inl ⟨by rfl,?_⟩) (by assumption) ?_
        rotate_left
        ·intro w hSw
         go_simp
         with_reducible rfl
        try simp only [Act.put,List.getElem_toArray,List.getElem_cons_zero,List.getElem_cons_succ,List.setIfInBounds_toArray,List.set_cons_zero,List.set_cons_succ]
        refine wpAnyH_take (i:=9) (v:=?_) rfl (by kernel_rfl) (by kernel_rfl) (by kernel_rfl) (fun _ _ _ h=>h) (Or.inl ⟨by rfl,?_⟩) (by assumption) ?_
        rotate_left
        ·intro w hSw
         go_simp
         with_reducible rfl
        try simp only [Act.put,List.getElem_toArray,List.getElem_cons_zero,List.getElem_cons_succ,List.setIfInBounds_toArray,List.set_cons_zero,List.set_cons_succ]
        refine wpAnyH_take (i:=10) (v:=?_) rfl (by kernel_rfl) (by kernel_rfl) (by kernel_rfl) (fun _ _ _ h=>h) (Or.inl ⟨by rfl,?_⟩) (by assumption) ?_
        rotate_left
        ·intro w hSw
         go_simp
         with_reducible rfl
        try simp only [Act.put,List.getElem_toArray,List.getElem_cons_zero,List.getElem_cons_succ,List.setIfInBounds_toArray,List.set_cons_zero,List.set_cons_succ]
        refine wpAnyH_done (by kernel_rfl) ?_ _
        refine NoPanic.normal ?_
        have bel2:=(KB1.out _ HH0.out).trans (bel.mono (KB1.out _ HH0.out).size)
        go_wp2_with fail
        all_goals refine bodyPost_ret (results_tmp3 rfl _ _ _) rfl ?_
        all_goals exact ⟨fun n k h=>(by rw [H.out] at h;cases h;exact ⟨_,rfl,bs3,bel2⟩),fun c h=>(by rw [H.out] at h;cases h)⟩
      exact AllReadyH.nil
    exact AllReadyH.nil
 ·have g1:¬ (N:Int)=1:=by omega
  clear c2
  go_enter Tryz.func54,Tryz.ntmps54
  go_wp2_with fail
  go_loop [5,6] (fun lv iv=>∃ (i:Nat) (y:Int),i≤p∧iv=.int .i64 (i:Int)∧lv=.int .i64 y∧(0≤y∧y≤255)∧Hid (L=2 ^ i * y)) (fun _ iv=>p - (intOf iv).toNat)
  case atStart=>exact ⟨0,L,by omega,rfl,rfl,by omega,by show _=_;omega⟩
  case round =>
   obtain ⟨i,y,hi,rfl,rfl,hy,HE⟩:=hrel
   by_cases hil:i < p
   ·have k1:(i:Int) < (p:Int):=by omega
    have gi:IntKind.i64.wrap ((i:Int) + 1)=(i:Int) + 1:=by rw [IntKind.wrap_i64];omega
    have t1:y.tmod 2=y % 2:=Int.tmod_eq_emod_of_nonneg (by omega)
    have t2:y.tdiv 2=y / 2:=Int.tdiv_eq_ediv_of_nonneg (by omega)
    by_cases d1:y % 2=1
    ·have H:Hid (bitsP B=.error 7):=by show _=_;rw [H0.out,if_neg (bits_odd HE.out d1 hil (by omega))]
     go_wp2_with fail
     refine bodyPost_ret (results_tmp3 rfl _ _ _) rfl ?_
     exact ⟨fun n k h=>(by rw [H.out] at h;cases h),fun c h=>(by rw [H.out] at h;cases h;exact ⟨rfl,Below.refl _ _⟩)⟩
    have HE2:Hid (L=2 ^ (i + 1) * (y / 2)):=bits_even HE.out d1
    go_wp2_with fail
    go_round
    case rel=>exact ⟨i + 1,y / 2,by omega,by go_num,by go_num,by omega,HE2⟩
    case measure=>simp [intOf];omega
   ·have k1:¬ (i:Int) < (p:Int):=by omega
    obtain rfl:i=p:=by omega
    have H:Hid (bitsP B=.ok (B.drop 1,(i:Int))):=by show _=_;rw [H0.out,if_pos (bits_end HE.out)]
    have q1:(1:Int)≤(N:Int):=by omega
    have q2:1≤N:=by omega
    have q3:1≤cap:=by omega
    obtain ⟨S1,hS1,KL1,KA1,KD1,KS1,KQ1,KN1,KB1,KM1,KR1⟩:=held3 (w0:=w) (W:=w) [] (by intro b X h;simp at h) (Below.refl _ _)
    have cx:∀ wx,Hd S1 wx→wx.cell? ⟨g,o,none⟩=some (.int .u8 (i:Int)):=fun wx h=>cell_later x0 (KB1.out wx h)
    have lx:∀ wx,Hd S1 wx→g < wx.heap.size:=fun wx h=>Nat.lt_of_lt_of_le lg (KB1.out wx h).size
    clear KS1 KQ1 KN1 KM1 KR1 x0
    go_upto_region 10 with fail
    refine wp_region_noPanic ?_
    refine wp_region_held_drew (S:=Hd S1) (by kernel_rfl) (KD1.out _ hS1) (fun hHeld=>?_)
    clear hS1
    generalize World.drew _=wd at *
    refine wpAnyH_take (i:=1) (v:=?_) rfl (by kernel_rfl) (by kernel_rfl) (by kernel_rfl) (fun _ _ _ h=>h) (Or.inl ⟨by rfl,?_⟩) (by assumption) ?_
    rotate_left
    ·intro w hSw
     go_simp
     with_reducible rfl
    try simp only [Act.put,List.getElem_toArray,List.getElem_cons_zero,List.getElem_cons_succ,List.setIfInBounds_toArray,List.set_cons_zero,List.set_cons_succ]
    refine wpAnyH_take (i:=2) (v:=?_) rfl (by kernel_rfl) (by kernel_rfl) (by kernel_rfl) (fun _ _ _ h=>h) (Or.inl ⟨by rfl,?_⟩) (by assumption) ?_
    rotate_left
    ·intro w hSw
     go_simp
     with_reducible rfl
    try simp only [Act.put,List.getElem_toArray,List.getElem_cons_zero,List.getElem_cons_succ,List.setIfInBounds_toArray,List.set_cons_zero,List.set_cons_succ]
    refine wpAnyH_take (i:=4) (v:=?_) rfl (by kernel_rfl) (by kernel_rfl) (by kernel_rfl) (fun _ _ _ h=>h) (Or.inl ⟨by rfl,?_⟩) (by assumption) ?_
    rotate_left
    ·intro w hSw
     go_simp
     with_reducible rfl
    try simp only [Act.put,List.getElem_toArray,List.getElem_cons_zero,List.getElem_cons_succ,List.setIfInBounds_toArray,List.set_cons_zero,List.set_cons_succ]
    refine wpAnyH_take (i:=5) (v:=?_) rfl (by kernel_rfl) (by kernel_rfl) (by kernel_rfl) (fun _ _ _ h=>h) (Or.inl ⟨by rfl,?_⟩) (by assumption) ?_
    rotate_left
    ·intro w hSw
     go_simp
     with_reducible rfl
    try simp only [Act.put,List.getElem_toArray,List.getElem_cons_zero,List.getElem_cons_succ,List.setIfInBounds_toArray,List.set_cons_zero,List.set_cons_succ]
    refine wpAnyH_take (i:=6) (v:=?_) rfl (by kernel_rfl) (by kernel_rfl) (by kernel_rfl) (fun _ _ _ h=>h) (Or.inl ⟨by rfl,?_⟩) (by assumption) ?_
    rotate_left
    ·intro w hSw
     go_simp
     with_reducible rfl
    try simp only [Act.put,List.getElem_toArray,List.getElem_cons_zero,List.getElem_cons_succ,List.setIfInBounds_toArray,List.set_cons_zero,List.set_cons_succ]
    refine wpAnyH_take (i:=7) (v:=?_) rfl (by kernel_rfl) (by kernel_rfl) (by kernel_rfl) (fun _ _ _ h=>h) (Or.inl ⟨by rfl,?_⟩) (by assumption) ?_
    rotate_left
    ·intro w hSw
     go_simp
     with_reducible rfl
    try simp only [Act.put,List.getElem_toArray,List.getElem_cons_zero,List.getElem_cons_succ,List.setIfInBounds_toArray,List.set_cons_zero,List.set_cons_succ]
    have HH0:Hid (Hd S1 wd):=hHeld
    refine wpAnyH_ready (rs:=[0]) (by kernel_rfl) (by simp) ?_
    refine AllReadyH.cons rfl (fun K hK=>?_) ?_
    ·go_simp
     refine hK.out _ _ ?_ (fun hHeld2=>?_)
     ·exact KA1.out _ _ hHeld
     ·clear hK K hHeld
      have hHeld:=hHeld2
      clear hHeld2
      try simp only [Act.put,List.getElem_toArray,List.getElem_cons_zero,List.getElem_cons_succ,List.setIfInBounds_toArray,List.set_cons_zero,List.set_cons_succ]
      refine wpAnyH_ready (rs:=[3]) (by kernel_rfl) (by simp) ?_
      refine AllReadyH.cons rfl (fun K hK=>?_) ?_
      ·have own0:=own_nilM wd
       have hbl:Below wd.heap.size wd (wd.alloc (.cells #[] 5)):=(Below.refl _ _).alloc (Nat.le_refl _) _
       have HCut:Hid (∀ ad m k,m=N - 1→k=cap - 1→(0 < m→ad=some ⟨g,o + 1,none⟩)→Bs (wd.alloc (.cells #[] 5)) (.slice ad m k) (B.drop 1)):=fun ad m k hm hk ha=>bs_cutM ((HV.out.later (KB1.out _ HH0.out)).later hbl) HN.out (by omega) hm ha hk
       have HLe:Hid ((B.drop 1).length=N - 1):=by show _=_;rw [List.length_drop,HN.out]
       obtain ⟨R,hR⟩:∃ R,B.drop 1=R:=⟨_,rfl⟩
       rw [hR] at HCut HLe H
       clear hR
       rw [if_pos (show Region.wanted _ _=true from rfl)]
       refine wp_of_list (ops:=#[]) rfl ?_
       refine wpList_append_bs (by rfl) _ _ (by rfl) wd.heap.size _ 0 [] (by rfl) own0 _ R (by rfl) (HCut.out _ _ _ (by first|rfl|omega) (by first|rfl|omega) (by intro h0;first|rfl|(rw [if_neg (by omega)])|omega)) (by rw [HLe.out];omega) (by simp) ?_
       intro v3 w3 own3 hgrow hat
       rw [Nat.zero_add,List.nil_append] at own3
       have bel:=below_own (base:=wd.heap.size) hbl hgrow (by simp) (fun g hg=>own_geM own0 hg) (Nat.le_refl _)
       have bs3:=Bs.of_own own3
       clear own0 hbl hgrow hat own3 HCut
       refine ⟨rfl,?_⟩
       refine hK.out _ _ ?_ (fun hHeld2=>?_)
       ·exact KL1.out _ _ HH0.out bel
       ·clear hK K hHeld
        have hHeld:=hHeld2
        clear hHeld2
        try simp only [Act.put,List.getElem_toArray,List.getElem_cons_zero,List.getElem_cons_succ,List.setIfInBounds_toArray,List.set_cons_zero,List.set_cons_succ]
        refine wpAnyH_take (i:=8) (v:=?_) rfl (by kernel_rfl) (by kernel_rfl) (by kernel_rfl) (fun _ _ _ h=>h) (Or.inl ⟨by rfl,?_⟩) (by assumption) ?_
        rotate_left
        ·intro w hSw
         go_simp
         with_reducible rfl
        try simp only [Act.put,List.getElem_toArray,List.getElem_cons_zero,List.getElem_cons_succ,List.setIfInBounds_toArray,List.set_cons_zero,List.set_cons_succ]
        refine wpAnyH_take (i:=9) (v:=?_) rfl (by kernel_rfl) (by kernel_rfl) (by kernel_rfl) (fun _ _ _ h=>h) (Or.inl ⟨by rfl,?_⟩) (by assumption) ?_
        rotate_left
        ·intro w hSw
         go_simp
         with_reducible rfl
        try simp only [Act.put,List.getElem_toArray,List.getElem_cons_zero,List.getElem_cons_succ,List.setIfInBounds_toArray,List.set_cons_zero,List.set_cons_succ]
        refine wpAnyH_take (i:=10) (v:=?_) rfl (by kernel_rfl) (by kernel_rfl) (by kernel_rfl) (fun _ _ _ h=>h) (Or.inl ⟨by rfl,?_⟩) (by assumption) ?_
        rotate_left
        ·intro w hSw
         go_simp
         with_reducible rfl
        try simp only [Act.put,List.getElem_toArray,List.getElem_cons_zero,List.getElem_cons_succ,List.setIfInBounds_toArray,List.set_cons_zero,List.set_cons_succ]
        refine wpAnyH_done (by kernel_rfl) ?_ _
        refine NoPanic.normal ?_
        have bel2:=(KB1.out _ HH0.out).trans (bel.mono (KB1.out _ HH0.out).size)
        go_wp2_with fail
        all_goals refine bodyPost_ret (results_tmp3 rfl _ _ _) rfl ?_
        all_goals exact ⟨fun n k h=>(by rw [H.out] at h;cases h;exact ⟨_,rfl,bs3,bel2⟩),fun c h=>(by rw [H.out] at h;cases h)⟩
      exact AllReadyH.nil
    exact AllReadyH.nil
end Go.Proofs.YtnkipgbnnhahbaaGreatDoor
