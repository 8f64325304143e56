import Derived.Test.YtohcdbifhnfcbaaGreatDoorKdBody0
import Derived.Test.YtohcdbifhnfcbaaGreatDoorDrDG
import Derived.Test.YtohcdbifhnfcbaaGreatDoorPrOidOf
import Derived.Test.YtohcdbifhnfcbaaGreatDoorPmTof
import Derived.Test.YtohcdbifhnfcbaaGreatDoorPmTimeA
import Derived.Test.YtohcdbifhnfcbaaGreatDoorKrRg
import Derived.Test.YtohcdbifhnfcbaaGreatDoorPmNumO
import Derived.Test.YtohcdbifhnfcbaaGreatDoorPmNG
import Derived.Test.YtohcdbifhnfcbaaGreatDoorDrTG
import Derived.Test.YtohcdbifhnfcbaaGreatDoorRows
import Derived.Deep.OwnRows
import Derived.Deep.AppendLies
import Derived.Deep.WholeRow
import Derived.Deep.RegionHeld3
import Derived.Deep.DeepCutAuto
import Derived.Deep.DeepFit
import Derived.Great.BuildSlice
import Derived.Laws.Rows
import Derived.BigQuiet
namespace Go.Proofs.YtohcdbifhnfcbaaGreatDoor
open Go.RowKit
set_option linter.unusedSimpArgs false in
set_option maxRecDepth 100000 in
set_option maxHeartbeats 2000000 in
theorem Zo6 {v:Value} {B:List Int} {w:World} (hv:Bs w v B) (b:byt B) (hl:B.length≤140737488355328) :
  Calls Tryz.prog 113 #[v] w fun e w'=>(∀ n k,Zbd B=.ok (n,k)→∃ v':Value,e=.returned (.tuple #[v',.int .i64 k,.int .i64 0])∧Bs w' v' n∧Below w.heap.size w w')∧(∀ c,Zbd B=.error c→e=.returned (.tuple #[.slice none 0 0,.int .i64 0,.int .i64 (c:Int)])∧Below w.heap.size w w'):=by
 have HV:Hid (Bs w v B):=hv;have HB:Hid (byt B):=b;obtain ⟨ao,cap,rfl,h1,h2,h3⟩:=hv;obtain ⟨N,hN⟩:∃ N,B.length=N:=⟨_,rfl⟩;have HN:Hid (B.length=N):=hN;rw[hN] at h2 h3 hl HV ⊢;unfold maxLen at h1;clear b hN
 by_cases c0:N=0
 ·have H:Hid (Zbd B=.error 7):=by show _=_;unfold Zbd;rw[if_pos (.inl (by rw[HN.out];exact c0))]
  have g0:(N:Int)=0:=by omega
  clear h3;go_enter Tryz.func113,Tryz.ntmps113;go_wp2_with fail;refine bodyPost_ret (results_tmp3 rfl _ _ _) rfl ?_;exact ⟨fun n k h=>(by rw[H.out] at h;cases h),fun c h=>(by rw[H.out] at h;cases h;exact ⟨rfl,Below.refl _ _⟩)⟩
 have g0:¬ (N:Int)=0:=by omega
 obtain⟨g,o,rfl,lg,HC'⟩:=h3 (by omega);have HC:Hid _:=HC';clear HC' h3;have x0:=HC.out 0 (by omega);have y0:=HB.out 0;rw[Nat.add_zero] at x0;have gp:(0:Int)<(N:Int):=by omega
 obtain⟨p',hp'⟩:∃ p,B.getD 0 0=p:=⟨_,rfl⟩;have HP:Hid (B.getD 0 0=p'):=hp';rw[hp'] at x0 y0;clear hp'
 by_cases c1:7<p'
 ·have H:Hid (Zbd B=.error 7):=by show _=_;unfold Zbd;rw[if_pos (.inr (.inl (by rw[HP.out];exact c1)))]
  go_enter Tryz.func113,Tryz.ntmps113;go_wp2_with fail;refine bodyPost_ret (results_tmp3 rfl _ _ _) rfl ?_;exact ⟨fun n k h=>(by rw[H.out] at h;cases h),fun c h=>(by rw[H.out] at h;cases h;exact ⟨rfl,Below.refl _ _⟩)⟩
 by_cases c2:N=1∧¬ p'=0
 ·have H:Hid (Zbd B=.error 7):=by show _=_;unfold Zbd;rw[if_pos (.inr (.inr (by rw[HP.out,HN.out];exact c2)))]
  obtain⟨c2a,c2b⟩:=c2;have g1:(N:Int)=1:=by omega
  go_enter Tryz.func113,Tryz.ntmps113;go_wp2_with fail;refine bodyPost_ret (results_tmp3 rfl _ _ _) rfl ?_;exact ⟨fun n k h=>(by rw[H.out] at h;cases h),fun c h=>(by rw[H.out] at h;cases h;exact ⟨rfl,Below.refl _ _⟩)⟩
 obtain⟨p,rfl⟩:=Int.eq_ofNat_of_zero_le (by omega:0≤p');have x1:=HC.out (N-1) (by omega);have y1:=HB.out (N-1);obtain ⟨L,hL⟩:∃ L,B.getD (N-1) 0=L:=⟨_,rfl⟩;have H0:Hid (Zbd B=if L%2 ^ p=0 then .ok (B.drop 1,(p:Int)) else .error 7):=by
  show _=_;unfold Zbd;rw[HP.out,HN.out,hL,if_neg (by rintro (h|h|h);exact c0 h;exact c1 h;exact c2 h),Int.toNat_natCast]
 rw[hL] at x1 y1;have HL:Hid (B.getD (N-1) 0=L):=hL;clear hL;have i1:IntKind.i64.wrap ((N:Int)-1)=((N-1:Nat):Int):=by rw[IntKind.wrap_i64];omega
 have i2:((N-1:Nat):Int)<(N:Int):=by omega
 have i3:(0:Int)≤((N-1:Nat):Int):=by omega
 have i4:IntKind.i64.wrap L=L:=by rw[IntKind.wrap_i64];omega
 have i5:IntKind.i64.wrap (p:Int)=(p:Int):=by rw[IntKind.wrap_i64];omega
 by_cases c3:N=1
 ·have g1:(N:Int)=1:=by omega
  have g2:(p:Int)=0:=by omega
  obtain rfl:L=0:=by
   have z:=HL.out;rw[c3,HP.out] at z;omega
  clear c2;go_enter Tryz.func113,Tryz.ntmps113;go_wp2_with fail;go_loop [5,6] (fun lv iv=>∃ (i:Nat) (y:Int),i≤p∧iv=.int .i64 (i:Int)∧lv=.int .i64 y∧(0≤y∧y≤255)∧Hid ((0:Int)=2 ^ i*y)) (fun _ iv=>p-(intOf iv).toNat)
  case atStart=>exact ⟨0,0,by omega,rfl,rfl,by omega,by show _=_;omega⟩
  case round =>
   obtain⟨i,y,hi,rfl,rfl,hy,HE⟩:=hrel
   by_cases hil:i<p
   ·exact absurd hil (by omega)
   ·have k1:¬ (i:Int)<(p:Int):=by omega
    obtain rfl:i=p:=by omega
    have H:Hid (Zbd B=.ok (B.drop 1,(0:Int))):=by show _=_;rw[H0.out,if_pos (Zja HE.out),show (i:Int)=0 by omega]
    have q1:(1:Int)≤(N:Int):=by omega
    have q2:1≤N:=by omega
    have q3:1≤cap:=by omega
    obtain⟨S1,hS1,KL1,KA1,KD1,KS1,KQ1,KN1,KB1,KM1,KR1⟩:=Zow (w0:=w) (W:=w) [] (by intro b X h;simp at h) (Below.refl _ _);have cx:∀ wx,Hd S1 wx→wx.cell? ⟨g,o,none⟩=some (.int .u8 (i:Int)):=fun wx h=>Zan x0 (KB1.out wx h);have lx:∀ wx,Hd S1 wx→g<wx.heap.size:=fun wx h=>Nat.lt_of_lt_of_le lg (KB1.out wx h).size;clear KS1 KQ1 KN1 KM1 KR1 x0;go_upto_region 10 with fail;refine wp_region_noPanic ?_;refine wp_region_held_drew (S:=Hd S1) (by kernel_rfl) (KD1.out _ hS1) (fun hHeld=>?_);clear hS1;generalize World.drew _=wd at *;refine tkA 1 ?_;refine tkA 2 ?_;refine tkA 4 ?_;refine tkA 5 ?_;refine tkA 6 ?_;refine tkA 7 ?_;have HH0:Hid (Hd S1 wd):=hHeld;refine wpAnyH_ready (rs:=[0]) (by kernel_rfl) (by simp) ?_;refine AllReadyH.cons rfl (fun K hK=>?_) ?_
    ·go_simp
     refine hK.out _ _ ?_ (fun hHeld2=>?_)
     ·exact KA1.out _ _ hHeld
     ·clear hK K hHeld
      have hHeld:=hHeld2;clear hHeld2
      try simp only[Act.put,List.getElem_toArray,List.getElem_cons_zero,List.getElem_cons_succ,List.setIfInBounds_toArray,List.set_cons_zero,List.set_cons_succ]
      refine wpAnyH_ready (rs:=[3]) (by kernel_rfl) (by simp) ?_;refine AllReadyH.cons rfl (fun K hK=>?_) ?_
      ·have own0:=ZcE wd
       have hbl:Below wd.heap.size wd (wd.alloc (.cells #[] 5)):=(Below.refl _ _).alloc (Nat.le_refl _) _;have HCut:Hid (∀ ad m k,m=N-1→k=cap-1→(0<m→ad=some ⟨g,o+1,none⟩)→Bs (wd.alloc (.cells #[] 5)) (.slice ad m k) (B.drop 1)):=fun ad m k hm hk ha=>ZcI ((HV.out.later (KB1.out _ HH0.out)).later hbl) HN.out (by omega) hm ha hk;have HLe:Hid ((B.drop 1).length=N-1):=by show _=_;rw[List.length_drop,HN.out]
       obtain⟨R,hR⟩:∃ R,B.drop 1=R:=⟨_,rfl⟩;rw[hR] at HCut HLe H;clear hR;rw[if_pos (show Region.wanted _ _=true from rfl)];refine Zc0 (ops:=#[]) rfl ?_;refine Zad (by rfl) _ _ (by rfl) wd.heap.size _ 0 [] (by rfl) own0 _ R (by rfl) (HCut.out _ _ _ (by first|rfl|omega) (by first|rfl|omega) (by intro h0;first|rfl|(rw[if_neg (by omega)])|omega)) (by rw[HLe.out];omega) (by simp) ?_;intro v3 w3 own3 hgrow hat;rw[Nat.zero_add,List.nil_append] at own3;have bel:=Zag (base:=wd.heap.size) hbl hgrow (by simp) (fun g hg=>Zao own0 hg) (Nat.le_refl _);have bs3:=Bs.of_own own3;clear own0 hbl hgrow hat own3 HCut;refine ⟨rfl,?_⟩;refine hK.out _ _ ?_ (fun hHeld2=>?_)
       ·exact KL1.out _ _ HH0.out bel
       ·clear hK K hHeld
        have hHeld:=hHeld2;clear hHeld2
        try simp only[Act.put,List.getElem_toArray,List.getElem_cons_zero,List.getElem_cons_succ,List.setIfInBounds_toArray,List.set_cons_zero,List.set_cons_succ]
        refine tkA 8 ?_;refine tkA 9 ?_;refine tkA 10 ?_;refine wpAnyH_done (by kernel_rfl) ?_ _;refine NoPanic.normal ?_;have bel2:=(KB1.out _ HH0.out).trans (bel.mono (KB1.out _ HH0.out).size);go_wp2_with fail
        all_goals refine bodyPost_ret (results_tmp3 rfl _ _ _) rfl ?_
        all_goals exact ⟨fun n k h=>(by rw[H.out] at h;cases h;exact ⟨_,rfl,bs3,bel2⟩),fun c h=>(by rw[H.out] at h;cases h)⟩
      exact AllReadyH.nil
    exact AllReadyH.nil
 ·have g1:¬ (N:Int)=1:=by omega
  clear c2;go_enter Tryz.func113,Tryz.ntmps113;go_wp2_with fail;go_loop [5,6] (fun lv iv=>∃ (i:Nat) (y:Int),i≤p∧iv=.int .i64 (i:Int)∧lv=.int .i64 y∧(0≤y∧y≤255)∧Hid (L=2 ^ i*y)) (fun _ iv=>p-(intOf iv).toNat)
  case atStart=>exact ⟨0,L,by omega,rfl,rfl,by omega,by show _=_;omega⟩
  case round =>
   obtain⟨i,y,hi,rfl,rfl,hy,HE⟩:=hrel
   by_cases hil:i<p
   ·have k1:(i:Int)<(p:Int):=by omega
    have gi:IntKind.i64.wrap ((i:Int)+1)=(i:Int)+1:=by rw[IntKind.wrap_i64];omega
    have t1:y.tmod 2=y%2:=Int.tmod_eq_emod_of_nonneg (by omega);have t2:y.tdiv 2=y/2:=Int.tdiv_eq_ediv_of_nonneg (by omega)
    by_cases d1:y%2=1
    ·have H:Hid (Zbd B=.error 7):=by show _=_;rw[H0.out,if_neg (Zn8 HE.out d1 hil (by omega))]
     go_wp2_with fail;refine bodyPost_ret (results_tmp3 rfl _ _ _) rfl ?_;exact ⟨fun n k h=>(by rw[H.out] at h;cases h),fun c h=>(by rw[H.out] at h;cases h;exact ⟨rfl,Below.refl _ _⟩)⟩
    have HE2:Hid (L=2 ^ (i+1)*(y/2)):=Zlo HE.out d1;go_wp2_with fail;go_round
    case rel=>exact ⟨i+1,y/2,by omega,by go_num,by go_num,by omega,HE2⟩
    case measure=>simp[intOf];omega
   ·have k1:¬ (i:Int)<(p:Int):=by omega
    obtain rfl:i=p:=by omega
    have H:Hid (Zbd B=.ok (B.drop 1,(i:Int))):=by show _=_;rw[H0.out,if_pos (Zja HE.out)]
    have q1:(1:Int)≤(N:Int):=by omega
    have q2:1≤N:=by omega
    have q3:1≤cap:=by omega
    obtain⟨S1,hS1,KL1,KA1,KD1,KS1,KQ1,KN1,KB1,KM1,KR1⟩:=Zow (w0:=w) (W:=w) [] (by intro b X h;simp at h) (Below.refl _ _);have cx:∀ wx,Hd S1 wx→wx.cell? ⟨g,o,none⟩=some (.int .u8 (i:Int)):=fun wx h=>Zan x0 (KB1.out wx h);have lx:∀ wx,Hd S1 wx→g<wx.heap.size:=fun wx h=>Nat.lt_of_lt_of_le lg (KB1.out wx h).size;clear KS1 KQ1 KN1 KM1 KR1 x0;go_upto_region 10 with fail;refine wp_region_noPanic ?_;refine wp_region_held_drew (S:=Hd S1) (by kernel_rfl) (KD1.out _ hS1) (fun hHeld=>?_);clear hS1;generalize World.drew _=wd at *;refine tkA 1 ?_;refine tkA 2 ?_;refine tkA 4 ?_;refine tkA 5 ?_;refine tkA 6 ?_;refine tkA 7 ?_;have HH0:Hid (Hd S1 wd):=hHeld;refine wpAnyH_ready (rs:=[0]) (by kernel_rfl) (by simp) ?_;refine AllReadyH.cons rfl (fun K hK=>?_) ?_
    ·go_simp
     refine hK.out _ _ ?_ (fun hHeld2=>?_)
     ·exact KA1.out _ _ hHeld
     ·clear hK K hHeld
      have hHeld:=hHeld2;clear hHeld2
      try simp only[Act.put,List.getElem_toArray,List.getElem_cons_zero,List.getElem_cons_succ,List.setIfInBounds_toArray,List.set_cons_zero,List.set_cons_succ]
      refine wpAnyH_ready (rs:=[3]) (by kernel_rfl) (by simp) ?_;refine AllReadyH.cons rfl (fun K hK=>?_) ?_
      ·have own0:=ZcE wd
       have hbl:Below wd.heap.size wd (wd.alloc (.cells #[] 5)):=(Below.refl _ _).alloc (Nat.le_refl _) _;have HCut:Hid (∀ ad m k,m=N-1→k=cap-1→(0<m→ad=some ⟨g,o+1,none⟩)→Bs (wd.alloc (.cells #[] 5)) (.slice ad m k) (B.drop 1)):=fun ad m k hm hk ha=>ZcI ((HV.out.later (KB1.out _ HH0.out)).later hbl) HN.out (by omega) hm ha hk;have HLe:Hid ((B.drop 1).length=N-1):=by show _=_;rw[List.length_drop,HN.out]
       obtain⟨R,hR⟩:∃ R,B.drop 1=R:=⟨_,rfl⟩;rw[hR] at HCut HLe H;clear hR;rw[if_pos (show Region.wanted _ _=true from rfl)];refine Zc0 (ops:=#[]) rfl ?_;refine Zad (by rfl) _ _ (by rfl) wd.heap.size _ 0 [] (by rfl) own0 _ R (by rfl) (HCut.out _ _ _ (by first|rfl|omega) (by first|rfl|omega) (by intro h0;first|rfl|(rw[if_neg (by omega)])|omega)) (by rw[HLe.out];omega) (by simp) ?_;intro v3 w3 own3 hgrow hat;rw[Nat.zero_add,List.nil_append] at own3;have bel:=Zag (base:=wd.heap.size) hbl hgrow (by simp) (fun g hg=>Zao own0 hg) (Nat.le_refl _);have bs3:=Bs.of_own own3;clear own0 hbl hgrow hat own3 HCut;refine ⟨rfl,?_⟩;refine hK.out _ _ ?_ (fun hHeld2=>?_)
       ·exact KL1.out _ _ HH0.out bel
       ·clear hK K hHeld
        have hHeld:=hHeld2;clear hHeld2
        try simp only[Act.put,List.getElem_toArray,List.getElem_cons_zero,List.getElem_cons_succ,List.setIfInBounds_toArray,List.set_cons_zero,List.set_cons_succ]
        refine tkA 8 ?_;refine tkA 9 ?_;refine tkA 10 ?_;refine wpAnyH_done (by kernel_rfl) ?_ _;refine NoPanic.normal ?_;have bel2:=(KB1.out _ HH0.out).trans (bel.mono (KB1.out _ HH0.out).size);go_wp2_with fail
        all_goals refine bodyPost_ret (results_tmp3 rfl _ _ _) rfl ?_
        all_goals exact ⟨fun n k h=>(by rw[H.out] at h;cases h;exact ⟨_,rfl,bs3,bel2⟩),fun c h=>(by rw[H.out] at h;cases h)⟩
      exact AllReadyH.nil
    exact AllReadyH.nil
set_option linter.unusedSimpArgs false in
set_option maxRecDepth 100000 in
set_option maxHeartbeats 4000000 in
theorem ZkO {v:Value} {B:List Int} {w:World} (hv:Bs w v B) (b:byt B) (hl:B.length≤140737488355327) :
  Calls Tryz.prog 83 #[.int .i64 24,v] w fun e w'=>(∀ n,ZaQ 4 B=.ok n→e=.returned (.tuple #[.int .i64 n,.int .i64 0])∧Below w.heap.size w w')∧(∀ c,ZaQ 4 B=.error c→e=.returned (.tuple #[.int .i64 0,.int .i64 (c:Int)])∧Below w.heap.size w w'):=by
 have HV:Hid (Bs w v B):=hv;have HB:Hid (byt B):=b;obtain ⟨ao,cap,rfl,h1,h2,h3⟩:=hv;obtain ⟨N,hN⟩:∃ N,B.length=N:=⟨_,rfl⟩;have HN:Hid (B.length=N):=hN;rw[hN] at h2 h3 hl HV ⊢;unfold maxLen at h1;clear b hN
 by_cases c0:¬ N=15
 ·have H:Hid (ZaQ 4 B=.error 7):=by show _=_;unfold ZaQ;rw[HN.out,if_pos (.inl c0)]
  have g0:¬ (N:Int)=15:=by omega
  clear h3;go_enter Tryz.func83,Tryz.ntmps83;go_wp2_with fail;refine bodyPost_ret (results_tmp2 rfl _ _ _) rfl ?_;exact ⟨fun n h=>(by rw[H.out] at h;cases h),fun c h=>(by rw[H.out] at h;cases h;exact ⟨rfl,Below.refl _ _⟩)⟩
 replace c0:N=15:=Classical.not_not.1 c0;subst c0;obtain ⟨g,o,rfl,lg,HC'⟩:=h3 (by omega);have HC:Hid _:=HC';clear HC' h3;have x0:=HC.out 14 (by omega);have y0:=HB.out 14;obtain ⟨z,hz⟩:∃ z,B.getD 14 0=z:=⟨_,rfl⟩;have HZ:Hid (B.getD 14 0=z):=hz;rw[hz] at x0 y0;clear hz
 by_cases c1:¬ z=90
 ·have H:Hid (ZaQ 4 B=.error 7):=by show _=_;unfold ZaQ;rw[if_pos (.inr (.inl (by rw[HZ.out];exact c1)))]
  go_enter Tryz.func83,Tryz.ntmps83;go_wp2_with fail;refine bodyPost_ret (results_tmp2 rfl _ _ _) rfl ?_;exact ⟨fun n h=>(by rw[H.out] at h;cases h),fun c h=>(by rw[H.out] at h;cases h;exact ⟨rfl,Below.refl _ _⟩)⟩
 replace c1:z=90:=Classical.not_not.1 c1;subst c1;have HP0:Hid (Bs w (.slice (some ⟨g,o,none⟩) 14 cap) (B.take 14)):=ZbY (lo:=0) (hi:=14) HV.out HN.out (by omega) (by omega) rfl rfl rfl;have HPy:Hid (Bs w (.slice (some ⟨g,o,none⟩) 4 cap) (B.take 4)):=ZbY (lo:=0) (hi:=4) HV.out HN.out (by omega) (by omega) rfl rfl rfl;have HBt:∀ k,Hid (byt (B.take k)):=fun k=>Zbb HB.out 0 k;replace HBt:Hid _:=HBt;have HP1:Hid (Bs w (.slice (some ⟨g,o+4,none⟩) 2 (cap-4)) ((B.drop 4).take 2)):=ZbY (lo:=4) (hi:=6) HV.out HN.out (by omega) (by omega) rfl rfl rfl;have q1:¬ cap=4:=by omega
 have HP2:Hid (Bs w (.slice (some ⟨g,o+6,none⟩) 2 (cap-6)) ((B.drop 6).take 2)):=ZbY (lo:=6) (hi:=8) HV.out HN.out (by omega) (by omega) rfl rfl rfl;have q2:¬ cap=6:=by omega
 have HP3:Hid (Bs w (.slice (some ⟨g,o+8,none⟩) 2 (cap-8)) ((B.drop 8).take 2)):=ZbY (lo:=8) (hi:=10) HV.out HN.out (by omega) (by omega) rfl rfl rfl;have q3:¬ cap=8:=by omega
 have HP4:Hid (Bs w (.slice (some ⟨g,o+10,none⟩) 2 (cap-10)) ((B.drop 10).take 2)):=ZbY (lo:=10) (hi:=12) HV.out HN.out (by omega) (by omega) rfl rfl rfl;have q4:¬ cap=10:=by omega
 have HP5:Hid (Bs w (.slice (some ⟨g,o+12,none⟩) 2 (cap-12)) ((B.drop 12).take 2)):=ZbY (lo:=12) (hi:=14) HV.out HN.out (by omega) (by omega) rfl rfl rfl;have q5:¬ cap=12:=by omega
 go_enter Tryz.func83,Tryz.ntmps83;go_wp2_with fail;refine (ZaD HP0.out (HBt.out _).out (by rw[List.length_take,HN.out];omega)).mono ?_;rintro e w1 ⟨rfl,hw⟩;subst hw;obtain ⟨A,hA⟩:∃ A,Za3 (B.take 14) 0=A:=⟨_,rfl⟩;have HA:Hid (Za3 (B.take 14) 0=A):=hA;rw[hA];clear hA
 by_cases c2:A<0
 ·have H:Hid (ZaQ 4 B=.error 7):=by show _=_;unfold ZaQ;rw[if_pos (.inr (.inr (by rw[HA.out];exact c2)))]
  go_wp2_with fail;refine bodyPost_ret (results_tmp2 rfl _ _ _) rfl ?_;exact ⟨fun n h=>(by rw[H.out] at h;cases h),fun c h=>(by rw[H.out] at h;cases h;exact ⟨rfl,Below.refl _ _⟩)⟩
 have HAll:Hid (Zi6 (B.take 14)):=Zff _ 0 (by omega) (by rw[HA.out];omega);have HG:Hid (ZaQ 4 B=ZbU 4 (Zfb 4 (Za3 (B.take 4) 0)) (Za3 ((B.drop 4).take 2) 0) (Za3 ((B.drop 6).take 2) 0) (Za3 ((B.drop 8).take 2) 0) (Za3 ((B.drop 10).take 2) 0) (Za3 ((B.drop 12).take 2) 0)):=by
  show _=_;unfold ZaQ;rw[if_neg (by rw[HN.out,HZ.out,HA.out];omega)]
 clear HA HZ;have by0:0≤Za3 (B.take 4) 0∧Za3 (B.take 4) 0≤9999:=ZpO HAll.out (by omega) (by rw[HN.out];omega);have b1:=ZbP (B:=B) (lo:=4) HAll.out (by omega) (by rw[HN.out];omega);have b2:=ZbP (B:=B) (lo:=6) HAll.out (by omega) (by rw[HN.out];omega);have b3:=ZbP (B:=B) (lo:=8) HAll.out (by omega) (by rw[HN.out];omega);have b4:=ZbP (B:=B) (lo:=10) HAll.out (by omega) (by rw[HN.out];omega);have b5:=ZbP (B:=B) (lo:=12) HAll.out (by omega) (by rw[HN.out];omega);obtain ⟨y,ey⟩:=Int.eq_ofNat_of_zero_le by0.1;replace ey:Za3 (B.take 4) 0=(y:Int):=ey;rw[ey] at by0 HG;have Ey:Hid (Za3 (B.take 4) 0=(y:Int)):=ey;clear ey;obtain ⟨m,em⟩:=Int.eq_ofNat_of_zero_le b1.1;replace em:Za3 ((B.drop 4).take 2) 0=(m:Int):=em;rw[em] at b1 HG;have Em:Hid (Za3 ((B.drop 4).take 2) 0=(m:Int)):=em;clear em;obtain ⟨d,ed⟩:=Int.eq_ofNat_of_zero_le b2.1;replace ed:Za3 ((B.drop 6).take 2) 0=(d:Int):=ed;rw[ed] at b2 HG;have Ed:Hid (Za3 ((B.drop 6).take 2) 0=(d:Int)):=ed;clear ed;obtain ⟨h,eh⟩:=Int.eq_ofNat_of_zero_le b3.1;replace eh:Za3 ((B.drop 8).take 2) 0=(h:Int):=eh;rw[eh] at b3 HG;have Eh:Hid (Za3 ((B.drop 8).take 2) 0=(h:Int)):=eh;clear eh;obtain ⟨i,ei⟩:=Int.eq_ofNat_of_zero_le b4.1;replace ei:Za3 ((B.drop 10).take 2) 0=(i:Int):=ei;rw[ei] at b4 HG;have Ei:Hid (Za3 ((B.drop 10).take 2) 0=(i:Int)):=ei;clear ei;obtain ⟨s,es⟩:=Int.eq_ofNat_of_zero_le b5.1;replace es:Za3 ((B.drop 12).take 2) 0=(s:Int):=es;rw[es] at b5 HG;have Es:Hid (Za3 ((B.drop 12).take 2) 0=(s:Int)):=es;clear es;go_wp2_with fail;refine (ZaD HPy.out (HBt.out _).out (by rw[List.length_take,HN.out];omega)).mono ?_;rintro e w1 ⟨rfl,hw⟩;subst hw;rw[Ey.out];have HY:Hid (Zfb 4 (y:Int)=(y:Int)):=by show _=_;unfold Zfb;rw[if_neg (by decide)]
 rw[HY.out] at HG;clear HY;obtain ⟨Y,hY⟩:∃ Y,y=Y:=⟨_,rfl⟩;subst hY;go_wp2_with fail;refine (ZaD HP1.out (Zbb HB.out _ _) (by rw[List.length_take];omega)).mono ?_;rintro e w1 ⟨rfl,hw⟩;subst hw;rw[Em.out];go_wp2_with fail;refine (ZaD HP2.out (Zbb HB.out _ _) (by rw[List.length_take];omega)).mono ?_;rintro e w1 ⟨rfl,hw⟩;subst hw;rw[Ed.out];go_wp2_with fail;refine (ZaD HP3.out (Zbb HB.out _ _) (by rw[List.length_take];omega)).mono ?_;rintro e w1 ⟨rfl,hw⟩;subst hw;rw[Eh.out];go_wp2_with fail;refine (ZaD HP4.out (Zbb HB.out _ _) (by rw[List.length_take];omega)).mono ?_;rintro e w1 ⟨rfl,hw⟩;subst hw;rw[Ei.out];go_wp2_with fail;refine (ZaD HP5.out (Zbb HB.out _ _) (by rw[List.length_take];omega)).mono ?_;rintro e w1 ⟨rfl,hw⟩;subst hw;rw[Es.out];clear HP0 HPy HP1 HP2 HP3 HP4 HP5 HV HC x0
 by_cases k0:(y:Int)<2050
 ·have H:Hid (ZaQ 4 B=.error 3):=by show _=_;rw[HG.out];unfold ZbU;rw[if_pos (by omega)]
  go_wp2_with fail;refine bodyPost_ret (results_tmp2 rfl _ _ _) rfl ?_;exact ⟨fun n h=>(by rw[H.out] at h;cases h),fun c h=>(by rw[H.out] at h;cases h;exact ⟨rfl,Below.refl _ _⟩)⟩
 by_cases k1:(m:Int)<1
 ·have H:Hid (ZaQ 4 B=.error 3):=by show _=_;rw[HG.out];unfold ZbU;rw[if_pos (by omega)]
  go_wp2_with fail;refine bodyPost_ret (results_tmp2 rfl _ _ _) rfl ?_;exact ⟨fun n h=>(by rw[H.out] at h;cases h),fun c h=>(by rw[H.out] at h;cases h;exact ⟨rfl,Below.refl _ _⟩)⟩
 by_cases k2:12<(m:Int)
 ·have H:Hid (ZaQ 4 B=.error 3):=by show _=_;rw[HG.out];unfold ZbU;rw[if_pos (by omega)]
  go_wp2_with fail;refine bodyPost_ret (results_tmp2 rfl _ _ _) rfl ?_;exact ⟨fun n h=>(by rw[H.out] at h;cases h),fun c h=>(by rw[H.out] at h;cases h;exact ⟨rfl,Below.refl _ _⟩)⟩
 by_cases k3:(d:Int)<1
 ·have H:Hid (ZaQ 4 B=.error 3):=by show _=_;rw[HG.out];unfold ZbU;rw[if_pos (by omega)]
  go_wp2_with fail;refine bodyPost_ret (results_tmp2 rfl _ _ _) rfl ?_;exact ⟨fun n h=>(by rw[H.out] at h;cases h),fun c h=>(by rw[H.out] at h;cases h;exact ⟨rfl,Below.refl _ _⟩)⟩
 by_cases k4:23<(h:Int)
 ·have H:Hid (ZaQ 4 B=.error 3):=by show _=_;rw[HG.out];unfold ZbU;rw[if_pos (by omega)]
  go_wp2_with fail;refine bodyPost_ret (results_tmp2 rfl _ _ _) rfl ?_;exact ⟨fun n h=>(by rw[H.out] at h;cases h),fun c h=>(by rw[H.out] at h;cases h;exact ⟨rfl,Below.refl _ _⟩)⟩
 by_cases k5:59<(i:Int)
 ·have H:Hid (ZaQ 4 B=.error 3):=by show _=_;rw[HG.out];unfold ZbU;rw[if_pos (by omega)]
  go_wp2_with fail;refine bodyPost_ret (results_tmp2 rfl _ _ _) rfl ?_;exact ⟨fun n h=>(by rw[H.out] at h;cases h),fun c h=>(by rw[H.out] at h;cases h;exact ⟨rfl,Below.refl _ _⟩)⟩
 by_cases k6:59<(s:Int)
 ·have H:Hid (ZaQ 4 B=.error 3):=by show _=_;rw[HG.out];unfold ZbU;rw[if_pos (by omega)]
  go_wp2_with fail;refine bodyPost_ret (results_tmp2 rfl _ _ _) rfl ?_;exact ⟨fun n h=>(by rw[H.out] at h;cases h),fun c h=>(by rw[H.out] at h;cases h;exact ⟨rfl,Below.refl _ _⟩)⟩
 have HG2:Hid (ZaQ 4 B=if ((ZaP y m:Nat):Int)<(d:Int) then .error 3 else .ok (ZbM y m d+(3600*(h:Int)+60*(i:Int)+(s:Int)))):=by
  show _=_;rw[HG.out];unfold ZbU;rw[if_neg (by omega)];simp only[Int.toNat_natCast]
 clear HG;go_wp2_with fail;refine (ZdL (y:=y) (m:=m) (by omega) (by omega) (by omega)).mono ?_;rintro e w2 ⟨rfl,hb⟩;obtain ⟨Dm,hDm⟩:∃ D,ZaP y m=D:=⟨_,rfl⟩;rw[hDm] at HG2 ⊢;clear hDm
 by_cases k9:(Dm:Int)<(d:Int)
 ·have H:Hid (ZaQ 4 B=.error 3):=by show _=_;rw[HG2.out,if_pos k9]
  go_wp2_with fail;refine bodyPost_ret (results_tmp2 rfl _ _ _) rfl ?_;exact ⟨fun n h=>(by rw[H.out] at h;cases h),fun c h=>(by rw[H.out] at h;cases h;exact ⟨rfl,hb⟩)⟩
 go_wp2_with fail;refine (Zdd (y:=y) (m:=m) (d:=d) (by omega) (by omega) (by omega) (by omega)).mono ?_;rintro e w3 ⟨rfl,hb2⟩;have bel:=Zaa hb hb2;have bd:=Zm6 (y:=y) (m:=m) (d:=d) (by omega) (by omega) (by omega);obtain ⟨T,hT⟩:∃ T,ZbM y m d=T:=⟨_,rfl⟩;rw[hT] at HG2 bd ⊢;clear hT hb hb2;have H:Hid (ZaQ 4 B=.ok (T+(3600*(h:Int)+60*(i:Int)+(s:Int)))):=by show _=_;rw[HG2.out,if_neg (by omega)]
 have v1:IntKind.i64.wrap (3600*(h:Int))=3600*(h:Int):=by rw[IntKind.wrap_i64];omega
 have v2:IntKind.i64.wrap (60*(i:Int))=60*(i:Int):=by rw[IntKind.wrap_i64];omega
 have v3:IntKind.i64.wrap (3600*(h:Int)+60*(i:Int))=3600*(h:Int)+60*(i:Int):=by rw[IntKind.wrap_i64];omega
 have v4:IntKind.i64.wrap (3600*(h:Int)+60*(i:Int)+(s:Int))=3600*(h:Int)+60*(i:Int)+(s:Int):=by rw[IntKind.wrap_i64];omega
 have v5:IntKind.i64.wrap (T+(3600*(h:Int)+60*(i:Int)+(s:Int)))=T+(3600*(h:Int)+60*(i:Int)+(s:Int)):=by rw[IntKind.wrap_i64];omega
 go_wp2_with fail;refine bodyPost_ret (results_tmp2 rfl _ _ _) rfl ?_;exact ⟨fun n h=>(by rw[H.out] at h;cases h;exact ⟨rfl,bel⟩),fun c h=>(by rw[H.out] at h;cases h)⟩
set_option linter.unusedSimpArgs false in
set_option maxRecDepth 100000 in
set_option maxHeartbeats 1000000 in
theorem Zo8 {tag:Int} {v:Value} {B:List Int} {w:World} (hv:Bs w v B) (b:byt B) (hl:B.length≤140737488355327) :
  Calls Tryz.prog 83 #[.int .i64 tag,v] w fun e w'=>(∀ n,Zbz tag B=.ok n→e=.returned (.tuple #[.int .i64 n,.int .i64 0])∧Below w.heap.size w w')∧(∀ c,Zbz tag B=.error c→e=.returned (.tuple #[.int .i64 0,.int .i64 (c:Int)])∧Below w.heap.size w w'):=by
 by_cases c1:tag=23
 ·subst c1
  rw[show Zbz 23 B=ZaQ 2 B by unfold Zbz;rw[if_pos rfl]];exact ZkN hv b hl
 by_cases c2:tag=24
 ·subst c2
  rw[show Zbz 24 B=ZaQ 4 B by unfold Zbz;rw[if_neg (by decide),if_pos rfl]];exact ZkO hv b hl
 have H:Hid (Zbz tag B=.error 1):=by show _=_;unfold Zbz;rw[if_neg c1,if_neg c2]
 clear hv b;have j1:(tag == 23)=false:=by simpa using c1
 have j2:(tag == 24)=false:=by simpa using c2
 have l1:(tag != 23)=true:=by rw[bne,j1];rfl
 have l2:(tag != 24)=true:=by rw[bne,j2];rfl
 go_enter Tryz.func83,Tryz.ntmps83;go_wp2_with fail;refine bodyPost_ret (results_tmp2 rfl _ _ _) rfl ?_;exact ⟨fun n h=>(by rw[H.out] at h;cases h),fun c h=>(by rw[H.out] at h;cases h;exact ⟨rfl,Below.refl _ _⟩)⟩
theorem num_nz {b:List Int} {c:Nat} (h:Zbi b=.error c):¬ (c:Int)=0:=by
 unfold Zbi at h
 repeat' (split at h)
 all_goals first|(cases h;decide)|(exact absurd h (by simp))
theorem ZoP {b n:List Int} (h:byt b) (e:Zbi b=.ok n):byt n:=by
 unfold Zbi at e
 repeat' (split at e)
 all_goals first|(cases e;exact h)|(cases e;exact Zba h _)|(exact absurd e (by simp))
theorem Zqh {b:List Int} {c:Nat} (h:Zbd b=.error c):¬ (c:Int)=0:=by
 unfold Zbd at h
 split at h
 ·cases h;decide
 ·split at h
  ·cases h
  ·cases h;decide
theorem Zln {b n:List Int} {k:Int} (h:byt b) (e:Zbd b=.ok (n,k)):byt n:=by
 unfold Zbd at e
 split at e
 ·cases e
 ·split at e
  ·cases e
   exact Zba h _
  ·cases e
theorem Zro {t:Int} {b:List Int} {c:Nat} (h:Zbz t b=.error c):¬ (c:Int)=0:=by
 unfold Zbz ZaQ ZbU at h
 repeat (first|(cases h;decide)|split at h|(cases h))
theorem ZgJ:byt []:=fun j=>by simp
theorem ZgG (w:World):Bs w (.slice none 0 0) []:=⟨none,0,rfl,Nat.zero_le _,Nat.zero_le _,fun h=>absurd h (Nat.lt_irrefl 0)⟩
theorem ZhW (w:World):Zbg w (.slice none 0 0):=fun a n c e _=>by cases e
theorem Zd5 {v:Value} {B:List Int} {w:World} (hv:Bs w v B) (b:byt B) (hl:B.length≤140737488355328):Calls Tryz.prog 114 #[v] w fun e w'=>∃ (ao:Option Addr) (n k:Nat) (cc:Int) (nb:List Int),e=.returned (.tuple #[.slice ao n k,.int .i64 cc])∧Hid (Bs w' (.slice ao n k) nb)∧Hid (byt nb)∧Hid (nb.length=n)∧Hid (Zbg w (.slice ao n k))∧Below w.heap.size w w'∧Hid (cc=0→Zbi B=.ok nb)∧Hid (¬ cc=0→okO (Zbi B)=none):=by
 refine(ZiH hv b hl).mono ?_;rintro e w' ⟨h1,h2⟩
 cases hn:Zbi B with
 | ok n =>
  obtain⟨v',rfl,k1,k2,k3⟩:=h1 n hn;obtain ⟨ao,cap,rfl,-,-,-⟩:=id k1;exact ⟨ao,_,cap,0,n,rfl,k1,ZoP b hn,rfl,k2,k3,fun _=>rfl,fun h=>absurd rfl h⟩
 | error c =>
  obtain⟨rfl,k3⟩:=h2 c hn;exact ⟨none,0,0,c,[],rfl,ZgG _,ZgJ,rfl,ZhW _,k3,fun h=>absurd h (num_nz hn),fun _=>rfl⟩
theorem ZmM {v:Value} {B:List Int} {w:World} (hv:Bs w v B) (b:byt B) (hl:B.length≤140737488355328):Calls Tryz.prog 113 #[v] w fun e w'=>∃ (ao:Option Addr) (n k:Nat) (fr cc:Int) (nb:List Int),e=.returned (.tuple #[.slice ao n k,.int .i64 fr,.int .i64 cc])∧Hid (Bs w' (.slice ao n k) nb)∧Hid (byt nb)∧Hid (nb.length=n)∧Below w.heap.size w w'∧Hid (cc=0→Zbd B=.ok (nb,fr))∧Hid (¬ cc=0→∃ c9,Zbd B=.error c9):=by
 refine(Zo6 hv b hl).mono ?_;rintro e w' ⟨h1,h2⟩
 cases hn:Zbd B with
 | ok q =>
  obtain⟨n,f⟩:=q;obtain ⟨v',rfl,k1,k3⟩:=h1 n f hn;obtain ⟨ao,cap,rfl,-,-,-⟩:=id k1;exact ⟨ao,_,cap,f,0,n,rfl,k1,Zln b hn,rfl,k3,fun _=>rfl,fun h=>absurd rfl h⟩
 | error c =>
  obtain⟨rfl,k3⟩:=h2 c hn;exact ⟨none,0,0,0,c,[],rfl,ZgG _,ZgJ,rfl,k3,fun h=>absurd h (Zqh hn),fun _=>⟨c,rfl⟩⟩
theorem ZmN {tag:Int} {v:Value} {B:List Int} {w:World} (hv:Bs w v B) (b:byt B) (hl:B.length≤140737488355327):Calls Tryz.prog 83 #[.int .i64 tag,v] w fun e w'=>∃ (x cc:Int),e=.returned (.tuple #[.int .i64 x,.int .i64 cc])∧Below w.heap.size w w'∧Hid (cc=0→Zbz tag B=.ok x)∧Hid (¬ cc=0→okO (Zbz tag B)=none):=by
 refine(Zo8 hv b hl).mono ?_;rintro e w' ⟨h1,h2⟩
 cases hn:Zbz tag B with
 | ok n =>
  obtain⟨rfl,k3⟩:=h1 n hn;exact ⟨n,0,rfl,k3,fun _=>rfl,fun h=>absurd rfl h⟩
 | error c =>
  obtain⟨rfl,k3⟩:=h2 c hn;exact ⟨0,c,rfl,k3,fun h=>absurd h (Zro hn),fun _=>rfl⟩
def Zi3 (w:World) (r:Option (List Int)) (e:Ending) (w':World):Prop:=Below w.heap.size w w'∧(r=none→∃ (ao:Option Addr) (n k:Nat) (nb:List Int),e=.returned (.tuple #[.slice ao n k,.bool false])∧Bs w' (.slice ao n k) nb∧byt nb∧nb.length=n)∧(∀ nb,r=some nb→∃ (ao:Option Addr) (n k:Nat),e=.returned (.tuple #[.slice ao n k,.bool true])∧Bs w' (.slice ao n k) nb∧byt nb∧nb.length=n)
theorem Zi3.no {w w':World} {r:Option (List Int)} {ao:Option Addr} {n k:Nat} {nb:List Int} (h:r=none) (hv:Bs w' (.slice ao n k) nb) (hy:byt nb) (hl:nb.length=n) (hb:Below w.heap.size w w'):Zi3 w r (.returned (.tuple #[.slice ao n k,.bool false])) w':=⟨hb,fun _=>⟨ao,n,k,nb,rfl,hv,hy,hl⟩,fun m q=>(by rw[h] at q;cases q)⟩
theorem Zi3.yes {w w':World} {r:Option (List Int)} {ao:Option Addr} {n k:Nat} {nb:List Int} (h:r=some nb) (hv:Bs w' (.slice ao n k) nb) (hy:byt nb) (hl:nb.length=n) (hb:Below w.heap.size w w'):Zi3 w r (.returned (.tuple #[.slice ao n k,.bool true])) w':=⟨hb,fun q=>(by rw[h] at q;cases q),fun m q=>(by rw[h] at q;cases q;exact ⟨ao,n,k,rfl,hv,hy,hl⟩)⟩
def Zhm (w:World) (r:Option (List Int)) (e:Ending) (w':World):Prop:=Below w.heap.size w w'∧∃ (ao:Option Addr) (n k:Nat) (nb:List Int),Bs w' (.slice ao n k) nb∧byt nb∧nb.length=n∧Zbg w (.slice ao n k)∧(r=none→e=.returned (.tuple #[.slice ao n k,.bool false]))∧(∀ b,r=some b→b=nb∧e=.returned (.tuple #[.slice ao n k,.bool true]))
theorem Zhm.no {w w':World} {r:Option (List Int)} {ao:Option Addr} {n k:Nat} {nb:List Int} (h:r=none) (hv:Bs w' (.slice ao n k) nb) (hy:byt nb) (hl:nb.length=n) (hn:Zbg w (.slice ao n k)) (hb:Below w.heap.size w w'):Zhm w r (.returned (.tuple #[.slice ao n k,.bool false])) w':=⟨hb,ao,n,k,nb,hv,hy,hl,hn,fun _=>rfl,fun m q=>(by rw[h] at q;cases q)⟩
theorem Zhm.yes {w w':World} {r:Option (List Int)} {ao:Option Addr} {n k:Nat} {nb:List Int} (h:r=some nb) (hv:Bs w' (.slice ao n k) nb) (hy:byt nb) (hl:nb.length=n) (hn:Zbg w (.slice ao n k)) (hb:Below w.heap.size w w'):Zhm w r (.returned (.tuple #[.slice ao n k,.bool true])) w':=⟨hb,ao,n,k,nb,hv,hy,hl,hn,fun q=>(by rw[h] at q;cases q),fun m q=>(by rw[h] at q;cases q;exact ⟨rfl,rfl⟩)⟩
def Zlc (w:World) (r:Option Int) (e:Ending) (w':World):Prop:=Below w.heap.size w w'∧(r=none→∃ x:Int,e=.returned (.tuple #[.int .i64 x,.bool false]))∧(∀ x,r=some x→e=.returned (.tuple #[.int .i64 x,.bool true]))
theorem Zlc.no {w w':World} {r:Option Int} {x:Int} (h:r=none) (hb:Below w.heap.size w w'):Zlc w r (.returned (.tuple #[.int .i64 x,.bool false])) w':=⟨hb,fun _=>⟨x,rfl⟩,fun m q=>(by rw[h] at q;cases q)⟩
theorem Zlc.yes {w w':World} {r:Option Int} {x:Int} (h:r=some x) (hb:Below w.heap.size w w'):Zlc w r (.returned (.tuple #[.int .i64 x,.bool true])) w':=⟨hb,fun q=>(by rw[h] at q;cases q),fun m q=>(by rw[h] at q;cases q;rfl)⟩
set_option linter.unusedSimpArgs false in
set_option maxRecDepth 100000 in
set_option maxHeartbeats 1000000 in
theorem ZkR {c t:Int} {m:Bool} {b:List Int} {ks:List Tl} {cs:List Value} {w:World} (h:Zav w (.mk c t m b ks) cs) (wf:WfT (.mk c t m b ks)) (hsz:b.length≤140737488351232):Calls Tryz.prog 84 #[.agg cs.toArray] w (Zhm w (ZoO (.mk c t m b ks))):=by
 have HSz:Hid (b.length≤140737488351232):=hsz;have HBy:Hid (byt b):=by rw[WfT] at wf;exact wf.2.2.1
 clear wf hsz;have HT9:Hid (Zav w (.mk c t m b ks) cs):=h;rw[Zav] at h;obtain ⟨bv,ao,kc,hcs,hbv,-,hkm,hkk⟩:=h;have HBv:Hid (Bs w bv b):=hbv;obtain ⟨ba,bc,rfl,-,-,-⟩:=hbv;have HK:Hid (0<ks.length→∃ g o,ao=some ⟨g,o,none⟩∧Zap w ks g o):=hkk;obtain ⟨BL,hBL⟩:∃ z,b.length=z:=⟨_,rfl⟩;obtain ⟨KL,hKL⟩:∃ z,ks.length=z:=⟨_,rfl⟩;have HBL:Hid (b.length=BL):=hBL;have HKL:Hid (ks.length=KL):=hKL;have HKM:Hid (kc≤maxLen):=hkm;rw[hBL] at hcs HBv;rw[hKL] at hcs HK;clear hBL hKL hkk hkm;subst hcs;have B0:=Blk.new w [.int .i64 c,.int .i64 t,.bool m,.slice ba BL bc,.slice ao KL kc] 53 w.heap.size rfl;have bel:Below w.heap.size w (w.alloc (.cells #[.int .i64 c,.int .i64 t,.bool m,.slice ba BL bc,.slice ao KL kc] 53)):=(Below.refl _ _).alloc (Nat.le_refl _) _;go_enter Tryz.func84,Tryz.ntmps84;go_upto_region 1 with fail;generalize w.alloc (.cells #[.int .i64 c,.int .i64 t,.bool m,.slice ba BL bc,.slice ao KL kc] 53)=W at *;have e3:=B0.cell 3 _ rfl;have l0:=B0.lt;go_wp2_with fail;refine (Zd5 (HBv.out.later bel) HBy.out (by have:=HSz.out;omega)).mono ?_;rintro e w1 ⟨ao1,n1,k1,cc,nb,rfl,HN,HY,HL,HV,hb,HOk,HBd⟩;replace B0:=B0.later hb;replace HV:Hid (Zbg w (.slice ao1 n1 k1)):=HV.out.upN bel.size;replace bel:=Zaa bel hb;clear hb e3 l0;have e0:=B0.cell 0 _ rfl;have e1:=B0.cell 1 _ rfl;have e2:=B0.cell 2 _ rfl;have l0:=B0.lt
 by_cases hq:c=0
 rotate_left
 ·have H:Hid (ZoO (.mk c t m b ks)=none):=by show _=_;rw[Zdv,if_neg (fun h=>hq h.1)]
  have d1:(c == 0)=false:=by rw[beq_eq_false_iff_ne];exact hq
  clear hq;go_wp2_with fail;refine bodyPost_ret (results_tmp2 rfl _ _ _) rfl ?_;exact Zhm.no H.out HN.out HY.out HL.out HV.out bel
 subst hq
 by_cases hq:t=2
 rotate_left
 ·have H:Hid (ZoO (.mk 0 t m b ks)=none):=by show _=_;rw[Zdv,if_neg (fun h=>hq h.2.1)]
  have d1:(t == 2)=false:=by rw[beq_eq_false_iff_ne];exact hq
  clear hq;go_wp2_with fail;refine bodyPost_ret (results_tmp2 rfl _ _ _) rfl ?_;exact Zhm.no H.out HN.out HY.out HL.out HV.out bel
 subst hq
 by_cases hq:m=false
 rotate_left
 ·have H:Hid (ZoO (.mk 0 2 m b ks)=none):=by show _=_;rw[Zdv,if_neg (fun h=>hq h.2.2)]
  have hq2:m=true:=by cases m with
   | true=>rfl
   | false=>exact absurd rfl hq
  subst hq2;clear hq;go_wp2_with fail;refine bodyPost_ret (results_tmp2 rfl _ _ _) rfl ?_;exact Zhm.no H.out HN.out HY.out HL.out HV.out bel
 subst hq
 by_cases hq:cc=0
 rotate_left
 ·have H:Hid (ZoO (.mk 0 2 false b ks)=none):=by show _=_;rw[Zdv,if_pos ⟨rfl,rfl,rfl⟩];exact HBd.out hq
  have d1:(cc == 0)=false:=by rw[beq_eq_false_iff_ne];exact hq
  clear hq;go_wp2_with fail;refine bodyPost_ret (results_tmp2 rfl _ _ _) rfl ?_;exact Zhm.no H.out HN.out HY.out HL.out HV.out bel
 subst hq;have H:Hid (ZoO (.mk 0 2 false b ks)=some nb):=by show _=_;rw[Zdv,if_pos ⟨rfl,rfl,rfl⟩,HOk.out rfl];rfl
 go_wp2_with fail;refine bodyPost_ret (results_tmp2 rfl _ _ _) rfl ?_;exact Zhm.yes H.out HN.out HY.out HL.out HV.out bel
set_option linter.unusedSimpArgs false in
set_option maxRecDepth 100000 in
set_option maxHeartbeats 1000000 in
theorem ZkS {c t:Int} {m:Bool} {b:List Int} {ks:List Tl} {cs:List Value} {w:World} (h:Zav w (.mk c t m b ks) cs) (wf:WfT (.mk c t m b ks)) (hsz:b.length≤140737488351232):Calls Tryz.prog 47 #[.agg cs.toArray] w (Zhm w (Ze0 (.mk c t m b ks))):=by
 have HT:Hid (WfT (.mk c t m b ks)):=wf;have HSz:Hid (b.length≤140737488351232):=hsz;have HBy:Hid (byt b):=by rw[WfT] at wf;exact wf.2.2.1
 clear wf hsz;have HT9:Hid (Zav w (.mk c t m b ks) cs):=h;rw[Zav] at h;obtain ⟨bv,ao,kc,hcs,hbv,-,hkm,hkk⟩:=h;have HBv:Hid (Bs w bv b):=hbv;obtain ⟨ba,bc,rfl,-,-,-⟩:=hbv;have HK:Hid (0<ks.length→∃ g o,ao=some ⟨g,o,none⟩∧Zap w ks g o):=hkk;obtain ⟨BL,hBL⟩:∃ z,b.length=z:=⟨_,rfl⟩;obtain ⟨KL,hKL⟩:∃ z,ks.length=z:=⟨_,rfl⟩;have HBL:Hid (b.length=BL):=hBL;have HKL:Hid (ks.length=KL):=hKL;have HKM:Hid (kc≤maxLen):=hkm;rw[hBL] at hcs HBv;rw[hKL] at hcs HK;clear hBL hKL hkk hkm;subst hcs;have B0:=Blk.new w [.int .i64 c,.int .i64 t,.bool m,.slice ba BL bc,.slice ao KL kc] 53 w.heap.size rfl;have bel:Below w.heap.size w (w.alloc (.cells #[.int .i64 c,.int .i64 t,.bool m,.slice ba BL bc,.slice ao KL kc] 53)):=(Below.refl _ _).alloc (Nat.le_refl _) _;go_enter Tryz.func47,Tryz.ntmps47;go_upto_region 1 with fail;generalize w.alloc (.cells #[.int .i64 c,.int .i64 t,.bool m,.slice ba BL bc,.slice ao KL kc] 53)=W at *;have hld:(loadVar 53 ⟨w.heap.size,0,none⟩).run Tryz.prog W=.ok (.agg #[.int .i64 c,.int .i64 t,.bool m,.slice ba BL bc,.slice ao KL kc]) W:=B0.load Tryz.underlying53 rfl Zae rfl;have l0:=B0.lt;go_wp2_with (first|((with_reducible show wpList _ _ _ (⟨_,.load _ _,_,_,_,_⟩::_) _ _);refine Zab (by rfl) (by rfl) (by rfl) hld ?_)|fail);refine (ZkR (HT9.out.later bel) HT.out HSz.out).mono ?_;rintro e w1 ⟨hb,ao1,n1,k1,nb,hN,hY,hL,hV,hno,hyes⟩;have HN:Hid (Bs w1 (.slice ao1 n1 k1) nb):=hN;have HY:Hid (byt nb):=hY;have HL:Hid (nb.length=n1):=hL;have HV:Hid (Zbg w (.slice ao1 n1 k1)):=hV.upN bel.size;replace bel:=Zaa bel hb;clear hb hld l0 B0 hN hY hL hV
 cases hn:ZoO (.mk c t m b ks) with
 | none =>
  obtain rfl:=hno hn;have H:Hid (Ze0 (.mk c t m b ks)=none):=by show _=_;unfold Ze0;rw[hn]
  clear hno hyes hn;go_wp2_with fail;refine bodyPost_ret (results_tmp2 rfl _ _ _) rfl ?_;exact Zhm.no H.out HN.out HY.out HL.out HV.out bel
 | some nb9 =>
  obtain⟨rfl,rfl⟩:=hyes nb9 hn;have HS:Hid (Ze0 (.mk c t m b ks)=if 0<n1∧n1≤20 then some nb9 else none):=by show _=_;unfold Ze0;rw[hn,← HL.out]
  clear hno hyes hn
  by_cases q1:0<n1
  rotate_left
  ·have H:Hid (Ze0 (.mk c t m b ks)=none):=by show _=_;rw[HS.out,if_neg (fun h=>q1 h.1)]
   have g1:¬ (0:Int)<(n1:Int):=by omega
   clear q1;go_wp2_with fail;refine bodyPost_ret (results_tmp2 rfl _ _ _) rfl ?_;exact Zhm.no H.out HN.out HY.out HL.out HV.out bel
  have g1:(0:Int)<(n1:Int):=by omega
  by_cases q2:n1≤20
  rotate_left
  ·have H:Hid (Ze0 (.mk c t m b ks)=none):=by show _=_;rw[HS.out,if_neg (fun h=>q2 h.2)]
   have g2:¬ (n1:Int)≤20:=by omega
   have d2:decide ((n1:Int)≤20)=false:=decide_eq_false g2;clear g2;clear q1 q2;go_wp2_with fail;refine bodyPost_ret (results_tmp2 rfl _ _ _) rfl ?_;exact Zhm.no H.out HN.out HY.out HL.out HV.out bel
  have g2:(n1:Int)≤20:=by omega
  have H:Hid (Ze0 (.mk c t m b ks)=some nb9):=by show _=_;rw[HS.out,if_pos ⟨q1,q2⟩]
  clear q1 q2;go_wp2_with fail;refine bodyPost_ret (results_tmp2 rfl _ _ _) rfl ?_;exact Zhm.yes H.out HN.out HY.out HL.out HV.out bel
set_option linter.unusedSimpArgs false in
set_option maxRecDepth 100000 in
set_option maxHeartbeats 1000000 in
theorem Zpc {c t:Int} {m:Bool} {b:List Int} {ks:List Tl} {cs:List Value} {w:World} (h:Zav w (.mk c t m b ks) cs) (wf:WfT (.mk c t m b ks)) (hsz:b.length≤140737488351232):Calls Tryz.prog 45 #[.agg cs.toArray] w (Zlc w (ZdW (.mk c t m b ks))):=by
 have HSz:Hid (b.length≤140737488351232):=hsz;have HBy:Hid (byt b):=by rw[WfT] at wf;exact wf.2.2.1
 clear wf hsz;have HT9:Hid (Zav w (.mk c t m b ks) cs):=h;rw[Zav] at h;obtain ⟨bv,ao,kc,hcs,hbv,-,hkm,hkk⟩:=h;have HBv:Hid (Bs w bv b):=hbv;obtain ⟨ba,bc,rfl,-,-,-⟩:=hbv;have HK:Hid (0<ks.length→∃ g o,ao=some ⟨g,o,none⟩∧Zap w ks g o):=hkk;obtain ⟨BL,hBL⟩:∃ z,b.length=z:=⟨_,rfl⟩;obtain ⟨KL,hKL⟩:∃ z,ks.length=z:=⟨_,rfl⟩;have HBL:Hid (b.length=BL):=hBL;have HKL:Hid (ks.length=KL):=hKL;have HKM:Hid (kc≤maxLen):=hkm;rw[hBL] at hcs HBv;rw[hKL] at hcs HK;clear hBL hKL hkk hkm;subst hcs;have B0:=Blk.new w [.int .i64 c,.int .i64 t,.bool m,.slice ba BL bc,.slice ao KL kc] 53 w.heap.size rfl;have bel:Below w.heap.size w (w.alloc (.cells #[.int .i64 c,.int .i64 t,.bool m,.slice ba BL bc,.slice ao KL kc] 53)):=(Below.refl _ _).alloc (Nat.le_refl _) _;go_enter Tryz.func45,Tryz.ntmps45;go_upto_region 1 with fail;generalize w.alloc (.cells #[.int .i64 c,.int .i64 t,.bool m,.slice ba BL bc,.slice ao KL kc] 53)=W at *;have e1:=B0.cell 1 _ rfl;have e3:=B0.cell 3 _ rfl;have l0:=B0.lt;go_wp2_with fail;refine (ZmN (HBv.out.later bel) HBy.out (by have:=HSz.out;omega)).mono ?_;rintro e w1 ⟨x,cc,rfl,hb,HOk,HBd⟩;replace B0:=B0.later hb;replace bel:=Zaa bel hb;clear hb e1 e3 l0;have e0:=B0.cell 0 _ rfl;have e1:=B0.cell 1 _ rfl;have e2:=B0.cell 2 _ rfl;have l0:=B0.lt
 by_cases hq:c=0
 rotate_left
 ·have H:Hid (ZdW (.mk c t m b ks)=none):=by show _=_;rw[Zd8,if_neg (fun h=>hq h.1)]
  have d1:(c == 0)=false:=by rw[beq_eq_false_iff_ne];exact hq
  clear hq;go_wp2_with fail;refine bodyPost_ret (results_tmp2 rfl _ _ _) rfl ?_;exact Zlc.no H.out bel
 subst hq
 by_cases hq:m=false
 rotate_left
 ·have H:Hid (ZdW (.mk 0 t m b ks)=none):=by show _=_;rw[Zd8,if_neg (fun h=>hq h.2)]
  have hq2:m=true:=by cases m with
   | true=>rfl
   | false=>exact absurd rfl hq
  subst hq2;clear hq;go_wp2_with fail;refine bodyPost_ret (results_tmp2 rfl _ _ _) rfl ?_;exact Zlc.no H.out bel
 subst hq
 by_cases hq:cc=0
 rotate_left
 ·have H:Hid (ZdW (.mk 0 t false b ks)=none):=by show _=_;rw[Zd8,if_pos ⟨rfl,rfl⟩];exact HBd.out hq
  have d1:(cc == 0)=false:=by rw[beq_eq_false_iff_ne];exact hq
  clear hq;go_wp2_with fail;refine bodyPost_ret (results_tmp2 rfl _ _ _) rfl ?_;exact Zlc.no H.out bel
 subst hq;have H:Hid (ZdW (.mk 0 t false b ks)=some x):=by show _=_;rw[Zd8,if_pos ⟨rfl,rfl⟩,HOk.out rfl];rfl
 go_wp2_with fail;refine bodyPost_ret (results_tmp2 rfl _ _ _) rfl ?_;exact Zlc.yes H.out bel
set_option linter.unusedSimpArgs false in
set_option maxRecDepth 100000 in
set_option maxHeartbeats 1000000 in
theorem Zo9 {c t:Int} {m:Bool} {b:List Int} {ks:List Tl} {cs:List Value} {w:World} (h:Zav w (.mk c t m b ks) cs) (wf:WfT (.mk c t m b ks)) (hsz:b.length≤140737488351232):Calls Tryz.prog 81 #[.agg cs.toArray] w (Zi3 w (ZdZ (.mk c t m b ks))):=by
 have HSz:Hid (b.length≤140737488351232):=hsz;have HBy:Hid (byt b):=by rw[WfT] at wf;exact wf.2.2.1
 clear wf hsz;have HT9:Hid (Zav w (.mk c t m b ks) cs):=h;rw[Zav] at h;obtain ⟨bv,ao,kc,hcs,hbv,-,hkm,hkk⟩:=h;have HBv:Hid (Bs w bv b):=hbv;obtain ⟨ba,bc,rfl,-,-,-⟩:=hbv;have HK:Hid (0<ks.length→∃ g o,ao=some ⟨g,o,none⟩∧Zap w ks g o):=hkk;obtain ⟨BL,hBL⟩:∃ z,b.length=z:=⟨_,rfl⟩;obtain ⟨KL,hKL⟩:∃ z,ks.length=z:=⟨_,rfl⟩;have HBL:Hid (b.length=BL):=hBL;have HKL:Hid (ks.length=KL):=hKL;have HKM:Hid (kc≤maxLen):=hkm;rw[hBL] at hcs HBv;rw[hKL] at hcs HK;clear hBL hKL hkk hkm;subst hcs;have B0:=Blk.new w [.int .i64 c,.int .i64 t,.bool m,.slice ba BL bc,.slice ao KL kc] 53 w.heap.size rfl;have bel:Below w.heap.size w (w.alloc (.cells #[.int .i64 c,.int .i64 t,.bool m,.slice ba BL bc,.slice ao KL kc] 53)):=(Below.refl _ _).alloc (Nat.le_refl _) _;go_enter Tryz.func81,Tryz.ntmps81;go_upto_region 1 with fail;generalize w.alloc (.cells #[.int .i64 c,.int .i64 t,.bool m,.slice ba BL bc,.slice ao KL kc] 53)=W at *;have e3:=B0.cell 3 _ rfl;have l0:=B0.lt;go_wp2_with fail;refine (ZmM (HBv.out.later bel) HBy.out (by have:=HSz.out;omega)).mono ?_;rintro e w1 ⟨ao1,n1,k1,fr,cc,nb,rfl,HN,HY,HL,hb,HOk,HBd⟩;replace B0:=B0.later hb;replace bel:=Zaa bel hb;clear hb e3 l0;have e0:=B0.cell 0 _ rfl;have e1:=B0.cell 1 _ rfl;have e2:=B0.cell 2 _ rfl;have l0:=B0.lt
 by_cases hq:c=0
 rotate_left
 ·have H:Hid (ZdZ (.mk c t m b ks)=none):=by show _=_;rw[Zc4,if_neg (fun h=>hq h.1)]
  have d1:(c == 0)=false:=by rw[beq_eq_false_iff_ne];exact hq
  clear hq;go_wp2_with fail;refine bodyPost_ret (results_tmp2 rfl _ _ _) rfl ?_;exact Zi3.no H.out HN.out HY.out HL.out bel
 subst hq
 by_cases hq:t=3
 rotate_left
 ·have H:Hid (ZdZ (.mk 0 t m b ks)=none):=by show _=_;rw[Zc4,if_neg (fun h=>hq h.2.1)]
  have d1:(t == 3)=false:=by rw[beq_eq_false_iff_ne];exact hq
  clear hq;go_wp2_with fail;refine bodyPost_ret (results_tmp2 rfl _ _ _) rfl ?_;exact Zi3.no H.out HN.out HY.out HL.out bel
 subst hq
 by_cases hq:m=false
 rotate_left
 ·have H:Hid (ZdZ (.mk 0 3 m b ks)=none):=by show _=_;rw[Zc4,if_neg (fun h=>hq h.2.2)]
  have hq2:m=true:=by cases m with
   | true=>rfl
   | false=>exact absurd rfl hq
  subst hq2;clear hq;go_wp2_with fail;refine bodyPost_ret (results_tmp2 rfl _ _ _) rfl ?_;exact Zi3.no H.out HN.out HY.out HL.out bel
 subst hq
 by_cases hq:cc=0
 rotate_left
 ·have H:Hid (ZdZ (.mk 0 3 false b ks)=none):=by show _=_;obtain ⟨c9,hc9⟩:=HBd.out hq;rw[Zc4,if_pos ⟨rfl,rfl,rfl⟩,hc9]
  have d1:(cc == 0)=false:=by rw[beq_eq_false_iff_ne];exact hq
  clear hq;go_wp2_with fail;refine bodyPost_ret (results_tmp2 rfl _ _ _) rfl ?_;exact Zi3.no H.out HN.out HY.out HL.out bel
 subst hq
 by_cases hq:fr=0
 rotate_left
 ·have H:Hid (ZdZ (.mk 0 3 false b ks)=none):=by show _=_;rw[Zc4,if_pos ⟨rfl,rfl,rfl⟩,HOk.out rfl];exact if_neg hq
  have d1:(fr == 0)=false:=by rw[beq_eq_false_iff_ne];exact hq
  clear hq;go_wp2_with fail;refine bodyPost_ret (results_tmp2 rfl _ _ _) rfl ?_;exact Zi3.no H.out HN.out HY.out HL.out bel
 subst hq;have H:Hid (ZdZ (.mk 0 3 false b ks)=some nb):=by show _=_;rw[Zc4,if_pos ⟨rfl,rfl,rfl⟩,HOk.out rfl];rfl
 go_wp2_with fail;refine bodyPost_ret (results_tmp2 rfl _ _ _) rfl ?_;exact Zi3.yes H.out HN.out HY.out HL.out bel
end Go.Proofs.YtohcdbifhnfcbaaGreatDoor
