import Derived.Test.YtohcdbifhnfcbaaGreatDoorPmTof
import Derived.Test.YtohcdbifhnfcbaaGreatDoorRows
import Derived.Deep.OwnRows
import Derived.Deep.AppendLies
import Derived.Deep.WholeRow
import Derived.Deep.RegionHeld3
import Derived.Deep.DeepCutAuto
import Derived.Deep.DeepFit
namespace Go.Proofs.YtohcdbifhnfcbaaGreatDoor
open Go.RowKit
set_option linter.unusedSimpArgs false in
set_option maxRecDepth 100000 in
set_option maxHeartbeats 4000000 in
theorem ZkN {v:Value} {B:List Int} {w:World} (hv:Bs w v B) (b:byt B) (hl:B.length≤140737488355327) :
  Calls Tryz.prog 83 #[.int .i64 23,v] w fun e w'=>(∀ n,ZaQ 2 B=.ok n→e=.returned (.tuple #[.int .i64 n,.int .i64 0])∧Below w.heap.size w w')∧(∀ c,ZaQ 2 B=.error c→e=.returned (.tuple #[.int .i64 0,.int .i64 (c:Int)])∧Below w.heap.size w w'):=by
 have HV:Hid (Bs w v B):=hv;have HB:Hid (byt B):=b;obtain ⟨ao,cap,rfl,h1,h2,h3⟩:=hv;obtain ⟨N,hN⟩:∃ N,B.length=N:=⟨_,rfl⟩;have HN:Hid (B.length=N):=hN;rw[hN] at h2 h3 hl HV ⊢;unfold maxLen at h1;clear b hN
 by_cases c0:¬ N=13
 ·have H:Hid (ZaQ 2 B=.error 7):=by show _=_;unfold ZaQ;rw[HN.out,if_pos (.inl c0)]
  have g0:¬ (N:Int)=13:=by omega
  clear h3;go_enter Tryz.func83,Tryz.ntmps83;go_wp2_with fail;refine bodyPost_ret (results_tmp2 rfl _ _ _) rfl ?_;exact ⟨fun n h=>(by rw[H.out] at h;cases h),fun c h=>(by rw[H.out] at h;cases h;exact ⟨rfl,Below.refl _ _⟩)⟩
 replace c0:N=13:=Classical.not_not.1 c0;subst c0;obtain ⟨g,o,rfl,lg,HC'⟩:=h3 (by omega);have HC:Hid _:=HC';clear HC' h3;have x0:=HC.out 12 (by omega);have y0:=HB.out 12;obtain ⟨z,hz⟩:∃ z,B.getD 12 0=z:=⟨_,rfl⟩;have HZ:Hid (B.getD 12 0=z):=hz;rw[hz] at x0 y0;clear hz
 by_cases c1:¬ z=90
 ·have H:Hid (ZaQ 2 B=.error 7):=by show _=_;unfold ZaQ;rw[if_pos (.inr (.inl (by rw[HZ.out];exact c1)))]
  go_enter Tryz.func83,Tryz.ntmps83;go_wp2_with fail;refine bodyPost_ret (results_tmp2 rfl _ _ _) rfl ?_;exact ⟨fun n h=>(by rw[H.out] at h;cases h),fun c h=>(by rw[H.out] at h;cases h;exact ⟨rfl,Below.refl _ _⟩)⟩
 replace c1:z=90:=Classical.not_not.1 c1;subst c1;have HP0:Hid (Bs w (.slice (some ⟨g,o,none⟩) 12 cap) (B.take 12)):=ZbY (lo:=0) (hi:=12) HV.out HN.out (by omega) (by omega) rfl rfl rfl;have HPy:Hid (Bs w (.slice (some ⟨g,o,none⟩) 2 cap) (B.take 2)):=ZbY (lo:=0) (hi:=2) HV.out HN.out (by omega) (by omega) rfl rfl rfl;have HBt:∀ k,Hid (byt (B.take k)):=fun k=>Zbb HB.out 0 k;replace HBt:Hid _:=HBt;have HP1:Hid (Bs w (.slice (some ⟨g,o+2,none⟩) 2 (cap-2)) ((B.drop 2).take 2)):=ZbY (lo:=2) (hi:=4) HV.out HN.out (by omega) (by omega) rfl rfl rfl;have q1:¬ cap=2:=by omega
 have HP2:Hid (Bs w (.slice (some ⟨g,o+4,none⟩) 2 (cap-4)) ((B.drop 4).take 2)):=ZbY (lo:=4) (hi:=6) HV.out HN.out (by omega) (by omega) rfl rfl rfl;have q2:¬ cap=4:=by omega
 have HP3:Hid (Bs w (.slice (some ⟨g,o+6,none⟩) 2 (cap-6)) ((B.drop 6).take 2)):=ZbY (lo:=6) (hi:=8) HV.out HN.out (by omega) (by omega) rfl rfl rfl;have q3:¬ cap=6:=by omega
 have HP4:Hid (Bs w (.slice (some ⟨g,o+8,none⟩) 2 (cap-8)) ((B.drop 8).take 2)):=ZbY (lo:=8) (hi:=10) HV.out HN.out (by omega) (by omega) rfl rfl rfl;have q4:¬ cap=8:=by omega
 have HP5:Hid (Bs w (.slice (some ⟨g,o+10,none⟩) 2 (cap-10)) ((B.drop 10).take 2)):=ZbY (lo:=10) (hi:=12) HV.out HN.out (by omega) (by omega) rfl rfl rfl;have q5:¬ cap=10:=by omega
 go_enter Tryz.func83,Tryz.ntmps83;go_wp2_with fail;refine (ZaD HP0.out (HBt.out _).out (by rw[List.length_take,HN.out];omega)).mono ?_;rintro e w1 ⟨rfl,hw⟩;subst hw;obtain ⟨A,hA⟩:∃ A,Za3 (B.take 12) 0=A:=⟨_,rfl⟩;have HA:Hid (Za3 (B.take 12) 0=A):=hA;rw[hA];clear hA
 by_cases c2:A<0
 ·have H:Hid (ZaQ 2 B=.error 7):=by show _=_;unfold ZaQ;rw[if_pos (.inr (.inr (by rw[HA.out];exact c2)))]
  go_wp2_with fail;refine bodyPost_ret (results_tmp2 rfl _ _ _) rfl ?_;exact ⟨fun n h=>(by rw[H.out] at h;cases h),fun c h=>(by rw[H.out] at h;cases h;exact ⟨rfl,Below.refl _ _⟩)⟩
 have HAll:Hid (Zi6 (B.take 12)):=Zff _ 0 (by omega) (by rw[HA.out];omega);have HG:Hid (ZaQ 2 B=ZbU 2 (Zfb 2 (Za3 (B.take 2) 0)) (Za3 ((B.drop 2).take 2) 0) (Za3 ((B.drop 4).take 2) 0) (Za3 ((B.drop 6).take 2) 0) (Za3 ((B.drop 8).take 2) 0) (Za3 ((B.drop 10).take 2) 0)):=by
  show _=_;unfold ZaQ;rw[if_neg (by rw[HN.out,HZ.out,HA.out];omega)]
 clear HA HZ;have by0:0≤Za3 (B.take 2) 0∧Za3 (B.take 2) 0≤99:=ZbP (lo:=0) HAll.out (by omega) (by rw[HN.out];omega);have b1:=ZbP (B:=B) (lo:=2) HAll.out (by omega) (by rw[HN.out];omega);have b2:=ZbP (B:=B) (lo:=4) HAll.out (by omega) (by rw[HN.out];omega);have b3:=ZbP (B:=B) (lo:=6) HAll.out (by omega) (by rw[HN.out];omega);have b4:=ZbP (B:=B) (lo:=8) HAll.out (by omega) (by rw[HN.out];omega);have b5:=ZbP (B:=B) (lo:=10) HAll.out (by omega) (by rw[HN.out];omega);obtain ⟨y,ey⟩:=Int.eq_ofNat_of_zero_le by0.1;replace ey:Za3 (B.take 2) 0=(y:Int):=ey;rw[ey] at by0 HG;have Ey:Hid (Za3 (B.take 2) 0=(y:Int)):=ey;clear ey;obtain ⟨m,em⟩:=Int.eq_ofNat_of_zero_le b1.1;replace em:Za3 ((B.drop 2).take 2) 0=(m:Int):=em;rw[em] at b1 HG;have Em:Hid (Za3 ((B.drop 2).take 2) 0=(m:Int)):=em;clear em;obtain ⟨d,ed⟩:=Int.eq_ofNat_of_zero_le b2.1;replace ed:Za3 ((B.drop 4).take 2) 0=(d:Int):=ed;rw[ed] at b2 HG;have Ed:Hid (Za3 ((B.drop 4).take 2) 0=(d:Int)):=ed;clear ed;obtain ⟨h,eh⟩:=Int.eq_ofNat_of_zero_le b3.1;replace eh:Za3 ((B.drop 6).take 2) 0=(h:Int):=eh;rw[eh] at b3 HG;have Eh:Hid (Za3 ((B.drop 6).take 2) 0=(h:Int)):=eh;clear eh;obtain ⟨i,ei⟩:=Int.eq_ofNat_of_zero_le b4.1;replace ei:Za3 ((B.drop 8).take 2) 0=(i:Int):=ei;rw[ei] at b4 HG;have Ei:Hid (Za3 ((B.drop 8).take 2) 0=(i:Int)):=ei;clear ei;obtain ⟨s,es⟩:=Int.eq_ofNat_of_zero_le b5.1;replace es:Za3 ((B.drop 10).take 2) 0=(s:Int):=es;rw[es] at b5 HG;have Es:Hid (Za3 ((B.drop 10).take 2) 0=(s:Int)):=es;clear es;go_wp2_with fail;refine (ZaD HPy.out (HBt.out _).out (by rw[List.length_take,HN.out];omega)).mono ?_;rintro e w1 ⟨rfl,hw⟩;subst hw;rw[Ey.out]
 by_cases c9:(y:Int)<50
 ·have HY:Hid (Zfb 2 (y:Int)=((y+2000:Nat):Int)):=by show _=_;unfold Zfb;rw[if_pos rfl,if_pos c9];omega
  rw[HY.out] at HG;have gY:IntKind.i64.wrap ((y:Int)+2000)=((y+2000:Nat):Int):=by rw[IntKind.wrap_i64];omega
  obtain⟨Y,hY⟩:∃ Y,y+2000=Y:=⟨_,rfl⟩;rw[hY] at HG gY;have bY:Y≤3000:=by omega
  clear hY HY;go_wp2_with fail;refine (ZaD HP1.out (Zbb HB.out _ _) (by rw[List.length_take];omega)).mono ?_;rintro e w1 ⟨rfl,hw⟩;subst hw;rw[Em.out];go_wp2_with fail;refine (ZaD HP2.out (Zbb HB.out _ _) (by rw[List.length_take];omega)).mono ?_;rintro e w1 ⟨rfl,hw⟩;subst hw;rw[Ed.out];go_wp2_with fail;refine (ZaD HP3.out (Zbb HB.out _ _) (by rw[List.length_take];omega)).mono ?_;rintro e w1 ⟨rfl,hw⟩;subst hw;rw[Eh.out];go_wp2_with fail;refine (ZaD HP4.out (Zbb HB.out _ _) (by rw[List.length_take];omega)).mono ?_;rintro e w1 ⟨rfl,hw⟩;subst hw;rw[Ei.out];go_wp2_with fail;refine (ZaD HP5.out (Zbb HB.out _ _) (by rw[List.length_take];omega)).mono ?_;rintro e w1 ⟨rfl,hw⟩;subst hw;rw[Es.out];clear HP0 HPy HP1 HP2 HP3 HP4 HP5 HV HC x0
  by_cases k0:(m:Int)<1
  ·have H:Hid (ZaQ 2 B=.error 3):=by show _=_;rw[HG.out];unfold ZbU;rw[if_pos (by omega)]
   go_wp2_with fail;refine bodyPost_ret (results_tmp2 rfl _ _ _) rfl ?_;exact ⟨fun n h=>(by rw[H.out] at h;cases h),fun c h=>(by rw[H.out] at h;cases h;exact ⟨rfl,Below.refl _ _⟩)⟩
  by_cases k1:12<(m:Int)
  ·have H:Hid (ZaQ 2 B=.error 3):=by show _=_;rw[HG.out];unfold ZbU;rw[if_pos (by omega)]
   go_wp2_with fail;refine bodyPost_ret (results_tmp2 rfl _ _ _) rfl ?_;exact ⟨fun n h=>(by rw[H.out] at h;cases h),fun c h=>(by rw[H.out] at h;cases h;exact ⟨rfl,Below.refl _ _⟩)⟩
  by_cases k2:(d:Int)<1
  ·have H:Hid (ZaQ 2 B=.error 3):=by show _=_;rw[HG.out];unfold ZbU;rw[if_pos (by omega)]
   go_wp2_with fail;refine bodyPost_ret (results_tmp2 rfl _ _ _) rfl ?_;exact ⟨fun n h=>(by rw[H.out] at h;cases h),fun c h=>(by rw[H.out] at h;cases h;exact ⟨rfl,Below.refl _ _⟩)⟩
  by_cases k3:23<(h:Int)
  ·have H:Hid (ZaQ 2 B=.error 3):=by show _=_;rw[HG.out];unfold ZbU;rw[if_pos (by omega)]
   go_wp2_with fail;refine bodyPost_ret (results_tmp2 rfl _ _ _) rfl ?_;exact ⟨fun n h=>(by rw[H.out] at h;cases h),fun c h=>(by rw[H.out] at h;cases h;exact ⟨rfl,Below.refl _ _⟩)⟩
  by_cases k4:59<(i:Int)
  ·have H:Hid (ZaQ 2 B=.error 3):=by show _=_;rw[HG.out];unfold ZbU;rw[if_pos (by omega)]
   go_wp2_with fail;refine bodyPost_ret (results_tmp2 rfl _ _ _) rfl ?_;exact ⟨fun n h=>(by rw[H.out] at h;cases h),fun c h=>(by rw[H.out] at h;cases h;exact ⟨rfl,Below.refl _ _⟩)⟩
  by_cases k5:59<(s:Int)
  ·have H:Hid (ZaQ 2 B=.error 3):=by show _=_;rw[HG.out];unfold ZbU;rw[if_pos (by omega)]
   go_wp2_with fail;refine bodyPost_ret (results_tmp2 rfl _ _ _) rfl ?_;exact ⟨fun n h=>(by rw[H.out] at h;cases h),fun c h=>(by rw[H.out] at h;cases h;exact ⟨rfl,Below.refl _ _⟩)⟩
  have HG2:Hid (ZaQ 2 B=if ((ZaP Y m:Nat):Int)<(d:Int) then .error 3 else .ok (ZbM Y m d+(3600*(h:Int)+60*(i:Int)+(s:Int)))):=by
   show _=_;rw[HG.out];unfold ZbU;rw[if_neg (by omega)];simp only[Int.toNat_natCast]
  clear HG;go_wp2_with fail;refine (ZdL (y:=Y) (m:=m) (by omega) (by omega) (by omega)).mono ?_;rintro e w2 ⟨rfl,hb⟩;obtain ⟨Dm,hDm⟩:∃ D,ZaP Y m=D:=⟨_,rfl⟩;rw[hDm] at HG2 ⊢;clear hDm
  by_cases k9:(Dm:Int)<(d:Int)
  ·have H:Hid (ZaQ 2 B=.error 3):=by show _=_;rw[HG2.out,if_pos k9]
   go_wp2_with fail;refine bodyPost_ret (results_tmp2 rfl _ _ _) rfl ?_;exact ⟨fun n h=>(by rw[H.out] at h;cases h),fun c h=>(by rw[H.out] at h;cases h;exact ⟨rfl,hb⟩)⟩
  go_wp2_with fail;refine (Zdd (y:=Y) (m:=m) (d:=d) (by omega) (by omega) (by omega) (by omega)).mono ?_;rintro e w3 ⟨rfl,hb2⟩;have bel:=Zaa hb hb2;have bd:=Zm6 (y:=Y) (m:=m) (d:=d) (by omega) (by omega) (by omega);obtain ⟨T,hT⟩:∃ T,ZbM Y m d=T:=⟨_,rfl⟩;rw[hT] at HG2 bd ⊢;clear hT hb hb2;have H:Hid (ZaQ 2 B=.ok (T+(3600*(h:Int)+60*(i:Int)+(s:Int)))):=by show _=_;rw[HG2.out,if_neg (by omega)]
  have v1:IntKind.i64.wrap (3600*(h:Int))=3600*(h:Int):=by rw[IntKind.wrap_i64];omega
  have v2:IntKind.i64.wrap (60*(i:Int))=60*(i:Int):=by rw[IntKind.wrap_i64];omega
  have v3:IntKind.i64.wrap (3600*(h:Int)+60*(i:Int))=3600*(h:Int)+60*(i:Int):=by rw[IntKind.wrap_i64];omega
  have v4:IntKind.i64.wrap (3600*(h:Int)+60*(i:Int)+(s:Int))=3600*(h:Int)+60*(i:Int)+(s:Int):=by rw[IntKind.wrap_i64];omega
  have v5:IntKind.i64.wrap (T+(3600*(h:Int)+60*(i:Int)+(s:Int)))=T+(3600*(h:Int)+60*(i:Int)+(s:Int)):=by rw[IntKind.wrap_i64];omega
  go_wp2_with fail;refine bodyPost_ret (results_tmp2 rfl _ _ _) rfl ?_;exact ⟨fun n h=>(by rw[H.out] at h;cases h;exact ⟨rfl,bel⟩),fun c h=>(by rw[H.out] at h;cases h)⟩
 ·have HY:Hid (Zfb 2 (y:Int)=((y+1900:Nat):Int)):=by show _=_;unfold Zfb;rw[if_pos rfl,if_neg c9];omega
  rw[HY.out] at HG;have gY:IntKind.i64.wrap ((y:Int)+1900)=((y+1900:Nat):Int):=by rw[IntKind.wrap_i64];omega
  obtain⟨Y,hY⟩:∃ Y,y+1900=Y:=⟨_,rfl⟩;rw[hY] at HG gY;have bY:Y≤3000:=by omega
  clear hY HY;go_wp2_with fail;refine (ZaD HP1.out (Zbb HB.out _ _) (by rw[List.length_take];omega)).mono ?_;rintro e w1 ⟨rfl,hw⟩;subst hw;rw[Em.out];go_wp2_with fail;refine (ZaD HP2.out (Zbb HB.out _ _) (by rw[List.length_take];omega)).mono ?_;rintro e w1 ⟨rfl,hw⟩;subst hw;rw[Ed.out];go_wp2_with fail;refine (ZaD HP3.out (Zbb HB.out _ _) (by rw[List.length_take];omega)).mono ?_;rintro e w1 ⟨rfl,hw⟩;subst hw;rw[Eh.out];go_wp2_with fail;refine (ZaD HP4.out (Zbb HB.out _ _) (by rw[List.length_take];omega)).mono ?_;rintro e w1 ⟨rfl,hw⟩;subst hw;rw[Ei.out];go_wp2_with fail;refine (ZaD HP5.out (Zbb HB.out _ _) (by rw[List.length_take];omega)).mono ?_;rintro e w1 ⟨rfl,hw⟩;subst hw;rw[Es.out];clear HP0 HPy HP1 HP2 HP3 HP4 HP5 HV HC x0
  by_cases k0:(m:Int)<1
  ·have H:Hid (ZaQ 2 B=.error 3):=by show _=_;rw[HG.out];unfold ZbU;rw[if_pos (by omega)]
   go_wp2_with fail;refine bodyPost_ret (results_tmp2 rfl _ _ _) rfl ?_;exact ⟨fun n h=>(by rw[H.out] at h;cases h),fun c h=>(by rw[H.out] at h;cases h;exact ⟨rfl,Below.refl _ _⟩)⟩
  by_cases k1:12<(m:Int)
  ·have H:Hid (ZaQ 2 B=.error 3):=by show _=_;rw[HG.out];unfold ZbU;rw[if_pos (by omega)]
   go_wp2_with fail;refine bodyPost_ret (results_tmp2 rfl _ _ _) rfl ?_;exact ⟨fun n h=>(by rw[H.out] at h;cases h),fun c h=>(by rw[H.out] at h;cases h;exact ⟨rfl,Below.refl _ _⟩)⟩
  by_cases k2:(d:Int)<1
  ·have H:Hid (ZaQ 2 B=.error 3):=by show _=_;rw[HG.out];unfold ZbU;rw[if_pos (by omega)]
   go_wp2_with fail;refine bodyPost_ret (results_tmp2 rfl _ _ _) rfl ?_;exact ⟨fun n h=>(by rw[H.out] at h;cases h),fun c h=>(by rw[H.out] at h;cases h;exact ⟨rfl,Below.refl _ _⟩)⟩
  by_cases k3:23<(h:Int)
  ·have H:Hid (ZaQ 2 B=.error 3):=by show _=_;rw[HG.out];unfold ZbU;rw[if_pos (by omega)]
   go_wp2_with fail;refine bodyPost_ret (results_tmp2 rfl _ _ _) rfl ?_;exact ⟨fun n h=>(by rw[H.out] at h;cases h),fun c h=>(by rw[H.out] at h;cases h;exact ⟨rfl,Below.refl _ _⟩)⟩
  by_cases k4:59<(i:Int)
  ·have H:Hid (ZaQ 2 B=.error 3):=by show _=_;rw[HG.out];unfold ZbU;rw[if_pos (by omega)]
   go_wp2_with fail;refine bodyPost_ret (results_tmp2 rfl _ _ _) rfl ?_;exact ⟨fun n h=>(by rw[H.out] at h;cases h),fun c h=>(by rw[H.out] at h;cases h;exact ⟨rfl,Below.refl _ _⟩)⟩
  by_cases k5:59<(s:Int)
  ·have H:Hid (ZaQ 2 B=.error 3):=by show _=_;rw[HG.out];unfold ZbU;rw[if_pos (by omega)]
   go_wp2_with fail;refine bodyPost_ret (results_tmp2 rfl _ _ _) rfl ?_;exact ⟨fun n h=>(by rw[H.out] at h;cases h),fun c h=>(by rw[H.out] at h;cases h;exact ⟨rfl,Below.refl _ _⟩)⟩
  have HG2:Hid (ZaQ 2 B=if ((ZaP Y m:Nat):Int)<(d:Int) then .error 3 else .ok (ZbM Y m d+(3600*(h:Int)+60*(i:Int)+(s:Int)))):=by
   show _=_;rw[HG.out];unfold ZbU;rw[if_neg (by omega)];simp only[Int.toNat_natCast]
  clear HG;go_wp2_with fail;refine (ZdL (y:=Y) (m:=m) (by omega) (by omega) (by omega)).mono ?_;rintro e w2 ⟨rfl,hb⟩;obtain ⟨Dm,hDm⟩:∃ D,ZaP Y m=D:=⟨_,rfl⟩;rw[hDm] at HG2 ⊢;clear hDm
  by_cases k9:(Dm:Int)<(d:Int)
  ·have H:Hid (ZaQ 2 B=.error 3):=by show _=_;rw[HG2.out,if_pos k9]
   go_wp2_with fail;refine bodyPost_ret (results_tmp2 rfl _ _ _) rfl ?_;exact ⟨fun n h=>(by rw[H.out] at h;cases h),fun c h=>(by rw[H.out] at h;cases h;exact ⟨rfl,hb⟩)⟩
  go_wp2_with fail;refine (Zdd (y:=Y) (m:=m) (d:=d) (by omega) (by omega) (by omega) (by omega)).mono ?_;rintro e w3 ⟨rfl,hb2⟩;have bel:=Zaa hb hb2;have bd:=Zm6 (y:=Y) (m:=m) (d:=d) (by omega) (by omega) (by omega);obtain ⟨T,hT⟩:∃ T,ZbM Y m d=T:=⟨_,rfl⟩;rw[hT] at HG2 bd ⊢;clear hT hb hb2;have H:Hid (ZaQ 2 B=.ok (T+(3600*(h:Int)+60*(i:Int)+(s:Int)))):=by show _=_;rw[HG2.out,if_neg (by omega)]
  have v1:IntKind.i64.wrap (3600*(h:Int))=3600*(h:Int):=by rw[IntKind.wrap_i64];omega
  have v2:IntKind.i64.wrap (60*(i:Int))=60*(i:Int):=by rw[IntKind.wrap_i64];omega
  have v3:IntKind.i64.wrap (3600*(h:Int)+60*(i:Int))=3600*(h:Int)+60*(i:Int):=by rw[IntKind.wrap_i64];omega
  have v4:IntKind.i64.wrap (3600*(h:Int)+60*(i:Int)+(s:Int))=3600*(h:Int)+60*(i:Int)+(s:Int):=by rw[IntKind.wrap_i64];omega
  have v5:IntKind.i64.wrap (T+(3600*(h:Int)+60*(i:Int)+(s:Int)))=T+(3600*(h:Int)+60*(i:Int)+(s:Int)):=by rw[IntKind.wrap_i64];omega
  go_wp2_with fail;refine bodyPost_ret (results_tmp2 rfl _ _ _) rfl ?_;exact ⟨fun n h=>(by rw[H.out] at h;cases h;exact ⟨rfl,bel⟩),fun c h=>(by rw[H.out] at h;cases h)⟩
end Go.Proofs.YtohcdbifhnfcbaaGreatDoor
