import Derived.Test.YtohcdbifhnfcbaaGreatDoorPmNG
import Derived.Test.YtohcdbifhnfcbaaGreatDoorPmTof
import Derived.Test.YtohcdbifhnfcbaaGreatDoorRows
import Derived.Deep.OwnRows
import Derived.Deep.AppendLies
import Derived.Deep.WholeRow
import Derived.Deep.RegionHeld3
import Derived.Deep.DeepCutAuto
import Derived.Deep.DeepFit
namespace Go.Proofs.YtohcdbifhnfcbaaGreatDoor
open Go.RowKit
theorem Zax {w w':World} {base size:Nat} {e:TypeId} {v:Value} {n:Nat} {xs:List Value} (h:w.ownsRow base e size v n xs) (hb:Below w.heap.size w w'):w'.ownsRow base e size v n xs:=by
 obtain⟨hl,h⟩:=h;rcases h with h|⟨b,cap,cur,h1,h2,h3,h4⟩
 ·exact ⟨hl,.inl h⟩
 ·exact ⟨hl,.inr ⟨b,cap,cur,h1,h2,by rw[hb.block b (Array.getElem?_eq_some_iff.1 h3).1];exact h3,h4⟩⟩
theorem ZeI {a b c r:Int} {y m d:Nat} {w:World} (ha:a=(y:Int)) (hb:b=(m:Int)) (hc:c=(d:Int)) (hr:ZbM y m d=r) (hy:y≤10000) (h1:1≤m) (h2:m≤12) (hd:d≤100) :
  Calls Tryz.prog 102 #[.int .i64 a,.int .i64 b,.int .i64 c] w fun e w'=>e=.returned (.int .i64 r)∧Below w.heap.size w w':=by
 subst ha hb hc hr;exact Zdd hy h1 h2 hd
theorem ZaJ {a:Int} {n:Nat} {w:World} (ha:a=(n:Int)) (hn:n<100) :
  Calls Tryz.prog 103 #[.int .i64 a] w fun e w'=>∃ v':Value,e=.returned v'∧Bs w' v' (Zaz n)∧Below w.heap.size w w':=by
 subst ha;exact Zq3 hn
theorem Zau (n:Nat):(Zaz n).length=2:=rfl
theorem Zm5:ZbM 10000 1 1=253402300800:=by rw[ZbQ];decide
theorem ZbF {P:Program} {fn:Func} {p u v:Tmp} (h:fn.results=#[.tmp p,.tmp u,.tmp v]) (tmps:Array Value) (w:World):(results fn tmps).run P w=.ok (.tuple #[tmps.getD p undef,tmps.getD u undef,tmps.getD v undef]) w:=by
 simp[results,h]
set_option linter.unusedSimpArgs false in
set_option maxRecDepth 100000 in
set_option maxHeartbeats 4000000 in
theorem ZiI {t:Int} {w:World} (ht:-9223372036854775808≤t∧t≤9223372036854775807) :
  Calls Tryz.prog 60 #[.int .i64 t] w fun e w'=>(∀ (a:Int) (X:List Int),Za2 t=.ok (a,X)→∃ v':Value,e=.returned (.tuple #[.int .i64 a,v',.int .i64 0])∧Bs w' v' X∧Zbg w v'∧Below w.heap.size w w')∧(∀ c,Za2 t=.error c→e=.returned (.tuple #[.int .i64 0,.slice none 0 0,.int .i64 (c:Int)])∧Below w.heap.size w w'):=by
 go_enter Tryz.func60,Tryz.ntmps60;go_wp2_with fail;refine (ZeI (y:=1950) (m:=1) (d:=1) rfl rfl rfl ZjE (by omega) (by omega) (by omega) (by omega)).mono ?_;rintro e w1 ⟨rfl,bel⟩
 by_cases c1:t < -631152000
 ·have H:Hid (Za2 t=.error 3):=by show _=_;unfold Za2;rw[if_pos (.inl c1)]
  go_wp2_with fail;refine bodyPost_ret (ZbF rfl _ _) rfl ?_;exact ⟨fun a X h=>(by rw[H.out] at h;cases h),fun c h=>(by rw[H.out] at h;cases h;exact ⟨rfl,bel⟩)⟩
 go_wp2_with fail;refine (ZeI (y:=9999) (m:=12) (d:=31) rfl rfl rfl Zpv (by omega) (by omega) (by omega) (by omega)).mono ?_;rintro e w2 ⟨rfl,hb⟩;replace bel:=Zaa bel hb;clear hb;have s1:IntKind.i64.wrap (253402214400+86399)=253402300799:=by decide
 by_cases c2:253402300799<t
 ·have H:Hid (Za2 t=.error 3):=by show _=_;unfold Za2;rw[if_pos (.inr c2)]
  go_wp2_with fail;refine bodyPost_ret (ZbF rfl _ _) rfl ?_;exact ⟨fun a X h=>(by rw[H.out] at h;cases h),fun c h=>(by rw[H.out] at h;cases h;exact ⟨rfl,bel⟩)⟩
 go_wp2_with fail;obtain ⟨W,hW⟩:∃ z,z=w2:=⟨_,rfl⟩;rw[← hW] at bel ⊢;clear hW;go_loopw [5] (fun yv wx=>∃ y:Nat,1950≤y∧y≤9999∧yv=.int .i64 (y:Int)∧Hid (ZbM y 1 1≤t)∧Below w.heap.size w wx) (fun yv _=>10000-(intOf yv).toNat)
 case atStart=>exact ⟨1950,by omega,by omega,rfl,by show _≤_;rw[ZjE];omega,bel⟩
 case round =>
  clear bel;obtain ⟨y,y1,y2,rfl,HY,bel⟩:=hrel;have gi:IntKind.i64.wrap ((y:Int)+1)=((y+1:Nat):Int):=by rw[IntKind.wrap_i64];omega
  obtain⟨s,hs⟩:∃ s,ZbM (y+1) 1 1=s:=⟨_,rfl⟩;have HS:Hid (ZbM (y+1) 1 1=s):=hs;go_wp2_with fail;refine (ZeI (y:=y+1) (m:=1) (d:=1) rfl rfl rfl hs (by omega) (by omega) (by omega) (by omega)).mono ?_;clear hs;rintro e w3 ⟨rfl,hb⟩;replace bel:=Zaa bel hb;clear hb
  by_cases k:s≤t
  ·have HY2:Hid (ZbM (y+1) 1 1≤t):=by show _≤_;rw[HS.out];exact k
   have y9:y+1≤9999:=by
    by_cases e:y=9999
    ·have:=HS.out
     rw[e,Zm5] at this;omega
    ·omega
   go_wp2_with fail;go_roundw
   case rel=>exact ⟨y+1,by omega,y9,rfl,HY2,bel⟩
   case measure=>simp[intOf];omega
  ·have HE:Hid (t<ZbM (y+1) 1 1):=by show _<_;rw[HS.out];omega
   clear HS gi;go_wp2_with fail;obtain ⟨W3,hW3⟩:∃ z,z=w3:=⟨_,rfl⟩;rw[← hW3] at bel ⊢;clear hW3;go_loopw [6] (fun mv wx=>∃ m:Nat,1≤m∧m≤12∧mv=.int .i64 (m:Int)∧Hid (ZbM y m 1≤t)∧Below w.heap.size w wx) (fun mv _=>13-(intOf mv).toNat)
   case atStart=>exact ⟨1,by omega,by omega,rfl,HY,bel⟩
   case round =>
    clear bel;obtain ⟨m,m1,m2,rfl,HM,bel⟩:=hrel
    by_cases hm:m<12
    ·have g1:(m:Int)<12:=by omega
     have gi:IntKind.i64.wrap ((m:Int)+1)=((m+1:Nat):Int):=by rw[IntKind.wrap_i64];omega
     obtain⟨s2,hs2⟩:∃ s,ZbM y (m+1) 1=s:=⟨_,rfl⟩;have HS:Hid (ZbM y (m+1) 1=s2):=hs2;go_wp2_with fail;refine (ZeI (y:=y) (m:=m+1) (d:=1) rfl rfl rfl hs2 (by omega) (by omega) (by omega) (by omega)).mono ?_;clear hs2;rintro e w4 ⟨rfl,hb⟩;replace bel:=Zaa bel hb;clear hb
     by_cases k3:s2≤t
     ·have HM2:Hid (ZbM y (m+1) 1≤t):=by show _≤_;rw[HS.out];exact k3
      go_wp2_with fail;go_roundw
      case rel=>exact ⟨m+1,by omega,by omega,rfl,HM2,bel⟩
      case measure=>simp[intOf];omega
     ·have HMon:Hid (ZjX t y m):=ZhV y1 y2 m1 m2 HM.out HE.out (.inr (by rw[HS.out];omega))
      clear HS HM HE HY g1 gi;obtain ⟨s9,hs9⟩:∃ s,ZbM y m 1=s:=⟨_,rfl⟩;have hmn:=HMon.out;obtain ⟨-,-,-,-,q1,q2⟩:=hmn;rw[hs9] at q1 q2;have hdd:=Zdn (y:=y) (m:=m);have HF0:Hid _:=ZfZ HMon.out (by omega) (by omega);rw[hs9] at HF0;obtain ⟨r,hr⟩:∃ r,(t-s9).toNat=r:=⟨_,rfl⟩;rw[hr] at HF0;have hrr:t-s9=(r:Int):=by omega
      have rb:r<2678400:=by omega
      have gr:IntKind.i64.wrap (t-s9)=(r:Int):=by rw[IntKind.wrap_i64];omega
      clear q1 q2 hdd hr HMon;go_wp2_with fail;refine (ZeI (y:=y) (m:=m) (d:=1) rfl rfl rfl hs9 (by omega) (by omega) (by omega) (by omega)).mono ?_;clear hs9;rintro e w5 ⟨rfl,hb⟩;replace bel:=Zaa bel hb;clear hb hrr
      by_cases long:2049<y
      ·have HF:Hid (Za2 t=.ok (24,ZdP y m r)):=by show _=_;rw[HF0.out,ZnU,if_pos long]
       have lg:(2049:Int)<(y:Int):=by omega
       clear HF0;have HBd:Hid (ZdP y m r=[]++Zaz (y/100)++Zaz (y%100)++Zaz (m)++Zaz (1+r/86400)++Zaz (r/3600%24)++Zaz (r/60%60)++Zaz (r%60)++[90]):=by show _=_;unfold ZdP;rw[if_pos long,List.nil_append]
       have hown:w5.ownsRow w.heap.size 5 1 (.slice none 0 0) 0 (u8s []):=⟨rfl,.inl ⟨rfl,rfl⟩⟩;have p0:(y:Int).tdiv 100=((y/100:Nat):Int):=by rw[Int.tdiv_eq_ediv_of_nonneg (by omega)];omega
       have p1:IntKind.i64.wrap ((y/100:Nat):Int)=((y/100:Nat):Int):=by rw[IntKind.wrap_i64];omega
       go_wp2_with fail;refine (ZaJ (n:=y/100) rfl (by omega)).mono ?_;rintro e wa0 ⟨v0,rfl,bs0,hb⟩;replace hown:=Zax hown hb;replace bel:=Zaa bel hb;clear hb;have hs0:=bel.size;go_upto_region 15 with (first|(at_builtin;refine Zad (by rfl) _ _ (by rfl) w.heap.size _ _ ([]) (by rfl) hown _ (Zaz (y/100)) (by rfl) bs0 (by rw[Zau];omega) hs0 ?_;intro u0x wb0 own0 hgrow hat)|fail);replace bel:=Zag (base:=w.heap.size) bel hgrow hs0 (fun g hg=>Zao hown hg) (Nat.le_refl _);rw[Zau] at own0;clear hown hgrow hat bs0 hs0;have hown:=own0;clear own0;have p2:(y:Int).tmod 100=((y%100:Nat):Int):=by rw[Int.tmod_eq_emod_of_nonneg (by omega)];omega
       have p3:IntKind.i64.wrap ((y%100:Nat):Int)=((y%100:Nat):Int):=by rw[IntKind.wrap_i64];omega
       go_wp2_with fail;refine (ZaJ (n:=y%100) rfl (by omega)).mono ?_;rintro e wa1 ⟨v1,rfl,bs1,hb⟩;replace hown:=Zax hown hb;replace bel:=Zaa bel hb;clear hb;have hs1:=bel.size;go_upto_region 16 with (first|(at_builtin;refine Zad (by rfl) _ _ (by rfl) w.heap.size _ _ ([]++Zaz (y/100)) (by rfl) hown _ (Zaz (y%100)) (by rfl) bs1 (by rw[Zau];omega) hs1 ?_;intro u1x wb1 own1 hgrow hat)|fail);replace bel:=Zag (base:=w.heap.size) bel hgrow hs1 (fun g hg=>Zao hown hg) (Nat.le_refl _);rw[Zau] at own1;clear hown hgrow hat bs1 hs1;have hown:=own1;clear own1;go_wp2_with fail;refine (ZaJ (n:=m) rfl (by omega)).mono ?_;rintro e wa2 ⟨v2,rfl,bs2,hb⟩;replace hown:=Zax hown hb;replace bel:=Zaa bel hb;clear hb;have hs2:=bel.size;go_upto_region 17 with (first|(at_builtin;refine Zad (by rfl) _ _ (by rfl) w.heap.size _ _ ([]++Zaz (y/100)++Zaz (y%100)) (by rfl) hown _ (Zaz (m)) (by rfl) bs2 (by rw[Zau];omega) hs2 ?_;intro u2x wb2 own2 hgrow hat)|fail);replace bel:=Zag (base:=w.heap.size) bel hgrow hs2 (fun g hg=>Zao hown hg) (Nat.le_refl _);rw[Zau] at own2;clear hown hgrow hat bs2 hs2;have hown:=own2;clear own2;have p4:(r:Int).tdiv 86400=((r/86400:Nat):Int):=by rw[Int.tdiv_eq_ediv_of_nonneg (by omega)];omega
       have p5:IntKind.i64.wrap ((r/86400:Nat):Int)=((r/86400:Nat):Int):=by rw[IntKind.wrap_i64];omega
       have p6:IntKind.i64.wrap (1+((r/86400:Nat):Int))=((1+r/86400:Nat):Int):=by rw[IntKind.wrap_i64];omega
       go_wp2_with fail;refine (ZaJ (n:=1+r/86400) rfl (by omega)).mono ?_;rintro e wa3 ⟨v3,rfl,bs3,hb⟩;replace hown:=Zax hown hb;replace bel:=Zaa bel hb;clear hb;have hs3:=bel.size;go_upto_region 18 with (first|(at_builtin;refine Zad (by rfl) _ _ (by rfl) w.heap.size _ _ ([]++Zaz (y/100)++Zaz (y%100)++Zaz (m)) (by rfl) hown _ (Zaz (1+r/86400)) (by rfl) bs3 (by rw[Zau];omega) hs3 ?_;intro u3x wb3 own3 hgrow hat)|fail);replace bel:=Zag (base:=w.heap.size) bel hgrow hs3 (fun g hg=>Zao hown hg) (Nat.le_refl _);rw[Zau] at own3;clear hown hgrow hat bs3 hs3;have hown:=own3;clear own3;have p7:(r:Int).tdiv 3600=((r/3600:Nat):Int):=by rw[Int.tdiv_eq_ediv_of_nonneg (by omega)];omega
       have p8:IntKind.i64.wrap ((r/3600:Nat):Int)=((r/3600:Nat):Int):=by rw[IntKind.wrap_i64];omega
       have p9:((r/3600:Nat):Int).tmod 24=((r/3600%24:Nat):Int):=by rw[Int.tmod_eq_emod_of_nonneg (by omega)];omega
       have pa:IntKind.i64.wrap ((r/3600%24:Nat):Int)=((r/3600%24:Nat):Int):=by rw[IntKind.wrap_i64];omega
       go_wp2_with fail;refine (ZaJ (n:=r/3600%24) rfl (by omega)).mono ?_;rintro e wa4 ⟨v4,rfl,bs4,hb⟩;replace hown:=Zax hown hb;replace bel:=Zaa bel hb;clear hb;have hs4:=bel.size;go_upto_region 19 with (first|(at_builtin;refine Zad (by rfl) _ _ (by rfl) w.heap.size _ _ ([]++Zaz (y/100)++Zaz (y%100)++Zaz (m)++Zaz (1+r/86400)) (by rfl) hown _ (Zaz (r/3600%24)) (by rfl) bs4 (by rw[Zau];omega) hs4 ?_;intro u4x wb4 own4 hgrow hat)|fail);replace bel:=Zag (base:=w.heap.size) bel hgrow hs4 (fun g hg=>Zao hown hg) (Nat.le_refl _);rw[Zau] at own4;clear hown hgrow hat bs4 hs4;have hown:=own4;clear own4;have pb:(r:Int).tdiv 60=((r/60:Nat):Int):=by rw[Int.tdiv_eq_ediv_of_nonneg (by omega)];omega
       have pc:IntKind.i64.wrap ((r/60:Nat):Int)=((r/60:Nat):Int):=by rw[IntKind.wrap_i64];omega
       have pd:((r/60:Nat):Int).tmod 60=((r/60%60:Nat):Int):=by rw[Int.tmod_eq_emod_of_nonneg (by omega)];omega
       have pe:IntKind.i64.wrap ((r/60%60:Nat):Int)=((r/60%60:Nat):Int):=by rw[IntKind.wrap_i64];omega
       go_wp2_with fail;refine (ZaJ (n:=r/60%60) rfl (by omega)).mono ?_;rintro e wa5 ⟨v5,rfl,bs5,hb⟩;replace hown:=Zax hown hb;replace bel:=Zaa bel hb;clear hb;have hs5:=bel.size;go_upto_region 20 with (first|(at_builtin;refine Zad (by rfl) _ _ (by rfl) w.heap.size _ _ ([]++Zaz (y/100)++Zaz (y%100)++Zaz (m)++Zaz (1+r/86400)++Zaz (r/3600%24)) (by rfl) hown _ (Zaz (r/60%60)) (by rfl) bs5 (by rw[Zau];omega) hs5 ?_;intro u5x wb5 own5 hgrow hat)|fail);replace bel:=Zag (base:=w.heap.size) bel hgrow hs5 (fun g hg=>Zao hown hg) (Nat.le_refl _);rw[Zau] at own5;clear hown hgrow hat bs5 hs5;have hown:=own5;clear own5;have pf:(r:Int).tmod 60=((r%60:Nat):Int):=by rw[Int.tmod_eq_emod_of_nonneg (by omega)];omega
       have pg:IntKind.i64.wrap ((r%60:Nat):Int)=((r%60:Nat):Int):=by rw[IntKind.wrap_i64];omega
       go_wp2_with fail;refine (ZaJ (n:=r%60) rfl (by omega)).mono ?_;rintro e wa6 ⟨v6,rfl,bs6,hb⟩;replace hown:=Zax hown hb;replace bel:=Zaa bel hb;clear hb;have hs6:=bel.size;go_upto_region 21 with (first|(at_builtin;refine Zad (by rfl) _ _ (by rfl) w.heap.size _ _ ([]++Zaz (y/100)++Zaz (y%100)++Zaz (m)++Zaz (1+r/86400)++Zaz (r/3600%24)++Zaz (r/60%60)) (by rfl) hown _ (Zaz (r%60)) (by rfl) bs6 (by rw[Zau];omega) hs6 ?_;intro u6x wb6 own6 hgrow hat)|fail);replace bel:=Zag (base:=w.heap.size) bel hgrow hs6 (fun g hg=>Zao hown hg) (Nat.le_refl _);rw[Zau] at own6;clear hown hgrow hat bs6 hs6;have hown:=own6;clear own6;have o9:=hown.alloc (.cells #[.int .u8 90] 5);have b9:=Zft wb6 90;have bel9:=Zah (o:=.cells #[.int .u8 90] 5) bel;have hs9:=bel9.size;go_wp2_with (first|(at_builtin;refine Zad (by rfl) _ _ (by rfl) w.heap.size _ _ ([]++Zaz (y/100)++Zaz (y%100)++Zaz (m)++Zaz (1+r/86400)++Zaz (r/3600%24)++Zaz (r/60%60)++Zaz (r%60)) (by rfl) o9 _ [90] (by rfl) b9 (by simp) hs9 ?_;intro v9 w9 own9 hgrow hat)|fail);have bs9:=Bs.of_own own9;replace bel:=Zag (base:=w.heap.size) bel9 hgrow hs9 (fun g hg=>Zao hown hg) (Nat.le_refl _);refine bodyPost_ret (ZbF rfl _ _) rfl ?_;refine ⟨fun a X h=>?_,fun c h=>(by rw[HF.out] at h;cases h)⟩;rw[HF.out] at h
       cases h
       exact⟨_,rfl,by rw[HBd.out];exact bs9,Zbg.of_own own9,bel⟩
      ·have HF:Hid (Za2 t=.ok (23,ZdP y m r)):=by show _=_;rw[HF0.out,ZnU,if_neg long]
       have lg:¬ (2049:Int)<(y:Int):=by omega
       clear HF0;have HBd:Hid (ZdP y m r=[]++Zaz (y%100)++Zaz (m)++Zaz (1+r/86400)++Zaz (r/3600%24)++Zaz (r/60%60)++Zaz (r%60)++[90]):=by show _=_;unfold ZdP;rw[if_neg long]
       have hown:w5.ownsRow w.heap.size 5 1 (.slice none 0 0) 0 (u8s []):=⟨rfl,.inl ⟨rfl,rfl⟩⟩;have p2:(y:Int).tmod 100=((y%100:Nat):Int):=by rw[Int.tmod_eq_emod_of_nonneg (by omega)];omega
       have p3:IntKind.i64.wrap ((y%100:Nat):Int)=((y%100:Nat):Int):=by rw[IntKind.wrap_i64];omega
       go_wp2_with fail;refine (ZaJ (n:=y%100) rfl (by omega)).mono ?_;rintro e wa0 ⟨v0,rfl,bs0,hb⟩;replace hown:=Zax hown hb;replace bel:=Zaa bel hb;clear hb;have hs0:=bel.size;go_upto_region 16 with (first|(at_builtin;refine Zad (by rfl) _ _ (by rfl) w.heap.size _ _ ([]) (by rfl) hown _ (Zaz (y%100)) (by rfl) bs0 (by rw[Zau];omega) hs0 ?_;intro u0x wb0 own0 hgrow hat)|fail);replace bel:=Zag (base:=w.heap.size) bel hgrow hs0 (fun g hg=>Zao hown hg) (Nat.le_refl _);rw[Zau] at own0;clear hown hgrow hat bs0 hs0;have hown:=own0;clear own0;go_wp2_with fail;refine (ZaJ (n:=m) rfl (by omega)).mono ?_;rintro e wa1 ⟨v1,rfl,bs1,hb⟩;replace hown:=Zax hown hb;replace bel:=Zaa bel hb;clear hb;have hs1:=bel.size;go_upto_region 17 with (first|(at_builtin;refine Zad (by rfl) _ _ (by rfl) w.heap.size _ _ ([]++Zaz (y%100)) (by rfl) hown _ (Zaz (m)) (by rfl) bs1 (by rw[Zau];omega) hs1 ?_;intro u1x wb1 own1 hgrow hat)|fail);replace bel:=Zag (base:=w.heap.size) bel hgrow hs1 (fun g hg=>Zao hown hg) (Nat.le_refl _);rw[Zau] at own1;clear hown hgrow hat bs1 hs1;have hown:=own1;clear own1;have p4:(r:Int).tdiv 86400=((r/86400:Nat):Int):=by rw[Int.tdiv_eq_ediv_of_nonneg (by omega)];omega
       have p5:IntKind.i64.wrap ((r/86400:Nat):Int)=((r/86400:Nat):Int):=by rw[IntKind.wrap_i64];omega
       have p6:IntKind.i64.wrap (1+((r/86400:Nat):Int))=((1+r/86400:Nat):Int):=by rw[IntKind.wrap_i64];omega
       go_wp2_with fail;refine (ZaJ (n:=1+r/86400) rfl (by omega)).mono ?_;rintro e wa2 ⟨v2,rfl,bs2,hb⟩;replace hown:=Zax hown hb;replace bel:=Zaa bel hb;clear hb;have hs2:=bel.size;go_upto_region 18 with (first|(at_builtin;refine Zad (by rfl) _ _ (by rfl) w.heap.size _ _ ([]++Zaz (y%100)++Zaz (m)) (by rfl) hown _ (Zaz (1+r/86400)) (by rfl) bs2 (by rw[Zau];omega) hs2 ?_;intro u2x wb2 own2 hgrow hat)|fail);replace bel:=Zag (base:=w.heap.size) bel hgrow hs2 (fun g hg=>Zao hown hg) (Nat.le_refl _);rw[Zau] at own2;clear hown hgrow hat bs2 hs2;have hown:=own2;clear own2;have p7:(r:Int).tdiv 3600=((r/3600:Nat):Int):=by rw[Int.tdiv_eq_ediv_of_nonneg (by omega)];omega
       have p8:IntKind.i64.wrap ((r/3600:Nat):Int)=((r/3600:Nat):Int):=by rw[IntKind.wrap_i64];omega
       have p9:((r/3600:Nat):Int).tmod 24=((r/3600%24:Nat):Int):=by rw[Int.tmod_eq_emod_of_nonneg (by omega)];omega
       have pa:IntKind.i64.wrap ((r/3600%24:Nat):Int)=((r/3600%24:Nat):Int):=by rw[IntKind.wrap_i64];omega
       go_wp2_with fail;refine (ZaJ (n:=r/3600%24) rfl (by omega)).mono ?_;rintro e wa3 ⟨v3,rfl,bs3,hb⟩;replace hown:=Zax hown hb;replace bel:=Zaa bel hb;clear hb;have hs3:=bel.size;go_upto_region 19 with (first|(at_builtin;refine Zad (by rfl) _ _ (by rfl) w.heap.size _ _ ([]++Zaz (y%100)++Zaz (m)++Zaz (1+r/86400)) (by rfl) hown _ (Zaz (r/3600%24)) (by rfl) bs3 (by rw[Zau];omega) hs3 ?_;intro u3x wb3 own3 hgrow hat)|fail);replace bel:=Zag (base:=w.heap.size) bel hgrow hs3 (fun g hg=>Zao hown hg) (Nat.le_refl _);rw[Zau] at own3;clear hown hgrow hat bs3 hs3;have hown:=own3;clear own3;have pb:(r:Int).tdiv 60=((r/60:Nat):Int):=by rw[Int.tdiv_eq_ediv_of_nonneg (by omega)];omega
       have pc:IntKind.i64.wrap ((r/60:Nat):Int)=((r/60:Nat):Int):=by rw[IntKind.wrap_i64];omega
       have pd:((r/60:Nat):Int).tmod 60=((r/60%60:Nat):Int):=by rw[Int.tmod_eq_emod_of_nonneg (by omega)];omega
       have pe:IntKind.i64.wrap ((r/60%60:Nat):Int)=((r/60%60:Nat):Int):=by rw[IntKind.wrap_i64];omega
       go_wp2_with fail;refine (ZaJ (n:=r/60%60) rfl (by omega)).mono ?_;rintro e wa4 ⟨v4,rfl,bs4,hb⟩;replace hown:=Zax hown hb;replace bel:=Zaa bel hb;clear hb;have hs4:=bel.size;go_upto_region 20 with (first|(at_builtin;refine Zad (by rfl) _ _ (by rfl) w.heap.size _ _ ([]++Zaz (y%100)++Zaz (m)++Zaz (1+r/86400)++Zaz (r/3600%24)) (by rfl) hown _ (Zaz (r/60%60)) (by rfl) bs4 (by rw[Zau];omega) hs4 ?_;intro u4x wb4 own4 hgrow hat)|fail);replace bel:=Zag (base:=w.heap.size) bel hgrow hs4 (fun g hg=>Zao hown hg) (Nat.le_refl _);rw[Zau] at own4;clear hown hgrow hat bs4 hs4;have hown:=own4;clear own4;have pf:(r:Int).tmod 60=((r%60:Nat):Int):=by rw[Int.tmod_eq_emod_of_nonneg (by omega)];omega
       have pg:IntKind.i64.wrap ((r%60:Nat):Int)=((r%60:Nat):Int):=by rw[IntKind.wrap_i64];omega
       go_wp2_with fail;refine (ZaJ (n:=r%60) rfl (by omega)).mono ?_;rintro e wa5 ⟨v5,rfl,bs5,hb⟩;replace hown:=Zax hown hb;replace bel:=Zaa bel hb;clear hb;have hs5:=bel.size;go_upto_region 21 with (first|(at_builtin;refine Zad (by rfl) _ _ (by rfl) w.heap.size _ _ ([]++Zaz (y%100)++Zaz (m)++Zaz (1+r/86400)++Zaz (r/3600%24)++Zaz (r/60%60)) (by rfl) hown _ (Zaz (r%60)) (by rfl) bs5 (by rw[Zau];omega) hs5 ?_;intro u5x wb5 own5 hgrow hat)|fail);replace bel:=Zag (base:=w.heap.size) bel hgrow hs5 (fun g hg=>Zao hown hg) (Nat.le_refl _);rw[Zau] at own5;clear hown hgrow hat bs5 hs5;have hown:=own5;clear own5;have o9:=hown.alloc (.cells #[.int .u8 90] 5);have b9:=Zft wb5 90;have bel9:=Zah (o:=.cells #[.int .u8 90] 5) bel;have hs9:=bel9.size;go_wp2_with (first|(at_builtin;refine Zad (by rfl) _ _ (by rfl) w.heap.size _ _ ([]++Zaz (y%100)++Zaz (m)++Zaz (1+r/86400)++Zaz (r/3600%24)++Zaz (r/60%60)++Zaz (r%60)) (by rfl) o9 _ [90] (by rfl) b9 (by simp) hs9 ?_;intro v9 w9 own9 hgrow hat)|fail);have bs9:=Bs.of_own own9;replace bel:=Zag (base:=w.heap.size) bel9 hgrow hs9 (fun g hg=>Zao hown hg) (Nat.le_refl _);refine bodyPost_ret (ZbF rfl _ _) rfl ?_;refine ⟨fun a X h=>?_,fun c h=>(by rw[HF.out] at h;cases h)⟩;rw[HF.out] at h
       cases h
       exact⟨_,rfl,by rw[HBd.out];exact bs9,Zbg.of_own own9,bel⟩
    ·have g1:¬ (m:Int)<12:=by omega
     have HMon:Hid (ZjX t y m):=ZhV y1 y2 m1 m2 HM.out HE.out (.inl (by omega));clear HM HE HY;obtain ⟨s9,hs9⟩:∃ s,ZbM y m 1=s:=⟨_,rfl⟩;have hmn:=HMon.out;obtain ⟨-,-,-,-,q1,q2⟩:=hmn;rw[hs9] at q1 q2;have hdd:=Zdn (y:=y) (m:=m);have HF0:Hid _:=ZfZ HMon.out (by omega) (by omega);rw[hs9] at HF0;obtain ⟨r,hr⟩:∃ r,(t-s9).toNat=r:=⟨_,rfl⟩;rw[hr] at HF0;have hrr:t-s9=(r:Int):=by omega
     have rb:r<2678400:=by omega
     have gr:IntKind.i64.wrap (t-s9)=(r:Int):=by rw[IntKind.wrap_i64];omega
     clear q1 q2 hdd hr HMon;go_wp2_with fail;refine (ZeI (y:=y) (m:=m) (d:=1) rfl rfl rfl hs9 (by omega) (by omega) (by omega) (by omega)).mono ?_;clear hs9;rintro e w5 ⟨rfl,hb⟩;replace bel:=Zaa bel hb;clear hb hrr
     by_cases long:2049<y
     ·have HF:Hid (Za2 t=.ok (24,ZdP y m r)):=by show _=_;rw[HF0.out,ZnU,if_pos long]
      have lg:(2049:Int)<(y:Int):=by omega
      clear HF0;have HBd:Hid (ZdP y m r=[]++Zaz (y/100)++Zaz (y%100)++Zaz (m)++Zaz (1+r/86400)++Zaz (r/3600%24)++Zaz (r/60%60)++Zaz (r%60)++[90]):=by show _=_;unfold ZdP;rw[if_pos long,List.nil_append]
      have hown:w5.ownsRow w.heap.size 5 1 (.slice none 0 0) 0 (u8s []):=⟨rfl,.inl ⟨rfl,rfl⟩⟩;have p0:(y:Int).tdiv 100=((y/100:Nat):Int):=by rw[Int.tdiv_eq_ediv_of_nonneg (by omega)];omega
      have p1:IntKind.i64.wrap ((y/100:Nat):Int)=((y/100:Nat):Int):=by rw[IntKind.wrap_i64];omega
      go_wp2_with fail;refine (ZaJ (n:=y/100) rfl (by omega)).mono ?_;rintro e wa0 ⟨v0,rfl,bs0,hb⟩;replace hown:=Zax hown hb;replace bel:=Zaa bel hb;clear hb;have hs0:=bel.size;go_upto_region 15 with (first|(at_builtin;refine Zad (by rfl) _ _ (by rfl) w.heap.size _ _ ([]) (by rfl) hown _ (Zaz (y/100)) (by rfl) bs0 (by rw[Zau];omega) hs0 ?_;intro u0x wb0 own0 hgrow hat)|fail);replace bel:=Zag (base:=w.heap.size) bel hgrow hs0 (fun g hg=>Zao hown hg) (Nat.le_refl _);rw[Zau] at own0;clear hown hgrow hat bs0 hs0;have hown:=own0;clear own0;have p2:(y:Int).tmod 100=((y%100:Nat):Int):=by rw[Int.tmod_eq_emod_of_nonneg (by omega)];omega
      have p3:IntKind.i64.wrap ((y%100:Nat):Int)=((y%100:Nat):Int):=by rw[IntKind.wrap_i64];omega
      go_wp2_with fail;refine (ZaJ (n:=y%100) rfl (by omega)).mono ?_;rintro e wa1 ⟨v1,rfl,bs1,hb⟩;replace hown:=Zax hown hb;replace bel:=Zaa bel hb;clear hb;have hs1:=bel.size;go_upto_region 16 with (first|(at_builtin;refine Zad (by rfl) _ _ (by rfl) w.heap.size _ _ ([]++Zaz (y/100)) (by rfl) hown _ (Zaz (y%100)) (by rfl) bs1 (by rw[Zau];omega) hs1 ?_;intro u1x wb1 own1 hgrow hat)|fail);replace bel:=Zag (base:=w.heap.size) bel hgrow hs1 (fun g hg=>Zao hown hg) (Nat.le_refl _);rw[Zau] at own1;clear hown hgrow hat bs1 hs1;have hown:=own1;clear own1;go_wp2_with fail;refine (ZaJ (n:=m) rfl (by omega)).mono ?_;rintro e wa2 ⟨v2,rfl,bs2,hb⟩;replace hown:=Zax hown hb;replace bel:=Zaa bel hb;clear hb;have hs2:=bel.size;go_upto_region 17 with (first|(at_builtin;refine Zad (by rfl) _ _ (by rfl) w.heap.size _ _ ([]++Zaz (y/100)++Zaz (y%100)) (by rfl) hown _ (Zaz (m)) (by rfl) bs2 (by rw[Zau];omega) hs2 ?_;intro u2x wb2 own2 hgrow hat)|fail);replace bel:=Zag (base:=w.heap.size) bel hgrow hs2 (fun g hg=>Zao hown hg) (Nat.le_refl _);rw[Zau] at own2;clear hown hgrow hat bs2 hs2;have hown:=own2;clear own2;have p4:(r:Int).tdiv 86400=((r/86400:Nat):Int):=by rw[Int.tdiv_eq_ediv_of_nonneg (by omega)];omega
      have p5:IntKind.i64.wrap ((r/86400:Nat):Int)=((r/86400:Nat):Int):=by rw[IntKind.wrap_i64];omega
      have p6:IntKind.i64.wrap (1+((r/86400:Nat):Int))=((1+r/86400:Nat):Int):=by rw[IntKind.wrap_i64];omega
      go_wp2_with fail;refine (ZaJ (n:=1+r/86400) rfl (by omega)).mono ?_;rintro e wa3 ⟨v3,rfl,bs3,hb⟩;replace hown:=Zax hown hb;replace bel:=Zaa bel hb;clear hb;have hs3:=bel.size;go_upto_region 18 with (first|(at_builtin;refine Zad (by rfl) _ _ (by rfl) w.heap.size _ _ ([]++Zaz (y/100)++Zaz (y%100)++Zaz (m)) (by rfl) hown _ (Zaz (1+r/86400)) (by rfl) bs3 (by rw[Zau];omega) hs3 ?_;intro u3x wb3 own3 hgrow hat)|fail);replace bel:=Zag (base:=w.heap.size) bel hgrow hs3 (fun g hg=>Zao hown hg) (Nat.le_refl _);rw[Zau] at own3;clear hown hgrow hat bs3 hs3;have hown:=own3;clear own3;have p7:(r:Int).tdiv 3600=((r/3600:Nat):Int):=by rw[Int.tdiv_eq_ediv_of_nonneg (by omega)];omega
      have p8:IntKind.i64.wrap ((r/3600:Nat):Int)=((r/3600:Nat):Int):=by rw[IntKind.wrap_i64];omega
      have p9:((r/3600:Nat):Int).tmod 24=((r/3600%24:Nat):Int):=by rw[Int.tmod_eq_emod_of_nonneg (by omega)];omega
      have pa:IntKind.i64.wrap ((r/3600%24:Nat):Int)=((r/3600%24:Nat):Int):=by rw[IntKind.wrap_i64];omega
      go_wp2_with fail;refine (ZaJ (n:=r/3600%24) rfl (by omega)).mono ?_;rintro e wa4 ⟨v4,rfl,bs4,hb⟩;replace hown:=Zax hown hb;replace bel:=Zaa bel hb;clear hb;have hs4:=bel.size;go_upto_region 19 with (first|(at_builtin;refine Zad (by rfl) _ _ (by rfl) w.heap.size _ _ ([]++Zaz (y/100)++Zaz (y%100)++Zaz (m)++Zaz (1+r/86400)) (by rfl) hown _ (Zaz (r/3600%24)) (by rfl) bs4 (by rw[Zau];omega) hs4 ?_;intro u4x wb4 own4 hgrow hat)|fail);replace bel:=Zag (base:=w.heap.size) bel hgrow hs4 (fun g hg=>Zao hown hg) (Nat.le_refl _);rw[Zau] at own4;clear hown hgrow hat bs4 hs4;have hown:=own4;clear own4;have pb:(r:Int).tdiv 60=((r/60:Nat):Int):=by rw[Int.tdiv_eq_ediv_of_nonneg (by omega)];omega
      have pc:IntKind.i64.wrap ((r/60:Nat):Int)=((r/60:Nat):Int):=by rw[IntKind.wrap_i64];omega
      have pd:((r/60:Nat):Int).tmod 60=((r/60%60:Nat):Int):=by rw[Int.tmod_eq_emod_of_nonneg (by omega)];omega
      have pe:IntKind.i64.wrap ((r/60%60:Nat):Int)=((r/60%60:Nat):Int):=by rw[IntKind.wrap_i64];omega
      go_wp2_with fail;refine (ZaJ (n:=r/60%60) rfl (by omega)).mono ?_;rintro e wa5 ⟨v5,rfl,bs5,hb⟩;replace hown:=Zax hown hb;replace bel:=Zaa bel hb;clear hb;have hs5:=bel.size;go_upto_region 20 with (first|(at_builtin;refine Zad (by rfl) _ _ (by rfl) w.heap.size _ _ ([]++Zaz (y/100)++Zaz (y%100)++Zaz (m)++Zaz (1+r/86400)++Zaz (r/3600%24)) (by rfl) hown _ (Zaz (r/60%60)) (by rfl) bs5 (by rw[Zau];omega) hs5 ?_;intro u5x wb5 own5 hgrow hat)|fail);replace bel:=Zag (base:=w.heap.size) bel hgrow hs5 (fun g hg=>Zao hown hg) (Nat.le_refl _);rw[Zau] at own5;clear hown hgrow hat bs5 hs5;have hown:=own5;clear own5;have pf:(r:Int).tmod 60=((r%60:Nat):Int):=by rw[Int.tmod_eq_emod_of_nonneg (by omega)];omega
      have pg:IntKind.i64.wrap ((r%60:Nat):Int)=((r%60:Nat):Int):=by rw[IntKind.wrap_i64];omega
      go_wp2_with fail;refine (ZaJ (n:=r%60) rfl (by omega)).mono ?_;rintro e wa6 ⟨v6,rfl,bs6,hb⟩;replace hown:=Zax hown hb;replace bel:=Zaa bel hb;clear hb;have hs6:=bel.size;go_upto_region 21 with (first|(at_builtin;refine Zad (by rfl) _ _ (by rfl) w.heap.size _ _ ([]++Zaz (y/100)++Zaz (y%100)++Zaz (m)++Zaz (1+r/86400)++Zaz (r/3600%24)++Zaz (r/60%60)) (by rfl) hown _ (Zaz (r%60)) (by rfl) bs6 (by rw[Zau];omega) hs6 ?_;intro u6x wb6 own6 hgrow hat)|fail);replace bel:=Zag (base:=w.heap.size) bel hgrow hs6 (fun g hg=>Zao hown hg) (Nat.le_refl _);rw[Zau] at own6;clear hown hgrow hat bs6 hs6;have hown:=own6;clear own6;have o9:=hown.alloc (.cells #[.int .u8 90] 5);have b9:=Zft wb6 90;have bel9:=Zah (o:=.cells #[.int .u8 90] 5) bel;have hs9:=bel9.size;go_wp2_with (first|(at_builtin;refine Zad (by rfl) _ _ (by rfl) w.heap.size _ _ ([]++Zaz (y/100)++Zaz (y%100)++Zaz (m)++Zaz (1+r/86400)++Zaz (r/3600%24)++Zaz (r/60%60)++Zaz (r%60)) (by rfl) o9 _ [90] (by rfl) b9 (by simp) hs9 ?_;intro v9 w9 own9 hgrow hat)|fail);have bs9:=Bs.of_own own9;replace bel:=Zag (base:=w.heap.size) bel9 hgrow hs9 (fun g hg=>Zao hown hg) (Nat.le_refl _);refine bodyPost_ret (ZbF rfl _ _) rfl ?_;refine ⟨fun a X h=>?_,fun c h=>(by rw[HF.out] at h;cases h)⟩;rw[HF.out] at h
      cases h
      exact⟨_,rfl,by rw[HBd.out];exact bs9,Zbg.of_own own9,bel⟩
     ·have HF:Hid (Za2 t=.ok (23,ZdP y m r)):=by show _=_;rw[HF0.out,ZnU,if_neg long]
      have lg:¬ (2049:Int)<(y:Int):=by omega
      clear HF0;have HBd:Hid (ZdP y m r=[]++Zaz (y%100)++Zaz (m)++Zaz (1+r/86400)++Zaz (r/3600%24)++Zaz (r/60%60)++Zaz (r%60)++[90]):=by show _=_;unfold ZdP;rw[if_neg long]
      have hown:w5.ownsRow w.heap.size 5 1 (.slice none 0 0) 0 (u8s []):=⟨rfl,.inl ⟨rfl,rfl⟩⟩;have p2:(y:Int).tmod 100=((y%100:Nat):Int):=by rw[Int.tmod_eq_emod_of_nonneg (by omega)];omega
      have p3:IntKind.i64.wrap ((y%100:Nat):Int)=((y%100:Nat):Int):=by rw[IntKind.wrap_i64];omega
      go_wp2_with fail;refine (ZaJ (n:=y%100) rfl (by omega)).mono ?_;rintro e wa0 ⟨v0,rfl,bs0,hb⟩;replace hown:=Zax hown hb;replace bel:=Zaa bel hb;clear hb;have hs0:=bel.size;go_upto_region 16 with (first|(at_builtin;refine Zad (by rfl) _ _ (by rfl) w.heap.size _ _ ([]) (by rfl) hown _ (Zaz (y%100)) (by rfl) bs0 (by rw[Zau];omega) hs0 ?_;intro u0x wb0 own0 hgrow hat)|fail);replace bel:=Zag (base:=w.heap.size) bel hgrow hs0 (fun g hg=>Zao hown hg) (Nat.le_refl _);rw[Zau] at own0;clear hown hgrow hat bs0 hs0;have hown:=own0;clear own0;go_wp2_with fail;refine (ZaJ (n:=m) rfl (by omega)).mono ?_;rintro e wa1 ⟨v1,rfl,bs1,hb⟩;replace hown:=Zax hown hb;replace bel:=Zaa bel hb;clear hb;have hs1:=bel.size;go_upto_region 17 with (first|(at_builtin;refine Zad (by rfl) _ _ (by rfl) w.heap.size _ _ ([]++Zaz (y%100)) (by rfl) hown _ (Zaz (m)) (by rfl) bs1 (by rw[Zau];omega) hs1 ?_;intro u1x wb1 own1 hgrow hat)|fail);replace bel:=Zag (base:=w.heap.size) bel hgrow hs1 (fun g hg=>Zao hown hg) (Nat.le_refl _);rw[Zau] at own1;clear hown hgrow hat bs1 hs1;have hown:=own1;clear own1;have p4:(r:Int).tdiv 86400=((r/86400:Nat):Int):=by rw[Int.tdiv_eq_ediv_of_nonneg (by omega)];omega
      have p5:IntKind.i64.wrap ((r/86400:Nat):Int)=((r/86400:Nat):Int):=by rw[IntKind.wrap_i64];omega
      have p6:IntKind.i64.wrap (1+((r/86400:Nat):Int))=((1+r/86400:Nat):Int):=by rw[IntKind.wrap_i64];omega
      go_wp2_with fail;refine (ZaJ (n:=1+r/86400) rfl (by omega)).mono ?_;rintro e wa2 ⟨v2,rfl,bs2,hb⟩;replace hown:=Zax hown hb;replace bel:=Zaa bel hb;clear hb;have hs2:=bel.size;go_upto_region 18 with (first|(at_builtin;refine Zad (by rfl) _ _ (by rfl) w.heap.size _ _ ([]++Zaz (y%100)++Zaz (m)) (by rfl) hown _ (Zaz (1+r/86400)) (by rfl) bs2 (by rw[Zau];omega) hs2 ?_;intro u2x wb2 own2 hgrow hat)|fail);replace bel:=Zag (base:=w.heap.size) bel hgrow hs2 (fun g hg=>Zao hown hg) (Nat.le_refl _);rw[Zau] at own2;clear hown hgrow hat bs2 hs2;have hown:=own2;clear own2;have p7:(r:Int).tdiv 3600=((r/3600:Nat):Int):=by rw[Int.tdiv_eq_ediv_of_nonneg (by omega)];omega
      have p8:IntKind.i64.wrap ((r/3600:Nat):Int)=((r/3600:Nat):Int):=by rw[IntKind.wrap_i64];omega
      have p9:((r/3600:Nat):Int).tmod 24=((r/3600%24:Nat):Int):=by rw[Int.tmod_eq_emod_of_nonneg (by omega)];omega
      have pa:IntKind.i64.wrap ((r/3600%24:Nat):Int)=((r/3600%24:Nat):Int):=by rw[IntKind.wrap_i64];omega
      go_wp2_with fail;refine (ZaJ (n:=r/3600%24) rfl (by omega)).mono ?_;rintro e wa3 ⟨v3,rfl,bs3,hb⟩;replace hown:=Zax hown hb;replace bel:=Zaa bel hb;clear hb;have hs3:=bel.size;go_upto_region 19 with (first|(at_builtin;refine Zad (by rfl) _ _ (by rfl) w.heap.size _ _ ([]++Zaz (y%100)++Zaz (m)++Zaz (1+r/86400)) (by rfl) hown _ (Zaz (r/3600%24)) (by rfl) bs3 (by rw[Zau];omega) hs3 ?_;intro u3x wb3 own3 hgrow hat)|fail);replace bel:=Zag (base:=w.heap.size) bel hgrow hs3 (fun g hg=>Zao hown hg) (Nat.le_refl _);rw[Zau] at own3;clear hown hgrow hat bs3 hs3;have hown:=own3;clear own3;have pb:(r:Int).tdiv 60=((r/60:Nat):Int):=by rw[Int.tdiv_eq_ediv_of_nonneg (by omega)];omega
      have pc:IntKind.i64.wrap ((r/60:Nat):Int)=((r/60:Nat):Int):=by rw[IntKind.wrap_i64];omega
      have pd:((r/60:Nat):Int).tmod 60=((r/60%60:Nat):Int):=by rw[Int.tmod_eq_emod_of_nonneg (by omega)];omega
      have pe:IntKind.i64.wrap ((r/60%60:Nat):Int)=((r/60%60:Nat):Int):=by rw[IntKind.wrap_i64];omega
      go_wp2_with fail;refine (ZaJ (n:=r/60%60) rfl (by omega)).mono ?_;rintro e wa4 ⟨v4,rfl,bs4,hb⟩;replace hown:=Zax hown hb;replace bel:=Zaa bel hb;clear hb;have hs4:=bel.size;go_upto_region 20 with (first|(at_builtin;refine Zad (by rfl) _ _ (by rfl) w.heap.size _ _ ([]++Zaz (y%100)++Zaz (m)++Zaz (1+r/86400)++Zaz (r/3600%24)) (by rfl) hown _ (Zaz (r/60%60)) (by rfl) bs4 (by rw[Zau];omega) hs4 ?_;intro u4x wb4 own4 hgrow hat)|fail);replace bel:=Zag (base:=w.heap.size) bel hgrow hs4 (fun g hg=>Zao hown hg) (Nat.le_refl _);rw[Zau] at own4;clear hown hgrow hat bs4 hs4;have hown:=own4;clear own4;have pf:(r:Int).tmod 60=((r%60:Nat):Int):=by rw[Int.tmod_eq_emod_of_nonneg (by omega)];omega
      have pg:IntKind.i64.wrap ((r%60:Nat):Int)=((r%60:Nat):Int):=by rw[IntKind.wrap_i64];omega
      go_wp2_with fail;refine (ZaJ (n:=r%60) rfl (by omega)).mono ?_;rintro e wa5 ⟨v5,rfl,bs5,hb⟩;replace hown:=Zax hown hb;replace bel:=Zaa bel hb;clear hb;have hs5:=bel.size;go_upto_region 21 with (first|(at_builtin;refine Zad (by rfl) _ _ (by rfl) w.heap.size _ _ ([]++Zaz (y%100)++Zaz (m)++Zaz (1+r/86400)++Zaz (r/3600%24)++Zaz (r/60%60)) (by rfl) hown _ (Zaz (r%60)) (by rfl) bs5 (by rw[Zau];omega) hs5 ?_;intro u5x wb5 own5 hgrow hat)|fail);replace bel:=Zag (base:=w.heap.size) bel hgrow hs5 (fun g hg=>Zao hown hg) (Nat.le_refl _);rw[Zau] at own5;clear hown hgrow hat bs5 hs5;have hown:=own5;clear own5;have o9:=hown.alloc (.cells #[.int .u8 90] 5);have b9:=Zft wb5 90;have bel9:=Zah (o:=.cells #[.int .u8 90] 5) bel;have hs9:=bel9.size;go_wp2_with (first|(at_builtin;refine Zad (by rfl) _ _ (by rfl) w.heap.size _ _ ([]++Zaz (y%100)++Zaz (m)++Zaz (1+r/86400)++Zaz (r/3600%24)++Zaz (r/60%60)++Zaz (r%60)) (by rfl) o9 _ [90] (by rfl) b9 (by simp) hs9 ?_;intro v9 w9 own9 hgrow hat)|fail);have bs9:=Bs.of_own own9;replace bel:=Zag (base:=w.heap.size) bel9 hgrow hs9 (fun g hg=>Zao hown hg) (Nat.le_refl _);refine bodyPost_ret (ZbF rfl _ _) rfl ?_;refine ⟨fun a X h=>?_,fun c h=>(by rw[HF.out] at h;cases h)⟩;rw[HF.out] at h
      cases h
      exact⟨_,rfl,by rw[HBd.out];exact bs9,Zbg.of_own own9,bel⟩
end Go.Proofs.YtohcdbifhnfcbaaGreatDoor
