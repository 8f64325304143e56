/- The program's method time of layer 13. The program's momentOf of layer 13. -/
import Derived.Test.YtkgjlcdefnpkpaaGreatDoorPrTimA
import Derived.Test.YtkgjlcdefnpkpaaGreatDoorPmNG
import Derived.Test.YtkgjlcdefnpkpaaGreatDoorRows
import Derived.Deep.OwnRows
import Derived.Deep.AppendLies
import Derived.Great.BuildSlice
import Derived.BigQuiet
import Derived.Deep.WholeRow
import Derived.Deep.RegionHeld3
import Derived.Deep.DeepCutAuto
import Derived.Deep.DeepFit
import Derived.Laws.Rows
import Derived.Laws.CopyOwn
namespace Go.Proofs.YtkgjlcdefnpkpaaGreatDoor
open Go.RowKit
theorem c13_ahead70 {w:World}:Calls Tryz.prog 153 #[.int .i64 1970] w fun e w'=>e=.returned (.int .i64 719162)∧w'=w:=by
 have h:=c13_ahead (y:=1970) (w:=w) (by omega)
 rw [aheadZ_pos (by omega),ahead_1970] at h
 exact h
/-- the moment of a time -/
def MomIs (t:Int) (y m d c:Nat):Prop:=1950≤y∧y≤9999∧1≤m∧m≤12∧d < daysN y m∧c < 86400∧t + 719162 * 86400=(ahead y + (msum y (m - 1):Nat) + d) * 86400 + c
theorem zero_moD:Hid (∀ w:World,(zeroValue 196).run Tryz.prog w=.ok (.agg #[.int .i64 0,.int .i64 0,.int .i64 0,.int .i64 0,.int .i64 0,.int .i64 0]) w):=fun w=>by kernel_rfl
theorem size_moD:(Tryz.prog.info? 196).map (·.size)=some 6:=by kernel_rfl
theorem month_in {y m:Nat} {d:Int} (h1:1≤m) (h2:m≤12) (hd:((daysN y m:Nat):Int)≤d) (ht:d + (msum y (m - 1):Nat) < 337 + (daysN y 2:Nat)):m + 1≤12:=by
 by_cases k:m=12
 ·subst k
  have:=msum_12 y
  rw [show (12:Nat)=11 + 1 from rfl,msum] at this
  rw [show 12 - 1=11 from rfl] at ht
  rw [show (11 + 1:Nat)=12 from rfl] at this
  omega
 ·omega
set_option linter.unusedSimpArgs false in
set_option maxRecDepth 100000 in
set_option maxHeartbeats 2000000 in
theorem c13_momentOf {t:Int} {w:World} (ht1:-631152000≤t) (ht2:t≤253402300799) :
  Calls Tryz.prog 126 #[.int .i64 t] w fun e w'=>∃ y m d c d1 k1 k3 k4:Nat,e=.returned (.agg #[.int .i64 (y:Int),.int .i64 (m:Int),.int .i64 (d1:Int),.int .i64 (k1:Int),.int .i64 (k3:Int),.int .i64 (k4:Int)])∧MomIs t y m d c∧(k1=c / 3600∧k3=c % 3600 / 60∧k4=c % 60∧d1=d + 1)∧Below w.heap.size w w':=by
 have hz:=zero_moD.out
 have R0:=Blk.new w #[.int .i64 0,.int .i64 0,.int .i64 0,.int .i64 0,.int .i64 0,.int .i64 0].toList 196 w.heap.size rfl
 have bel:Below w.heap.size w (w.alloc (.cells #[.int .i64 0,.int .i64 0,.int .i64 0,.int .i64 0,.int .i64 0,.int .i64 0] 196)):=(Below.refl _ _).alloc (Nat.le_refl _) _
 have w1:IntKind.i64.wrap (719162 * 86400)=62135596800:=by decide
 obtain ⟨T,hT⟩:∃ T,t + 62135596800=T:=⟨_,rfl⟩
 have w2:IntKind.i64.wrap (t + 62135596800)=T:=by rw [IntKind.wrap_i64];omega
 obtain ⟨T',rfl⟩:=Int.eq_ofNat_of_zero_le (show 0≤T by omega)
 obtain ⟨D0,hD0⟩:∃ d,T' / 86400=d:=⟨_,rfl⟩
 obtain ⟨c,hc⟩:∃ c,T' % 86400=c:=⟨_,rfl⟩
 have t1:(T':Int).tdiv 86400=(D0:Int):=by rw [Int.tdiv_eq_ediv_of_nonneg (by omega)];omega
 have t2:(T':Int).tmod 86400=(c:Int):=by rw [Int.tmod_eq_emod_of_nonneg (by omega)];omega
 have t3:(T':Int) / 86400=(D0:Int):=by omega
 have t4:(T':Int) % 86400=(c:Int):=by omega
 have hc2:c < 86400:=by omega
 have HTt:Hid (t + 719162 * 86400=(D0:Int) * 86400 + (c:Int)):=by show _=_;omega
 have hDb:D0≤3652059:=by omega
 have w3:IntKind.i64.wrap (D0:Int)=(D0:Int):=by rw [IntKind.wrap_i64];omega
 obtain ⟨n0,hn0⟩:∃ n,D0 / 366=n:=⟨_,rfl⟩
 have t5:(D0:Int).tdiv 366=(n0:Int):=by rw [Int.tdiv_eq_ediv_of_nonneg (by omega)];omega
 have t6:(D0:Int) / 366=(n0:Int):=by omega
 obtain ⟨y0,hy0⟩:∃ y,n0 + 1=y:=⟨_,rfl⟩
 have w4:IntKind.i64.wrap (1 + (n0:Int))=(y0:Int):=by rw [IntKind.wrap_i64];omega
 have w5:IntKind.i64.wrap (n0:Int)=(n0:Int):=by rw [IntKind.wrap_i64];omega
 have w6:IntKind.i64.wrap (c:Int)=(c:Int):=by rw [IntKind.wrap_i64];omega
 have HA0:Hid (ahead y0≤(D0:Int)):=by
  have:=ahead_366 n0
  rw [hy0] at this
  show _≤_
  omega
 have hy01:1≤y0:=by omega
 have HHi:Hid (∀ y:Nat,ahead y≤(D0:Int)→y≤9999):=fun y h=>year_hi ht2 (by omega) HTt.out h
 have HLo:Hid (∀ y:Nat,(D0:Int) < ahead (y + 1)→1950≤y):=fun y h=>year_lo ht1 (by omega) HTt.out h
 clear hT hD0 hc hn0 hy0
 go_enter Tryz.func126,Tryz.ntmps126
 go_upto_region 1 with fail
 clear hz
 generalize w.alloc (.cells #[.int .i64 0,.int .i64 0,.int .i64 0,.int .i64 0,.int .i64 0,.int .i64 0] 196)=W at *
 go_wp2_with fail
 refine c13_ahead70.mono ?_
 rintro e w1 ⟨rfl,rfl⟩
 go_wp2_with fail
 go_loop [5] (fun yv=>∃ y:Nat,1≤y∧yv=.int .i64 (y:Int)∧Hid (ahead y≤(D0:Int))) (fun yv=>10000 - (intOf yv).toNat)
 case atStart=>exact ⟨y0,hy01,rfl,HA0⟩
 case round =>
  clear HA0 hy01 w4 t5 t6
  obtain ⟨y,hy1,rfl,HA⟩:=hrel
  have hy9:=HHi.out y HA.out
  obtain ⟨y2,hy2⟩:∃ z,y + 1=z:=⟨_,rfl⟩
  have v1:IntKind.i64.wrap ((y:Int) + 1)=(y2:Int):=by rw [IntKind.wrap_i64];omega
  go_wp2_with fail
  refine (c13_ahead (y:=y2) (by omega)).mono ?_
  rintro e w1 ⟨rfl,rfl⟩
  rw [aheadZ_pos (by omega)]
  by_cases cl:ahead y2≤(D0:Int)
  ·have HA2:Hid (ahead y2≤(D0:Int)):=cl
   obtain ⟨z,hz⟩:∃ z,ahead y2=z:=⟨_,rfl⟩
   rw [hz] at cl ⊢
   clear hz
   have hy29:=HHi.out y2 HA2.out
   go_wp2_with fail
   go_round
   case rel=>exact ⟨y2,by omega,rfl,HA2⟩
   case measure=>simp [intOf];omega
  ·have HYl:Hid (1950≤y):=HLo.out y (by rw [hy2];omega)
   have HYn:Hid ((D0:Int) < ahead y + 337 + (daysN y 2:Nat)):=by
    have:=ahead_next y
    rw [hy2] at this
    show _ < _
    omega
   have ha0:=ahead_nonneg hy1
   obtain ⟨z,hz⟩:∃ z,ahead y2=z:=⟨_,rfl⟩
   rw [hz] at cl ⊢
   clear hz hy2
   go_wp2_with fail
   refine (c13_ahead (y:=y) (by omega)).mono ?_
   rintro e w1 ⟨rfl,rfl⟩
   rw [aheadZ_pos hy1]
   have hal:=HA.out
   obtain ⟨a,ha⟩:∃ z,ahead y=z:=⟨_,rfl⟩
   have HAe:Hid (ahead y=a):=ha
   rw [ha] at ha0 hal HYn ⊢
   clear ha HA
   obtain ⟨e0,he0⟩:∃ z,(D0:Int) - a=z:=⟨_,rfl⟩
   have v2:IntKind.i64.wrap ((D0:Int) - a)=e0:=by rw [IntKind.wrap_i64];omega
   obtain ⟨d0,rfl⟩:=Int.eq_ofNat_of_zero_le (show 0≤e0 by omega)
   have HDe:Hid ((D0:Int)=a + (d0:Int)):=by show _=_;omega
   have hd0:d0≤400:=by
    have:=HYn.out
    have:=(feb_28 y).2
    omega
   have HDl:Hid ((d0:Int) < 337 + (daysN y 2:Nat)):=by
    have:=HYn.out
    show _ < _
    omega
   clear he0 HYn cl
   go_wp2_with fail
   go_loop [3,6] (fun dv mv=>∃ m d:Nat,1≤m∧m≤12∧d≤400∧dv=.int .i64 (d:Int)∧mv=.int .i64 (m:Int)∧Hid (d0=msum y (m - 1) + d)) (fun _ mv=>13 - (intOf mv).toNat)
   case atStart=>exact ⟨1,d0,by omega,by omega,hd0,rfl,rfl,by show _=_;rw [show 1 - 1=0 from rfl,msum];omega⟩
   case round =>
    obtain ⟨m,d,hm1,hm2,hd4,rfl,rfl,HM⟩:=hrel
    go_wp2_with fail
    refine (c13_mdays (y:=y) (m:=m) (by omega) hm1 hm2).mono ?_
    rintro e w1 ⟨rfl,rfl⟩
    rw [mdZ_pos hy1]
    by_cases cd:daysN y m≤d
    ·have HMn:Hid (m + 1≤12):=month_in (y:=y) (d:=(d:Int)) hm1 hm2 (by omega) (by have:=HM.out;have:=HDl.out;omega)
     have HM2:Hid (d0=msum y (m + 1 - 1) + (d - daysN y m)):=by show _=_;rw [msum_next hm1,HM.out];omega
     have gm:IntKind.i64.wrap ((m:Int) + 1)=(m:Int) + 1:=by rw [IntKind.wrap_i64];omega
     have hfun:=fun w:World=>c13_mdays (y:=y) (m:=m) (w:=w) (by omega) hm1 hm2
     rw [mdZ_pos hy1] at hfun
     have HF:Hid _:=hfun
     clear hfun
     obtain ⟨x,hx⟩:∃ x,daysN y m=x:=⟨_,rfl⟩
     rw [hx] at cd HM2 HF ⊢
     clear hx
     have gx:(x:Int)≤(d:Int):=by omega
     go_wp2_with fail
     refine (HF.out _).mono ?_
     rintro e w1 ⟨rfl,rfl⟩
     have gd:IntKind.i64.wrap ((d:Int) - (x:Int))=((d - x:Nat):Int):=by rw [IntKind.wrap_i64];omega
     have hm12:=HMn.out
     clear HF
     go_wp2_with fail
     go_round
     case rel=>exact ⟨m + 1,d - x,by omega,by omega,by omega,rfl,by go_num,HM2⟩
     case measure=>simp [intOf];omega
    ·have HI:Hid (MomIs t y m d c):=by
      refine ⟨HYl.out,by omega,hm1,hm2,by omega,hc2,?_⟩
      rw [HTt.out,HDe.out,HAe.out,HM.out]
      congr 2
      omega
     obtain ⟨x,hx⟩:∃ x,daysN y m=x:=⟨_,rfl⟩
     rw [hx] at cd ⊢
     clear hx
     have gx:¬ (x:Int)≤(d:Int):=by omega
     obtain ⟨d1,hd1⟩:∃ z,d + 1=z:=⟨_,rfl⟩
     have gd:IntKind.i64.wrap ((d:Int) + 1)=(d1:Int):=by rw [IntKind.wrap_i64];omega
     have q1:(c:Int).tdiv 3600=((c / 3600:Nat):Int):=by rw [Int.tdiv_eq_ediv_of_nonneg (by omega)];omega
     have q2:(c:Int).tmod 3600=((c % 3600:Nat):Int):=by rw [Int.tmod_eq_emod_of_nonneg (by omega)];omega
     have q3:((c % 3600:Nat):Int).tdiv 60=((c % 3600 / 60:Nat):Int):=by rw [Int.tdiv_eq_ediv_of_nonneg (by omega)];omega
     have q4:(c:Int).tmod 60=((c % 60:Nat):Int):=by rw [Int.tmod_eq_emod_of_nonneg (by omega)];omega
     have q5:(c:Int) / 3600=((c / 3600:Nat):Int):=by omega
     have q6:(c:Int) % 3600=((c % 3600:Nat):Int):=by omega
     have q7:((c % 3600:Nat):Int) / 60=((c % 3600 / 60:Nat):Int):=by omega
     have q8:(c:Int) % 60=((c % 60:Nat):Int):=by omega
     have b1:c / 3600 < 24:=by omega
     have b2:c % 3600 < 3600:=by omega
     have b3:c % 3600 / 60 < 60:=by omega
     have b4:c % 60 < 60:=by omega
     obtain ⟨k1,hk1⟩:∃ z,c / 3600=z:=⟨_,rfl⟩
     obtain ⟨k2,hk2⟩:∃ z,c % 3600=z:=⟨_,rfl⟩
     rw [hk2] at q2 q3 q6 q7 b2 b3
     obtain ⟨k3,hk3⟩:∃ z,k2 / 60=z:=⟨_,rfl⟩
     obtain ⟨k4,hk4⟩:∃ z,c % 60=z:=⟨_,rfl⟩
     rw [hk1] at q1 q5 b1
     rw [hk3] at q3 q7 b3
     rw [hk4] at q4 q8 b4
     have r1:IntKind.i64.wrap (k1:Int)=(k1:Int):=by rw [IntKind.wrap_i64];omega
     have r2:IntKind.i64.wrap (k2:Int)=(k2:Int):=by rw [IntKind.wrap_i64];omega
     have r3:IntKind.i64.wrap (k3:Int)=(k3:Int):=by rw [IntKind.wrap_i64];omega
     have r4:IntKind.i64.wrap (k4:Int)=(k4:Int):=by rw [IntKind.wrap_i64];omega
     have HK:Hid (k1=c / 3600∧k3=c % 3600 / 60∧k4=c % 60∧d1=d + 1):=⟨hk1.symm,by rw [hk2,hk3],hk4.symm,hd1.symm⟩
     clear hk1 hk2 hk3 hk4 hd1 HM cd
     obtain ⟨tR,hR⟩:=R0
     have HR:Hid _:=hR
     clear hR
     go_wp2_with (first|(refine wpList_store_row rfl 196 _ _ rfl w.heap.size #[.int .i64 (y:Int),.int .i64 (m:Int),.int .i64 (d1:Int),.int .i64 (k1:Int),.int .i64 (k3:Int),.int .i64 (k4:Int)] rfl rfl tR _ HR.out (by rw [size_moD];rfl) rfl (by simp [Value.oneCell']) ?_)|fail)
     exact bodyPost_ret (results_cell_row rfl _ _ w.heap.size tR #[.int .i64 (y:Int),.int .i64 (m:Int),.int .i64 (d1:Int),.int .i64 (k1:Int),.int .i64 (k3:Int),.int .i64 (k4:Int)] (0,0) _ rfl (setRow_heap _ _ _ _ _ _ HR.out) Tryz.underlying196 rfl (by rw [size_moD];rfl)) rfl ⟨y,m,d,c,d1,k1,k3,k4,rfl,HI.out,HK.out,below_setRow bel (Nat.le_refl _) _⟩
end Go.Proofs.YtkgjlcdefnpkpaaGreatDoor
