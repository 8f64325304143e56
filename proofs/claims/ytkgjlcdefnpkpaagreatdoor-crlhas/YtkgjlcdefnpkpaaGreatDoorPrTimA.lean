/- Times, counted as the program does it. Plain facts. The program's daysAhead, monthDays, pairsUnder of layer 13. -/
import Derived.Test.YtkgjlcdefnpkpaaGreatDoorPmTof
import Derived.Test.YtkgjlcdefnpkpaaGreatDoorRows
import Derived.Deep.OwnRows
import Derived.Deep.AppendLies
import Derived.Great.BuildSlice
import Derived.Deep.WholeRow
import Derived.Deep.RegionHeld3
import Derived.Deep.DeepCutAuto
import Derived.Deep.DeepFit
namespace Go.Proofs.YtkgjlcdefnpkpaaGreatDoor
open Go.RowKit
/-- days from the beginning of the year 1 on -/
def ahead (y:Nat):Int:=dayY y - 366
theorem ahead_is {y:Nat} (h:1≤y):((y:Int) - 1) * 365 + (((y - 1) / 4:Nat):Int) - (((y - 1) / 100:Nat):Int) + (((y - 1) / 400:Nat):Int)=ahead y:=by
 unfold ahead dayY
 have e1:(y + 3) / 4=(y - 1) / 4 + 1:=by omega
 have e2:(y + 399) / 400=(y - 1) / 400 + 1:=by omega
 have e3:(y + 99) / 100=(y - 1) / 100 + 1:=by omega
 rw [e1,e2,e3]
 generalize (y - 1) / 4=a
 generalize (y - 1) / 100=b
 generalize (y - 1) / 400=c
 omega
theorem ahead_next (y:Nat):ahead (y + 1)=ahead y + 337 + (daysN y 2:Nat):=by
 have:=dayY_next y
 unfold ahead
 omega
theorem ahead_le {y z:Nat} (h:y≤z):ahead y≤ahead z:=by
 have:=dayY_le h
 unfold ahead
 omega
theorem ahead_1970:ahead 1970=719162:=by decide
theorem ahead_1:ahead 1=0:=by decide
theorem ahead_366:∀ n:Nat,ahead (n + 1)≤366 * (n:Int)
 | 0=>by rw [ahead_1];decide
 | n + 1=>by
  have h1:=ahead_366 n
  have h2:=feb (n + 1)
  rw [ahead_next]
  split at h2<;>omega
theorem ahead_nonneg {y:Nat} (h:1≤y):0≤ahead y:=by
 have:=ahead_le h
 rw [ahead_1] at this
 exact this
theorem ahead_top:ahead 10000=3652059:=by decide
theorem ahead_1950:ahead 1950=711857:=by decide
theorem sec_ahead (y m d:Nat):secN y m d=(ahead y - 719162 + (msum y (m - 1):Int) + (d:Int) - 1) * 86400:=by
 rw [sec_year]
 unfold ahead
 refine congrArg (fun z:Int=>z * 86400) ?_
 omega
theorem feb_28 (y:Nat):28≤daysN y 2∧daysN y 2≤29:=by
 rw [feb]
 split<;>omega
theorem feb_ahead (y:Nat):28 + ahead (y + 1) - ahead y - 365=((daysN y 2:Nat):Int):=by
 rw [ahead_next]
 omega
theorem days_30 {y m:Nat} (h:m=4∨m=6∨m=9∨m=11):daysN y m=30:=by
 rw [days_not2 (by omega)]
 rcases h with rfl|rfl|rfl|rfl<;>rfl
theorem days_31 {y m:Nat} (h1:1≤m) (h2:m≤12) (h:¬ (m=2∨m=4∨m=6∨m=9∨m=11)):daysN y m=31:=by
 rw [days_not2 (by omega)]
 have:m=1∨m=3∨m=5∨m=7∨m=8∨m=10∨m=12:=by omega
 rcases this with rfl|rfl|rfl|rfl|rfl|rfl|rfl<;>rfl
/-- the month that a day lies in, and what the second of it tells -/
theorem mon_ahead {t:Int} {y m d c:Nat} (hy1:1950≤y) (hy2:y≤9999) (hm1:1≤m) (hm2:m≤12) (hd:d < daysN y m) (hc:c < 86400) (h:t + 719162 * 86400=(ahead y + (msum y (m - 1):Nat) + d) * 86400 + c):MonIs t y m∧(t - secN y m 1).toNat=86400 * d + c:=by
 have e:=sec_ahead y m 1
 refine ⟨⟨hy1,hy2,hm1,hm2,?_,?_⟩,?_⟩
 ·rw [e];omega
 ·rw [e];omega
 ·rw [e];omega
theorem year_lo {t:Int} {y:Nat} {d c:Int} (h1:-631152000≤t) (hc:0≤c∧c < 86400) (h:t + 719162 * 86400=d * 86400 + c) (hy:d < ahead (y + 1)):1950≤y:=by
 by_cases k:1950≤y
 ·exact k
 ·have:=ahead_le (show y + 1≤1950 by omega)
  rw [ahead_1950] at this
  omega
theorem year_hi {t:Int} {y:Nat} {d c:Int} (h1:t≤253402300799) (hc:0≤c∧c < 86400) (h:t + 719162 * 86400=d * 86400 + c) (hy:ahead y≤d):y≤9999:=by
 by_cases k:y≤9999
 ·exact k
 ·have:=ahead_le (show 10000≤y by omega)
  rw [ahead_top] at this
  omega
theorem body_parts {d c:Nat} (hc:c < 86400):1 + (86400 * d + c) / 86400=d + 1∧(86400 * d + c) / 3600 % 24=c / 3600∧(86400 * d + c) / 60 % 60=c % 3600 / 60∧(86400 * d + c) % 60=c % 60:=by
 refine ⟨by omega,?_,?_,by omega⟩
 ·have:(86400 * d + c) / 3600=24 * d + c / 3600:=by omega
  rw [this];omega
 ·have:(86400 * d + c) / 60=1440 * d + c / 60:=by omega
  rw [this]
  have:c % 3600 / 60=c / 60 % 60:=by omega
  rw [this];omega
/-- the program's own count: of the year 0 too -/
def aheadZ (y:Nat):Int:=if y=0 then -365 else ahead y
theorem aheadZ_pos {y:Nat} (h:1≤y):aheadZ y=ahead y:=by unfold aheadZ;rw [if_neg (by omega)]
def mdZ (y m:Nat):Int:=if y=0∧m=2 then 28 else ((daysN y m:Nat):Int)
theorem mdZ_pos {y m:Nat} (h:1≤y):mdZ y m=((daysN y m:Nat):Int):=by unfold mdZ;rw [if_neg (by omega)]
theorem mdZ_2 (y:Nat):28 + aheadZ (y + 1) - aheadZ y - 365=mdZ y 2:=by
 by_cases h:y=0
 ·subst h;decide
 ·rw [aheadZ_pos (by omega),aheadZ_pos (by omega),mdZ_pos (by omega)]
  exact feb_ahead y
theorem mdZ_not2 {y m:Nat} (h:¬ m=2):mdZ y m=((daysN y m:Nat):Int):=by unfold mdZ;rw [if_neg (by omega)]
theorem aheadZ_bd {y:Nat} (h:y≤100000):-400≤aheadZ y∧aheadZ y≤36600000:=by
 unfold aheadZ
 split
 ·decide
 ·have h1:=ahead_nonneg (y:=y) (by omega)
  have h2:=ahead_366 (y - 1)
  rw [show y - 1 + 1=y by omega] at h2
  omega
set_option linter.unusedSimpArgs false in
set_option maxRecDepth 100000 in
set_option maxHeartbeats 1000000 in
theorem c13_ahead {y:Nat} {w:World} (hy:y≤100001) :
  Calls Tryz.prog 153 #[.int .i64 (y:Int)] w fun e w'=>e=.returned (.int .i64 (aheadZ y))∧w'=w:=by
 by_cases c0:y=0
 ·have HA:Hid (aheadZ y=-365):=by show _=_;rw [c0];rfl
  have g0:(y:Int)=0:=by omega
  clear c0
  have w0:IntKind.i64.wrap (-1)=-1:=by decide
  go_enter Tryz.func153,Tryz.ntmps153
  go_wp2_with fail
  go_ret
  exact ⟨by rw [HA.out];rfl,rfl⟩
 have HA:Hid _:=ahead_is (y:=y) (by omega)
 have HZ:Hid (aheadZ y=ahead y):=aheadZ_pos (by omega)
 obtain ⟨n,hn⟩:∃ n,y - 1=n:=⟨_,rfl⟩
 have w1:IntKind.i64.wrap ((y:Int) - 1)=(n:Int):=by rw [IntKind.wrap_i64];omega
 rw [hn] at HA
 have hm:((y:Int) - 1)=(n:Int):=by omega
 rw [hm] at HA
 have t1:(n:Int).tdiv 4=((n / 4:Nat):Int):=by rw [Int.tdiv_eq_ediv_of_nonneg (by omega)];omega
 have t2:(n:Int).tdiv 100=((n / 100:Nat):Int):=by rw [Int.tdiv_eq_ediv_of_nonneg (by omega)];omega
 have t3:(n:Int).tdiv 400=((n / 400:Nat):Int):=by rw [Int.tdiv_eq_ediv_of_nonneg (by omega)];omega
 have b1:n / 4≤n:=Nat.div_le_self _ _
 have b2:n / 100≤n:=Nat.div_le_self _ _
 have b3:n / 400≤n:=Nat.div_le_self _ _
 have hn2:n≤100001:=by omega
 have t4:(n:Int) / 4=((n / 4:Nat):Int):=by omega
 have t5:(n:Int) / 100=((n / 100:Nat):Int):=by omega
 have t6:(n:Int) / 400=((n / 400:Nat):Int):=by omega
 obtain ⟨a,ha⟩:∃ a,n / 4=a:=⟨_,rfl⟩
 obtain ⟨b,hb⟩:∃ a,n / 100=a:=⟨_,rfl⟩
 obtain ⟨c,hc⟩:∃ a,n / 400=a:=⟨_,rfl⟩
 rw [ha] at t1 t4 b1 HA
 rw [hb] at t2 t5 b2 HA
 rw [hc] at t3 t6 b3 HA
 clear ha hb hc hn hm hy
 obtain ⟨m,hm⟩:∃ m,(n:Int) * 365=m:=⟨_,rfl⟩
 have w2:IntKind.i64.wrap ((n:Int) * 365)=m:=by rw [IntKind.wrap_i64];omega
 obtain ⟨s1,hs1⟩:∃ s,m + (a:Int)=s:=⟨_,rfl⟩
 have w3:IntKind.i64.wrap (m + (a:Int))=s1:=by rw [IntKind.wrap_i64];omega
 obtain ⟨s2,hs2⟩:∃ s,s1 - (b:Int)=s:=⟨_,rfl⟩
 have w4:IntKind.i64.wrap (s1 - (b:Int))=s2:=by rw [IntKind.wrap_i64];omega
 obtain ⟨s3,hs3⟩:∃ s,s2 + (c:Int)=s:=⟨_,rfl⟩
 have w5:IntKind.i64.wrap (s2 + (c:Int))=s3:=by rw [IntKind.wrap_i64];omega
 have w6:IntKind.i64.wrap (a:Int)=(a:Int):=by rw [IntKind.wrap_i64];omega
 have w7:IntKind.i64.wrap (b:Int)=(b:Int):=by rw [IntKind.wrap_i64];omega
 have w8:IntKind.i64.wrap (c:Int)=(c:Int):=by rw [IntKind.wrap_i64];omega
 have HE:Hid (aheadZ y=s3):=by show _=_;rw [HZ.out,← HA.out];omega
 clear HA HZ hm hs1 hs2 hs3 c0
 go_enter Tryz.func153,Tryz.ntmps153
 go_wp2_with fail
 go_ret
 exact ⟨by rw [HE.out];rfl,rfl⟩
set_option linter.unusedSimpArgs false in
set_option maxRecDepth 100000 in
set_option maxHeartbeats 1000000 in
theorem c13_mdays {y m:Nat} {w:World} (hy:y≤99999) (h1:1≤m) (h2:m≤12) :
  Calls Tryz.prog 154 #[.int .i64 (y:Int),.int .i64 (m:Int)] w fun e w'=>e=.returned (.int .i64 (mdZ y m))∧w'=w:=by
 by_cases c2:m=2
 ·have HE:Hid (mdZ y m=28 + aheadZ (y + 1) - aheadZ y - 365):=by show _=_;rw [c2,mdZ_2]
  have g2:((m:Int) == 2)=true:=by rw [c2];rfl
  have a1:=aheadZ_bd (y:=y + 1) (by omega)
  have a2:=aheadZ_bd (y:=y) (by omega)
  have b2:(m:Int)=2:=by omega
  clear c2
  obtain ⟨y1,hy1⟩:∃ z,y + 1=z:=⟨_,rfl⟩
  have w1:IntKind.i64.wrap ((y:Int) + 1)=(y1:Int):=by rw [IntKind.wrap_i64];omega
  rw [hy1] at HE a1
  go_enter Tryz.func154,Tryz.ntmps154
  go_wp2_with fail
  refine (c13_ahead (y:=y1) (by omega)).mono ?_
  rintro e w1 ⟨rfl,rfl⟩
  obtain ⟨p,hp⟩:∃ z,aheadZ y1=z:=⟨_,rfl⟩
  rw [hp] at HE a1 ⊢
  have w2:IntKind.i64.wrap (28 + p)=28 + p:=by rw [IntKind.wrap_i64];omega
  clear hp hy1
  go_wp2_with fail
  refine (c13_ahead (y:=y) (by omega)).mono ?_
  rintro e w3 ⟨rfl,rfl⟩
  obtain ⟨q,hq⟩:∃ z,aheadZ y=z:=⟨_,rfl⟩
  rw [hq] at HE a2 ⊢
  have w4:IntKind.i64.wrap (28 + p - q)=28 + p - q:=by rw [IntKind.wrap_i64];omega
  have w5:IntKind.i64.wrap (28 + p - q - 365)=28 + p - q - 365:=by rw [IntKind.wrap_i64];omega
  clear hq
  go_wp2_with fail
  go_ret
  exact ⟨by rw [HE.out];rfl,rfl⟩
 have HN:Hid (mdZ y m=((daysN y m:Nat):Int)):=mdZ_not2 c2
 have n2:((m:Int) == 2)=false:=by rw [beq_eq_false_iff_ne];omega
 have i2:¬ (m:Int)=2:=by omega
 by_cases c30:m=4∨m=6∨m=9∨m=11
 ·have HE:Hid (mdZ y m=30):=by show _=_;rw [HN.out,days_30 c30];rfl
  rcases c30 with c|c|c|c
  ·have d4:(m:Int)=4:=by omega
   clear c c2
   go_enter Tryz.func154,Tryz.ntmps154
   go_wp2_with fail
   go_ret
   exact ⟨by rw [HE.out];rfl,rfl⟩
  ·have d6:(m:Int)=6:=by omega
   clear c c2
   go_enter Tryz.func154,Tryz.ntmps154
   go_wp2_with fail
   go_ret
   exact ⟨by rw [HE.out];rfl,rfl⟩
  ·have d9:(m:Int)=9:=by omega
   clear c c2
   go_enter Tryz.func154,Tryz.ntmps154
   go_wp2_with fail
   go_ret
   exact ⟨by rw [HE.out];rfl,rfl⟩
  ·have d11:(m:Int)=11:=by omega
   clear c c2
   go_enter Tryz.func154,Tryz.ntmps154
   go_wp2_with fail
   go_ret
   exact ⟨by rw [HE.out];rfl,rfl⟩
 ·have HE:Hid (mdZ y m=31):=by show _=_;rw [HN.out,days_31 h1 h2 (by omega)];rfl
  have i4:¬ (m:Int)=4:=by omega
  have i6:¬ (m:Int)=6:=by omega
  have i9:¬ (m:Int)=9:=by omega
  have i11:¬ (m:Int)=11:=by omega
  clear c30 c2
  go_enter Tryz.func154,Tryz.ntmps154
  go_wp2_with fail
  go_ret
  exact ⟨by rw [HE.out];rfl,rfl⟩
set_option linter.unusedSimpArgs false in
set_option maxRecDepth 100000 in
set_option maxHeartbeats 400000 in
theorem c13_under23 {w:World}:Calls Tryz.prog 128 #[.int .i64 23] w fun e w'=>e=.returned (.int .i64 6)∧w'=w:=by
 go_enter Tryz.func128,Tryz.ntmps128
 go_wp2_with fail
 go_ret
 exact ⟨rfl,rfl⟩
set_option linter.unusedSimpArgs false in
set_option maxRecDepth 100000 in
set_option maxHeartbeats 400000 in
theorem c13_under24 {w:World}:Calls Tryz.prog 128 #[.int .i64 24] w fun e w'=>e=.returned (.int .i64 7)∧w'=w:=by
 go_enter Tryz.func128,Tryz.ntmps128
 go_wp2_with fail
 go_ret
 exact ⟨rfl,rfl⟩
end Go.Proofs.YtkgjlcdefnpkpaaGreatDoor
