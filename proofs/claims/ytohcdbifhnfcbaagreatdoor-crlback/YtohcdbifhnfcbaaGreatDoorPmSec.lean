/- The document's digits and days of layer 13. The document's Seconds of layer 13. -/
import Derived.Test.YtohcdbifhnfcbaaGreatDoorPmOidN
import Derived.Test.YtohcdbifhnfcbaaGreatDoorLimb
import Derived.Test.YtohcdbifhnfcbaaGreatDoorRows
import Derived.Deep.OwnRows
import Derived.Deep.AppendLies
import Derived.Deep.WholeRow
import Derived.Deep.RegionHeld3
import Derived.Deep.DeepCutAuto
import Derived.Deep.DeepFit
namespace Go.Proofs.YtohcdbifhnfcbaaGreatDoor
open Go.RowKit
/-- a number of digits -/
def digV:List Int→Int→Int
 | [],v=>v
 | x :: xs,v=>if x < 48∨57 < x then -1 else digV xs (10 * v + (x - 48))
def monN:List Nat:=[31,28,31,30,31,30,31,31,30,31,30,31]
/-- the days of a month -/
def daysN (y m:Nat):Nat:=if m=2∧(y % 400=0∨(y % 4=0∧¬ y % 100=0)) then 29 else monN.getD (m - 1) 0
theorem mon_get {m:Nat} (h1:1≤m) (h2:m≤12):([.int .i64 31,.int .i64 28,.int .i64 31,.int .i64 30,.int .i64 31,.int .i64 30,.int .i64 31,.int .i64 31,.int .i64 30,.int .i64 31,.int .i64 30,.int .i64 31]:List Value)[m - 1]?=some (.int .i64 ((monN.getD (m - 1) 0:Nat):Int)):=by
 have hi:m=1∨m=2∨m=3∨m=4∨m=5∨m=6∨m=7∨m=8∨m=9∨m=10∨m=11∨m=12:=by omega
 rcases hi with rfl|rfl|rfl|rfl|rfl|rfl|rfl|rfl|rfl|rfl|rfl|rfl<;>rfl
theorem days_le {y m:Nat}:daysN y m≤31:=by
 unfold daysN
 split
 ·decide
 ·by_cases h:m - 1 < 12
  ·have hi:m - 1=0∨m - 1=1∨m - 1=2∨m - 1=3∨m - 1=4∨m - 1=5∨m - 1=6∨m - 1=7∨m - 1=8∨m - 1=9∨m - 1=10∨m - 1=11:=by omega
   rcases hi with e|e|e|e|e|e|e|e|e|e|e|e<;>rw [e]<;>decide
  ·have hl:monN.length≤m - 1:=by have:monN.length=12:=rfl;omega
   rw [List.getD_eq_getElem?_getD,List.getElem?_eq_none hl];decide
set_option linter.unusedSimpArgs false in
set_option maxRecDepth 100000 in
set_option maxHeartbeats 8000000 in
theorem r13_days {y m:Nat} {w:World} (hy:y≤1000000) (h1:1≤m) (h2:m≤12) :
  Calls Tryz.prog 119 #[.int .i64 (y:Int),.int .i64 (m:Int)] w fun e w'=>e=.returned (.int .i64 ((daysN y m:Nat):Int))∧Below w.heap.size w w':=by
 have t1:(y:Int).tmod 400=((y % 400:Nat):Int):=by rw [Int.tmod_eq_emod_of_nonneg (by omega)];omega
 have t2:(y:Int).tmod 4=((y % 4:Nat):Int):=by rw [Int.tmod_eq_emod_of_nonneg (by omega)];omega
 have t3:(y:Int).tmod 100=((y % 100:Nat):Int):=by rw [Int.tmod_eq_emod_of_nonneg (by omega)];omega
 have HD:Hid (daysN y m=if m=2∧(y % 400=0∨(y % 4=0∧¬ y % 100=0)) then 29 else monN.getD (m - 1) 0):=rfl
 obtain ⟨r,hr⟩:∃ r,daysN y m=r:=⟨_,rfl⟩
 rw [hr] at HD
 rw [hr]
 have t4:((y:Int) % 400)=((y % 400:Nat):Int):=by omega
 have t5:((y:Int) % 4)=((y % 4:Nat):Int):=by omega
 have t6:((y:Int) % 100)=((y % 100:Nat):Int):=by omega
 obtain ⟨a,ha⟩:∃ a,y % 400=a:=⟨_,rfl⟩
 obtain ⟨b,hb⟩:∃ a,y % 4=a:=⟨_,rfl⟩
 obtain ⟨c,hc⟩:∃ a,y % 100=a:=⟨_,rfl⟩
 rw [ha] at t1 t4 HD
 rw [hb] at t2 t5 HD
 rw [hc] at t3 t6 HD
 have i1:IntKind.i64.wrap ((m:Int) - 1)=((m - 1:Nat):Int):=by rw [IntKind.wrap_i64];omega
 have i2:((m - 1:Nat):Int) < 12:=by omega
 have i3:(0:Int)≤((m - 1:Nat):Int):=by omega
 have BT:=Blk.new w [.int .i64 31,.int .i64 28,.int .i64 31,.int .i64 30,.int .i64 31,.int .i64 30,.int .i64 31,.int .i64 31,.int .i64 30,.int .i64 31,.int .i64 30,.int .i64 31] 3 w.heap.size rfl
 have cm:=BT.cell (m - 1) _ (mon_get h1 h2)
 have hbl:=bal w (.cells [.int .i64 31,.int .i64 28,.int .i64 31,.int .i64 30,.int .i64 31,.int .i64 30,.int .i64 31,.int .i64 31,.int .i64 30,.int .i64 31,.int .i64 30,.int .i64 31].toArray 3)
 have e1:(a:Int)=0↔a=0:=by omega
 have e2:(b:Int)=0↔b=0:=by omega
 have e3:(c:Int)=0↔c=0:=by omega
 have e4:(m:Int)=2↔m=2:=by omega
 clear ha hb hc hr BT
 by_cases c4:m=2
 ·subst c4
  by_cases c1:a=0
  ·have H:r=29:=by rw [HD.out,if_pos ⟨rfl,.inl c1⟩]
   have k0:=e1.2 c1
   have j0:((a:Int) == 0)=true:=by rw [k0];rfl
   have l0:((a:Int) != 0)=false:=by rw [bne,j0];rfl
   clear e1 e2 e3 e4 HD
   subst H
   go_enter Tryz.func119,Tryz.ntmps119
   go_wp2_with fail
   go_ret
   exact ⟨rfl,hbl⟩
  by_cases c2:b=0
  ·by_cases c3:c=0
   ·have H:r=28:=by rw [HD.out,if_neg (by rintro ⟨_,h|⟨_,h⟩⟩;exact c1 h;exact h c3)];rfl
    have k0:=mt e1.1 c1
    have j0:((a:Int) == 0)=false:=by simpa using k0
    have l0:((a:Int) != 0)=true:=by rw [bne,j0];rfl
    have k1:=e2.2 c2
    have j1:((b:Int) == 0)=true:=by rw [k1];rfl
    have l1:((b:Int) != 0)=false:=by rw [bne,j1];rfl
    have k2:=e3.2 c3
    have j2:((c:Int) == 0)=true:=by rw [k2];rfl
    have l2:((c:Int) != 0)=false:=by rw [bne,j2];rfl
    clear e1 e2 e3 e4 HD
    subst H
    go_enter Tryz.func119,Tryz.ntmps119
    go_wp2_with fail
    go_ret
    exact ⟨rfl,hbl⟩
   ·have H:r=29:=by rw [HD.out,if_pos ⟨rfl,.inr ⟨c2,c3⟩⟩]
    have k0:=mt e1.1 c1
    have j0:((a:Int) == 0)=false:=by simpa using k0
    have l0:((a:Int) != 0)=true:=by rw [bne,j0];rfl
    have k1:=e2.2 c2
    have j1:((b:Int) == 0)=true:=by rw [k1];rfl
    have l1:((b:Int) != 0)=false:=by rw [bne,j1];rfl
    have k2:=mt e3.1 c3
    have j2:((c:Int) == 0)=false:=by simpa using k2
    have l2:((c:Int) != 0)=true:=by rw [bne,j2];rfl
    clear e1 e2 e3 e4 HD
    subst H
    go_enter Tryz.func119,Tryz.ntmps119
    go_wp2_with fail
    go_ret
    exact ⟨rfl,hbl⟩
  ·have H:r=28:=by rw [HD.out,if_neg (by rintro ⟨_,h|⟨h,_⟩⟩;exact c1 h;exact c2 h)];rfl
   have k0:=mt e1.1 c1
   have j0:((a:Int) == 0)=false:=by simpa using k0
   have l0:((a:Int) != 0)=true:=by rw [bne,j0];rfl
   have k1:=mt e2.1 c2
   have j1:((b:Int) == 0)=false:=by simpa using k1
   have l1:((b:Int) != 0)=true:=by rw [bne,j1];rfl
   clear e1 e2 e3 e4 HD
   subst H
   go_enter Tryz.func119,Tryz.ntmps119
   go_wp2_with fail
   go_ret
   exact ⟨rfl,hbl⟩
 by_cases c1:a=0
 ·have H:r=monN.getD (m - 1) 0:=by rw [HD.out,if_neg (fun h=>c4 h.1)]
  have k0:=mt e4.1 c4
  have k1:=e1.2 c1
  have j1:((a:Int) == 0)=true:=by rw [k1];rfl
  have l1:((a:Int) != 0)=false:=by rw [bne,j1];rfl
  clear e1 e2 e3 e4 HD
  subst H
  go_enter Tryz.func119,Tryz.ntmps119
  go_wp2_with fail
  go_ret
  exact ⟨rfl,hbl⟩
 by_cases c2:b=0
 ·by_cases c3:c=0
  ·have H:r=monN.getD (m - 1) 0:=by rw [HD.out,if_neg (fun h=>c4 h.1)]
   have k0:=mt e4.1 c4
   have k1:=mt e1.1 c1
   have j1:((a:Int) == 0)=false:=by simpa using k1
   have l1:((a:Int) != 0)=true:=by rw [bne,j1];rfl
   have k2:=e2.2 c2
   have j2:((b:Int) == 0)=true:=by rw [k2];rfl
   have l2:((b:Int) != 0)=false:=by rw [bne,j2];rfl
   have k3:=e3.2 c3
   have j3:((c:Int) == 0)=true:=by rw [k3];rfl
   have l3:((c:Int) != 0)=false:=by rw [bne,j3];rfl
   clear e1 e2 e3 e4 HD
   subst H
   go_enter Tryz.func119,Tryz.ntmps119
   go_wp2_with fail
   go_ret
   exact ⟨rfl,hbl⟩
  ·have H:r=monN.getD (m - 1) 0:=by rw [HD.out,if_neg (fun h=>c4 h.1)]
   have k0:=mt e4.1 c4
   have k1:=mt e1.1 c1
   have j1:((a:Int) == 0)=false:=by simpa using k1
   have l1:((a:Int) != 0)=true:=by rw [bne,j1];rfl
   have k2:=e2.2 c2
   have j2:((b:Int) == 0)=true:=by rw [k2];rfl
   have l2:((b:Int) != 0)=false:=by rw [bne,j2];rfl
   have k3:=mt e3.1 c3
   have j3:((c:Int) == 0)=false:=by simpa using k3
   have l3:((c:Int) != 0)=true:=by rw [bne,j3];rfl
   clear e1 e2 e3 e4 HD
   subst H
   go_enter Tryz.func119,Tryz.ntmps119
   go_wp2_with fail
   go_ret
   exact ⟨rfl,hbl⟩
 ·have H:r=monN.getD (m - 1) 0:=by rw [HD.out,if_neg (fun h=>c4 h.1)]
  have k0:=mt e4.1 c4
  have k1:=mt e1.1 c1
  have j1:((a:Int) == 0)=false:=by simpa using k1
  have l1:((a:Int) != 0)=true:=by rw [bne,j1];rfl
  have k2:=mt e2.1 c2
  have j2:((b:Int) == 0)=false:=by simpa using k2
  have l2:((b:Int) != 0)=true:=by rw [bne,j2];rfl
  clear e1 e2 e3 e4 HD
  subst H
  go_enter Tryz.func119,Tryz.ntmps119
  go_wp2_with fail
  go_ret
  exact ⟨rfl,hbl⟩
/-- the days of years, one behind the other -/
def ysum (a:Nat):Nat→Nat
 | 0=>0
 | n + 1=>ysum a n + 337 + daysN (a + n) 2
/-- the days of a year's months -/
def msum (y:Nat):Nat→Nat
 | 0=>0
 | n + 1=>msum y n + daysN y (n + 1)
theorem ysum_le (a:Nat):∀ n,ysum a n≤368 * n
 | 0=>Nat.le_refl _
 | n + 1=>by rw [ysum];have:=ysum_le a n;have:=days_le (y:=a + n) (m:=2);omega
theorem msum_le (y:Nat):∀ n,msum y n≤31 * n
 | 0=>Nat.le_refl _
 | n + 1=>by rw [msum];have:=msum_le y n;have:=days_le (y:=y) (m:=n + 1);omega
theorem ysum_next {a k:Nat} (h:a≤k):ysum a (k + 1 - a)=ysum a (k - a) + 337 + daysN k 2:=by
 rw [show k + 1 - a=(k - a) + 1 by omega,ysum,show a + (k - a)=k by omega]
theorem msum_next {y k:Nat} (h:1≤k):msum y (k + 1 - 1)=msum y (k - 1) + daysN y k:=by
 rw [show k + 1 - 1=(k - 1) + 1 by omega,msum,show k - 1 + 1=k by omega]
/-- seconds from 1970 up to a day -/
def secN (y m d:Nat):Int:=((ysum 1970 (y - 1970):Int) - (ysum y (1970 - y):Int) + (msum y (m - 1):Int) + (d:Int) - 1) * 86400
set_option linter.unusedSimpArgs false in
set_option maxRecDepth 100000 in
set_option maxHeartbeats 1000000 in
theorem r13_Seconds {y m d:Nat} {w:World} (hy:y≤10000) (h1:1≤m) (h2:m≤12) (hd:d≤100) :
  Calls Tryz.prog 102 #[.int .i64 (y:Int),.int .i64 (m:Int),.int .i64 (d:Int)] w fun e w'=>e=.returned (.int .i64 (secN y m d))∧Below w.heap.size w w':=by
 obtain ⟨r,hr⟩:∃ r,secN y m d=r:=⟨_,rfl⟩
 have HR:Hid (((ysum 1970 (y - 1970):Int) - (ysum y (1970 - y):Int) + (msum y (m - 1):Int) + (d:Int) - 1) * 86400=r):=hr
 rw [hr]
 clear hr
 go_enter Tryz.func102,Tryz.ntmps102
 go_wp2_with fail
 go_loopw [7,8] (fun nv iv wx=>∃ (k s:Nat),1970≤k∧(k≤y∨k=1970)∧iv=.int .i64 (k:Int)∧nv=.int .i64 (s:Int)∧s≤3680000∧Hid (s=ysum 1970 (k - 1970))∧Below w.heap.size w wx) (fun _ iv _=>y - (intOf iv).toNat)
 case atStart=>exact ⟨1970,0,by omega,.inr rfl,rfl,rfl,by omega,rfl,Below.refl _ _⟩
 case round =>
  obtain ⟨k,s,hk,hky,rfl,rfl,hs,HS,bel⟩:=hrel
  by_cases hil:k < y
  ·have k1:(k:Int) < (y:Int):=by omega
   have gi:IntKind.i64.wrap ((k:Int) + 1)=(k:Int) + 1:=by rw [IntKind.wrap_i64];omega
   have g2:IntKind.i64.wrap ((s:Int) + 337)=(s:Int) + 337:=by rw [IntKind.wrap_i64];omega
   go_wp2_with fail
   refine (r13_days (y:=k) (m:=2) (by omega) (by omega) (by omega)).mono ?_
   rintro e w2 ⟨rfl,hb⟩
   replace bel:=below_step bel hb
   have HS2:Hid (s + 337 + daysN k 2=ysum 1970 (k + 1 - 1970)):=by show _=_;rw [ysum_next hk,← HS.out]
   have hD:=days_le (y:=k) (m:=2)
   have hs2:s + 337 + daysN k 2≤3680000:=by
    have:=ysum_le 1970 (k + 1 - 1970)
    rw [HS2.out]
    omega
   obtain ⟨D,hDD⟩:∃ D,daysN k 2=D:=⟨_,rfl⟩
   rw [hDD] at HS2 hD hs2 ⊢
   have g3:IntKind.i64.wrap ((s:Int) + 337 + (D:Int))=(s:Int) + 337 + (D:Int):=by rw [IntKind.wrap_i64];omega
   clear hb HS hDD
   go_wp2_with fail
   go_roundw
   case rel=>exact ⟨k + 1,s + 337 + D,by omega,.inl (by omega),by go_num,by go_num,hs2,HS2,bel⟩
   case measure=>simp [intOf];omega
  ·have k1:¬ (k:Int) < (y:Int):=by omega
   have HA:Hid (s=ysum 1970 (y - 1970)):=by
    show _=_
    rw [HS.out,show k - 1970=y - 1970 by omega]
   clear HS hil hky
   obtain ⟨W,hW⟩:∃ z,z=wr:=⟨_,rfl⟩
   rw [← hW] at bel ⊢
   clear hW
   go_wp2_with fail
   go_loopw [7,9] (fun nv iv wx=>∃ (k t:Nat),y≤k∧(k≤1970∨k=y)∧iv=.int .i64 (k:Int)∧nv=.int .i64 ((s:Int) - (t:Int))∧t≤3680000∧Hid (t=ysum y (k - y))∧Below w.heap.size w wx) (fun _ iv _=>1970 - (intOf iv).toNat)
   case atStart=>exact ⟨y,0,by omega,.inr rfl,rfl,by go_num,by omega,by show _=_;rw [Nat.sub_self];rfl,bel⟩
   case round =>
    clear bel
    obtain ⟨k,t,hk,hky,rfl,rfl,ht,HS,bel⟩:=hrel
    by_cases hil:k < 1970
    ·have k1:(k:Int) < 1970:=by omega
     have gi:IntKind.i64.wrap ((k:Int) + 1)=(k:Int) + 1:=by rw [IntKind.wrap_i64];omega
     have g2:IntKind.i64.wrap ((s:Int) - (t:Int) - 337)=(s:Int) - (t:Int) - 337:=by rw [IntKind.wrap_i64];omega
     go_wp2_with fail
     refine (r13_days (y:=k) (m:=2) (by omega) (by omega) (by omega)).mono ?_
     rintro e w2 ⟨rfl,hb⟩
     replace bel:=below_step bel hb
     have HS2:Hid (t + 337 + daysN k 2=ysum y (k + 1 - y)):=by show _=_;rw [ysum_next hk,← HS.out]
     have hD:=days_le (y:=k) (m:=2)
     have ht2:t + 337 + daysN k 2≤3680000:=by
      have:=ysum_le y (k + 1 - y)
      rw [HS2.out]
      omega
     obtain ⟨D,hDD⟩:∃ D,daysN k 2=D:=⟨_,rfl⟩
     rw [hDD] at HS2 hD ht2 ⊢
     have g3:IntKind.i64.wrap ((s:Int) - (t:Int) - 337 - (D:Int))=(s:Int) - (t:Int) - 337 - (D:Int):=by rw [IntKind.wrap_i64];omega
     have g4:(s:Int) - (t:Int) - 337 - (D:Int)=(s:Int) - ((t + 337 + D:Nat):Int):=by omega
     rw [g4] at g3
     replace g4:Hid _:=g4
     have g5:IntKind.i64.wrap ((s:Int) - (t:Int) - 337 - (D:Int))=(s:Int) - ((t + 337 + D:Nat):Int):=by rw [g4.out];exact g3
     clear hb HS hDD g3
     go_wp2_with fail
     go_roundw
     case rel=>exact ⟨k + 1,t + 337 + D,by omega,.inl (by omega),by go_num,by first|rfl|go_num|(congr 1;omega),ht2,HS2,bel⟩
     case measure=>simp [intOf];omega
    ·have k1:¬ (k:Int) < 1970:=by omega
     have HT:Hid (t=ysum y (1970 - y)):=by
      show _=_
      rw [HS.out,show k - y=1970 - y by omega]
     clear HS hil hky
     obtain ⟨W2,hW2⟩:∃ z,z=wr:=⟨_,rfl⟩
     rw [← hW2] at bel ⊢
     clear hW2
     obtain ⟨S,hS⟩:∃ S,(s:Int) - (t:Int)=S:=⟨_,rfl⟩
     have HSS:Hid ((s:Int) - (t:Int)=S):=hS
     have bS:-4000000≤S∧S≤4000000:=by omega
     rw [hS]
     clear hS
     go_wp2_with fail
     go_loopw [7,10] (fun nv iv wx=>∃ (k u:Nat),1≤k∧k≤m∧iv=.int .i64 (k:Int)∧nv=.int .i64 (S + (u:Int))∧u≤372∧Hid (u=msum y (k - 1))∧Below w.heap.size w wx) (fun _ iv _=>m - (intOf iv).toNat)
     case atStart=>exact ⟨1,0,by omega,h1,rfl,by first|rfl|go_num|(congr 1;omega),by omega,rfl,bel⟩
     case round =>
      clear bel
      obtain ⟨k,u,hk,hkm,rfl,rfl,hu,HU,bel⟩:=hrel
      by_cases hil:k < m
      ·have k1:(k:Int) < (m:Int):=by omega
       have gi:IntKind.i64.wrap ((k:Int) + 1)=(k:Int) + 1:=by rw [IntKind.wrap_i64];omega
       go_wp2_with fail
       refine (r13_days (y:=y) (m:=k) (by omega) (by omega) (by omega)).mono ?_
       rintro e w2 ⟨rfl,hb⟩
       replace bel:=below_step bel hb
       have HU2:Hid (u + daysN y k=msum y (k + 1 - 1)):=by show _=_;rw [msum_next hk,← HU.out]
       have hD:=days_le (y:=y) (m:=k)
       have hu2:u + daysN y k≤372:=by
        have:=msum_le y (k + 1 - 1)
        rw [HU2.out]
        omega
       obtain ⟨D,hDD⟩:∃ D,daysN y k=D:=⟨_,rfl⟩
       rw [hDD] at HU2 hD hu2 ⊢
       have g5:IntKind.i64.wrap (S + (u:Int) + (D:Int))=S + ((u + D:Nat):Int):=by rw [IntKind.wrap_i64];omega
       clear hb HU hDD
       go_wp2_with fail
       go_roundw
       case rel=>exact ⟨k + 1,u + D,by omega,by omega,by go_num,by first|rfl|go_num|(congr 1;omega),hu2,HU2,bel⟩
       case measure=>simp [intOf];omega
      ·have k1:¬ (k:Int) < (m:Int):=by omega
       have H:r=(S + (u:Int) + (d:Int) - 1) * 86400:=by
        rw [← HR.out,← HSS.out,HA.out,HT.out,HU.out,show k - 1=m - 1 by omega]
       have g1:IntKind.i64.wrap (S + (u:Int) + (d:Int))=S + (u:Int) + (d:Int):=by rw [IntKind.wrap_i64];omega
       have g2:IntKind.i64.wrap (S + (u:Int) + (d:Int) - 1)=S + (u:Int) + (d:Int) - 1:=by rw [IntKind.wrap_i64];omega
       have g3:IntKind.i64.wrap ((S + (u:Int) + (d:Int) - 1) * 86400)=(S + (u:Int) + (d:Int) - 1) * 86400:=by rw [IntKind.wrap_i64];omega
       subst H
       go_wp2_with fail
       go_ret
       exact ⟨rfl,bel⟩
end Go.Proofs.YtohcdbifhnfcbaaGreatDoor
