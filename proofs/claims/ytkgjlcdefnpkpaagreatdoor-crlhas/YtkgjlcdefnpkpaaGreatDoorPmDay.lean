/- The document's digits and days of layer 13. -/
import Derived.Test.YtkgjlcdefnpkpaaGreatDoorPmNG
import Derived.Test.YtkgjlcdefnpkpaaGreatDoorBase
import Derived.Test.YtkgjlcdefnpkpaaGreatDoorRows
import Derived.Deep.OwnRows
import Derived.Deep.AppendLies
import Derived.Deep.WholeRow
import Derived.Deep.RegionHeld3
import Derived.Deep.DeepCutAuto
import Derived.Deep.DeepFit
namespace Go.Proofs.YtkgjlcdefnpkpaaGreatDoor
open Go.RowKit
def monN:List Nat:=[31,28,31,30,31,30,31,31,30,31,30,31]
/-- the days of a month -/
def daysN (y m:Nat):Nat:=if m=2∧(y % 400=0∨(y % 4=0∧¬ y % 100=0)) then 29 else monN.getD (m - 1) 0
theorem mon_get {m:Nat} (h1:1≤m) (h2:m≤12):([.int .i64 31,.int .i64 28,.int .i64 31,.int .i64 30,.int .i64 31,.int .i64 30,.int .i64 31,.int .i64 31,.int .i64 30,.int .i64 31,.int .i64 30,.int .i64 31]:List Value)[m - 1]?=some (.int .i64 ((monN.getD (m - 1) 0:Nat):Int)):=by
 have hi:m=1∨m=2∨m=3∨m=4∨m=5∨m=6∨m=7∨m=8∨m=9∨m=10∨m=11∨m=12:=by omega
 rcases hi with rfl|rfl|rfl|rfl|rfl|rfl|rfl|rfl|rfl|rfl|rfl|rfl<;>rfl
theorem days_le {y m:Nat}:daysN y m≤31:=by
 unfold daysN
 split
 ·decide
 ·by_cases h:m - 1 < 12
  ·have hi:m - 1=0∨m - 1=1∨m - 1=2∨m - 1=3∨m - 1=4∨m - 1=5∨m - 1=6∨m - 1=7∨m - 1=8∨m - 1=9∨m - 1=10∨m - 1=11:=by omega
   rcases hi with e|e|e|e|e|e|e|e|e|e|e|e<;>rw [e]<;>decide
  ·have hl:monN.length≤m - 1:=by have:monN.length=12:=rfl;omega
   rw [List.getD_eq_getElem?_getD,List.getElem?_eq_none hl];decide
set_option linter.unusedSimpArgs false in
set_option maxRecDepth 100000 in
set_option maxHeartbeats 8000000 in
theorem r13_days {y m:Nat} {w:World} (hy:y≤1000000) (h1:1≤m) (h2:m≤12) :
  Calls Tryz.prog 131 #[.int .i64 (y:Int),.int .i64 (m:Int)] w fun e w'=>e=.returned (.int .i64 ((daysN y m:Nat):Int))∧Below w.heap.size w w':=by
 have t1:(y:Int).tmod 400=((y % 400:Nat):Int):=by rw [Int.tmod_eq_emod_of_nonneg (by omega)];omega
 have t2:(y:Int).tmod 4=((y % 4:Nat):Int):=by rw [Int.tmod_eq_emod_of_nonneg (by omega)];omega
 have t3:(y:Int).tmod 100=((y % 100:Nat):Int):=by rw [Int.tmod_eq_emod_of_nonneg (by omega)];omega
 have HD:Hid (daysN y m=if m=2∧(y % 400=0∨(y % 4=0∧¬ y % 100=0)) then 29 else monN.getD (m - 1) 0):=rfl
 obtain ⟨r,hr⟩:∃ r,daysN y m=r:=⟨_,rfl⟩
 rw [hr] at HD
 rw [hr]
 have t4:((y:Int) % 400)=((y % 400:Nat):Int):=by omega
 have t5:((y:Int) % 4)=((y % 4:Nat):Int):=by omega
 have t6:((y:Int) % 100)=((y % 100:Nat):Int):=by omega
 obtain ⟨a,ha⟩:∃ a,y % 400=a:=⟨_,rfl⟩
 obtain ⟨b,hb⟩:∃ a,y % 4=a:=⟨_,rfl⟩
 obtain ⟨c,hc⟩:∃ a,y % 100=a:=⟨_,rfl⟩
 rw [ha] at t1 t4 HD
 rw [hb] at t2 t5 HD
 rw [hc] at t3 t6 HD
 have i1:IntKind.i64.wrap ((m:Int) - 1)=((m - 1:Nat):Int):=by rw [IntKind.wrap_i64];omega
 have i2:((m - 1:Nat):Int) < 12:=by omega
 have i3:(0:Int)≤((m - 1:Nat):Int):=by omega
 have BT:=Blk.new w [.int .i64 31,.int .i64 28,.int .i64 31,.int .i64 30,.int .i64 31,.int .i64 30,.int .i64 31,.int .i64 31,.int .i64 30,.int .i64 31,.int .i64 30,.int .i64 31] 3 w.heap.size rfl
 have cm:=BT.cell (m - 1) _ (mon_get h1 h2)
 have hbl:Below w.heap.size w (w.alloc (.cells [.int .i64 31,.int .i64 28,.int .i64 31,.int .i64 30,.int .i64 31,.int .i64 30,.int .i64 31,.int .i64 31,.int .i64 30,.int .i64 31,.int .i64 30,.int .i64 31].toArray 3)):=(Below.refl _ _).alloc (Nat.le_refl _) _
 have e1:(a:Int)=0↔a=0:=by omega
 have e2:(b:Int)=0↔b=0:=by omega
 have e3:(c:Int)=0↔c=0:=by omega
 have e4:(m:Int)=2↔m=2:=by omega
 clear ha hb hc hr BT
 by_cases c4:m=2
 ·subst c4
  by_cases c1:a=0
  ·have H:r=29:=by rw [HD.out,if_pos ⟨rfl,.inl c1⟩]
   have k0:=e1.2 c1
   have j0:((a:Int) == 0)=true:=by rw [k0];rfl
   have l0:((a:Int) != 0)=false:=by rw [bne,j0];rfl
   clear e1 e2 e3 e4 HD
   subst H
   go_enter Tryz.func131,Tryz.ntmps131
   go_wp2_with fail
   go_ret
   exact ⟨rfl,hbl⟩
  by_cases c2:b=0
  ·by_cases c3:c=0
   ·have H:r=28:=by rw [HD.out,if_neg (by rintro ⟨_,h|⟨_,h⟩⟩;exact c1 h;exact h c3)];rfl
    have k0:=mt e1.1 c1
    have j0:((a:Int) == 0)=false:=by simpa using k0
    have l0:((a:Int) != 0)=true:=by rw [bne,j0];rfl
    have k1:=e2.2 c2
    have j1:((b:Int) == 0)=true:=by rw [k1];rfl
    have l1:((b:Int) != 0)=false:=by rw [bne,j1];rfl
    have k2:=e3.2 c3
    have j2:((c:Int) == 0)=true:=by rw [k2];rfl
    have l2:((c:Int) != 0)=false:=by rw [bne,j2];rfl
    clear e1 e2 e3 e4 HD
    subst H
    go_enter Tryz.func131,Tryz.ntmps131
    go_wp2_with fail
    go_ret
    exact ⟨rfl,hbl⟩
   ·have H:r=29:=by rw [HD.out,if_pos ⟨rfl,.inr ⟨c2,c3⟩⟩]
    have k0:=mt e1.1 c1
    have j0:((a:Int) == 0)=false:=by simpa using k0
    have l0:((a:Int) != 0)=true:=by rw [bne,j0];rfl
    have k1:=e2.2 c2
    have j1:((b:Int) == 0)=true:=by rw [k1];rfl
    have l1:((b:Int) != 0)=false:=by rw [bne,j1];rfl
    have k2:=mt e3.1 c3
    have j2:((c:Int) == 0)=false:=by simpa using k2
    have l2:((c:Int) != 0)=true:=by rw [bne,j2];rfl
    clear e1 e2 e3 e4 HD
    subst H
    go_enter Tryz.func131,Tryz.ntmps131
    go_wp2_with fail
    go_ret
    exact ⟨rfl,hbl⟩
  ·have H:r=28:=by rw [HD.out,if_neg (by rintro ⟨_,h|⟨h,_⟩⟩;exact c1 h;exact c2 h)];rfl
   have k0:=mt e1.1 c1
   have j0:((a:Int) == 0)=false:=by simpa using k0
   have l0:((a:Int) != 0)=true:=by rw [bne,j0];rfl
   have k1:=mt e2.1 c2
   have j1:((b:Int) == 0)=false:=by simpa using k1
   have l1:((b:Int) != 0)=true:=by rw [bne,j1];rfl
   clear e1 e2 e3 e4 HD
   subst H
   go_enter Tryz.func131,Tryz.ntmps131
   go_wp2_with fail
   go_ret
   exact ⟨rfl,hbl⟩
 by_cases c1:a=0
 ·have H:r=monN.getD (m - 1) 0:=by rw [HD.out,if_neg (fun h=>c4 h.1)]
  have k0:=mt e4.1 c4
  have k1:=e1.2 c1
  have j1:((a:Int) == 0)=true:=by rw [k1];rfl
  have l1:((a:Int) != 0)=false:=by rw [bne,j1];rfl
  clear e1 e2 e3 e4 HD
  subst H
  go_enter Tryz.func131,Tryz.ntmps131
  go_wp2_with fail
  go_ret
  exact ⟨rfl,hbl⟩
 by_cases c2:b=0
 ·by_cases c3:c=0
  ·have H:r=monN.getD (m - 1) 0:=by rw [HD.out,if_neg (fun h=>c4 h.1)]
   have k0:=mt e4.1 c4
   have k1:=mt e1.1 c1
   have j1:((a:Int) == 0)=false:=by simpa using k1
   have l1:((a:Int) != 0)=true:=by rw [bne,j1];rfl
   have k2:=e2.2 c2
   have j2:((b:Int) == 0)=true:=by rw [k2];rfl
   have l2:((b:Int) != 0)=false:=by rw [bne,j2];rfl
   have k3:=e3.2 c3
   have j3:((c:Int) == 0)=true:=by rw [k3];rfl
   have l3:((c:Int) != 0)=false:=by rw [bne,j3];rfl
   clear e1 e2 e3 e4 HD
   subst H
   go_enter Tryz.func131,Tryz.ntmps131
   go_wp2_with fail
   go_ret
   exact ⟨rfl,hbl⟩
  ·have H:r=monN.getD (m - 1) 0:=by rw [HD.out,if_neg (fun h=>c4 h.1)]
   have k0:=mt e4.1 c4
   have k1:=mt e1.1 c1
   have j1:((a:Int) == 0)=false:=by simpa using k1
   have l1:((a:Int) != 0)=true:=by rw [bne,j1];rfl
   have k2:=e2.2 c2
   have j2:((b:Int) == 0)=true:=by rw [k2];rfl
   have l2:((b:Int) != 0)=false:=by rw [bne,j2];rfl
   have k3:=mt e3.1 c3
   have j3:((c:Int) == 0)=false:=by simpa using k3
   have l3:((c:Int) != 0)=true:=by rw [bne,j3];rfl
   clear e1 e2 e3 e4 HD
   subst H
   go_enter Tryz.func131,Tryz.ntmps131
   go_wp2_with fail
   go_ret
   exact ⟨rfl,hbl⟩
 ·have H:r=monN.getD (m - 1) 0:=by rw [HD.out,if_neg (fun h=>c4 h.1)]
  have k0:=mt e4.1 c4
  have k1:=mt e1.1 c1
  have j1:((a:Int) == 0)=false:=by simpa using k1
  have l1:((a:Int) != 0)=true:=by rw [bne,j1];rfl
  have k2:=mt e2.1 c2
  have j2:((b:Int) == 0)=false:=by simpa using k2
  have l2:((b:Int) != 0)=true:=by rw [bne,j2];rfl
  clear e1 e2 e3 e4 HD
  subst H
  go_enter Tryz.func131,Tryz.ntmps131
  go_wp2_with fail
  go_ret
  exact ⟨rfl,hbl⟩
end Go.Proofs.YtkgjlcdefnpkpaaGreatDoor
