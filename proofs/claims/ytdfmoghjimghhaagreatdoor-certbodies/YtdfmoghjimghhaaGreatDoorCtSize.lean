import Derived.Test.YtdfmoghjimghhaaGreatDoorCtBase
import Derived.Test.YtdfmoghjimghhaaGreatDoorBase
import Derived.Test.YtdfmoghjimghhaaGreatDoorDrTG
import Derived.Test.YtdfmoghjimghhaaGreatDoorCRef
import Derived.Test.YtdfmoghjimghhaaGreatDoorLBytes
import Derived.Test.YtdfmoghjimghhaaGreatDoorRows
import Derived.Deep.OwnRows
import Derived.Deep.AppendLies
import Derived.Deep.WholeRow
import Derived.Deep.RegionHeld3
import Derived.Deep.DeepCutAuto
import Derived.Deep.DeepFit
import Derived.LaidEql
import Derived.Stop.Asserts
import Derived.RowKitTokens
import Derived.Great.BuildSlice
import Derived.Laws.CopyOwn
namespace Go.Proofs.YtdfmoghjimghhaaGreatDoor
open Go.RowKit
open Go.RowKit Go.Extern.Stop Go.Stop Go.Extern
set_option linter.unusedSimpArgs false
set_option maxRecDepth 100000
set_option maxHeartbeats 8000000
def ZlW:List Nat:=[31,28,31,30,31,30,31,31,30,31,30,31]
def ZaR (y m:Nat):Nat:=if m=2∧(y%400=0∨(y%4=0∧¬ y%100=0)) then 29 else ZlW.getD (m-1) 0
theorem ZoA {m:Nat} (h1:1≤m) (h2:m≤12):([.int .i64 31,.int .i64 28,.int .i64 31,.int .i64 30,.int .i64 31,.int .i64 30,.int .i64 31,.int .i64 31,.int .i64 30,.int .i64 31,.int .i64 30,.int .i64 31]:List Value)[m-1]?=some (.int .i64 ((ZlW.getD (m-1) 0:Nat):Int)):=by
 have hi:m=1∨m=2∨m=3∨m=4∨m=5∨m=6∨m=7∨m=8∨m=9∨m=10∨m=11∨m=12:=by omega
 rcases hi with rfl|rfl|rfl|rfl|rfl|rfl|rfl|rfl|rfl|rfl|rfl|rfl<;>rfl
theorem Zc9 {y m:Nat}:ZaR y m≤31:=by
 unfold ZaR
 split
 ·decide
 ·by_cases h:m-1<12
  ·have hi:m-1=0∨m-1=1∨m-1=2∨m-1=3∨m-1=4∨m-1=5∨m-1=6∨m-1=7∨m-1=8∨m-1=9∨m-1=10∨m-1=11:=by omega
   rcases hi with e|e|e|e|e|e|e|e|e|e|e|e<;>rw[e]<;>decide
  ·have hl:ZlW.length≤m-1:=by have:ZlW.length=12:=rfl;omega
   rw[List.getD_eq_getElem?_getD,List.getElem?_eq_none hl];decide
theorem Zgc {y m:Nat} {w:World} (hy:y≤1000000) (h1:1≤m) (h2:m≤12) :
  Calls Tryz.prog 184 #[.int .i64 (y:Int),.int .i64 (m:Int)] w fun e w'=>e=.returned (.int .i64 ((ZaR y m:Nat):Int))∧Below w.heap.size w w':=by
 have t1:(y:Int).tmod 400=((y%400:Nat):Int):=by rw[Int.tmod_eq_emod_of_nonneg (by omega)];omega
 have t2:(y:Int).tmod 4=((y%4:Nat):Int):=by rw[Int.tmod_eq_emod_of_nonneg (by omega)];omega
 have t3:(y:Int).tmod 100=((y%100:Nat):Int):=by rw[Int.tmod_eq_emod_of_nonneg (by omega)];omega
 have HD:Hid (ZaR y m=if m=2∧(y%400=0∨(y%4=0∧¬ y%100=0)) then 29 else ZlW.getD (m-1) 0):=rfl;obtain ⟨r,hr⟩:∃ r,ZaR y m=r:=⟨_,rfl⟩;rw[hr] at HD;rw[hr];have t4:((y:Int)%400)=((y%400:Nat):Int):=by omega
 have t5:((y:Int)%4)=((y%4:Nat):Int):=by omega
 have t6:((y:Int)%100)=((y%100:Nat):Int):=by omega
 obtain⟨a,ha⟩:∃ a,y%400=a:=⟨_,rfl⟩;obtain ⟨b,hb⟩:∃ a,y%4=a:=⟨_,rfl⟩;obtain ⟨c,hc⟩:∃ a,y%100=a:=⟨_,rfl⟩;rw[ha] at t1 t4 HD;rw[hb] at t2 t5 HD;rw[hc] at t3 t6 HD;have i1:IntKind.i64.wrap ((m:Int)-1)=((m-1:Nat):Int):=by rw[IntKind.wrap_i64];omega
 have i2:((m-1:Nat):Int)<12:=by omega
 have i3:(0:Int)≤((m-1:Nat):Int):=by omega
 have BT:=Blk.new w [.int .i64 31,.int .i64 28,.int .i64 31,.int .i64 30,.int .i64 31,.int .i64 30,.int .i64 31,.int .i64 31,.int .i64 30,.int .i64 31,.int .i64 30,.int .i64 31] 3 w.heap.size rfl;have cm:=BT.cell (m-1) _ (ZoA h1 h2);have hbl:=bal w (.cells [.int .i64 31,.int .i64 28,.int .i64 31,.int .i64 30,.int .i64 31,.int .i64 30,.int .i64 31,.int .i64 31,.int .i64 30,.int .i64 31,.int .i64 30,.int .i64 31].toArray 3);have e1:(a:Int)=0↔a=0:=by omega
 have e2:(b:Int)=0↔b=0:=by omega
 have e3:(c:Int)=0↔c=0:=by omega
 have e4:(m:Int)=2↔m=2:=by omega
 clear ha hb hc hr BT
 by_cases c4:m=2
 ·subst c4
  by_cases c1:a=0
  ·have H:r=29:=by rw[HD.out,if_pos ⟨rfl,.inl c1⟩]
   have k0:=e1.2 c1;have j0:((a:Int) == 0)=true:=by rw[k0];rfl
   have l0:((a:Int) != 0)=false:=by rw[bne,j0];rfl
   clear e1 e2 e3 e4 HD;subst H;go_enter Tryz.func184,Tryz.ntmps184;go_wp2_with fail;go_ret;exact ⟨rfl,hbl⟩
  by_cases c2:b=0
  ·by_cases c3:c=0
   ·have H:r=28:=by rw[HD.out,if_neg (by rintro ⟨_,h|⟨_,h⟩⟩;exact c1 h;exact h c3)];rfl
    have k0:=mt e1.1 c1;have j0:((a:Int) == 0)=false:=by simpa using k0
    have l0:((a:Int) != 0)=true:=by rw[bne,j0];rfl
    have k1:=e2.2 c2;have j1:((b:Int) == 0)=true:=by rw[k1];rfl
    have l1:((b:Int) != 0)=false:=by rw[bne,j1];rfl
    have k2:=e3.2 c3;have j2:((c:Int) == 0)=true:=by rw[k2];rfl
    have l2:((c:Int) != 0)=false:=by rw[bne,j2];rfl
    clear e1 e2 e3 e4 HD;subst H;go_enter Tryz.func184,Tryz.ntmps184;go_wp2_with fail;go_ret;exact ⟨rfl,hbl⟩
   ·have H:r=29:=by rw[HD.out,if_pos ⟨rfl,.inr ⟨c2,c3⟩⟩]
    have k0:=mt e1.1 c1;have j0:((a:Int) == 0)=false:=by simpa using k0
    have l0:((a:Int) != 0)=true:=by rw[bne,j0];rfl
    have k1:=e2.2 c2;have j1:((b:Int) == 0)=true:=by rw[k1];rfl
    have l1:((b:Int) != 0)=false:=by rw[bne,j1];rfl
    have k2:=mt e3.1 c3;have j2:((c:Int) == 0)=false:=by simpa using k2
    have l2:((c:Int) != 0)=true:=by rw[bne,j2];rfl
    clear e1 e2 e3 e4 HD;subst H;go_enter Tryz.func184,Tryz.ntmps184;go_wp2_with fail;go_ret;exact ⟨rfl,hbl⟩
  ·have H:r=28:=by rw[HD.out,if_neg (by rintro ⟨_,h|⟨h,_⟩⟩;exact c1 h;exact c2 h)];rfl
   have k0:=mt e1.1 c1;have j0:((a:Int) == 0)=false:=by simpa using k0
   have l0:((a:Int) != 0)=true:=by rw[bne,j0];rfl
   have k1:=mt e2.1 c2;have j1:((b:Int) == 0)=false:=by simpa using k1
   have l1:((b:Int) != 0)=true:=by rw[bne,j1];rfl
   clear e1 e2 e3 e4 HD;subst H;go_enter Tryz.func184,Tryz.ntmps184;go_wp2_with fail;go_ret;exact ⟨rfl,hbl⟩
 by_cases c1:a=0
 ·have H:r=ZlW.getD (m-1) 0:=by rw[HD.out,if_neg (fun h=>c4 h.1)]
  have k0:=mt e4.1 c4;have k1:=e1.2 c1;have j1:((a:Int) == 0)=true:=by rw[k1];rfl
  have l1:((a:Int) != 0)=false:=by rw[bne,j1];rfl
  clear e1 e2 e3 e4 HD;subst H;go_enter Tryz.func184,Tryz.ntmps184;go_wp2_with fail;go_ret;exact ⟨rfl,hbl⟩
 by_cases c2:b=0
 ·by_cases c3:c=0
  ·have H:r=ZlW.getD (m-1) 0:=by rw[HD.out,if_neg (fun h=>c4 h.1)]
   have k0:=mt e4.1 c4;have k1:=mt e1.1 c1;have j1:((a:Int) == 0)=false:=by simpa using k1
   have l1:((a:Int) != 0)=true:=by rw[bne,j1];rfl
   have k2:=e2.2 c2;have j2:((b:Int) == 0)=true:=by rw[k2];rfl
   have l2:((b:Int) != 0)=false:=by rw[bne,j2];rfl
   have k3:=e3.2 c3;have j3:((c:Int) == 0)=true:=by rw[k3];rfl
   have l3:((c:Int) != 0)=false:=by rw[bne,j3];rfl
   clear e1 e2 e3 e4 HD;subst H;go_enter Tryz.func184,Tryz.ntmps184;go_wp2_with fail;go_ret;exact ⟨rfl,hbl⟩
  ·have H:r=ZlW.getD (m-1) 0:=by rw[HD.out,if_neg (fun h=>c4 h.1)]
   have k0:=mt e4.1 c4;have k1:=mt e1.1 c1;have j1:((a:Int) == 0)=false:=by simpa using k1
   have l1:((a:Int) != 0)=true:=by rw[bne,j1];rfl
   have k2:=e2.2 c2;have j2:((b:Int) == 0)=true:=by rw[k2];rfl
   have l2:((b:Int) != 0)=false:=by rw[bne,j2];rfl
   have k3:=mt e3.1 c3;have j3:((c:Int) == 0)=false:=by simpa using k3
   have l3:((c:Int) != 0)=true:=by rw[bne,j3];rfl
   clear e1 e2 e3 e4 HD;subst H;go_enter Tryz.func184,Tryz.ntmps184;go_wp2_with fail;go_ret;exact ⟨rfl,hbl⟩
 ·have H:r=ZlW.getD (m-1) 0:=by rw[HD.out,if_neg (fun h=>c4 h.1)]
  have k0:=mt e4.1 c4;have k1:=mt e1.1 c1;have j1:((a:Int) == 0)=false:=by simpa using k1
  have l1:((a:Int) != 0)=true:=by rw[bne,j1];rfl
  have k2:=mt e2.1 c2;have j2:((b:Int) == 0)=false:=by simpa using k2
  have l2:((b:Int) != 0)=true:=by rw[bne,j2];rfl
  clear e1 e2 e3 e4 HD;subst H;go_enter Tryz.func184,Tryz.ntmps184;go_wp2_with fail;go_ret;exact ⟨rfl,hbl⟩
def ZeI (a:Nat):Nat→Nat
 | 0=>0
 | n+1=>ZeI a n+337+ZaR (a+n) 2
def ZdC (y:Nat):Nat→Nat
 | 0=>0
 | n+1=>ZdC y n+ZaR y (n+1)
theorem ZhZ (a:Nat):∀ n,ZeI a n≤368*n
 | 0=>Nat.le_refl _
 | n+1=>by rw[ZeI];have:=ZhZ a n;have:=Zc9 (y:=a+n) (m:=2);omega
theorem ZkL (y:Nat):∀ n,ZdC y n≤31*n
 | 0=>Nat.le_refl _
 | n+1=>by rw[ZdC];have:=ZkL y n;have:=Zc9 (y:=y) (m:=n+1);omega
theorem Zhg {a k:Nat} (h:a≤k):ZeI a (k+1-a)=ZeI a (k-a)+337+ZaR k 2:=by
 rw[show k+1-a=(k-a)+1 by omega,ZeI,show a+(k-a)=k by omega]
theorem Ze3 {y k:Nat} (h:1≤k):ZdC y (k+1-1)=ZdC y (k-1)+ZaR y k:=by
 rw[show k+1-1=(k-1)+1 by omega,ZdC,show k-1+1=k by omega]
def Zcr (y m d:Nat):Int:=((ZeI 1970 (y-1970):Int)-(ZeI y (1970-y):Int)+(ZdC y (m-1):Int)+(d:Int)-1)*86400
theorem ZhN {y m d:Nat} {w:World} (hy:y≤10000) (h1:1≤m) (h2:m≤12) (hd:d≤100) :
  Calls Tryz.prog 129 #[.int .i64 (y:Int),.int .i64 (m:Int),.int .i64 (d:Int)] w fun e w'=>e=.returned (.int .i64 (Zcr y m d))∧Below w.heap.size w w':=by
 obtain⟨r,hr⟩:∃ r,Zcr y m d=r:=⟨_,rfl⟩;have HR:Hid (((ZeI 1970 (y-1970):Int)-(ZeI y (1970-y):Int)+(ZdC y (m-1):Int)+(d:Int)-1)*86400=r):=hr;rw[hr];clear hr;go_enter Tryz.func129,Tryz.ntmps129;go_wp2_with fail;go_loopw [7,8] (fun nv iv wx=>∃ (k s:Nat),1970≤k∧(k≤y∨k=1970)∧iv=.int .i64 (k:Int)∧nv=.int .i64 (s:Int)∧s≤3680000∧Hid (s=ZeI 1970 (k-1970))∧Below w.heap.size w wx) (fun _ iv _=>y-(intOf iv).toNat)
 case atStart=>exact ⟨1970,0,by omega,.inr rfl,rfl,rfl,by omega,rfl,Below.refl _ _⟩
 case round =>
  obtain⟨k,s,hk,hky,rfl,rfl,hs,HS,bel⟩:=hrel
  by_cases hil:k<y
  ·have k1:(k:Int)<(y:Int):=by omega
   have gi:IntKind.i64.wrap ((k:Int)+1)=(k:Int)+1:=by rw[IntKind.wrap_i64];omega
   have g2:IntKind.i64.wrap ((s:Int)+337)=(s:Int)+337:=by rw[IntKind.wrap_i64];omega
   go_wp2_with fail;refine (Zgc (y:=k) (m:=2) (by omega) (by omega) (by omega)).mono ?_;rintro e w2 ⟨rfl,hb⟩;replace bel:=Zaa bel hb;have HS2:Hid (s+337+ZaR k 2=ZeI 1970 (k+1-1970)):=by show _=_;rw[Zhg hk,← HS.out]
   have hD:=Zc9 (y:=k) (m:=2);have hs2:s+337+ZaR k 2≤3680000:=by
    have:=ZhZ 1970 (k+1-1970);rw[HS2.out];omega
   obtain⟨D,hDD⟩:∃ D,ZaR k 2=D:=⟨_,rfl⟩;rw[hDD] at HS2 hD hs2 ⊢;have g3:IntKind.i64.wrap ((s:Int)+337+(D:Int))=(s:Int)+337+(D:Int):=by rw[IntKind.wrap_i64];omega
   clear hb HS hDD;go_wp2_with fail;go_roundw
   case rel=>exact ⟨k+1,s+337+D,by omega,.inl (by omega),by go_num,by go_num,hs2,HS2,bel⟩
   case measure=>simp[intOf];omega
  ·have k1:¬ (k:Int)<(y:Int):=by omega
   have HA:Hid (s=ZeI 1970 (y-1970)):=by
    show _=_;rw[HS.out,show k-1970=y-1970 by omega]
   clear HS hil hky;obtain ⟨W,hW⟩:∃ z,z=wr:=⟨_,rfl⟩;rw[← hW] at bel ⊢;clear hW;go_wp2_with fail;go_loopw [7,9] (fun nv iv wx=>∃ (k t:Nat),y≤k∧(k≤1970∨k=y)∧iv=.int .i64 (k:Int)∧nv=.int .i64 ((s:Int)-(t:Int))∧t≤3680000∧Hid (t=ZeI y (k-y))∧Below w.heap.size w wx) (fun _ iv _=>1970-(intOf iv).toNat)
   case atStart=>exact ⟨y,0,by omega,.inr rfl,rfl,by go_num,by omega,by show _=_;rw[Nat.sub_self];rfl,bel⟩
   case round =>
    clear bel;obtain ⟨k,t,hk,hky,rfl,rfl,ht,HS,bel⟩:=hrel
    by_cases hil:k<1970
    ·have k1:(k:Int)<1970:=by omega
     have gi:IntKind.i64.wrap ((k:Int)+1)=(k:Int)+1:=by rw[IntKind.wrap_i64];omega
     have g2:IntKind.i64.wrap ((s:Int)-(t:Int)-337)=(s:Int)-(t:Int)-337:=by rw[IntKind.wrap_i64];omega
     go_wp2_with fail;refine (Zgc (y:=k) (m:=2) (by omega) (by omega) (by omega)).mono ?_;rintro e w2 ⟨rfl,hb⟩;replace bel:=Zaa bel hb;have HS2:Hid (t+337+ZaR k 2=ZeI y (k+1-y)):=by show _=_;rw[Zhg hk,← HS.out]
     have hD:=Zc9 (y:=k) (m:=2);have ht2:t+337+ZaR k 2≤3680000:=by
      have:=ZhZ y (k+1-y);rw[HS2.out];omega
     obtain⟨D,hDD⟩:∃ D,ZaR k 2=D:=⟨_,rfl⟩;rw[hDD] at HS2 hD ht2 ⊢;have g3:IntKind.i64.wrap ((s:Int)-(t:Int)-337-(D:Int))=(s:Int)-(t:Int)-337-(D:Int):=by rw[IntKind.wrap_i64];omega
     have g4:(s:Int)-(t:Int)-337-(D:Int)=(s:Int)-((t+337+D:Nat):Int):=by omega
     rw[g4] at g3;replace g4:Hid _:=g4;have g5:IntKind.i64.wrap ((s:Int)-(t:Int)-337-(D:Int))=(s:Int)-((t+337+D:Nat):Int):=by rw[g4.out];exact g3
     clear hb HS hDD g3;go_wp2_with fail;go_roundw
     case rel=>exact ⟨k+1,t+337+D,by omega,.inl (by omega),by go_num,by first|rfl|go_num|(congr 1;omega),ht2,HS2,bel⟩
     case measure=>simp[intOf];omega
    ·have k1:¬ (k:Int)<1970:=by omega
     have HT:Hid (t=ZeI y (1970-y)):=by
      show _=_;rw[HS.out,show k-y=1970-y by omega]
     clear HS hil hky;obtain ⟨W2,hW2⟩:∃ z,z=wr:=⟨_,rfl⟩;rw[← hW2] at bel ⊢;clear hW2;obtain ⟨S,hS⟩:∃ S,(s:Int)-(t:Int)=S:=⟨_,rfl⟩;have HSS:Hid ((s:Int)-(t:Int)=S):=hS;have bS:-4000000≤S∧S≤4000000:=by omega
     rw[hS];clear hS;go_wp2_with fail;go_loopw [7,10] (fun nv iv wx=>∃ (k u:Nat),1≤k∧k≤m∧iv=.int .i64 (k:Int)∧nv=.int .i64 (S+(u:Int))∧u≤372∧Hid (u=ZdC y (k-1))∧Below w.heap.size w wx) (fun _ iv _=>m-(intOf iv).toNat)
     case atStart=>exact ⟨1,0,by omega,h1,rfl,by first|rfl|go_num|(congr 1;omega),by omega,rfl,bel⟩
     case round =>
      clear bel;obtain ⟨k,u,hk,hkm,rfl,rfl,hu,HU,bel⟩:=hrel
      by_cases hil:k<m
      ·have k1:(k:Int)<(m:Int):=by omega
       have gi:IntKind.i64.wrap ((k:Int)+1)=(k:Int)+1:=by rw[IntKind.wrap_i64];omega
       go_wp2_with fail;refine (Zgc (y:=y) (m:=k) (by omega) (by omega) (by omega)).mono ?_;rintro e w2 ⟨rfl,hb⟩;replace bel:=Zaa bel hb;have HU2:Hid (u+ZaR y k=ZdC y (k+1-1)):=by show _=_;rw[Ze3 hk,← HU.out]
       have hD:=Zc9 (y:=y) (m:=k);have hu2:u+ZaR y k≤372:=by
        have:=ZkL y (k+1-1);rw[HU2.out];omega
       obtain⟨D,hDD⟩:∃ D,ZaR y k=D:=⟨_,rfl⟩;rw[hDD] at HU2 hD hu2 ⊢;have g5:IntKind.i64.wrap (S+(u:Int)+(D:Int))=S+((u+D:Nat):Int):=by rw[IntKind.wrap_i64];omega
       clear hb HU hDD;go_wp2_with fail;go_roundw
       case rel=>exact ⟨k+1,u+D,by omega,by omega,by go_num,by first|rfl|go_num|(congr 1;omega),hu2,HU2,bel⟩
       case measure=>simp[intOf];omega
      ·have k1:¬ (k:Int)<(m:Int):=by omega
       have H:r=(S+(u:Int)+(d:Int)-1)*86400:=by
        rw[← HR.out,← HSS.out,HA.out,HT.out,HU.out,show k-1=m-1 by omega]
       have g1:IntKind.i64.wrap (S+(u:Int)+(d:Int))=S+(u:Int)+(d:Int):=by rw[IntKind.wrap_i64];omega
       have g2:IntKind.i64.wrap (S+(u:Int)+(d:Int)-1)=S+(u:Int)+(d:Int)-1:=by rw[IntKind.wrap_i64];omega
       have g3:IntKind.i64.wrap ((S+(u:Int)+(d:Int)-1)*86400)=(S+(u:Int)+(d:Int)-1)*86400:=by rw[IntKind.wrap_i64];omega
       subst H;go_wp2_with fail;go_ret;exact ⟨rfl,bel⟩
theorem Zkq (c d:Int) (w:World):(binOp .eql 39 (.iface 53 (.int .i64 c)) (.iface 53 (.int .i64 d))).run Tryz.prog w=.ok (.bool (decide (c=d))) w:=by kernel_rfl
theorem Zjc (d:Int) (w:World):(binOp .eql 39 (.iface 53 (.int .i64 d)) .nilIface).run Tryz.prog w=.ok (.bool false) w:=by kernel_rfl
theorem Zjd (_:Int) (w:World):(binOp .eql 39 .nilIface .nilIface).run Tryz.prog w=.ok (.bool true) w:=by kernel_rfl
theorem Zhy {w:World} :
  Calls Tryz.prog 11 #[.nilIface] w fun ev w'=>ev=.returned (.int .i64 0)∧w'=w:=by
 have q:=Zjd 0;go_enter Tryz.func11,Tryz.ntmps11;go_wp2_with fail;go_ret;exact ⟨rfl,rfl⟩
theorem Zi9 {c:Nat} {w:World} (h1:1≤c) (h2:c≤21) :
  Calls Tryz.prog 11 #[.iface 53 (.int .i64 (c:Int))] w fun ev w'=>ev=.returned (.int .i64 (c:Int))∧w'=w:=by
 have q:=Zjc;go_enter Tryz.func11,Tryz.ntmps11;go_wp2_with fail;go_loop [3] (fun cv=>∃ k:Nat,1≤k∧k≤c∧cv=.int .i64 k) (fun cv=>22-(intOf cv).toNat)
 case atStart=>exact ⟨1,by omega,h1,rfl⟩
 case round =>
  obtain⟨k,k1,k2,rfl⟩:=hrel;have g1:(k:Int)≤21:=by omega
  by_cases h:c=k
  ·have q4:∀ w:World,(binOp .eql 39 (.iface 53 (.int .i64 (c:Int))) (.iface 53 (.int .i64 (k:Int)))).run Tryz.prog w=.ok (.bool true) w:=fun w=>by rw[Zkq,decide_eq_true (by omega)]
   have HC:Hid (c=k):=h;clear h;go_wp2_with fail;go_ret;exact ⟨by rw[HC.out];rfl,rfl⟩
  ·have q4:∀ w:World,(binOp .eql 39 (.iface 53 (.int .i64 (c:Int))) (.iface 53 (.int .i64 (k:Int)))).run Tryz.prog w=.ok (.bool false) w:=fun w=>by rw[Zkq,decide_eq_false (by omega)]
   go_wp2_with fail;go_round
   case rel=>exact ⟨k+1,by omega,by omega,by go_num⟩
   case measure=>simp[intOf];omega
def RdB (w w':World) (g:Nat) (X:List Value):Prop:=Blk w' g X∧(∀ c Y,c≠g→Blk w c Y→Blk w' c Y)∧(∀ B a,B≤g→Below B a w→Below B a w')∧w.heap.size≤w'.heap.size
theorem RdB.cell {w:World} {g k:Nat} {X:List Value} (B:Blk w g X) (v:Value):RdB w (w.setCell ⟨g,k,none⟩ v) g (X.set k v) :=
 ⟨B.set k v,fun c Y hc hY=>hY.other _ _ hc,fun B' a hB hl=>hl.setCell hB _,by simp⟩
def Agr (S:Nat→Prop) (w w':World):Prop:=w.heap.size≤w'.heap.size∧∀ b,S b→b<w.heap.size→w'.heap[b]?=w.heap[b]?
theorem Agr.refl (S:Nat→Prop) (w:World):Agr S w w:=⟨Nat.le_refl _,fun _ _ _=>rfl⟩
theorem Agr.trans {S:Nat→Prop} {w w' w'':World} (h:Agr S w w') (k:Agr S w' w''):Agr S w w'' :=
 ⟨Nat.le_trans h.1 k.1,fun b hb hl=>(k.2 b hb (Nat.lt_of_lt_of_le hl h.1)).trans (h.2 b hb hl)⟩
theorem Agr.below {S:Nat→Prop} {w w':World} (h:Below w.heap.size w w'):Agr S w w':=⟨h.size,fun b _ hl=>h.block b hl⟩
theorem Agr.row {S:Nat→Prop} {w w':World} {c:Nat} {cs:Array Value} (h:Agr S w w') (hc:¬ S c):Agr S w (w'.setRow c cs) :=
 ⟨by have:=h.1;simpa [World.setRow] using this,fun b hb hl=>(setRow_other w' c b cs (fun e=>hc (e ▸ hb))).trans (h.2 b hb hl)⟩
theorem Agr.cell {S:Nat→Prop} {w w':World} {c k:Nat} {v:Value} (h:Agr S w w') (hc:¬ S c):Agr S w (w'.setCell ⟨c,k,none⟩ v) :=
 ⟨by have:=h.1;simpa using this,fun b hb hl=>(heap_setCell_other w' ⟨c,k,none⟩ b v (fun e=>hc (by have e2:b=c:=e;exact e2 ▸ hb))).trans (h.2 b hb hl)⟩
def Dep (S:Nat→Prop) (w:World) (T:Tl) (cs:List Value):Prop:=∀ w',Agr S w w'→Zbg w' T cs
theorem Dep.now {S:Nat→Prop} {w:World} {T:Tl} {cs:List Value} (h:Dep S w T cs):Zbg w T cs:=h w (Agr.refl S w)
theorem Dep.next {S S':Nat→Prop} {w w':World} {T:Tl} {cs:List Value} (h:Dep S w T cs) (ha:Agr S w w') (hs:∀ b,S b→b<w.heap.size→S' b):Dep S' w' T cs:=fun w'' h2 =>
 h w'' ⟨Nat.le_trans ha.1 h2.1,fun b hb hl=>(h2.2 b (hs b hb hl) (Nat.lt_of_lt_of_le hl ha.1)).trans (ha.2 b hb hl)⟩
theorem Blk.agr {S:Nat→Prop} {w w':World} {g:Nat} {X:List Value} (B:Blk w g X) (h:Agr S w w') (hg:S g):Blk w' g X:=by
 obtain⟨t,ht⟩:=B;exact ⟨t,(h.2 g hg (Array.getElem?_eq_some_iff.1 ht).1).trans ht⟩
theorem Zkz {w:World} {g:Nat}:∀ {ks:List Tl} {o:Nat},(∀ i k,ks[i]?=some k→∃ cs,ZnP w g (o+5*i) cs∧Zbg w k cs)→ZaW w ks g o
 | [],_,_=>by rw[ZaW];trivial
 | k::ks,o,h=>by
  rw[ZaW];refine ⟨by simpa using h 0 k rfl,Zkz (fun i x hx=>?_)⟩;have:=h (i+1) x (by rw[List.getElem?_cons_succ];exact hx);rw[show o+5*(i+1)=o+5+5*i by omega] at this;exact this
theorem Zbr {S:Nat→Prop} {w w':World} {base size:Nat} {e:TypeId} {v:Value} {n:Nat} {xs:List Value} (h:w.ownsRow base e size v n xs) (ha:Agr S w w') (hs:∀ g,v.ownBlock=some g→S g):w'.ownsRow base e size v n xs:=by
 obtain⟨hl,h⟩:=h;rcases h with h|⟨g,cap,cur,h1,h2,h3,h4⟩
 ·exact ⟨hl,.inl h⟩
 ·exact ⟨hl,.inr ⟨g,cap,cur,h1,h2,(ha.2 g (hs g (by rw[h1];rfl)) (Array.getElem?_eq_some_iff.1 h3).1).trans h3,h4⟩⟩
theorem ZdV {S:Nat→Prop} {w:World} {base:Nat} {e:TypeId} {v:Value} {ks:List Tl} {xs:List Value} (h:w.ownsRow base e 5 v ks.length xs) (hk:∀ i k,ks[i]?=some k→Dep S w k ((xs.drop (5*i)).take 5)) (c t:Int) (m:Bool) {S':Nat→Prop} (hS:∀ b,S b→S' b) (hv:∀ g,v.ownBlock=some g→S' g):Dep S' w (.mk c t m [] ks) [.int .i64 c,.int .i64 t,.bool m,.slice none 0 0,v]:=fun w' ha=>by
 have ha2:Agr S w w':=⟨ha.1,fun b hb hl=>ha.2 b (hS b hb) hl⟩;have h2:=Zbr h ha hv;rw[Zbg];obtain ⟨hl,h2⟩:=h2;rcases h2 with ⟨e1,e2⟩|⟨g,cap,cur,h1,h2,h3,h4,h5,h6,h7⟩
 ·refine ⟨.slice none 0 0,none,0,by rw[e1,e2],⟨none,0,rfl,by decide,by decide,fun h0=>by simp at h0⟩,by omega,by decide,fun h0=>by omega⟩
 ·refine ⟨.slice none 0 0,some ⟨g,0,none⟩,cap,by rw[h1],⟨none,0,rfl,by decide,by decide,fun h0=>by simp at h0⟩,h4,h5,fun _=>⟨g,0,rfl,?_⟩⟩
  have B:Blk w' g cur.toList:=⟨e,by simpa using h3⟩;refine Zkz (fun i k hi=>⟨_,⟨B.lt,fun j u hu=>?_⟩,hk i k hi w' ha2⟩);have hj:j<5:=by
   have:=(List.getElem?_eq_some_iff.1 hu).1;rw[List.length_take] at this;omega
  have hi2:=(List.getElem?_eq_some_iff.1 hi).1;rw[List.getElem?_take,if_pos hj,List.getElem?_drop,← h7,List.getElem?_take,if_pos (by omega)] at hu;have:=B.cell (5*i+j) u hu;rw[Nat.zero_add];exact this
theorem Zb0 {S:Nat→Prop} {w:World} {base:Nat} {e:TypeId} {v:Value} {b:List Int} {n:Nat} (h:w.ownsRow base e 1 v n (u8s b)) (hn:b.length=n) (hv:∀ g,v.ownBlock=some g→S g) (c t:Int) (m:Bool):Dep S w (.mk c t m b []) [.int .i64 c,.int .i64 t,.bool m,v,.slice none 0 0]:=fun w' ha=>by
 subst hn;have h2:=Bs.of_own (Zbr h ha hv);rw[Zbg];exact ⟨v,none,0,rfl,h2,by simp,by decide,fun h0=>by simp at h0⟩
def Zbp (cs:List Value):Prop:=cs.toArray.all (·.oneCell')=true
theorem Zbg.ones {w:World}:∀ {T:Tl} {cs:List Value},Zbg w T cs→Zbp cs
 | .mk ..,cs,h=>by
  rw[Zbg] at h;obtain ⟨bv,ao,cap,rfl,hb,_⟩:=h;obtain ⟨bo,bc,rfl,_⟩:=hb;simp[Zbp,Value.oneCell']
theorem ZmJ {B:List Int} {a en c p:Nat} (h:ZfB B a en=.error (c,p)):c=6∨c=7:=by
 unfold ZfB at h
 split at h
 ·cases h;exact .inl rfl
 ·split at h
  ·cases h
  ·split at h
   ·cases h;exact .inr rfl
   ·split at h
    ·cases h;exact .inl rfl
    ·split at h
     ·cases h;exact .inr rfl
     ·cases h
theorem ZgN {f:Nat→Nat→Except (Nat × Nat) (Tl × Nat)} {stop c p:Nat} (hf:∀ x c p,f x stop=.error (c,p)→c=6∨c=7∨c=9):∀ {k x:Nat} {acc:List Tl},ZbQ f stop k x acc=.error (c,p)→c=6∨c=7∨c=9
 | 0,x,acc,h=>by rw[ZbQ] at h;cases h
 | k+1,x,acc,h=>by
  rw[ZbQ] at h
  split at h
  ·cases hq:f x stop with
   | error e=>rw[hq] at h;obtain ⟨c',p'⟩:=e;cases h;exact hf x _ _ hq
   | ok q=>rw[hq] at h;obtain ⟨t,y⟩:=q;exact ZgN hf h
  ·cases h
theorem ZgI {B:List Int}:∀ {d a en c p:Nat},Za6 B d a en=.error (c,p)→c=6∨c=7∨c=9
 | 0,a,en,c,p,h=>by rw[Za6] at h;cases h;exact .inr (.inr rfl)
 | d+1,a,en,c,p,h=>by
  rw[Za6] at h
  split at h
  ·cases h;exact .inl rfl
  ·split at h
   ·cases h;exact .inr (.inl rfl)
   ·cases hl:ZfB B (a+1) en with
    | error e =>
     rw[hl] at h;obtain ⟨c',p'⟩:=e
     cases h
     rcases ZmJ hl with h|h
     ·exact .inl h
     ·exact .inr (.inl h)
    | ok q =>
     obtain⟨n,f⟩:=q;rw[hl] at h;simp only at h
     split at h
     ·cases h;exact .inl rfl
     ·split at h
      ·cases hk:ZbQ (Za6 B d) (f+n) n f [] with
       | error e =>
        rw[hk] at h;obtain ⟨c',p'⟩:=e
        cases h
        exact ZgN (fun x c p hx=>ZgI hx) hk
       | ok q=>rw[hk] at h;obtain ⟨ks,z⟩:=q;cases h
      ·cases h
theorem Blk.grown {w w':World} {row:Option Nat} {g:Nat} {X:List Value} (B:Blk w g X) (hg:w.grownBy w' row) (hr:∀ k,row=some k→k≠g):Blk w' g X:=by
 obtain⟨t,ht⟩:=B;exact ⟨t,(hg.block g (Array.getElem?_eq_some_iff.1 ht).1 (fun e=>hr g e.symm rfl)).trans ht⟩
theorem Agr.grown {S:Nat→Prop} {w w':World} {row:Option Nat} (hg:w.grownBy w' row) (hs:∀ b,S b→row≠some b):Agr S w w':=⟨hg.size,fun b hb hl=>hg.block b hl (fun e=>hs b hb e.symm)⟩
theorem Zat {w:World} {base size:Nat} {e:TypeId} {v:Value} {n:Nat} {xs:List Value} {j:Nat} (h:w.ownsRow base e size v n xs) (hj:v.ownBlock=some j):base≤j∧j<w.heap.size:=by
 rcases h.2 with ⟨h1,_⟩|⟨g,c,cur,h1,h2,h3,_⟩
 ·rw[h1] at hj;simp[Value.ownBlock] at hj
 ·rw[h1] at hj
  simp only[Value.ownBlock,Option.some.injEq] at hj;subst hj;exact ⟨h2,(Array.getElem?_eq_some_iff.1 h3).1⟩
theorem Zad:Hid (∀ w:World,(zeroValue 57).run Tryz.prog w=.ok (.agg #[.int .i64 0,.int .i64 0,.bool false,.slice none 0 0,.slice none 0 0]) w):=fun w=>by kernel_rfl
theorem ZaI:(Tryz.prog.info? 57).map (fun i=>(i.zero,i.size,i.bytes))=some (some (.agg #[.int .i64 0,.int .i64 0,.bool false,.slice none 0 0,.slice none 0 0]),5,72):=by kernel_rfl
theorem Zap {i:Option TypeInfo} {z:Value} {n m:Nat} (h:i.map (fun i=>(i.zero,i.size,i.bytes))=some (some z,n,m)):∃ j,i=some j∧j.zero=some z∧j.size=n∧j.bytes=m:=by
 obtain⟨j,hj,e⟩:=Option.map_eq_some_iff.1 h;simp only[Prod.mk.injEq] at e;exact ⟨j,hj,e.1,e.2.1,e.2.2⟩
theorem five {cs:List Value} (h:cs.length=5):∃ a b c d e,cs=[a,b,c,d,e]:=by
 match cs,h with
 | [a,b,c,d,e],_=>exact ⟨a,b,c,d,e,rfl⟩
theorem Zay {cs:List Value} (h:cs.length=5):Instr.fill (fun i=>some (i*5,5)) ((Array.range (1*5)).map ((Value.agg #[.int .i64 0,.int .i64 0,.bool false,.slice none 0 0,.slice none 0 0]).cells[· % (Value.agg #[.int .i64 0,.int .i64 0,.bool false,.slice none 0 0,.slice none 0 0]).cells.size]!)) [(0,.agg cs.toArray)]=some cs.toArray:=by
 obtain⟨a,b,c,d,e,rfl⟩:=five h;kernel_rfl
theorem dpl {S:Nat→Prop} {w w':World} {T:Tl} {cs:List Value} (h:Hid (Dep S w T cs)) (hb:Below w.heap.size w w'):Hid (Dep S w' T cs):=(h.out.next (Agr.below hb) (fun _ h _=>h):Dep S w' T cs)
theorem dpm {S:Nat→Prop} {w w':World} {T:Tl} {cs:List Value} (h:Dep S w T cs) (hb:Below w.heap.size w w'):Dep S w' T cs:=h.next (Agr.below hb) (fun _ h _=>h)
theorem Zhi {w w':World} {T:Tl} {cs:List Value} (h:Hid (Zbg w T cs)) (hb:Below w.heap.size w w'):Hid (Zbg w' T cs):=h.out.later hb
theorem BsL {w w':World} {v:Value} {b:List Int} (h:Hid (Bs w v b)) (hb:Below w.heap.size w w'):Hid (Bs w' v b):=h.out.later hb
def ErAt (w:World) (c p:Nat) (er:Value):Prop:=(c=2∧er=.iface 53 (.int .i64 2))∨(¬ c=2∧∃ g,er=.iface 99 (.pointer (some ⟨g,0,none⟩))∧Blk w g [.int .i64 (p:Int),.iface 53 (.int .i64 (c:Int))])
def ZjF (n:Nat) (er:Value):Prop:=∀ g,er=.iface 99 (.pointer (some ⟨g,0,none⟩))→n≤g
def Zh0 (w w':World) (v:Value) (X:List Int):Prop:=∃ g o cap cur,v=.slice (some ⟨g,o,none⟩) X.length cap∧X.length≤cap∧cap≤maxLen∧w.heap.size≤g∧Blk w' g cur∧∀ j,j<X.length→cur[o+j]?=some (.int .u8 (X.getD j 0))
theorem Zh0.bs {w w':World} {v:Value} {X:List Int} (h:Zh0 w w' v X):Bs w' v X:=by
 obtain⟨g,o,cap,cur,rfl,h1,h2,h3,h4,h5⟩:=h;exact ⟨_,cap,rfl,h2,h1,fun _=>⟨g,o,rfl,h4.lt,fun j hj=>h4.cell _ _ (h5 j hj)⟩⟩
def WrAt (w w':World) (T:Tl) (v er:Value):Prop:=(wrN T=0→Zh0 w w' v (Zao T)∧er=.nilIface)∧(¬ wrN T=0→Bs w' v []∧er=.iface 53 (.int .i64 ((wrN T:Nat):Int)))
def nilT:Tl:=.mk 0 0 false [] []
theorem ZhJ (w:World):Zbg w nilT [.int .i64 0,.int .i64 0,.bool false,.slice none 0 0,.slice none 0 0]:=by
 unfold nilT;rw[Zbg];exact ⟨.slice none 0 0,none,0,rfl,⟨none,0,rfl,by decide,by decide,fun h=>by simp at h⟩,by simp,by decide,fun h=>by simp at h⟩
def Zaw (n:Nat):List Int:=[((48+n/10:Nat):Int),((48+n%10:Nat):Int)]
theorem ZoO {n:Nat} {w:World} (hn:n<100) :
  Calls Tryz.prog 130 #[.int .i64 (n:Int)] w fun e w'=>∃ v':Value,e=.returned v'∧Bs w' v' (Zaw n)∧Below w.heap.size w w':=by
 have t1:(n:Int).tdiv 10=((n/10:Nat):Int):=by rw[Int.tdiv_eq_ediv_of_nonneg (by omega)];omega
 have t2:(n:Int).tmod 10=((n%10:Nat):Int):=by rw[Int.tmod_eq_emod_of_nonneg (by omega)];omega
 have t3:(n:Int)/10=((n/10:Nat):Int):=by omega
 have t4:(n:Int)%10=((n%10:Nat):Int):=by omega
 have b1:n/10<10:=by omega
 have b2:n%10<10:=by omega
 have HT:Hid (Zaw n=[((48+n/10:Nat):Int),((48+n%10:Nat):Int)]):=rfl;obtain ⟨a,ha⟩:∃ a,n/10=a:=⟨_,rfl⟩;obtain ⟨c,hc⟩:∃ a,n%10=a:=⟨_,rfl⟩;obtain ⟨T,hT⟩:∃ T,Zaw n=T:=⟨_,rfl⟩;rw[ha] at t1 t3 b1 HT;rw[hc] at t2 t4 b2 HT;rw[hT] at HT;rw[hT];clear ha hc hT;have g1:IntKind.i64.wrap (48+(a:Int))=((48+a:Nat):Int):=by rw[IntKind.wrap_i64];omega
 have g2:IntKind.i64.wrap (48+(c:Int))=((48+c:Nat):Int):=by rw[IntKind.wrap_i64];omega
 have g3:IntKind.u8.wrap ((48+a:Nat):Int)=((48+a:Nat):Int):=by rw[IntKind.wrap_u8];omega
 have g4:IntKind.u8.wrap ((48+c:Nat):Int)=((48+c:Nat):Int):=by rw[IntKind.wrap_u8];omega
 obtain⟨p,hp⟩:∃ p:Int,((48+a:Nat):Int)=p:=⟨_,rfl⟩;obtain ⟨q,hq⟩:∃ p:Int,((48+c:Nat):Int)=p:=⟨_,rfl⟩;rw[hp] at g1 g3 HT;rw[hq] at g2 g4 HT;clear hp hq;have hT:=HT.out;subst hT;have own:=Zax w [.int .u8 p,.int .u8 q] 5 2 w.heap.size rfl (Nat.le_refl _) (by decide);have hbl:=bal w (.cells #[.int .u8 p,.int .u8 q] 5);have bs:Bs (w.alloc (.cells #[.int .u8 p,.int .u8 q] 5)) _ [p,q]:=Bs.of_own own;clear own;have HBS:Hid _:=bs;clear bs;go_enter Tryz.func130,Tryz.ntmps130;go_wp2_with fail;go_ret;exact ⟨_,rfl,HBS.out,hbl⟩
theorem feb (y:Nat):ZaR y 2=if y%400=0∨(y%4=0∧¬ y%100=0) then 29 else 28:=by
 unfold ZaR
 by_cases h:y%400=0∨(y%4=0∧¬ y%100=0)
 ·rw[if_pos ⟨rfl,h⟩,if_pos h]
 ·rw[if_neg (fun k=>h k.2),if_neg h];rfl
theorem Za2 {y m:Nat} (h:¬ m=2):ZaR y m=ZlW.getD (m-1) 0:=by
 unfold ZaR;rw[if_neg (fun k=>h k.1)]
theorem step4 (x:Nat):(x+1+3)/4=(x+3)/4+if x%4=0 then 1 else 0:=by split<;>omega
theorem ZlE (x:Nat):(x+1+99)/100=(x+99)/100+if x%100=0 then 1 else 0:=by split<;>omega
theorem ZlF (x:Nat):(x+1+399)/400=(x+399)/400+if x%400=0 then 1 else 0:=by split<;>omega
theorem leap3 (x:Nat):(if x%400=0∨(x%4=0∧¬ x%100=0) then 29 else 28)+(if x%100=0 then 1 else 0)=28+(if x%4=0 then 1 else 0)+(if x%400=0 then 1 else 0):=by
 have h1:x%400=0→x%100=0:=by omega
 have h2:x%100=0→x%4=0:=by omega
 by_cases c4:x%4=0
 ·by_cases c1:x%100=0
  ·by_cases c400:x%400=0
   ·simp[c4,c1,c400]
   ·simp[c4,c1,c400]
  ·have c400:¬ x%400=0:=fun k=>c1 (h1 k)
   simp[c4,c1,c400]
 ·have c1:¬ x%100=0:=fun k=>c4 (h2 k)
  have c400:¬ x%400=0:=fun k=>c1 (h1 k);simp[c4,c1,c400]
theorem ZhY (a:Nat):∀ n,ZeI a n+((a+3)/4+(a+399)/400)+(a+n+99)/100=365*n+((a+n+3)/4+(a+n+399)/400)+(a+99)/100
 | 0=>by rw[ZeI]
 | n+1=>by
  have ih:=ZhY a n;have l:=leap3 (a+n);rw[ZeI,feb,← Nat.add_assoc a n 1,step4,ZlE,ZlF];generalize ZeI a n=s at *;generalize (a+3)/4=p1 at *;generalize (a+399)/400=p2 at *;generalize (a+99)/100=p3 at *;generalize (a+n+3)/4=q1 at *;generalize (a+n+399)/400=q2 at *;generalize (a+n+99)/100=q3 at *;generalize (if (a+n)%400=0∨((a+n)%4=0∧¬ (a+n)%100=0) then 29 else 28)=e at *;generalize (if (a+n)%4=0 then 1 else 0)=e1 at *;generalize (if (a+n)%100=0 then 1 else 0)=e2 at *;generalize (if (a+n)%400=0 then 1 else 0)=e3 at *;omega
def Zmn (y:Nat):Int:=365*(y:Int)+(((y+3)/4:Nat):Int)+(((y+399)/400:Nat):Int)-(((y+99)/100:Nat):Int)
theorem Zbw (y m d:Nat):Zcr y m d=(Zmn y-719528+(ZdC y (m-1):Int)+(d:Int)-1)*86400:=by
 unfold Zcr Zmn
 by_cases h:1970≤y
 ·have e:=ZhY 1970 (y-1970)
  rw[show 1970+(y-1970)=y by omega] at e;have e0:ZeI y (1970-y)=0:=by rw[show 1970-y=0 by omega];rfl
  rw[e0];generalize ZeI 1970 (y-1970)=s at *;generalize ZdC y (m-1)=u at *;refine congrArg (fun z:Int=>z*86400) ?_;omega
 ·have e:=ZhY y (1970-y)
  rw[show y+(1970-y)=1970 by omega] at e;have e0:ZeI 1970 (y-1970)=0:=by rw[show y-1970=0 by omega];rfl
  rw[e0];generalize ZeI y (1970-y)=s at *;generalize ZdC y (m-1)=u at *;refine congrArg (fun z:Int=>z*86400) ?_;omega
theorem ZeV (y:Nat):Zmn (y+1)=Zmn y+337+(ZaR y 2:Nat):=by
 have l:=leap3 y;rw[feb];unfold Zmn;rw[step4,ZlE,ZlF];generalize (y+3)/4=q1 at *;generalize (y+399)/400=q2 at *;generalize (y+99)/100=q3 at *;generalize (if y%400=0∨(y%4=0∧¬ y%100=0) then 29 else 28)=e at *;generalize (if y%4=0 then 1 else 0)=e1 at *;generalize (if y%100=0 then 1 else 0)=e2 at *;generalize (if y%400=0 then 1 else 0)=e3 at *;omega
theorem Zki {y z:Nat} (h:y≤z):Zmn y≤Zmn z:=by
 induction z with
 | zero=>rw[show y=0 by omega];exact Int.le_refl _
 | succ z ih =>
  by_cases e:y=z+1
  ·rw[e];exact Int.le_refl _
  ·have:=ih (by omega)
   rw[ZeV];omega
theorem ZkK (y:Nat):ZdC y 12=337+ZaR y 2:=by
 simp only[ZdC];rw[Za2 (m:=1) (by decide),Za2 (m:=3) (by decide),Za2 (m:=4) (by decide),Za2 (m:=5) (by decide),Za2 (m:=6) (by decide),Za2 (m:=7) (by decide),Za2 (m:=8) (by decide),Za2 (m:=9) (by decide),Za2 (m:=10) (by decide),Za2 (m:=11) (by decide),Za2 (m:=12) (by decide)];show 0+31+ZaR y 2+31+30+31+30+31+31+30+31+30+31=_;omega
theorem ZkM {y m n:Nat} (h:m≤n):ZdC y m≤ZdC y n:=by
 induction n with
 | zero=>rw[show m=0 by omega];exact Nat.le_refl _
 | succ n ih =>
  by_cases e:m=n+1
  ·rw[e];exact Nat.le_refl _
  ·rw[ZdC]
   have:=ih (by omega);omega
theorem ZiA:Zcr 1950 1 1=-631152000:=by rw[Zbw];decide
theorem Znv:Zcr 9999 12 31=253402214400:=by
 rw[Zbw,show ZdC 9999 (12-1)=334 by decide]
 decide
def ZiQ (t:Int) (y m:Nat):Prop:=1950≤y∧y≤9999∧1≤m∧m≤12∧Zcr y m 1≤t∧t<Zcr y m 1+86400*(ZaR y m:Nat)
theorem Ze7 {y m:Nat} (h1:1≤m):Zcr y m 1+86400*(ZaR y m:Nat)=Zcr y (m+1) 1:=by
 rw[Zbw,Zbw,Ze3 h1];generalize ZdC y (m-1)=s;generalize ZaR y m=d;omega
theorem ZiB (y:Nat):Zcr y 13 1=Zcr (y+1) 1 1:=by
 rw[Zbw,Zbw,ZeV,show 13-1=12 from rfl,ZkK,show 1-1=0 from rfl,ZdC];generalize ZaR y 2=d;omega
theorem Zgh {y m n:Nat} (h:m≤n):Zcr y m 1≤Zcr y n 1:=by
 rw[Zbw,Zbw];have:=ZkM (y:=y) (show m-1≤n-1 by omega);omega
theorem Zlw {y z:Nat} (h:y≤z):Zcr y 1 1≤Zcr z 1 1:=by
 rw[Zbw,Zbw,show 1-1=0 from rfl,ZdC,ZdC];have:=Zki h;omega
def yS (t:Int):Nat→Nat→Nat
 | 0,y=>y
 | f+1,y=>if Zcr (y+1) 1 1≤t then yS t f (y+1) else y
def mS (t:Int) (y:Nat):Nat→Nat→Nat
 | 0,m=>m
 | f+1,m=>if m<12∧Zcr y (m+1) 1≤t then mS t y f (m+1) else m
def yOf (t:Int):Nat:=yS t 8050 1950
def mOf (t:Int) (y:Nat):Nat:=mS t y 12 1
theorem yS_is {t:Int} {y:Nat} (h1:Zcr y 1 1≤t) (h2:t<Zcr (y+1) 1 1):∀ f z,z≤y→y≤z+f→yS t f z=y
 | 0,z,a,b=>by rw[yS];omega
 | f+1,z,a,b=>by
  rw[yS]
  by_cases e:z=y
  ·rw[e,if_neg (by omega)]
  ·rw[if_pos (by have:=Zlw (show z+1≤y by omega);omega)]
   exact yS_is h1 h2 f (z+1) (by omega) (by omega)
theorem mS_is {t:Int} {y m:Nat} (hm:m≤12) (h1:Zcr y m 1≤t) (h2:m=12∨t<Zcr y (m+1) 1):∀ f z,z≤m→m≤z+f→mS t y f z=m
 | 0,z,a,b=>by rw[mS];omega
 | f+1,z,a,b=>by
  rw[mS]
  by_cases e:z=m
  ·rw[e,if_neg (by omega)]
  ·rw[if_pos ⟨by omega,by have:=Zgh (y:=y) (show z+1≤m by omega);omega⟩]
   exact mS_is hm h1 h2 f (z+1) (by omega) (by omega)
theorem ZmU {t:Int} {y m:Nat} (h:ZiQ t y m):yOf t=y∧mOf t y=m:=by
 obtain⟨h1,h2,h3,h4,h5,h6⟩:=h;have e1:Zcr y 1 1≤t:=Int.le_trans (Zgh h3) h5;have e2:t<Zcr (y+1) 1 1:=by
  rw[Ze7 h3] at h6;have:=Zgh (y:=y) (show m+1≤13 by omega);rw[ZiB] at this;omega
 exact⟨yS_is e1 e2 8050 1950 h1 (by omega),mS_is h4 h5 (.inr (by rw[← Ze7 h3];exact h6)) 12 1 h3 (by omega)⟩
theorem ZgS {t:Int} {y m:Nat} (h1:1950≤y) (h2:y≤9999) (h3:1≤m) (h4:m≤12) (h5:Zcr y m 1≤t) (h6:t<Zcr (y+1) 1 1) (h7:m=12∨t<Zcr y (m+1) 1):ZiQ t y m:=by
 refine⟨h1,h2,h3,h4,h5,?_⟩;rw[Ze7 h3];rcases h7 with e|e
 ·rw[e,ZiB];exact h6
 ·exact e
def Zdu (y m r:Nat):List Int:=(if 2049<y then Zaw (y/100) else [])++Zaw (y%100)++Zaw m++Zaw (1+r/86400)++Zaw (r/3600%24)++Zaw (r/60%60)++Zaw (r%60)++[90]
def ZlX (y:Nat):Int:=if 2049<y then 24 else 23
def ZaQ (t:Int):Except Nat (Int × List Int) :=
 if t < -631152000∨253402300799<t then .error 3
 else .ok (ZlX (yOf t),Zdu (yOf t) (mOf t (yOf t)) (t-Zcr (yOf t) (mOf t (yOf t)) 1).toNat)
theorem Zfa {t:Int} {y m:Nat} (h:ZiQ t y m) (h1:¬ t < -631152000) (h2:¬ 253402300799<t):ZaQ t=.ok (ZlX y,Zdu y m (t-Zcr y m 1).toNat):=by
 obtain⟨e1,e2⟩:=ZmU h;unfold ZaQ;rw[if_neg (by omega),e1,e2]
def ZcQ (k:Int):Bool:=decide (k=3) || decide (k=6) || decide (k=10) || decide (k=11)
def ZbB (p:Pn):Bool:=ZcQ p.1 && (match ZbF p.2 with|.ok _=>true|.error _=>false)
def Zcl (n:List Pn):Bool:=decide (n.length≤8) && n.all ZbB
def ZbY (p:Pn):Tl:=.mk 0 17 true [] [.mk 0 16 true [] [.mk 0 6 false [85,4,p.1] [],.mk 0 12 false p.2 []]]
def ZaH (n:List Pn):Tl:=.mk 0 16 true [] (n.map ZbY)
def ZcX (w:World) (n:List Pn) (e:Ending) (w':World):Prop :=
 (Zcl n=false→e=.returned (.tuple #[.agg #[.int .i64 0,.int .i64 0,.bool false,.slice none 0 0,.slice none 0 0],.iface 53 (.int .i64 1)])∧Below w.heap.size w w') ∧
 (Zcl n=true→∃ (kv:Value) (xs:List Value),e=.returned (.tuple #[.agg #[.int .i64 0,.int .i64 16,.bool true,.slice none 0 0,kv],.nilIface])∧w'.ownsRow w.heap.size 57 5 kv n.length xs∧(∀ (i:Nat) (t:Tl),(n.map ZbY)[i]?=some t→Dep (fun b=>w.heap.size≤b∧kv.ownBlock≠some b) w' t ((xs.drop (5*i)).take 5))∧Below w.heap.size w w')
theorem ZcX.tl {w w':World} {n:List Pn} {kv:Value} {xs:List Value} (h:w'.ownsRow w.heap.size 57 5 kv n.length xs) (hk:∀ (i:Nat) (t:Tl),(n.map ZbY)[i]?=some t→Dep (fun b=>w.heap.size≤b∧kv.ownBlock≠some b) w' t ((xs.drop (5*i)).take 5)):Dep (fun b=>w.heap.size≤b) w' (ZaH n) [.int .i64 0,.int .i64 16,.bool true,.slice none 0 0,kv] :=
 ZdV (ks:=n.map ZbY) (by rw[List.length_map];exact h) hk 0 16 true (fun _ h=>h.1) (fun g hg=>(Zat h hg).1)
def Zak (ks:List Tl):Tl:=.mk 0 16 true [] ks
def Zbf (tag:Int) (ks:List Tl):Tl:=.mk 2 tag true [] ks
def Zcm:Tl:=.mk 0 1 false [255] []
def ZdE:Except Nat (List Int)→List Int
 | .ok b=>b
 | .error _=>[]
def ZaV (l:List Int):Tl:=.mk 0 6 false (ZdE (ZaD l)) []
def Zc0:Tl:=Zak [ZaV [1,2,840,10045,4,3,3]]
def Zbe:Tl:=Zak [ZaV [1,2,840,10045,2,1],ZaV [1,3,132,0,34]]
def Zb2 (n:Nat):Nat:=128*(n%2)+64*(n/2%2)+32*(n/4%2)+16*(n/8%2)+8*(n/16%2)+4*(n/32%2)+2*(n/64%2)+n/128%2
def Zct:Nat→Nat→Nat
 | 0,_=>0
 | k+1,n=>if n%2=0 then 1+Zct k (n/2) else 0
def ZjD (n:Nat):List Int:=if Zb2 (n/256)=0 then [(Zct 8 (Zb2 n):Int),(Zb2 n:Int)] else [(Zct 8 (Zb2 (n/256)):Int),(Zb2 n:Int),(Zb2 (n/256):Int)]
def ZeA (n:Nat):Tl:=.mk 0 3 false (ZjD n) []
def ZaA (tag:Int) (l:List (List Pn)):Tl:=Zbf tag (l.map fun n=>Zak [Zbf 4 [ZaH n]])
noncomputable def wrB (T:Tl):List Int:=if wrN T=0 then Zao T else []
noncomputable def Zcf (kind:Int) (must:Bool) (T:Tl):Tl:=Zak ([ZaV [2,5,29,kind]]++(if must then [Zcm] else [])++[.mk 0 4 false (wrB T) []])
def Zd0 (n:List Int):Option Tl:=if n.length<1∨20<n.length∨n.getD 0 0=0 then none else some (.mk 0 2 false (ZdE (ZaK n)) [])
def ZcI (v:Int):Option Tl:=match ZaQ v with|.ok (a,b)=>some (.mk 0 a false b [])|.error _=>none
def Zcn (c:Ct):Prop:=c.odd=false∧¬ c.path < -1∧¬ (-1<c.path∧c.ca=false)∧¬ 2147483647<c.path∧¬ c.usage=0∧¬ c.usage < -1∧¬ 65535<c.usage∧c.uses.length≤8∧c.permit.length≤8∧c.exclude.length≤8∧(∀ l∈c.uses,∃ b,ZaD l=.ok b)∧(∀ n∈[c.issuer,c.subject]++c.permit++c.exclude,Zcl n=true)∧(∃ T,Zd0 c.serial=some T)∧(∃ T,ZcI c.frm=some T)∧(∃ T,ZcI c.til=some T)∧Zd5 c.kn c.kx c.ky∧c.kn=false
def Ziv (X Y:Int) (p:List Int):Prop:=∃ XB YB,XB.length=48∧byt XB∧beN XB=X∧YB.length=48∧byt YB∧beN YB=Y∧p=4::(XB++YB)
noncomputable def orT:Option Tl→Tl
 | some T=>T
 | none=>.mk 0 0 false [] []
def ZbD (c:Ct):List Tl:=(if c.ca=true then [Zcm] else [])++(if 0≤c.path then [.mk 0 2 false (ZdE (Zau c.path)) []] else [])
def ZaT (c:Ct):List Tl:=(if 0<c.permit.length then [ZaA 0 c.permit] else [])++(if 0<c.exclude.length then [ZaA 1 c.exclude] else [])
noncomputable def Zbl (c:Ct):List Tl:=[Zcf 19 true (Zak (ZbD c))]++(if 0<c.usage then [Zcf 15 true (ZeA c.usage.toNat)] else [])++(if 0<c.uses.length then [Zcf 37 false (Zak (c.uses.map ZaV))] else [])++(if 0<(ZaT c).length then [Zcf 30 true (Zak (ZaT c))] else [])
noncomputable def ZaX (c:Ct) (p:List Int):Tl :=
 Zak [Zbf 0 [.mk 0 2 false [2] []],orT (Zd0 c.serial),Zc0,ZaH c.issuer,Zak [orT (ZcI c.frm),orT (ZcI c.til)],ZaH c.subject,Zak [Zbe,.mk 0 3 false (0::p) []],Zbf 3 [Zak (Zbl c)]]
theorem Znc {p:Pn} (h:ZbB p=true):(0≤p.1∧p.1<256)∧p.2.length≤64:=by
 unfold ZbB ZcQ ZbF at h;simp only[Bool.and_eq_true,Bool.or_eq_true,decide_eq_true_eq] at h;refine ⟨by omega,?_⟩
 by_cases h64:64<p.2.length
 ·rw[if_pos h64] at h
  exact absurd h.2 (by simp)
 ·omega
theorem Zoz {n:List Pn} (h:Zcl n=true):n.length≤8∧∀ p∈n,ZbB p=true:=by
 unfold Zcl at h;rw[Bool.and_eq_true,List.all_eq_true] at h;exact ⟨of_decide_eq_true h.1,h.2⟩
theorem Zoy (n:Nat):(Zbq n).length≤4:=by
 unfold Zbq
 split
 ·simp
 ·split
  ·simp
  ·split<;>simp
theorem Zdj (c t:Int) (m:Bool) (b:List Int) (ks:List Tl):(Zao (.mk c t m b ks)).length≤5+b.length+(Zam ks).length:=by
 rw[Zao];have:=Zoy (b++Zam ks).length;simp only[List.length_cons,List.length_append] at this ⊢;omega
theorem ZjT {p:Pn} (h:p.2.length≤64):(Zao (ZbY p)).length≤100:=by
 unfold ZbY;have e0:Zam []=[]:=by rw[Zam]
 have h1:=Zdj 0 17 true [] [.mk 0 16 true [] [.mk 0 6 false [85,4,p.1] [],.mk 0 12 false p.2 []]];have h2:=Zdj 0 16 true [] [.mk 0 6 false [85,4,p.1] [],.mk 0 12 false p.2 []];have h3:=Zdj 0 6 false [85,4,p.1] [];have h4:=Zdj 0 12 false p.2 [];rw[Zam,Zam,List.append_nil] at h1;rw[Zam,Zam,Zam,List.append_nil,List.length_append] at h2;rw[e0] at h3 h4;simp only[List.length_cons,List.length_nil] at h1 h2 h3 h4;omega
theorem Zfo:∀ {n:List Pn},(∀ p∈n,ZbB p=true)→(Zam (n.map ZbY)).length≤100*n.length
 | [],_=>by rw[List.map_nil,Zam];simp
 | p::n,h=>by
  have h1:=Zfo (n:=n) (fun q hq=>h q (List.mem_cons_of_mem _ hq));have h2:=ZjT (Znc (h p (List.mem_cons_self ..))).2;rw[List.map_cons,Zam,List.length_append,List.length_cons];omega
theorem Zmz (p:Pn):Za1 (ZbY p)=true:=by
 unfold ZbY;simp[Za1,ZaU,Zbu]
theorem ZgL:∀ n:List Pn,ZaU (n.map ZbY)=true
 | []=>by rw[List.map_nil,ZaU]
 | p::n=>by rw[List.map_cons,ZaU,Zmz,ZgL n];rfl
theorem Zok (p:Pn):Zc1 (ZbY p)=3:=by
 unfold ZbY;simp[Zc1,Zb7]
theorem Zia:∀ n:List Pn,Zb7 (n.map ZbY)≤3
 | []=>by rw[List.map_nil,Zb7];omega
 | p::n=>by
  have:=Zia n;rw[List.map_cons,Zb7,Zok];omega
theorem sz_set (p:Pn):szT (ZbY p)=4:=by
 unfold ZbY;simp[szT,szL]
theorem ZlH:∀ n:List Pn,szL (n.map ZbY)=4*n.length
 | []=>by rw[List.map_nil,szL];rfl
 | p::n=>by rw[List.map_cons,szL,sz_set,ZlH n,List.length_cons];omega
theorem Zo4 (n:List Pn):szT (ZaH n)=1+4*n.length:=by
 unfold ZaH;rw[szT,ZlH]
def Sm (B:Nat) (T:Tl):Prop:=(Zao T).length≤B∧szT T≤B
def ZaP (B:Nat) (ks:List Tl):Prop:=(Zam ks).length≤B∧szL ks≤B
theorem Sm.le {A B:Nat} {T:Tl} (h:Sm A T) (k:A≤B):Sm B T:=⟨Nat.le_trans h.1 k,Nat.le_trans h.2 k⟩
theorem ZaP.le {A B:Nat} {ks:List Tl} (h:ZaP A ks) (k:A≤B):ZaP B ks:=⟨Nat.le_trans h.1 k,Nat.le_trans h.2 k⟩
theorem ZaP.nil:ZaP 0 []:=⟨by simp[Zam],by simp[szL]⟩
theorem ZaP.cons {A B:Nat} {k:Tl} {ks:List Tl} (h:Sm A k) (hs:ZaP B ks):ZaP (A+B) (k::ks):=by
 refine⟨?_,?_⟩
 ·rw[Zam,List.length_append]
  exact Nat.add_le_add h.1 hs.1
 ·rw[szL]
  exact Nat.add_le_add h.2 hs.2
theorem ZaP.one {A:Nat} {k:Tl} (h:Sm A k):ZaP A [k]:=h.1 |> fun _=>ZaP.le (ZaP.cons h ZaP.nil) (by omega)
theorem ZaP.app {A B:Nat}:∀ {ks ls:List Tl},ZaP A ks→ZaP B ls→ZaP (A+B) (ks++ls)
 | [],ls,_,h2=>h2.le (by omega)
 | k::ks,ls,h1,h2=>by
  have hb:(Zao k).length+(Zam ks).length≤A:=by have:=h1.1;rwa [Zam,List.length_append] at this
  have hz:szT k+szL ks≤A:=by have:=h1.2;rwa [szL] at this
  have ih:=ZaP.app (A:=A-min (Zao k).length (szT k)) (ks:=ks) (ls:=ls) ⟨by omega,by omega⟩ h2;refine ⟨?_,?_⟩
  ·rw[List.cons_append,Zam,List.length_append]
   have e:∀ ks ls:List Tl,(Zam (ks++ls)).length=(Zam ks).length+(Zam ls).length:=by
    intro ks ls
    induction ks with
    | nil=>simp[Zam]
    | cons k ks ih=>rw[List.cons_append,Zam,Zam,List.length_append,List.length_append,ih];omega
   rw[e];have:=h2.1;omega
  ·rw[List.cons_append,szL]
   have e:∀ ks ls:List Tl,szL (ks++ls)=szL ks+szL ls:=by
    intro ks ls
    induction ks with
    | nil=>simp[szL]
    | cons k ks ih=>rw[List.cons_append,szL,szL,ih];omega
   rw[e];have:=h2.2;omega
theorem ZaP.map {α:Type} {A:Nat} {f:α→Tl}:∀ {L:List α},(∀ x∈L,Sm A (f x))→ZaP (A*L.length) (L.map f)
 | [],_=>ZaP.nil.le (Nat.zero_le _)
 | x::L,h=>by
  rw[List.map_cons];refine (ZaP.cons (h x (List.mem_cons_self)) (ZaP.map (fun y hy=>h y (List.mem_cons_of_mem _ hy)))).le ?_;rw[List.length_cons,Nat.mul_succ];omega
theorem ZoZ {B n:Nat} {c t:Int} {m:Bool} {b:List Int} {ks:List Tl} (h:ZaP B ks) (hb:b.length≤n):Sm (5+n+B) (.mk c t m b ks):=by
 refine⟨?_,?_⟩
 ·have:=Zdj c t m b ks
  have:=h.1;omega
 ·rw[szT]
  have:=h.2;omega
theorem Zcv {n:Nat} {c t:Int} {m:Bool} {b:List Int} (hb:b.length≤n):Sm (5+n) (.mk c t m b []):=ZoZ ZaP.nil hb
theorem ZaZ {B:Nat} {ks:List Tl} (h:ZaP B ks):Sm (5+B) (Zak ks):=ZoZ (n:=0) h (by simp)
theorem ZiH {B:Nat} {tag:Int} {ks:List Tl} (h:ZaP B ks):Sm (5+B) (Zbf tag ks):=ZoZ (n:=0) h (by simp)
theorem ZkV {l b:List Int} (h:ZaD l=.ok b):b.length≤150:=by
 unfold ZaD at h
 split at h
 ·cases h
 ·rename_i k
  split at h
  ·cases h
  ·cases h
   have h1:=ZfQ (Za5 l);have h2:=ZbS (L:=l) (by omega);omega
theorem ZfL (l:List Int):Sm 155 (ZaV l):=by
 refine Zcv (n:=150) ?_
 cases h:ZaD l with
 | ok b=>exact ZkV h
 | error c=>simp[ZdE]
theorem ZiI:Sm 6 Zcm:=Zcv (n:=1) (by decide)
theorem ZhS {n:List Pn} (h:Zcl n=true):Sm 805 (ZaH n):=by
 obtain⟨h1,h2⟩:=Zoz h;refine ⟨?_,?_⟩
 ·have h3:=Zdj 0 16 true [] (n.map ZbY)
  have h4:=Zfo h2;have:(Zao (ZaH n)).length≤5+0+(Zam (n.map ZbY)).length:=h3;omega
 ·rw[Zo4];omega
theorem ZeH {tag:Int} {l:List (List Pn)} (hl:l.length≤8) (h:∀ n∈l,Zcl n=true):Sm 6525 (ZaA tag l):=by
 have:ZaP (815*l.length) (l.map fun n=>Zak [Zbf 4 [ZaH n]]):=ZaP.map (fun n hn=>ZaZ (ZaP.one (ZiH (ZaP.one (ZhS (h n hn))))));exact (ZiH this).le (by omega)
theorem Zpg (T:Tl):(wrB T).length≤(Zao T).length:=by
 unfold wrB
 split
 ·exact Nat.le_refl _
 ·simp
theorem ZiG {k:Int} {m:Bool} {T:Tl} {B:Nat} (h:Sm B T):Sm (176+B) (Zcf k m T):=by
 have h1:ZaP 6 (if m then [Zcm] else []):=by
  cases m
  ·exact ZaP.nil.le (by omega)
  ·exact ZaP.one ZiI
 have h2:Sm (5+B) (.mk 0 4 false (wrB T) []):=Zcv (Nat.le_trans (Zpg T) h.1);exact (ZaZ (ZaP.app (ZaP.app (ZaP.one (ZfL _)) h1) (ZaP.one h2))).le (by omega)
theorem Ze4 {n b:List Int} (h:ZaK n=.ok b):b.length≤n.length+1:=by
 have hz:∀ X:List Int,(Za4 X).length≤X.length:=by
  intro X
  induction X with
  | nil=>simp[Za4]
  | cons x X ih =>
   rw[Za4]
   split
   ·rw[List.length_cons];omega
   ·exact Nat.le_refl _
 have:=hz n;unfold ZaK at h
 split at h
 ·cases h
 ·split at h
  ·cases h
   rw[List.length_cons];omega
  ·cases h
   omega
theorem sm_ser {n:List Int} {T:Tl} (h:Zd0 n=some T):Sm 26 T:=by
 unfold Zd0 at h
 split at h
 ·cases h
 ·rename_i k
  cases h
  refine Zcv (n:=21) ?_
  cases hn:ZaK n with
  | ok b=>have:=Ze4 hn;simp only[ZdE];omega
  | error c=>simp[ZdE]
theorem Zn5 {t:Int} {T:Tl} (h:ZcI t=some T):Sm 20 T:=by
 unfold ZcI at h
 cases ht:ZaQ t with
 | error c=>rw[ht] at h;cases h
 | ok q =>
  obtain⟨a,b⟩:=q;rw[ht] at h
  cases h
  refine Zcv (n:=15) ?_;unfold ZaQ at ht
  split at ht
  ·cases ht
  ·cases ht
   unfold Zdu Zaw
   split<;>simp
theorem ZnM (n:Nat):(ZjD n).length≤3:=by
 unfold ZjD
 split<;>simp
theorem Zg7 (n:Nat):Sm 8 (ZeA n):=Zcv (ZnM n)
theorem Zgj (c:Ct):ZaP 16 (ZbD c):=by
 have h1:ZaP 6 (if c.ca=true then [Zcm] else []):=by
  split
  ·exact ZaP.one ZiI
  ·exact ZaP.nil.le (by omega)
 have h2:ZaP 10 (if 0≤c.path then [Tl.mk 0 2 false (ZdE (Zau c.path)) []] else []):=by
  split
  ·refine ZaP.one (Zcv (n:=5) ?_)
   cases hs:Zau c.path with
   | error e=>simp[ZdE]
   | ok b =>
    unfold Zau at hs
    split at hs
    ·cases hs
    ·have:=Ze4 hs
     have:=ZdT 4 c.path.toNat [];simp only[ZdE,List.length_nil] at *;omega
  ·exact ZaP.nil.le (by omega)
 exact ZaP.app h1 h2
theorem Zcn.lims {c:Ct} (h:Zcn c):c.uses.length≤8∧c.permit.length≤8∧c.exclude.length≤8∧(∀ n∈[c.issuer,c.subject]++c.permit++c.exclude,Zcl n=true):=⟨h.2.2.2.2.2.2.2.1,h.2.2.2.2.2.2.2.2.1,h.2.2.2.2.2.2.2.2.2.1,h.2.2.2.2.2.2.2.2.2.2.2.1⟩
theorem Zcn.nm {c:Ct} (h:Zcn c):Zcl c.issuer=true∧Zcl c.subject=true∧(∀ n∈c.permit,Zcl n=true)∧(∀ n∈c.exclude,Zcl n=true) :=
 ⟨h.lims.2.2.2 _ (by simp),h.lims.2.2.2 _ (by simp),fun n hn=>h.lims.2.2.2 n (by simp[hn]),fun n hn=>h.lims.2.2.2 n (by simp[hn])⟩
theorem Ze8 {c:Ct} (h:Zcn c):ZaP 13050 (ZaT c):=by
 obtain⟨-,h1,h2,-⟩:=h.lims;obtain ⟨-,-,h3,h4⟩:=h.nm;have a:ZaP 6525 (if 0<c.permit.length then [ZaA 0 c.permit] else []):=by
  split
  ·exact ZaP.one (ZeH h1 h3)
  ·exact ZaP.nil.le (by omega)
 have b:ZaP 6525 (if 0<c.exclude.length then [ZaA 1 c.exclude] else []):=by
  split
  ·exact ZaP.one (ZeH h2 h4)
  ·exact ZaP.nil.le (by omega)
 exact ZaP.app a b
theorem ZhT {c:Ct} (h:Zcn c):ZaP 1240 (c.uses.map ZaV):=(ZaP.map (fun l _=>ZfL l)).le (by have:=h.lims.1;omega)
theorem Zo0 {c:Ct} (h:Zcn c):ZaP 20000 (Zbl c):=by
 have a:ZaP 197 [Zcf 19 true (Zak (ZbD c))]:=ZaP.one ((ZiG (ZaZ (Zgj c))).le (by omega));have b:ZaP 184 (if 0<c.usage then [Zcf 15 true (ZeA c.usage.toNat)] else []):=by
  split
  ·exact ZaP.one (ZiG (Zg7 _))
  ·exact ZaP.nil.le (by omega)
 have d:ZaP 1421 (if 0<c.uses.length then [Zcf 37 false (Zak (c.uses.map ZaV))] else []):=by
  split
  ·exact ZaP.one ((ZiG (ZaZ (ZhT h))).le (by omega))
  ·exact ZaP.nil.le (by omega)
 have e:ZaP 13231 (if 0<(ZaT c).length then [Zcf 30 true (Zak (ZaT c))] else []):=by
  split
  ·exact ZaP.one ((ZiG (ZaZ (Ze8 h))).le (by omega))
  ·exact ZaP.nil.le (by omega)
 exact(ZaP.app (ZaP.app (ZaP.app a b) d) e).le (by omega)
theorem ZhR {c:Ct} {p:List Int} (h:Zcn c) (hp:p.length=97):Sm 30000 (ZaX c p):=by
 obtain⟨hi,hj,-,-⟩:=h.nm;obtain ⟨S,hS⟩:=h.2.2.2.2.2.2.2.2.2.2.2.2.1;obtain ⟨F,hF⟩:=h.2.2.2.2.2.2.2.2.2.2.2.2.2.1;obtain ⟨T,hT⟩:=h.2.2.2.2.2.2.2.2.2.2.2.2.2.2.1;unfold ZaX;rw[hS,hF,hT];have k0:Sm 11 (Zbf 0 [Tl.mk 0 2 false [2] []]):=ZiH (ZaP.one (Zcv (n:=1) (by decide)));have k2:Sm 160 Zc0:=ZaZ (ZaP.one (ZfL _));have k4:Sm 45 (Zak [F,T]):=(ZaZ (ZaP.cons (Zn5 hF) (ZaP.one (Zn5 hT)))).le (by omega);have kc:Sm 315 Zbe:=(ZaZ (ZaP.cons (ZfL _) (ZaP.one (ZfL _)))).le (by omega);have k6:Sm 423 (Zak [Zbe,Tl.mk 0 3 false (0::p) []]):=(ZaZ (ZaP.cons kc (ZaP.one (Zcv (n:=98) (by rw[List.length_cons];omega))))).le (by omega);have k7:Sm 20010 (Zbf 3 [Zak (Zbl c)]):=(ZiH (ZaP.one (ZaZ (Zo0 h)))).le (by omega);exact (ZaZ (ZaP.cons k0 (ZaP.cons (sm_ser hS) (ZaP.cons k2 (ZaP.cons (ZhS hi) (ZaP.cons k4 (ZaP.cons (ZhS hj) (ZaP.cons k6 (ZaP.one k7))))))))).le (by omega)
end Go.Proofs.YtdfmoghjimghhaaGreatDoor
