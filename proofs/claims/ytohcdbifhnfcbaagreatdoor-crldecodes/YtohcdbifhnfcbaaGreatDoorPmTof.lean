import Derived.Test.YtohcdbifhnfcbaaGreatDoorPmNG
import Derived.Test.YtohcdbifhnfcbaaGreatDoorBase
import Derived.Test.YtohcdbifhnfcbaaGreatDoorRows
import Derived.Deep.OwnRows
import Derived.Deep.AppendLies
import Derived.Deep.WholeRow
import Derived.Deep.RegionHeld3
import Derived.Deep.DeepCutAuto
import Derived.Deep.DeepFit
namespace Go.Proofs.YtohcdbifhnfcbaaGreatDoor
open Go.RowKit
set_option linter.unusedSimpArgs false
set_option maxRecDepth 100000
set_option maxHeartbeats 8000000
def Za3:List Int→Int→Int
 | [],v=>v
 | x::xs,v=>if x<48∨57<x then -1 else Za3 xs (10*v+(x-48))
theorem ZlY {n:List Int} {i:Nat} (h:i<n.length) (v:Int):Za3 (n.drop i) v=if n.getD i 0<48∨57<n.getD i 0 then -1 else Za3 (n.drop (i+1)) (10*v+(n.getD i 0-48)):=by
 rw[List.drop_eq_getElem_cons h,Za3];have e:n.getD i 0=n[i]:=by simp[List.getD_eq_getElem?_getD,h]
 rw[e]
theorem ten_le {i:Nat} (h:i≤14):(10:Int) ^ i≤100000000000000:=by
 have hi:i=0∨i=1∨i=2∨i=3∨i=4∨i=5∨i=6∨i=7∨i=8∨i=9∨i=10∨i=11∨i=12∨i=13∨i=14:=by omega
 rcases hi with rfl|rfl|rfl|rfl|rfl|rfl|rfl|rfl|rfl|rfl|rfl|rfl|rfl|rfl|rfl<;>decide
theorem ZaD {v:Value} {B:List Int} {w:World} (hv:Bs w v B) (b:byt B) (hl:B.length≤14) :
  Calls Tryz.prog 118 #[v] w fun e w'=>e=.returned (.int .i64 (Za3 B 0))∧w'=w:=by
 have HB:Hid (byt B):=b;obtain ⟨ao,cap,rfl,h1,h2,h3⟩:=hv;obtain ⟨N,hN⟩:∃ N,B.length=N:=⟨_,rfl⟩;have HN:Hid (B.length=N):=hN;rw[hN] at h2 h3 hl ⊢;have HC:Hid (∀ j,j<N→∃ g o,ao=some ⟨g,o,none⟩∧w.cell? ⟨g,o+j,none⟩=some (.int .u8 (B.getD j 0))∧g<w.heap.size):=fun j hj=>by
  obtain⟨g,o,e1,e2,e3⟩:=h3 (by omega);exact ⟨g,o,e1,e3 j hj,e2⟩
 unfold maxLen at h1;obtain ⟨r,hr⟩:∃ r,Za3 B 0=r:=⟨_,rfl⟩;have HR:Hid (Za3 B 0=r):=hr;rw[hr];clear b h3 hN hr;go_enter Tryz.func118,Tryz.ntmps118;go_wp2_with fail;go_loop [3,4] (fun vv iv=>∃ (i:Nat) (x:Int),i≤N∧iv=.int .i64 (i:Int)∧vv=.int .i64 x∧Hid (0≤x∧x<10 ^ i)∧Hid (Za3 (B.drop i) x=r)) (fun _ iv=>N-(intOf iv).toNat)
 case atStart=>exact ⟨0,0,by omega,rfl,rfl,by show _∧_;decide,HR⟩
 case round =>
  obtain⟨i,x,hi,rfl,rfl,HX,HE⟩:=hrel
  by_cases hil:i<N
  ·have k1:(i:Int)<(N:Int):=by omega
   have k2:(0:Int)≤(i:Int):=by omega
   have gi:IntKind.i64.wrap ((i:Int)+1)=(i:Int)+1:=by rw[IntKind.wrap_i64];omega
   obtain⟨g,o,rfl,cy,lg⟩:=HC.out i hil;have yb:=HB.out i;have HE2:=HE.out;rw[ZlY (by rw[HN.out];exact hil)] at HE2;obtain ⟨y,hy⟩:∃ y,B.getD i 0=y:=⟨_,rfl⟩;rw[hy] at cy yb HE2;replace HE2:Hid _:=HE2;clear hy
   by_cases d1:y<48
   ·have H:r=-1:=by rw[← HE2.out,if_pos (.inl d1)]
    subst H;go_wp2_with fail;go_ret;exact ⟨rfl,rfl⟩
   by_cases d2:57<y
   ·have H:r=-1:=by rw[← HE2.out,if_pos (.inr d2)]
    subst H;go_wp2_with fail;go_ret;exact ⟨rfl,rfl⟩
   have HE3:Hid (Za3 (B.drop (i+1)) (10*x+(y-48))=r):=by show _=_;rw[← HE2.out,if_neg (by omega)]
   have HX2:Hid (0≤10*x+(y-48)∧10*x+(y-48)<10 ^ (i+1)):=by
    have:=HX.out;show _∧_;rw[Int.pow_succ];omega
   have hx:=HX.out;have ht:=ten_le (by omega:i≤14);have hx2:0≤x∧x<100000000000000:=by omega
   clear hx ht HX HE HE2;have w1:IntKind.u8.wrap (y-48)=y-48:=by rw[IntKind.wrap_u8];omega
   have w2:IntKind.i64.wrap (y-48)=y-48:=by rw[IntKind.wrap_i64];omega
   have w3:IntKind.i64.wrap (10*x)=10*x:=by rw[IntKind.wrap_i64];omega
   have w4:IntKind.i64.wrap (10*x+(y-48))=10*x+(y-48):=by rw[IntKind.wrap_i64];omega
   go_wp2_with fail;go_round
   case rel=>exact ⟨i+1,10*x+(y-48),by omega,by go_num,rfl,HX2,HE3⟩
   case measure=>simp[intOf];omega
  ·have k1:¬ (i:Int)<(N:Int):=by omega
   have H:r=x:=by
    have:=HE.out;rw[List.drop_of_length_le (by rw[HN.out];omega),Za3] at this;exact this.symm
   subst H;go_wp2_with fail;go_ret;exact ⟨rfl,rfl⟩
def ZnT:List Nat:=[31,28,31,30,31,30,31,31,30,31,30,31]
def ZaP (y m:Nat):Nat:=if m=2∧(y%400=0∨(y%4=0∧¬ y%100=0)) then 29 else ZnT.getD (m-1) 0
theorem ZqM {m:Nat} (h1:1≤m) (h2:m≤12):([.int .i64 31,.int .i64 28,.int .i64 31,.int .i64 30,.int .i64 31,.int .i64 30,.int .i64 31,.int .i64 31,.int .i64 30,.int .i64 31,.int .i64 30,.int .i64 31]:List Value)[m-1]?=some (.int .i64 ((ZnT.getD (m-1) 0:Nat):Int)):=by
 have hi:m=1∨m=2∨m=3∨m=4∨m=5∨m=6∨m=7∨m=8∨m=9∨m=10∨m=11∨m=12:=by omega
 rcases hi with rfl|rfl|rfl|rfl|rfl|rfl|rfl|rfl|rfl|rfl|rfl|rfl<;>rfl
theorem Zdn {y m:Nat}:ZaP y m≤31:=by
 unfold ZaP
 split
 ·decide
 ·by_cases h:m-1<12
  ·have hi:m-1=0∨m-1=1∨m-1=2∨m-1=3∨m-1=4∨m-1=5∨m-1=6∨m-1=7∨m-1=8∨m-1=9∨m-1=10∨m-1=11:=by omega
   rcases hi with e|e|e|e|e|e|e|e|e|e|e|e<;>rw[e]<;>decide
  ·have hl:ZnT.length≤m-1:=by have:ZnT.length=12:=rfl;omega
   rw[List.getD_eq_getElem?_getD,List.getElem?_eq_none hl];decide
theorem ZdL {y m:Nat} {w:World} (hy:y≤1000000) (h1:1≤m) (h2:m≤12) :
  Calls Tryz.prog 119 #[.int .i64 (y:Int),.int .i64 (m:Int)] w fun e w'=>e=.returned (.int .i64 ((ZaP y m:Nat):Int))∧Below w.heap.size w w':=by
 have t1:(y:Int).tmod 400=((y%400:Nat):Int):=by rw[Int.tmod_eq_emod_of_nonneg (by omega)];omega
 have t2:(y:Int).tmod 4=((y%4:Nat):Int):=by rw[Int.tmod_eq_emod_of_nonneg (by omega)];omega
 have t3:(y:Int).tmod 100=((y%100:Nat):Int):=by rw[Int.tmod_eq_emod_of_nonneg (by omega)];omega
 have HD:Hid (ZaP y m=if m=2∧(y%400=0∨(y%4=0∧¬ y%100=0)) then 29 else ZnT.getD (m-1) 0):=rfl;obtain ⟨r,hr⟩:∃ r,ZaP y m=r:=⟨_,rfl⟩;rw[hr] at HD;rw[hr];have t4:((y:Int)%400)=((y%400:Nat):Int):=by omega
 have t5:((y:Int)%4)=((y%4:Nat):Int):=by omega
 have t6:((y:Int)%100)=((y%100:Nat):Int):=by omega
 obtain⟨a,ha⟩:∃ a,y%400=a:=⟨_,rfl⟩;obtain ⟨b,hb⟩:∃ a,y%4=a:=⟨_,rfl⟩;obtain ⟨c,hc⟩:∃ a,y%100=a:=⟨_,rfl⟩;rw[ha] at t1 t4 HD;rw[hb] at t2 t5 HD;rw[hc] at t3 t6 HD;have i1:IntKind.i64.wrap ((m:Int)-1)=((m-1:Nat):Int):=by rw[IntKind.wrap_i64];omega
 have i2:((m-1:Nat):Int)<12:=by omega
 have i3:(0:Int)≤((m-1:Nat):Int):=by omega
 have BT:=Blk.new w [.int .i64 31,.int .i64 28,.int .i64 31,.int .i64 30,.int .i64 31,.int .i64 30,.int .i64 31,.int .i64 31,.int .i64 30,.int .i64 31,.int .i64 30,.int .i64 31] 3 w.heap.size rfl;have cm:=BT.cell (m-1) _ (ZqM h1 h2);have hbl:=bal w (.cells [.int .i64 31,.int .i64 28,.int .i64 31,.int .i64 30,.int .i64 31,.int .i64 30,.int .i64 31,.int .i64 31,.int .i64 30,.int .i64 31,.int .i64 30,.int .i64 31].toArray 3);have e1:(a:Int)=0↔a=0:=by omega
 have e2:(b:Int)=0↔b=0:=by omega
 have e3:(c:Int)=0↔c=0:=by omega
 have e4:(m:Int)=2↔m=2:=by omega
 clear ha hb hc hr BT
 by_cases c4:m=2
 ·subst c4
  by_cases c1:a=0
  ·have H:r=29:=by rw[HD.out,if_pos ⟨rfl,.inl c1⟩]
   have k0:=e1.2 c1;have j0:((a:Int) == 0)=true:=by rw[k0];rfl
   have l0:((a:Int) != 0)=false:=by rw[bne,j0];rfl
   clear e1 e2 e3 e4 HD;subst H;go_enter Tryz.func119,Tryz.ntmps119;go_wp2_with fail;go_ret;exact ⟨rfl,hbl⟩
  by_cases c2:b=0
  ·by_cases c3:c=0
   ·have H:r=28:=by rw[HD.out,if_neg (by rintro ⟨_,h|⟨_,h⟩⟩;exact c1 h;exact h c3)];rfl
    have k0:=mt e1.1 c1;have j0:((a:Int) == 0)=false:=by simpa using k0
    have l0:((a:Int) != 0)=true:=by rw[bne,j0];rfl
    have k1:=e2.2 c2;have j1:((b:Int) == 0)=true:=by rw[k1];rfl
    have l1:((b:Int) != 0)=false:=by rw[bne,j1];rfl
    have k2:=e3.2 c3;have j2:((c:Int) == 0)=true:=by rw[k2];rfl
    have l2:((c:Int) != 0)=false:=by rw[bne,j2];rfl
    clear e1 e2 e3 e4 HD;subst H;go_enter Tryz.func119,Tryz.ntmps119;go_wp2_with fail;go_ret;exact ⟨rfl,hbl⟩
   ·have H:r=29:=by rw[HD.out,if_pos ⟨rfl,.inr ⟨c2,c3⟩⟩]
    have k0:=mt e1.1 c1;have j0:((a:Int) == 0)=false:=by simpa using k0
    have l0:((a:Int) != 0)=true:=by rw[bne,j0];rfl
    have k1:=e2.2 c2;have j1:((b:Int) == 0)=true:=by rw[k1];rfl
    have l1:((b:Int) != 0)=false:=by rw[bne,j1];rfl
    have k2:=mt e3.1 c3;have j2:((c:Int) == 0)=false:=by simpa using k2
    have l2:((c:Int) != 0)=true:=by rw[bne,j2];rfl
    clear e1 e2 e3 e4 HD;subst H;go_enter Tryz.func119,Tryz.ntmps119;go_wp2_with fail;go_ret;exact ⟨rfl,hbl⟩
  ·have H:r=28:=by rw[HD.out,if_neg (by rintro ⟨_,h|⟨h,_⟩⟩;exact c1 h;exact c2 h)];rfl
   have k0:=mt e1.1 c1;have j0:((a:Int) == 0)=false:=by simpa using k0
   have l0:((a:Int) != 0)=true:=by rw[bne,j0];rfl
   have k1:=mt e2.1 c2;have j1:((b:Int) == 0)=false:=by simpa using k1
   have l1:((b:Int) != 0)=true:=by rw[bne,j1];rfl
   clear e1 e2 e3 e4 HD;subst H;go_enter Tryz.func119,Tryz.ntmps119;go_wp2_with fail;go_ret;exact ⟨rfl,hbl⟩
 by_cases c1:a=0
 ·have H:r=ZnT.getD (m-1) 0:=by rw[HD.out,if_neg (fun h=>c4 h.1)]
  have k0:=mt e4.1 c4;have k1:=e1.2 c1;have j1:((a:Int) == 0)=true:=by rw[k1];rfl
  have l1:((a:Int) != 0)=false:=by rw[bne,j1];rfl
  clear e1 e2 e3 e4 HD;subst H;go_enter Tryz.func119,Tryz.ntmps119;go_wp2_with fail;go_ret;exact ⟨rfl,hbl⟩
 by_cases c2:b=0
 ·by_cases c3:c=0
  ·have H:r=ZnT.getD (m-1) 0:=by rw[HD.out,if_neg (fun h=>c4 h.1)]
   have k0:=mt e4.1 c4;have k1:=mt e1.1 c1;have j1:((a:Int) == 0)=false:=by simpa using k1
   have l1:((a:Int) != 0)=true:=by rw[bne,j1];rfl
   have k2:=e2.2 c2;have j2:((b:Int) == 0)=true:=by rw[k2];rfl
   have l2:((b:Int) != 0)=false:=by rw[bne,j2];rfl
   have k3:=e3.2 c3;have j3:((c:Int) == 0)=true:=by rw[k3];rfl
   have l3:((c:Int) != 0)=false:=by rw[bne,j3];rfl
   clear e1 e2 e3 e4 HD;subst H;go_enter Tryz.func119,Tryz.ntmps119;go_wp2_with fail;go_ret;exact ⟨rfl,hbl⟩
  ·have H:r=ZnT.getD (m-1) 0:=by rw[HD.out,if_neg (fun h=>c4 h.1)]
   have k0:=mt e4.1 c4;have k1:=mt e1.1 c1;have j1:((a:Int) == 0)=false:=by simpa using k1
   have l1:((a:Int) != 0)=true:=by rw[bne,j1];rfl
   have k2:=e2.2 c2;have j2:((b:Int) == 0)=true:=by rw[k2];rfl
   have l2:((b:Int) != 0)=false:=by rw[bne,j2];rfl
   have k3:=mt e3.1 c3;have j3:((c:Int) == 0)=false:=by simpa using k3
   have l3:((c:Int) != 0)=true:=by rw[bne,j3];rfl
   clear e1 e2 e3 e4 HD;subst H;go_enter Tryz.func119,Tryz.ntmps119;go_wp2_with fail;go_ret;exact ⟨rfl,hbl⟩
 ·have H:r=ZnT.getD (m-1) 0:=by rw[HD.out,if_neg (fun h=>c4 h.1)]
  have k0:=mt e4.1 c4;have k1:=mt e1.1 c1;have j1:((a:Int) == 0)=false:=by simpa using k1
  have l1:((a:Int) != 0)=true:=by rw[bne,j1];rfl
  have k2:=mt e2.1 c2;have j2:((b:Int) == 0)=false:=by simpa using k2
  have l2:((b:Int) != 0)=true:=by rw[bne,j2];rfl
  clear e1 e2 e3 e4 HD;subst H;go_enter Tryz.func119,Tryz.ntmps119;go_wp2_with fail;go_ret;exact ⟨rfl,hbl⟩
def Zfm (a:Nat):Nat→Nat
 | 0=>0
 | n+1=>Zfm a n+337+ZaP (a+n) 2
def Zdh (y:Nat):Nat→Nat
 | 0=>0
 | n+1=>Zdh y n+ZaP y (n+1)
theorem Zf1 (a:Nat):∀ n,Zfm a n≤368*n
 | 0=>Nat.le_refl _
 | n+1=>by rw[Zfm];have:=Zf1 a n;have:=Zdn (y:=a+n) (m:=2);omega
theorem ZgY (y:Nat):∀ n,Zdh y n≤31*n
 | 0=>Nat.le_refl _
 | n+1=>by rw[Zdh];have:=ZgY y n;have:=Zdn (y:=y) (m:=n+1);omega
theorem Zih {a k:Nat} (h:a≤k):Zfm a (k+1-a)=Zfm a (k-a)+337+ZaP k 2:=by
 rw[show k+1-a=(k-a)+1 by omega,Zfm,show a+(k-a)=k by omega]
theorem Zep {y k:Nat} (h:1≤k):Zdh y (k+1-1)=Zdh y (k-1)+ZaP y k:=by
 rw[show k+1-1=(k-1)+1 by omega,Zdh,show k-1+1=k by omega]
def ZbM (y m d:Nat):Int:=((Zfm 1970 (y-1970):Int)-(Zfm y (1970-y):Int)+(Zdh y (m-1):Int)+(d:Int)-1)*86400
theorem Zm6 {y m d:Nat} (hy:y≤10000) (hm:m≤12) (hd:d≤100):-400000000000≤ZbM y m d∧ZbM y m d≤400000000000:=by
 have h1:=Zf1 1970 (y-1970);have h2:=Zf1 y (1970-y);have h3:=ZgY y (m-1);unfold ZbM;omega
theorem Zdd {y m d:Nat} {w:World} (hy:y≤10000) (h1:1≤m) (h2:m≤12) (hd:d≤100) :
  Calls Tryz.prog 102 #[.int .i64 (y:Int),.int .i64 (m:Int),.int .i64 (d:Int)] w fun e w'=>e=.returned (.int .i64 (ZbM y m d))∧Below w.heap.size w w':=by
 obtain⟨r,hr⟩:∃ r,ZbM y m d=r:=⟨_,rfl⟩;have HR:Hid (((Zfm 1970 (y-1970):Int)-(Zfm y (1970-y):Int)+(Zdh y (m-1):Int)+(d:Int)-1)*86400=r):=hr;rw[hr];clear hr;go_enter Tryz.func102,Tryz.ntmps102;go_wp2_with fail;go_loopw [7,8] (fun nv iv wx=>∃ (k s:Nat),1970≤k∧(k≤y∨k=1970)∧iv=.int .i64 (k:Int)∧nv=.int .i64 (s:Int)∧s≤3680000∧Hid (s=Zfm 1970 (k-1970))∧Below w.heap.size w wx) (fun _ iv _=>y-(intOf iv).toNat)
 case atStart=>exact ⟨1970,0,by omega,.inr rfl,rfl,rfl,by omega,rfl,Below.refl _ _⟩
 case round =>
  obtain⟨k,s,hk,hky,rfl,rfl,hs,HS,bel⟩:=hrel
  by_cases hil:k<y
  ·have k1:(k:Int)<(y:Int):=by omega
   have gi:IntKind.i64.wrap ((k:Int)+1)=(k:Int)+1:=by rw[IntKind.wrap_i64];omega
   have g2:IntKind.i64.wrap ((s:Int)+337)=(s:Int)+337:=by rw[IntKind.wrap_i64];omega
   go_wp2_with fail;refine (ZdL (y:=k) (m:=2) (by omega) (by omega) (by omega)).mono ?_;rintro e w2 ⟨rfl,hb⟩;replace bel:=Zaa bel hb;have HS2:Hid (s+337+ZaP k 2=Zfm 1970 (k+1-1970)):=by show _=_;rw[Zih hk,← HS.out]
   have hD:=Zdn (y:=k) (m:=2);have hs2:s+337+ZaP k 2≤3680000:=by
    have:=Zf1 1970 (k+1-1970);rw[HS2.out];omega
   obtain⟨D,hDD⟩:∃ D,ZaP k 2=D:=⟨_,rfl⟩;rw[hDD] at HS2 hD hs2 ⊢;have g3:IntKind.i64.wrap ((s:Int)+337+(D:Int))=(s:Int)+337+(D:Int):=by rw[IntKind.wrap_i64];omega
   clear hb HS hDD;go_wp2_with fail;go_roundw
   case rel=>exact ⟨k+1,s+337+D,by omega,.inl (by omega),by go_num,by go_num,hs2,HS2,bel⟩
   case measure=>simp[intOf];omega
  ·have k1:¬ (k:Int)<(y:Int):=by omega
   have HA:Hid (s=Zfm 1970 (y-1970)):=by
    show _=_;rw[HS.out,show k-1970=y-1970 by omega]
   clear HS hil hky;obtain ⟨W,hW⟩:∃ z,z=wr:=⟨_,rfl⟩;rw[← hW] at bel ⊢;clear hW;go_wp2_with fail;go_loopw [7,9] (fun nv iv wx=>∃ (k t:Nat),y≤k∧(k≤1970∨k=y)∧iv=.int .i64 (k:Int)∧nv=.int .i64 ((s:Int)-(t:Int))∧t≤3680000∧Hid (t=Zfm y (k-y))∧Below w.heap.size w wx) (fun _ iv _=>1970-(intOf iv).toNat)
   case atStart=>exact ⟨y,0,by omega,.inr rfl,rfl,by go_num,by omega,by show _=_;rw[Nat.sub_self];rfl,bel⟩
   case round =>
    clear bel;obtain ⟨k,t,hk,hky,rfl,rfl,ht,HS,bel⟩:=hrel
    by_cases hil:k<1970
    ·have k1:(k:Int)<1970:=by omega
     have gi:IntKind.i64.wrap ((k:Int)+1)=(k:Int)+1:=by rw[IntKind.wrap_i64];omega
     have g2:IntKind.i64.wrap ((s:Int)-(t:Int)-337)=(s:Int)-(t:Int)-337:=by rw[IntKind.wrap_i64];omega
     go_wp2_with fail;refine (ZdL (y:=k) (m:=2) (by omega) (by omega) (by omega)).mono ?_;rintro e w2 ⟨rfl,hb⟩;replace bel:=Zaa bel hb;have HS2:Hid (t+337+ZaP k 2=Zfm y (k+1-y)):=by show _=_;rw[Zih hk,← HS.out]
     have hD:=Zdn (y:=k) (m:=2);have ht2:t+337+ZaP k 2≤3680000:=by
      have:=Zf1 y (k+1-y);rw[HS2.out];omega
     obtain⟨D,hDD⟩:∃ D,ZaP k 2=D:=⟨_,rfl⟩;rw[hDD] at HS2 hD ht2 ⊢;have g3:IntKind.i64.wrap ((s:Int)-(t:Int)-337-(D:Int))=(s:Int)-(t:Int)-337-(D:Int):=by rw[IntKind.wrap_i64];omega
     have g4:(s:Int)-(t:Int)-337-(D:Int)=(s:Int)-((t+337+D:Nat):Int):=by omega
     rw[g4] at g3;replace g4:Hid _:=g4;have g5:IntKind.i64.wrap ((s:Int)-(t:Int)-337-(D:Int))=(s:Int)-((t+337+D:Nat):Int):=by rw[g4.out];exact g3
     clear hb HS hDD g3;go_wp2_with fail;go_roundw
     case rel=>exact ⟨k+1,t+337+D,by omega,.inl (by omega),by go_num,by first|rfl|go_num|(congr 1;omega),ht2,HS2,bel⟩
     case measure=>simp[intOf];omega
    ·have k1:¬ (k:Int)<1970:=by omega
     have HT:Hid (t=Zfm y (1970-y)):=by
      show _=_;rw[HS.out,show k-y=1970-y by omega]
     clear HS hil hky;obtain ⟨W2,hW2⟩:∃ z,z=wr:=⟨_,rfl⟩;rw[← hW2] at bel ⊢;clear hW2;obtain ⟨S,hS⟩:∃ S,(s:Int)-(t:Int)=S:=⟨_,rfl⟩;have HSS:Hid ((s:Int)-(t:Int)=S):=hS;have bS:-4000000≤S∧S≤4000000:=by omega
     rw[hS];clear hS;go_wp2_with fail;go_loopw [7,10] (fun nv iv wx=>∃ (k u:Nat),1≤k∧k≤m∧iv=.int .i64 (k:Int)∧nv=.int .i64 (S+(u:Int))∧u≤372∧Hid (u=Zdh y (k-1))∧Below w.heap.size w wx) (fun _ iv _=>m-(intOf iv).toNat)
     case atStart=>exact ⟨1,0,by omega,h1,rfl,by first|rfl|go_num|(congr 1;omega),by omega,rfl,bel⟩
     case round =>
      clear bel;obtain ⟨k,u,hk,hkm,rfl,rfl,hu,HU,bel⟩:=hrel
      by_cases hil:k<m
      ·have k1:(k:Int)<(m:Int):=by omega
       have gi:IntKind.i64.wrap ((k:Int)+1)=(k:Int)+1:=by rw[IntKind.wrap_i64];omega
       go_wp2_with fail;refine (ZdL (y:=y) (m:=k) (by omega) (by omega) (by omega)).mono ?_;rintro e w2 ⟨rfl,hb⟩;replace bel:=Zaa bel hb;have HU2:Hid (u+ZaP y k=Zdh y (k+1-1)):=by show _=_;rw[Zep hk,← HU.out]
       have hD:=Zdn (y:=y) (m:=k);have hu2:u+ZaP y k≤372:=by
        have:=ZgY y (k+1-1);rw[HU2.out];omega
       obtain⟨D,hDD⟩:∃ D,ZaP y k=D:=⟨_,rfl⟩;rw[hDD] at HU2 hD hu2 ⊢;have g5:IntKind.i64.wrap (S+(u:Int)+(D:Int))=S+((u+D:Nat):Int):=by rw[IntKind.wrap_i64];omega
       clear hb HU hDD;go_wp2_with fail;go_roundw
       case rel=>exact ⟨k+1,u+D,by omega,by omega,by go_num,by first|rfl|go_num|(congr 1;omega),hu2,HU2,bel⟩
       case measure=>simp[intOf];omega
      ·have k1:¬ (k:Int)<(m:Int):=by omega
       have H:r=(S+(u:Int)+(d:Int)-1)*86400:=by
        rw[← HR.out,← HSS.out,HA.out,HT.out,HU.out,show k-1=m-1 by omega]
       have g1:IntKind.i64.wrap (S+(u:Int)+(d:Int))=S+(u:Int)+(d:Int):=by rw[IntKind.wrap_i64];omega
       have g2:IntKind.i64.wrap (S+(u:Int)+(d:Int)-1)=S+(u:Int)+(d:Int)-1:=by rw[IntKind.wrap_i64];omega
       have g3:IntKind.i64.wrap ((S+(u:Int)+(d:Int)-1)*86400)=(S+(u:Int)+(d:Int)-1)*86400:=by rw[IntKind.wrap_i64];omega
       subst H;go_wp2_with fail;go_ret;exact ⟨rfl,bel⟩
def Zi6 (l:List Int):Prop:=∀ x,x∈l→48≤x∧x≤57
theorem Zff:∀ (l:List Int) (v:Int),0≤v→0≤Za3 l v→Zi6 l
 | [],_,_,_=>fun x h=>by cases h
 | y::l,v,hv,h=>by
  rw[Za3] at h
  by_cases c:y<48∨57<y
  ·rw[if_pos c] at h;omega
  ·rw[if_neg c] at h
   have ih:=Zff l _ (by omega) h;intro x hx;rcases List.mem_cons.1 hx with rfl|hx
   ·omega
   ·exact ih x hx
theorem Zji {a b:Int} (ha:48≤a∧a≤57) (hb:48≤b∧b≤57):Za3 [a,b] 0=10*(a-48)+(b-48):=by
 rw[Za3,if_neg (by omega),Za3,if_neg (by omega),Za3];omega
theorem ZhH {a b c d:Int} (ha:48≤a∧a≤57) (hb:48≤b∧b≤57) (hc:48≤c∧c≤57) (hd:48≤d∧d≤57):Za3 [a,b,c,d] 0=1000*(a-48)+100*(b-48)+10*(c-48)+(d-48):=by
 rw[Za3,if_neg (by omega),Za3,if_neg (by omega),Za3,if_neg (by omega),Za3,if_neg (by omega),Za3];omega
theorem ZjB {B:List Int} {lo:Nat} (h:lo+2≤B.length):(B.drop lo).take 2=[B.getD lo 0,B.getD (lo+1) 0]:=by
 rw[List.drop_eq_getElem_cons (by omega:lo<B.length),List.drop_eq_getElem_cons (by omega:lo+1<B.length),List.take_succ_cons,List.take_succ_cons,List.take_zero];simp[List.getD_eq_getElem?_getD,(by omega:lo<B.length),(by omega:lo+1<B.length)]
theorem Zb8 {B:List Int} {k j:Nat} (h:Zi6 (B.take k)) (hj:j<k) (hk:k≤B.length):48≤B.getD j 0∧B.getD j 0≤57:=by
 refine h _ ?_;rw[List.getD_eq_getElem?_getD,List.getElem?_eq_getElem (by omega),Option.getD_some];have e:(B.take k)[j]'(by rw[List.length_take];omega)=B[j]'(by omega):=by simp
 rw[← e];exact List.getElem_mem _
theorem ZbP {B:List Int} {k lo:Nat} (h:Zi6 (B.take k)) (hj:lo+2≤k) (hk:k≤B.length):0≤Za3 ((B.drop lo).take 2) 0∧Za3 ((B.drop lo).take 2) 0≤99:=by
 have h1:=Zb8 h (by omega:lo<k) hk;have h2:=Zb8 h (by omega:lo+1<k) hk;rw[ZjB (by omega),Zji h1 h2];omega
theorem ZpO {B:List Int} {k:Nat} (h:Zi6 (B.take k)) (h4:4≤k) (hk:k≤B.length):0≤Za3 (B.take 4) 0∧Za3 (B.take 4) 0≤9999:=by
 have h0:=Zb8 h (by omega:0<k) hk;have h1:=Zb8 h (by omega:1<k) hk;have h2:=Zb8 h (by omega:2<k) hk;have h3:=Zb8 h (by omega:3<k) hk;rcases B with _|⟨a,_|⟨b,_|⟨c,_|⟨d,t⟩⟩⟩⟩
 ·simp at hk;omega
 ·simp at hk;omega
 ·simp at hk;omega
 ·simp at hk;omega
 ·replace h0:48≤a∧a≤57:=h0
  replace h1:48≤b∧b≤57:=h1;replace h2:48≤c∧c≤57:=h2;replace h3:48≤d∧d≤57:=h3;rw[show (a::b::c::d::t).take 4=[a,b,c,d] from rfl,ZhH h0 h1 h2 h3];omega
def Zfb (n:Nat) (y:Int):Int:=if n=2 then (if y<50 then y+2000 else y+1900) else y
def ZbU (n:Nat) (y m d h i s:Int):Except Nat Int :=
 if (n=4∧y<2050)∨m<1∨12<m∨d<1∨23<h∨59<i∨59<s then .error 3
 else if ((ZaP y.toNat m.toNat:Nat):Int)<d then .error 3
 else .ok (ZbM y.toNat m.toNat d.toNat+(3600*h+60*i+s))
def ZaQ (n:Nat) (B:List Int):Except Nat Int :=
 if ¬ B.length=n+11∨¬ B.getD (n+10) 0=90∨Za3 (B.take (n+10)) 0<0 then .error 7
 else ZbU n (Zfb n (Za3 (B.take n) 0)) (Za3 ((B.drop n).take 2) 0) (Za3 ((B.drop (n+2)).take 2) 0) (Za3 ((B.drop (n+4)).take 2) 0) (Za3 ((B.drop (n+6)).take 2) 0) (Za3 ((B.drop (n+8)).take 2) 0)
def Zbz (tag:Int) (B:List Int):Except Nat Int :=
 if tag=23 then ZaQ 2 B else if tag=24 then ZaQ 4 B else .error 1
theorem ZbY {w:World} {g o n cap lo hi m k:Nat} {ad:Option Addr} {B:List Int} (h:Bs w (.slice (some ⟨g,o,none⟩) n cap) B) (hn:B.length=n) (hh:hi≤n) (hl:lo≤hi) (hm:m=hi-lo) (ha:ad=some ⟨g,o+lo,none⟩) (hk:k=cap-lo):Bs w (.slice ad m k) ((B.drop lo).take (hi-lo)):=by
 have c:=ZcI (ad:=ad) (m:=n-lo) (k:=k) h hn (by omega:lo≤n) rfl (fun _=>ha) hk;obtain ⟨a,c0,e,h1,h2,h3⟩:=c;have el:(B.drop lo).length=n-lo:=by rw[List.length_drop,hn]
 have el2:((B.drop lo).take (hi-lo)).length=m:=by rw[List.length_take,el,hm];omega
 rw[el] at e h2 h3;obtain ⟨rfl,rfl⟩:ad=a∧k=c0:=by simpa using e
 refine⟨ad,k,by rw[el2],h1,by rw[el2];omega,fun h0=>?_⟩;rw[el2] at h0 ⊢;obtain ⟨b',o',e',k1,k2⟩:=h3 (by omega);refine ⟨b',o',e',k1,fun j hj=>?_⟩;rw[k2 j (by omega),List.getD_eq_getElem?_getD,List.getD_eq_getElem?_getD,List.getElem?_take_of_lt (by omega)]
theorem Zbb {B:List Int} (h:byt B) (lo k:Nat):byt ((B.drop lo).take k):=fun j=>by
 by_cases c:j<k
 ·have:=Zba h lo j
  rwa [List.getD_eq_getElem?_getD,List.getElem?_take_of_lt c,← List.getD_eq_getElem?_getD]
 ·rw[List.getD_eq_getElem?_getD,List.getElem?_eq_none (by rw[List.length_take];omega)]
  decide
def Zaz (n:Nat):List Int:=[((48+n/10:Nat):Int),((48+n%10:Nat):Int)]
theorem Zq3 {n:Nat} {w:World} (hn:n<100) :
  Calls Tryz.prog 103 #[.int .i64 (n:Int)] w fun e w'=>∃ v':Value,e=.returned v'∧Bs w' v' (Zaz n)∧Below w.heap.size w w':=by
 have t1:(n:Int).tdiv 10=((n/10:Nat):Int):=by rw[Int.tdiv_eq_ediv_of_nonneg (by omega)];omega
 have t2:(n:Int).tmod 10=((n%10:Nat):Int):=by rw[Int.tmod_eq_emod_of_nonneg (by omega)];omega
 have t3:(n:Int)/10=((n/10:Nat):Int):=by omega
 have t4:(n:Int)%10=((n%10:Nat):Int):=by omega
 have b1:n/10<10:=by omega
 have b2:n%10<10:=by omega
 have HT:Hid (Zaz n=[((48+n/10:Nat):Int),((48+n%10:Nat):Int)]):=rfl;obtain ⟨a,ha⟩:∃ a,n/10=a:=⟨_,rfl⟩;obtain ⟨c,hc⟩:∃ a,n%10=a:=⟨_,rfl⟩;obtain ⟨T,hT⟩:∃ T,Zaz n=T:=⟨_,rfl⟩;rw[ha] at t1 t3 b1 HT;rw[hc] at t2 t4 b2 HT;rw[hT] at HT;rw[hT];clear ha hc hT;have g1:IntKind.i64.wrap (48+(a:Int))=((48+a:Nat):Int):=by rw[IntKind.wrap_i64];omega
 have g2:IntKind.i64.wrap (48+(c:Int))=((48+c:Nat):Int):=by rw[IntKind.wrap_i64];omega
 have g3:IntKind.u8.wrap ((48+a:Nat):Int)=((48+a:Nat):Int):=by rw[IntKind.wrap_u8];omega
 have g4:IntKind.u8.wrap ((48+c:Nat):Int)=((48+c:Nat):Int):=by rw[IntKind.wrap_u8];omega
 obtain⟨p,hp⟩:∃ p:Int,((48+a:Nat):Int)=p:=⟨_,rfl⟩;obtain ⟨q,hq⟩:∃ p:Int,((48+c:Nat):Int)=p:=⟨_,rfl⟩;rw[hp] at g1 g3 HT;rw[hq] at g2 g4 HT;clear hp hq;have hT:=HT.out;subst hT;have own:=ZaW w [.int .u8 p,.int .u8 q] 5 2 w.heap.size rfl (Nat.le_refl _) (by decide);have hbl:=bal w (.cells #[.int .u8 p,.int .u8 q] 5);have bs:Bs (w.alloc (.cells #[.int .u8 p,.int .u8 q] 5)) _ [p,q]:=Bs.of_own own;clear own;have HBS:Hid _:=bs;clear bs;go_enter Tryz.func103,Tryz.ntmps103;go_wp2_with fail;go_ret;exact ⟨_,rfl,HBS.out,hbl⟩
theorem feb (y:Nat):ZaP y 2=if y%400=0∨(y%4=0∧¬ y%100=0) then 29 else 28:=by
 unfold ZaP
 by_cases h:y%400=0∨(y%4=0∧¬ y%100=0)
 ·rw[if_pos ⟨rfl,h⟩,if_pos h]
 ·rw[if_neg (fun k=>h k.2),if_neg h];rfl
theorem Zbl {y m:Nat} (h:¬ m=2):ZaP y m=ZnT.getD (m-1) 0:=by
 unfold ZaP;rw[if_neg (fun k=>h k.1)]
theorem step4 (x:Nat):(x+1+3)/4=(x+3)/4+if x%4=0 then 1 else 0:=by split<;>omega
theorem Zno (x:Nat):(x+1+99)/100=(x+99)/100+if x%100=0 then 1 else 0:=by split<;>omega
theorem Znp (x:Nat):(x+1+399)/400=(x+399)/400+if x%400=0 then 1 else 0:=by split<;>omega
theorem leap3 (x:Nat):(if x%400=0∨(x%4=0∧¬ x%100=0) then 29 else 28)+(if x%100=0 then 1 else 0)=28+(if x%4=0 then 1 else 0)+(if x%400=0 then 1 else 0):=by
 have h1:x%400=0→x%100=0:=by omega
 have h2:x%100=0→x%4=0:=by omega
 by_cases c4:x%4=0
 ·by_cases c1:x%100=0
  ·by_cases c400:x%400=0
   ·simp[c4,c1,c400]
   ·simp[c4,c1,c400]
  ·have c400:¬ x%400=0:=fun k=>c1 (h1 k)
   simp[c4,c1,c400]
 ·have c1:¬ x%100=0:=fun k=>c4 (h2 k)
  have c400:¬ x%400=0:=fun k=>c1 (h1 k);simp[c4,c1,c400]
theorem Zi2 (a:Nat):∀ n,Zfm a n+((a+3)/4+(a+399)/400)+(a+n+99)/100=365*n+((a+n+3)/4+(a+n+399)/400)+(a+99)/100
 | 0=>by rw[Zfm]
 | n+1=>by
  have ih:=Zi2 a n;have l:=leap3 (a+n);rw[Zfm,feb,← Nat.add_assoc a n 1,step4,Zno,Znp];generalize Zfm a n=s at *;generalize (a+3)/4=p1 at *;generalize (a+399)/400=p2 at *;generalize (a+99)/100=p3 at *;generalize (a+n+3)/4=q1 at *;generalize (a+n+399)/400=q2 at *;generalize (a+n+99)/100=q3 at *;generalize (if (a+n)%400=0∨((a+n)%4=0∧¬ (a+n)%100=0) then 29 else 28)=e at *;generalize (if (a+n)%4=0 then 1 else 0)=e1 at *;generalize (if (a+n)%100=0 then 1 else 0)=e2 at *;generalize (if (a+n)%400=0 then 1 else 0)=e3 at *;omega
def Zom (y:Nat):Int:=365*(y:Int)+(((y+3)/4:Nat):Int)+(((y+399)/400:Nat):Int)-(((y+99)/100:Nat):Int)
theorem ZbQ (y m d:Nat):ZbM y m d=(Zom y-719528+(Zdh y (m-1):Int)+(d:Int)-1)*86400:=by
 unfold ZbM Zom
 by_cases h:1970≤y
 ·have e:=Zi2 1970 (y-1970)
  rw[show 1970+(y-1970)=y by omega] at e;have e0:Zfm y (1970-y)=0:=by rw[show 1970-y=0 by omega];rfl
  rw[e0];generalize Zfm 1970 (y-1970)=s at *;generalize Zdh y (m-1)=u at *;refine congrArg (fun z:Int=>z*86400) ?_;omega
 ·have e:=Zi2 y (1970-y)
  rw[show y+(1970-y)=1970 by omega] at e;have e0:Zfm 1970 (y-1970)=0:=by rw[show y-1970=0 by omega];rfl
  rw[e0];generalize Zfm y (1970-y)=s at *;generalize Zdh y (m-1)=u at *;refine congrArg (fun z:Int=>z*86400) ?_;omega
theorem ZfE (y:Nat):Zom (y+1)=Zom y+337+(ZaP y 2:Nat):=by
 have l:=leap3 y;rw[feb];unfold Zom;rw[step4,Zno,Znp];generalize (y+3)/4=q1 at *;generalize (y+399)/400=q2 at *;generalize (y+99)/100=q3 at *;generalize (if y%400=0∨(y%4=0∧¬ y%100=0) then 29 else 28)=e at *;generalize (if y%4=0 then 1 else 0)=e1 at *;generalize (if y%100=0 then 1 else 0)=e2 at *;generalize (if y%400=0 then 1 else 0)=e3 at *;omega
theorem ZlV {y z:Nat} (h:y≤z):Zom y≤Zom z:=by
 induction z with
 | zero=>rw[show y=0 by omega];exact Int.le_refl _
 | succ z ih =>
  by_cases e:y=z+1
  ·rw[e];exact Int.le_refl _
  ·have:=ih (by omega)
   rw[ZfE];omega
theorem Zmo (y:Nat):Zdh y 12=337+ZaP y 2:=by
 simp only[Zdh];rw[Zbl (m:=1) (by decide),Zbl (m:=3) (by decide),Zbl (m:=4) (by decide),Zbl (m:=5) (by decide),Zbl (m:=6) (by decide),Zbl (m:=7) (by decide),Zbl (m:=8) (by decide),Zbl (m:=9) (by decide),Zbl (m:=10) (by decide),Zbl (m:=11) (by decide),Zbl (m:=12) (by decide)];show 0+31+ZaP y 2+31+30+31+30+31+31+30+31+30+31=_;omega
theorem Zmp {y m n:Nat} (h:m≤n):Zdh y m≤Zdh y n:=by
 induction n with
 | zero=>rw[show m=0 by omega];exact Nat.le_refl _
 | succ n ih =>
  by_cases e:m=n+1
  ·rw[e];exact Nat.le_refl _
  ·rw[Zdh]
   have:=ih (by omega);omega
theorem ZjE:ZbM 1950 1 1=-631152000:=by rw[ZbQ];decide
theorem Zpv:ZbM 9999 12 31=253402214400:=by
 rw[ZbQ,show Zdh 9999 (12-1)=334 by decide]
 decide
def ZjX (t:Int) (y m:Nat):Prop:=1950≤y∧y≤9999∧1≤m∧m≤12∧ZbM y m 1≤t∧t<ZbM y m 1+86400*(ZaP y m:Nat)
theorem ZfV {y m:Nat} (h1:1≤m):ZbM y m 1+86400*(ZaP y m:Nat)=ZbM y (m+1) 1:=by
 rw[ZbQ,ZbQ,Zep h1];generalize Zdh y (m-1)=s;generalize ZaP y m=d;omega
theorem ZjF (y:Nat):ZbM y 13 1=ZbM (y+1) 1 1:=by
 rw[ZbQ,ZbQ,ZfE,show 13-1=12 from rfl,Zmo,show 1-1=0 from rfl,Zdh];generalize ZaP y 2=d;omega
theorem Zhd {y m n:Nat} (h:m≤n):ZbM y m 1≤ZbM y n 1:=by
 rw[ZbQ,ZbQ];have:=Zmp (y:=y) (show m-1≤n-1 by omega);omega
theorem Zm7 {y z:Nat} (h:y≤z):ZbM y 1 1≤ZbM z 1 1:=by
 rw[ZbQ,ZbQ,show 1-1=0 from rfl,Zdh,Zdh];have:=ZlV h;omega
def yS (t:Int):Nat→Nat→Nat
 | 0,y=>y
 | f+1,y=>if ZbM (y+1) 1 1≤t then yS t f (y+1) else y
def mS (t:Int) (y:Nat):Nat→Nat→Nat
 | 0,m=>m
 | f+1,m=>if m<12∧ZbM y (m+1) 1≤t then mS t y f (m+1) else m
def yOf (t:Int):Nat:=yS t 8050 1950
def mOf (t:Int) (y:Nat):Nat:=mS t y 12 1
theorem yS_is {t:Int} {y:Nat} (h1:ZbM y 1 1≤t) (h2:t<ZbM (y+1) 1 1):∀ f z,z≤y→y≤z+f→yS t f z=y
 | 0,z,a,b=>by rw[yS];omega
 | f+1,z,a,b=>by
  rw[yS]
  by_cases e:z=y
  ·rw[e,if_neg (by omega)]
  ·rw[if_pos (by have:=Zm7 (show z+1≤y by omega);omega)]
   exact yS_is h1 h2 f (z+1) (by omega) (by omega)
theorem mS_is {t:Int} {y m:Nat} (hm:m≤12) (h1:ZbM y m 1≤t) (h2:m=12∨t<ZbM y (m+1) 1):∀ f z,z≤m→m≤z+f→mS t y f z=m
 | 0,z,a,b=>by rw[mS];omega
 | f+1,z,a,b=>by
  rw[mS]
  by_cases e:z=m
  ·rw[e,if_neg (by omega)]
  ·rw[if_pos ⟨by omega,by have:=Zhd (y:=y) (show z+1≤m by omega);omega⟩]
   exact mS_is hm h1 h2 f (z+1) (by omega) (by omega)
theorem ZoL {t:Int} {y m:Nat} (h:ZjX t y m):yOf t=y∧mOf t y=m:=by
 obtain⟨h1,h2,h3,h4,h5,h6⟩:=h;have e1:ZbM y 1 1≤t:=Int.le_trans (Zhd h3) h5;have e2:t<ZbM (y+1) 1 1:=by
  rw[ZfV h3] at h6;have:=Zhd (y:=y) (show m+1≤13 by omega);rw[ZjF] at this;omega
 exact⟨yS_is e1 e2 8050 1950 h1 (by omega),mS_is h4 h5 (.inr (by rw[← ZfV h3];exact h6)) 12 1 h3 (by omega)⟩
theorem ZhV {t:Int} {y m:Nat} (h1:1950≤y) (h2:y≤9999) (h3:1≤m) (h4:m≤12) (h5:ZbM y m 1≤t) (h6:t<ZbM (y+1) 1 1) (h7:m=12∨t<ZbM y (m+1) 1):ZjX t y m:=by
 refine⟨h1,h2,h3,h4,h5,?_⟩;rw[ZfV h3];rcases h7 with e|e
 ·rw[e,ZjF];exact h6
 ·exact e
def ZdP (y m r:Nat):List Int:=(if 2049<y then Zaz (y/100) else [])++Zaz (y%100)++Zaz m++Zaz (1+r/86400)++Zaz (r/3600%24)++Zaz (r/60%60)++Zaz (r%60)++[90]
def ZnU (y:Nat):Int:=if 2049<y then 24 else 23
def Za2 (t:Int):Except Nat (Int × List Int) :=
 if t < -631152000∨253402300799<t then .error 3
 else .ok (ZnU (yOf t),ZdP (yOf t) (mOf t (yOf t)) (t-ZbM (yOf t) (mOf t (yOf t)) 1).toNat)
theorem ZfZ {t:Int} {y m:Nat} (h:ZjX t y m) (h1:¬ t < -631152000) (h2:¬ 253402300799<t):Za2 t=.ok (ZnU y,ZdP y m (t-ZbM y m 1).toNat):=by
 obtain⟨e1,e2⟩:=ZoL h;unfold Za2;rw[if_neg (by omega),e1,e2]
end Go.Proofs.YtohcdbifhnfcbaaGreatDoor
