import Derived.Test.YtohcdbifhnfcbaaGreatDoorPmTof
import Derived.Test.YtohcdbifhnfcbaaGreatDoorPmNG
import Derived.Test.YtohcdbifhnfcbaaGreatDoorRows
import Derived.Deep.OwnRows
import Derived.Deep.AppendLies
import Derived.Great.BuildSlice
import Derived.Deep.WholeRow
import Derived.Deep.RegionHeld3
import Derived.Deep.DeepCutAuto
import Derived.Deep.DeepFit
import Derived.BigQuiet
import Derived.Laws.Rows
import Derived.Laws.CopyOwn
namespace Go.Proofs.YtohcdbifhnfcbaaGreatDoor
open Go.RowKit
set_option linter.unusedSimpArgs false
set_option maxRecDepth 100000
set_option maxHeartbeats 2000000
def Zbx (y:Nat):Int:=Zom y-366
theorem Zn0 {y:Nat} (h:1≤y):((y:Int)-1)*365+(((y-1)/4:Nat):Int)-(((y-1)/100:Nat):Int)+(((y-1)/400:Nat):Int)=Zbx y:=by
 unfold Zbx Zom;have e1:(y+3)/4=(y-1)/4+1:=by omega
 have e2:(y+399)/400=(y-1)/400+1:=by omega
 have e3:(y+99)/100=(y-1)/100+1:=by omega
 rw[e1,e2,e3];generalize (y-1)/4=a;generalize (y-1)/100=b;generalize (y-1)/400=c;omega
theorem Zez (y:Nat):Zbx (y+1)=Zbx y+337+(ZaP y 2:Nat):=by
 have:=ZfE y;unfold Zbx;omega
theorem ZgC {y z:Nat} (h:y≤z):Zbx y≤Zbx z:=by
 have:=ZlV h;unfold Zbx;omega
theorem Zj3:Zbx 1970=719162:=by decide
theorem Zlh:Zbx 1=0:=by decide
theorem Zfs:∀ n:Nat,Zbx (n+1)≤366*(n:Int)
 | 0=>by rw[Zlh];decide
 | n+1=>by
  have h1:=Zfs n;have h2:=feb (n+1);rw[Zez]
  split at h2<;>omega
theorem ZeT {y:Nat} (h:1≤y):0≤Zbx y:=by
 have:=ZgC h;rw[Zlh] at this;exact this
theorem Zli:Zbx 10000=3652059:=by decide
theorem Zj2:Zbx 1950=711857:=by decide
theorem Zia (y m d:Nat):ZbM y m d=(Zbx y-719162+(Zdh y (m-1):Int)+(d:Int)-1)*86400:=by
 rw[ZbQ];unfold Zbx;refine congrArg (fun z:Int=>z*86400) ?_;omega
theorem feb_28 (y:Nat):28≤ZaP y 2∧ZaP y 2≤29:=by
 rw[feb]
 split<;>omega
theorem Zl5 (y:Nat):28+Zbx (y+1)-Zbx y-365=((ZaP y 2:Nat):Int):=by
 rw[Zez];omega
theorem Zqq {y m:Nat} (h:m=4∨m=6∨m=9∨m=11):ZaP y m=30:=by
 rw[Zbl (by omega)];rcases h with rfl|rfl|rfl|rfl<;>rfl
theorem Zqr {y m:Nat} (h1:1≤m) (h2:m≤12) (h:¬ (m=2∨m=4∨m=6∨m=9∨m=11)):ZaP y m=31:=by
 rw[Zbl (by omega)];have:m=1∨m=3∨m=5∨m=7∨m=8∨m=10∨m=12:=by omega
 rcases this with rfl|rfl|rfl|rfl|rfl|rfl|rfl<;>rfl
theorem Zmn {t:Int} {y m d c:Nat} (hy1:1950≤y) (hy2:y≤9999) (hm1:1≤m) (hm2:m≤12) (hd:d<ZaP y m) (hc:c<86400) (h:t+719162*86400=(Zbx y+(Zdh y (m-1):Nat)+d)*86400+c):ZjX t y m∧(t-ZbM y m 1).toNat=86400*d+c:=by
 have e:=Zia y m 1;refine ⟨⟨hy1,hy2,hm1,hm2,?_,?_⟩,?_⟩
 ·rw[e];omega
 ·rw[e];omega
 ·rw[e];omega
theorem ZrB {t:Int} {y:Nat} {d c:Int} (h1:-631152000≤t) (hc:0≤c∧c<86400) (h:t+719162*86400=d*86400+c) (hy:d<Zbx (y+1)):1950≤y:=by
 by_cases k:1950≤y
 ·exact k
 ·have:=ZgC (show y+1≤1950 by omega)
  rw[Zj2] at this;omega
theorem ZrA {t:Int} {y:Nat} {d c:Int} (h1:t≤253402300799) (hc:0≤c∧c<86400) (h:t+719162*86400=d*86400+c) (hy:Zbx y≤d):y≤9999:=by
 by_cases k:y≤9999
 ·exact k
 ·have:=ZgC (show 10000≤y by omega)
  rw[Zli] at this;omega
theorem Zj7 {d c:Nat} (hc:c<86400):1+(86400*d+c)/86400=d+1∧(86400*d+c)/3600%24=c/3600∧(86400*d+c)/60%60=c%3600/60∧(86400*d+c)%60=c%60:=by
 refine⟨by omega,?_,?_,by omega⟩
 ·have:(86400*d+c)/3600=24*d+c/3600:=by omega
  rw[this];omega
 ·have:(86400*d+c)/60=1440*d+c/60:=by omega
  rw[this];have:c%3600/60=c/60%60:=by omega
  rw[this];omega
def Zbu (B:List Int) (i:Nat):Int:=10*(B.getD (2*i) 0-48)+(B.getD (2*i+1) 0-48)
theorem ZbO {B:List Int} {k i:Nat} (h:Zi6 (B.take k)) (hj:2*i+2≤k) (hk:k≤B.length):Za3 ((B.drop (2*i)).take 2) 0=Zbu B i:=by
 rw[ZjB (by omega),Zji (Zb8 h (by omega) hk) (Zb8 h (by omega) hk)]
 rfl
theorem Zq2 {B:List Int} {k i:Nat} (h:Zi6 (B.take k)) (hj:2*i+2≤k) (hk:k≤B.length):0≤Zbu B i∧Zbu B i≤99:=by
 rw[← ZbO h hj hk];exact ZbP h hj hk
theorem Zjh:∀ (l:List Int) (v:Int),0≤v→Zi6 l→0≤Za3 l v
 | [],_,h,_=>h
 | x::l,v,h,a=>by
  have hx:=a x (List.Mem.head _);rw[Za3,if_neg (by omega)];exact Zjh l _ (by omega) (fun y hy=>a y (List.Mem.tail _ hy))
theorem ZnN {B:List Int} {k:Nat} (h:Zi6 (B.take k)) (h4:4≤k) (hk:k≤B.length):Za3 (B.take 4) 0=100*Zbu B 0+Zbu B 1:=by
 have h0:=Zb8 h (by omega:0<k) hk;have h1:=Zb8 h (by omega:1<k) hk;have h2:=Zb8 h (by omega:2<k) hk;have h3:=Zb8 h (by omega:3<k) hk;rcases B with _|⟨a,_|⟨b,_|⟨c,_|⟨d,t⟩⟩⟩⟩
 ·simp at hk;omega
 ·simp at hk;omega
 ·simp at hk;omega
 ·simp at hk;omega
 ·replace h0:48≤a∧a≤57:=h0
  replace h1:48≤b∧b≤57:=h1;replace h2:48≤c∧c≤57:=h2;replace h3:48≤d∧d≤57:=h3;rw[show (a::b::c::d::t).take 4=[a,b,c,d] from rfl,ZhH h0 h1 h2 h3];show _=100*(10*(a-48)+(b-48))+(10*(c-48)+(d-48));omega
def Zb3 (y:Nat):Int:=if y=0 then -365 else Zbx y
theorem Zb5 {y:Nat} (h:1≤y):Zb3 y=Zbx y:=by unfold Zb3;rw[if_neg (by omega)]
def mdZ (y m:Nat):Int:=if y=0∧m=2 then 28 else ((ZaP y m:Nat):Int)
theorem ZfN {y m:Nat} (h:1≤y):mdZ y m=((ZaP y m:Nat):Int):=by unfold mdZ;rw[if_neg (by omega)]
theorem mdZ_2 (y:Nat):28+Zb3 (y+1)-Zb3 y-365=mdZ y 2:=by
 by_cases h:y=0
 ·subst h;decide
 ·rw[Zb5 (by omega),Zb5 (by omega),ZfN (by omega)]
  exact Zl5 y
theorem ZoJ {y m:Nat} (h:¬ m=2):mdZ y m=((ZaP y m:Nat):Int):=by unfold mdZ;rw[if_neg (by omega)]
theorem Zfr {y:Nat} (h:y≤100000):-400≤Zb3 y∧Zb3 y≤36600000:=by
 unfold Zb3
 split
 ·decide
 ·have h1:=ZeT (y:=y) (by omega)
  have h2:=Zfs (y-1);rw[show y-1+1=y by omega] at h2;omega
def exZ (y m d h i s:Nat):Bool:=decide (1≤m∧m≤12∧1≤d∧(d:Int)≤mdZ y m∧h<24∧i<60∧s<60)
theorem ZjN {n y m d h i s : Nat} (hn : n = 2 → 1 ≤ y) (hn4 : n = 2 ∨ n = 4) : ZbU n (y : Int) (m : Int) (d : Int) (h : Int) (i : Int) (s : Int) = if exZ y m d h i s = false ∨ (n = 4 ∧ y<2050) then .error 3 else .ok (ZbM y m d+(3600*(h : Int)+60*(i : Int)+(s : Int))) := by
  unfold ZbU exZ;simp only[Int.toNat_natCast]
  by_cases c : n = 4 ∧ y<2050
  · rw[if_pos (.inl ⟨c.1, by omega⟩), if_pos (.inr c)]
  · have hy : 1 ≤ y := by
      rcases hn4 with h | h
      · exact hn h
      · omega
    rw[ZfN hy]
    by_cases e : 1 ≤ m ∧ m ≤ 12 ∧ 1 ≤ d ∧ (d : Int) ≤ ((ZaP y m : Nat) : Int) ∧ h<24 ∧ i<60 ∧ s<60
    · rw[if_neg (by omega), if_neg (by omega), if_neg (by
        rintro(k | k)
        · rw[decide_eq_true e] at k; cases k
        · exact c k)]
    · refine Eq.trans ?_ (if_pos (Or.inl (decide_eq_false e))).symm
      by_cases e2 : (m : Int)<1 ∨ 12<(m : Int) ∨ (d : Int)<1 ∨ 23<(h : Int) ∨ 59<(i : Int) ∨ 59<(s : Int)
      · rw[if_pos (.inr e2)]
      · rw[if_neg (by omega), if_pos (by omega)]
theorem ZcR {y:Nat} {w:World} (hy:y≤100001) :
  Calls Tryz.prog 149 #[.int .i64 (y:Int)] w fun e w'=>e=.returned (.int .i64 (Zb3 y))∧w'=w:=by
 by_cases c0:y=0
 ·have HA:Hid (Zb3 y=-365):=by show _=_;rw[c0];rfl
  have g0:(y:Int)=0:=by omega
  clear c0;have w0:IntKind.i64.wrap (-1)=-1:=by decide
  go_enter Tryz.func149,Tryz.ntmps149;go_wp2_with fail;go_ret;exact ⟨by rw[HA.out];rfl,rfl⟩
 have HA:Hid _:=Zn0 (y:=y) (by omega);have HZ:Hid (Zb3 y=Zbx y):=Zb5 (by omega);obtain ⟨n,hn⟩:∃ n,y-1=n:=⟨_,rfl⟩;have w1:IntKind.i64.wrap ((y:Int)-1)=(n:Int):=by rw[IntKind.wrap_i64];omega
 rw[hn] at HA;have hm:((y:Int)-1)=(n:Int):=by omega
 rw[hm] at HA;have t1:(n:Int).tdiv 4=((n/4:Nat):Int):=by rw[Int.tdiv_eq_ediv_of_nonneg (by omega)];omega
 have t2:(n:Int).tdiv 100=((n/100:Nat):Int):=by rw[Int.tdiv_eq_ediv_of_nonneg (by omega)];omega
 have t3:(n:Int).tdiv 400=((n/400:Nat):Int):=by rw[Int.tdiv_eq_ediv_of_nonneg (by omega)];omega
 have b1:n/4≤n:=Nat.div_le_self _ _;have b2:n/100≤n:=Nat.div_le_self _ _;have b3:n/400≤n:=Nat.div_le_self _ _;have hn2:n≤100001:=by omega
 have t4:(n:Int)/4=((n/4:Nat):Int):=by omega
 have t5:(n:Int)/100=((n/100:Nat):Int):=by omega
 have t6:(n:Int)/400=((n/400:Nat):Int):=by omega
 obtain⟨a,ha⟩:∃ a,n/4=a:=⟨_,rfl⟩;obtain ⟨b,hb⟩:∃ a,n/100=a:=⟨_,rfl⟩;obtain ⟨c,hc⟩:∃ a,n/400=a:=⟨_,rfl⟩;rw[ha] at t1 t4 b1 HA;rw[hb] at t2 t5 b2 HA;rw[hc] at t3 t6 b3 HA;clear ha hb hc hn hm hy;obtain ⟨m,hm⟩:∃ m,(n:Int)*365=m:=⟨_,rfl⟩;have w2:IntKind.i64.wrap ((n:Int)*365)=m:=by rw[IntKind.wrap_i64];omega
 obtain⟨s1,hs1⟩:∃ s,m+(a:Int)=s:=⟨_,rfl⟩;have w3:IntKind.i64.wrap (m+(a:Int))=s1:=by rw[IntKind.wrap_i64];omega
 obtain⟨s2,hs2⟩:∃ s,s1-(b:Int)=s:=⟨_,rfl⟩;have w4:IntKind.i64.wrap (s1-(b:Int))=s2:=by rw[IntKind.wrap_i64];omega
 obtain⟨s3,hs3⟩:∃ s,s2+(c:Int)=s:=⟨_,rfl⟩;have w5:IntKind.i64.wrap (s2+(c:Int))=s3:=by rw[IntKind.wrap_i64];omega
 have w6:IntKind.i64.wrap (a:Int)=(a:Int):=by rw[IntKind.wrap_i64];omega
 have w7:IntKind.i64.wrap (b:Int)=(b:Int):=by rw[IntKind.wrap_i64];omega
 have w8:IntKind.i64.wrap (c:Int)=(c:Int):=by rw[IntKind.wrap_i64];omega
 have HE:Hid (Zb3 y=s3):=by show _=_;rw[HZ.out,← HA.out];omega
 clear HA HZ hm hs1 hs2 hs3 c0;go_enter Tryz.func149,Tryz.ntmps149;go_wp2_with fail;go_ret;exact ⟨by rw[HE.out];rfl,rfl⟩
theorem Zcf {y m:Nat} {w:World} (hy:y≤99999) (h1:1≤m) (h2:m≤12) :
  Calls Tryz.prog 150 #[.int .i64 (y:Int),.int .i64 (m:Int)] w fun e w'=>e=.returned (.int .i64 (mdZ y m))∧w'=w:=by
 by_cases c2:m=2
 ·have HE:Hid (mdZ y m=28+Zb3 (y+1)-Zb3 y-365):=by show _=_;rw[c2,mdZ_2]
  have g2:((m:Int) == 2)=true:=by rw[c2];rfl
  have a1:=Zfr (y:=y+1) (by omega);have a2:=Zfr (y:=y) (by omega);have b2:(m:Int)=2:=by omega
  clear c2;obtain ⟨y1,hy1⟩:∃ z,y+1=z:=⟨_,rfl⟩;have w1:IntKind.i64.wrap ((y:Int)+1)=(y1:Int):=by rw[IntKind.wrap_i64];omega
  rw[hy1] at HE a1;go_enter Tryz.func150,Tryz.ntmps150;go_wp2_with fail;refine (ZcR (y:=y1) (by omega)).mono ?_;rintro e w1 ⟨rfl,rfl⟩;obtain ⟨p,hp⟩:∃ z,Zb3 y1=z:=⟨_,rfl⟩;rw[hp] at HE a1 ⊢;have w2:IntKind.i64.wrap (28+p)=28+p:=by rw[IntKind.wrap_i64];omega
  clear hp hy1;go_wp2_with fail;refine (ZcR (y:=y) (by omega)).mono ?_;rintro e w3 ⟨rfl,rfl⟩;obtain ⟨q,hq⟩:∃ z,Zb3 y=z:=⟨_,rfl⟩;rw[hq] at HE a2 ⊢;have w4:IntKind.i64.wrap (28+p-q)=28+p-q:=by rw[IntKind.wrap_i64];omega
  have w5:IntKind.i64.wrap (28+p-q-365)=28+p-q-365:=by rw[IntKind.wrap_i64];omega
  clear hq;go_wp2_with fail;go_ret;exact ⟨by rw[HE.out];rfl,rfl⟩
 have HN:Hid (mdZ y m=((ZaP y m:Nat):Int)):=ZoJ c2;have n2:((m:Int) == 2)=false:=by rw[beq_eq_false_iff_ne];omega
 have i2:¬ (m:Int)=2:=by omega
 by_cases c30:m=4∨m=6∨m=9∨m=11
 ·have HE:Hid (mdZ y m=30):=by show _=_;rw[HN.out,Zqq c30];rfl
  rcases c30 with c|c|c|c
  ·have d4:(m:Int)=4:=by omega
   clear c c2;go_enter Tryz.func150,Tryz.ntmps150;go_wp2_with fail;go_ret;exact ⟨by rw[HE.out];rfl,rfl⟩
  ·have d6:(m:Int)=6:=by omega
   clear c c2;go_enter Tryz.func150,Tryz.ntmps150;go_wp2_with fail;go_ret;exact ⟨by rw[HE.out];rfl,rfl⟩
  ·have d9:(m:Int)=9:=by omega
   clear c c2;go_enter Tryz.func150,Tryz.ntmps150;go_wp2_with fail;go_ret;exact ⟨by rw[HE.out];rfl,rfl⟩
  ·have d11:(m:Int)=11:=by omega
   clear c c2;go_enter Tryz.func150,Tryz.ntmps150;go_wp2_with fail;go_ret;exact ⟨by rw[HE.out];rfl,rfl⟩
 ·have HE:Hid (mdZ y m=31):=by show _=_;rw[HN.out,Zqr h1 h2 (by omega)];rfl
  have i4:¬ (m:Int)=4:=by omega
  have i6:¬ (m:Int)=6:=by omega
  have i9:¬ (m:Int)=9:=by omega
  have i11:¬ (m:Int)=11:=by omega
  clear c30 c2;go_enter Tryz.func150,Tryz.ntmps150;go_wp2_with fail;go_ret;exact ⟨by rw[HE.out];rfl,rfl⟩
theorem Zfw {w:World}:Calls Tryz.prog 129 #[.int .i64 23] w fun e w'=>e=.returned (.int .i64 6)∧w'=w:=by
 go_enter Tryz.func129,Tryz.ntmps129;go_wp2_with fail;go_ret;exact ⟨rfl,rfl⟩
theorem Zfx {w:World}:Calls Tryz.prog 129 #[.int .i64 24] w fun e w'=>e=.returned (.int .i64 7)∧w'=w:=by
 go_enter Tryz.func129,Tryz.ntmps129;go_wp2_with fail;go_ret;exact ⟨rfl,rfl⟩
theorem Zfv {w:World}:Calls Tryz.prog 149 #[.int .i64 1970] w fun e w'=>e=.returned (.int .i64 719162)∧w'=w:=by
 have h:=ZcR (y:=1970) (w:=w) (by omega);rw[Zb5 (by omega),Zj3] at h;exact h
theorem Zjd {y m d h i s:Nat} {w:World} (hy1:1≤y) (hy:y≤99999) (hm1:1≤m) (hm2:m≤12) (hd:d≤99) (hh:h≤99) (hi:i≤99) (hs:s≤99) :
  Calls Tryz.prog 140 #[.agg #[.int .i64 (y:Int),.int .i64 (m:Int),.int .i64 (d:Int),.int .i64 (h:Int),.int .i64 (i:Int),.int .i64 (s:Int)]] w fun e w'=>e=.returned (.int .i64 (ZbM y m d+(3600*(h:Int)+60*(i:Int)+(s:Int))))∧Below w.heap.size w w':=by
 have B0:=Blk.new w [.int .i64 (y:Int),.int .i64 (m:Int),.int .i64 (d:Int),.int .i64 (h:Int),.int .i64 (i:Int),.int .i64 (s:Int)] 211 w.heap.size rfl;have bel:=bal w (.cells #[.int .i64 (y:Int),.int .i64 (m:Int),.int .i64 (d:Int),.int .i64 (h:Int),.int .i64 (i:Int),.int .i64 (s:Int)] 211);have e0:=B0.cell 0 _ rfl;have e1:=B0.cell 1 _ rfl;have e2:=B0.cell 2 _ rfl;have e3:=B0.cell 3 _ rfl;have e4:=B0.cell 4 _ rfl;have e5:=B0.cell 5 _ rfl;have lt0:=B0.lt;have hab:=Zfr (y:=y) (by omega);have hah:=fun w:World=>ZcR (y:=y) (w:=w) (by omega);have HZ:Hid (Zb3 y=Zbx y):=Zb5 hy1;have HM:Hid (∀ k,1≤k→Zdh y (k+1-1)=Zdh y (k-1)+ZaP y k):=fun k hk=>Zep hk;have HMl:Hid (∀ n,Zdh y n≤31*n):=ZgY y;obtain ⟨a,ha⟩:∃ a,Zb3 y=a:=⟨_,rfl⟩;have HA:Hid (Zb3 y=a):=ha;rw[ha] at hab hah;clear ha;obtain ⟨p,hp⟩:∃ p,a-719162=p:=⟨_,rfl⟩;have w1:IntKind.i64.wrap (a-719162)=p:=by rw[IntKind.wrap_i64];omega
 obtain⟨q,hq⟩:∃ q,p+(d:Int)=q:=⟨_,rfl⟩;have w2:IntKind.i64.wrap (p+(d:Int))=q:=by rw[IntKind.wrap_i64];omega
 obtain⟨D,hD⟩:∃ z,q-1=z:=⟨_,rfl⟩;have w3:IntKind.i64.wrap (q-1)=D:=by rw[IntKind.wrap_i64];omega
 have hDb:-800000≤D∧D≤37000000:=by omega
 have HS:Hid (ZbM y m d=(D+(Zdh y (m-1):Nat))*86400):=by
  show _=_;rw[Zia,← HZ.out,HA.out];refine congrArg (fun z:Int=>z*86400) ?_;omega
 clear hp hq hD HZ HA;go_enter Tryz.func140,Tryz.ntmps140;go_upto_region 1 with fail;go_quiet (((first|(go_at_call_of 149 (Value.int IntKind.i64 (y:Int));exact Calls.quiet_of_same (hah _))|(go_at_call_of 149 (Value.int IntKind.i64 1970);exact Calls.quiet_of_same Zfv))));clear hah w1 w2 w3 hab;replace B0:=B0.drewN nq;replace bel:=ZaM bel nq;generalize (w.alloc (.cells #[.int .i64 (y:Int),.int .i64 (m:Int),.int .i64 (d:Int),.int .i64 (h:Int),.int .i64 (i:Int),.int .i64 (s:Int)] 211)).drewN nq=W at *;clear e0 e1 e2 e3 e4 e5 lt0;have e0:=B0.cell 0 _ rfl;have e1:=B0.cell 1 _ rfl;have e2:=B0.cell 2 _ rfl;have e3:=B0.cell 3 _ rfl;have e4:=B0.cell 4 _ rfl;have e5:=B0.cell 5 _ rfl;have lt0:=B0.lt;go_wp2_with fail;go_loop [3,4] (fun dv kv=>∃ (k:Nat) (z:Int),1≤k∧k≤m∧kv=.int .i64 (k:Int)∧dv=.int .i64 z∧(-800000≤z∧z≤37000400)∧Hid (z=D+(Zdh y (k-1):Nat))) (fun _ kv=>m-(intOf kv).toNat)
 case atStart=>exact ⟨1,D,by omega,hm1,rfl,rfl,by omega,by show _=_;rw[show 1-1=0 from rfl,Zdh];omega⟩
 case round =>
  obtain⟨k,z,hk1,hk2,rfl,rfl,hz,HK⟩:=hrel
  by_cases hil:k<m
  ·have g1:(k:Int)<(m:Int):=by omega
   have gk:IntKind.i64.wrap ((k:Int)+1)=(k:Int)+1:=by rw[IntKind.wrap_i64];omega
   have HMk:=HM.out k hk1;have hl:=HMl.out (k+1-1);have HK2:Hid (z+(ZaP y k:Nat)=D+(Zdh y (k+1-1):Nat)):=by show _=_;rw[HK.out,HMk];omega
   have hz2:z+((ZaP y k:Nat):Int)≤37000400:=by rw[HK2.out];omega
   clear HMk hl;go_wp2_with fail;refine (Zcf (y:=y) (m:=k) (by omega) hk1 (by omega)).mono ?_;rintro e w1 ⟨rfl,rfl⟩;rw[ZfN hy1];obtain ⟨x,hx⟩:∃ x,ZaP y k=x:=⟨_,rfl⟩;rw[hx] at HK2 hz2 ⊢;have w4:IntKind.i64.wrap (z+(x:Int))=z+(x:Int):=by rw[IntKind.wrap_i64];omega
   clear hx;go_wp2_with fail;go_round
   case rel=>exact ⟨k+1,z+(x:Int),by omega,by omega,by go_num,rfl,by omega,HK2⟩
   case measure=>simp[intOf];omega
  ·have g1:¬ (k:Int)<(m:Int):=by omega
   have hkm:k=m:=by omega
   have HE:Hid (ZbM y m d=z*86400):=by show _=_;rw[HS.out,HK.out,hkm]
   clear HK HS hkm;obtain ⟨u,hu⟩:∃ u,z*86400=u:=⟨_,rfl⟩;have w4:IntKind.i64.wrap (z*86400)=u:=by rw[IntKind.wrap_i64];omega
   obtain⟨u1,hu1⟩:∃ u,(h:Int)*3600=u:=⟨_,rfl⟩;have w5:IntKind.i64.wrap ((h:Int)*3600)=u1:=by rw[IntKind.wrap_i64];omega
   obtain⟨u2,hu2⟩:∃ u,(i:Int)*60=u:=⟨_,rfl⟩;have w6:IntKind.i64.wrap ((i:Int)*60)=u2:=by rw[IntKind.wrap_i64];omega
   obtain⟨u3,hu3⟩:∃ u,u1+u2=u:=⟨_,rfl⟩;have w7:IntKind.i64.wrap (u1+u2)=u3:=by rw[IntKind.wrap_i64];omega
   obtain⟨u4,hu4⟩:∃ u,u3+(s:Int)=u:=⟨_,rfl⟩;have w8:IntKind.i64.wrap (u3+(s:Int))=u4:=by rw[IntKind.wrap_i64];omega
   obtain⟨u5,hu5⟩:∃ q,u+u4=q:=⟨_,rfl⟩;have w9:IntKind.i64.wrap (u+u4)=u5:=by rw[IntKind.wrap_i64];omega
   have HE2:Hid (ZbM y m d+(3600*(h:Int)+60*(i:Int)+(s:Int))=u5):=by show _=_;rw[HE.out];omega
   clear hu hu1 hu2 hu3 hu4 hu5 HE;go_wp2_with fail;go_ret;exact ⟨by rw[HE2.out];rfl,bel⟩
def ZnX (t:Int) (y m d c:Nat):Prop:=1950≤y∧y≤9999∧1≤m∧m≤12∧d<ZaP y m∧c<86400∧t+719162*86400=(Zbx y+(Zdh y (m-1):Nat)+d)*86400+c
theorem ZjV:Hid (∀ w:World,(zeroValue 211).run Tryz.prog w=.ok (.agg #[.int .i64 0,.int .i64 0,.int .i64 0,.int .i64 0,.int .i64 0,.int .i64 0]) w):=fun w=>by kernel_rfl
theorem Zhf:(Tryz.prog.info? 211).map (·.size)=some 6:=by kernel_rfl
theorem ZoM {y m:Nat} {d:Int} (h1:1≤m) (h2:m≤12) (hd:((ZaP y m:Nat):Int)≤d) (ht:d+(Zdh y (m-1):Nat)<337+(ZaP y 2:Nat)):m+1≤12:=by
 by_cases k:m=12
 ·subst k
  have:=Zmo y;rw[show (12:Nat)=11+1 from rfl,Zdh] at this;rw[show 12-1=11 from rfl] at ht;rw[show (11+1:Nat)=12 from rfl] at this;omega
 ·omega
theorem Zht {t:Int} {w:World} (ht1:-631152000≤t) (ht2:t≤253402300799) :
  Calls Tryz.prog 127 #[.int .i64 t] w fun e w'=>∃ y m d c d1 k1 k3 k4:Nat,e=.returned (.agg #[.int .i64 (y:Int),.int .i64 (m:Int),.int .i64 (d1:Int),.int .i64 (k1:Int),.int .i64 (k3:Int),.int .i64 (k4:Int)])∧ZnX t y m d c∧(k1=c/3600∧k3=c%3600/60∧k4=c%60∧d1=d+1)∧Below w.heap.size w w':=by
 have hz:=ZjV.out;have R0:=Blk.new w #[.int .i64 0,.int .i64 0,.int .i64 0,.int .i64 0,.int .i64 0,.int .i64 0].toList 211 w.heap.size rfl;have bel:=bal w (.cells #[.int .i64 0,.int .i64 0,.int .i64 0,.int .i64 0,.int .i64 0,.int .i64 0] 211);have w1:IntKind.i64.wrap (719162*86400)=62135596800:=by decide
 obtain⟨T,hT⟩:∃ T,t+62135596800=T:=⟨_,rfl⟩;have w2:IntKind.i64.wrap (t+62135596800)=T:=by rw[IntKind.wrap_i64];omega
 obtain⟨T',rfl⟩:=Int.eq_ofNat_of_zero_le (show 0≤T by omega);obtain ⟨D0,hD0⟩:∃ d,T'/86400=d:=⟨_,rfl⟩;obtain ⟨c,hc⟩:∃ c,T'%86400=c:=⟨_,rfl⟩;have t1:(T':Int).tdiv 86400=(D0:Int):=by rw[Int.tdiv_eq_ediv_of_nonneg (by omega)];omega
 have t2:(T':Int).tmod 86400=(c:Int):=by rw[Int.tmod_eq_emod_of_nonneg (by omega)];omega
 have t3:(T':Int)/86400=(D0:Int):=by omega
 have t4:(T':Int)%86400=(c:Int):=by omega
 have hc2:c<86400:=by omega
 have HTt:Hid (t+719162*86400=(D0:Int)*86400+(c:Int)):=by show _=_;omega
 have hDb:D0≤3652059:=by omega
 have w3:IntKind.i64.wrap (D0:Int)=(D0:Int):=by rw[IntKind.wrap_i64];omega
 obtain⟨n0,hn0⟩:∃ n,D0/366=n:=⟨_,rfl⟩;have t5:(D0:Int).tdiv 366=(n0:Int):=by rw[Int.tdiv_eq_ediv_of_nonneg (by omega)];omega
 have t6:(D0:Int)/366=(n0:Int):=by omega
 obtain⟨y0,hy0⟩:∃ y,n0+1=y:=⟨_,rfl⟩;have w4:IntKind.i64.wrap (1+(n0:Int))=(y0:Int):=by rw[IntKind.wrap_i64];omega
 have w5:IntKind.i64.wrap (n0:Int)=(n0:Int):=by rw[IntKind.wrap_i64];omega
 have w6:IntKind.i64.wrap (c:Int)=(c:Int):=by rw[IntKind.wrap_i64];omega
 have HA0:Hid (Zbx y0≤(D0:Int)):=by
  have:=Zfs n0;rw[hy0] at this;show _≤_;omega
 have hy01:1≤y0:=by omega
 have HHi:Hid (∀ y:Nat,Zbx y≤(D0:Int)→y≤9999):=fun y h=>ZrA ht2 (by omega) HTt.out h;have HLo:Hid (∀ y:Nat,(D0:Int)<Zbx (y+1)→1950≤y):=fun y h=>ZrB ht1 (by omega) HTt.out h;clear hT hD0 hc hn0 hy0;go_enter Tryz.func127,Tryz.ntmps127;go_upto_region 1 with fail;clear hz;generalize w.alloc (.cells #[.int .i64 0,.int .i64 0,.int .i64 0,.int .i64 0,.int .i64 0,.int .i64 0] 211)=W at *;go_wp2_with fail;refine Zfv.mono ?_;rintro e w1 ⟨rfl,rfl⟩;go_wp2_with fail;go_loop [5] (fun yv=>∃ y:Nat,1≤y∧yv=.int .i64 (y:Int)∧Hid (Zbx y≤(D0:Int))) (fun yv=>10000-(intOf yv).toNat)
 case atStart=>exact ⟨y0,hy01,rfl,HA0⟩
 case round =>
  clear HA0 hy01 w4 t5 t6;obtain ⟨y,hy1,rfl,HA⟩:=hrel;have hy9:=HHi.out y HA.out;obtain ⟨y2,hy2⟩:∃ z,y+1=z:=⟨_,rfl⟩;have v1:IntKind.i64.wrap ((y:Int)+1)=(y2:Int):=by rw[IntKind.wrap_i64];omega
  go_wp2_with fail;refine (ZcR (y:=y2) (by omega)).mono ?_;rintro e w1 ⟨rfl,rfl⟩;rw[Zb5 (by omega)]
  by_cases cl:Zbx y2≤(D0:Int)
  ·have HA2:Hid (Zbx y2≤(D0:Int)):=cl
   obtain⟨z,hz⟩:∃ z,Zbx y2=z:=⟨_,rfl⟩;rw[hz] at cl ⊢;clear hz;have hy29:=HHi.out y2 HA2.out;go_wp2_with fail;go_round
   case rel=>exact ⟨y2,by omega,rfl,HA2⟩
   case measure=>simp[intOf];omega
  ·have HYl:Hid (1950≤y):=HLo.out y (by rw[hy2];omega)
   have HYn:Hid ((D0:Int)<Zbx y+337+(ZaP y 2:Nat)):=by
    have:=Zez y;rw[hy2] at this;show _<_;omega
   have ha0:=ZeT hy1;obtain ⟨z,hz⟩:∃ z,Zbx y2=z:=⟨_,rfl⟩;rw[hz] at cl ⊢;clear hz hy2;go_wp2_with fail;refine (ZcR (y:=y) (by omega)).mono ?_;rintro e w1 ⟨rfl,rfl⟩;rw[Zb5 hy1];have hal:=HA.out;obtain ⟨a,ha⟩:∃ z,Zbx y=z:=⟨_,rfl⟩;have HAe:Hid (Zbx y=a):=ha;rw[ha] at ha0 hal HYn ⊢;clear ha HA;obtain ⟨e0,he0⟩:∃ z,(D0:Int)-a=z:=⟨_,rfl⟩;have v2:IntKind.i64.wrap ((D0:Int)-a)=e0:=by rw[IntKind.wrap_i64];omega
   obtain⟨d0,rfl⟩:=Int.eq_ofNat_of_zero_le (show 0≤e0 by omega);have HDe:Hid ((D0:Int)=a+(d0:Int)):=by show _=_;omega
   have hd0:d0≤400:=by
    have:=HYn.out;have:=(feb_28 y).2;omega
   have HDl:Hid ((d0:Int)<337+(ZaP y 2:Nat)):=by
    have:=HYn.out;show _<_;omega
   clear he0 HYn cl;go_wp2_with fail;go_loop [3,6] (fun dv mv=>∃ m d:Nat,1≤m∧m≤12∧d≤400∧dv=.int .i64 (d:Int)∧mv=.int .i64 (m:Int)∧Hid (d0=Zdh y (m-1)+d)) (fun _ mv=>13-(intOf mv).toNat)
   case atStart=>exact ⟨1,d0,by omega,by omega,hd0,rfl,rfl,by show _=_;rw[show 1-1=0 from rfl,Zdh];omega⟩
   case round =>
    obtain⟨m,d,hm1,hm2,hd4,rfl,rfl,HM⟩:=hrel;go_wp2_with fail;refine (Zcf (y:=y) (m:=m) (by omega) hm1 hm2).mono ?_;rintro e w1 ⟨rfl,rfl⟩;rw[ZfN hy1]
    by_cases cd:ZaP y m≤d
    ·have HMn:Hid (m+1≤12):=ZoM (y:=y) (d:=(d:Int)) hm1 hm2 (by omega) (by have:=HM.out;have:=HDl.out;omega)
     have HM2:Hid (d0=Zdh y (m+1-1)+(d-ZaP y m)):=by show _=_;rw[Zep hm1,HM.out];omega
     have gm:IntKind.i64.wrap ((m:Int)+1)=(m:Int)+1:=by rw[IntKind.wrap_i64];omega
     have hfun:=fun w:World=>Zcf (y:=y) (m:=m) (w:=w) (by omega) hm1 hm2;rw[ZfN hy1] at hfun;have HF:Hid _:=hfun;clear hfun;obtain ⟨x,hx⟩:∃ x,ZaP y m=x:=⟨_,rfl⟩;rw[hx] at cd HM2 HF ⊢;clear hx;have gx:(x:Int)≤(d:Int):=by omega
     go_wp2_with fail;refine (HF.out _).mono ?_;rintro e w1 ⟨rfl,rfl⟩;have gd:IntKind.i64.wrap ((d:Int)-(x:Int))=((d-x:Nat):Int):=by rw[IntKind.wrap_i64];omega
     have hm12:=HMn.out;clear HF;go_wp2_with fail;go_round
     case rel=>exact ⟨m+1,d-x,by omega,by omega,by omega,rfl,by go_num,HM2⟩
     case measure=>simp[intOf];omega
    ·have HI:Hid (ZnX t y m d c):=by
      refine⟨HYl.out,by omega,hm1,hm2,by omega,hc2,?_⟩;rw[HTt.out,HDe.out,HAe.out,HM.out]
      congr 2
      omega
     obtain⟨x,hx⟩:∃ x,ZaP y m=x:=⟨_,rfl⟩;rw[hx] at cd ⊢;clear hx;have gx:¬ (x:Int)≤(d:Int):=by omega
     obtain⟨d1,hd1⟩:∃ z,d+1=z:=⟨_,rfl⟩;have gd:IntKind.i64.wrap ((d:Int)+1)=(d1:Int):=by rw[IntKind.wrap_i64];omega
     have q1:(c:Int).tdiv 3600=((c/3600:Nat):Int):=by rw[Int.tdiv_eq_ediv_of_nonneg (by omega)];omega
     have q2:(c:Int).tmod 3600=((c%3600:Nat):Int):=by rw[Int.tmod_eq_emod_of_nonneg (by omega)];omega
     have q3:((c%3600:Nat):Int).tdiv 60=((c%3600/60:Nat):Int):=by rw[Int.tdiv_eq_ediv_of_nonneg (by omega)];omega
     have q4:(c:Int).tmod 60=((c%60:Nat):Int):=by rw[Int.tmod_eq_emod_of_nonneg (by omega)];omega
     have q5:(c:Int)/3600=((c/3600:Nat):Int):=by omega
     have q6:(c:Int)%3600=((c%3600:Nat):Int):=by omega
     have q7:((c%3600:Nat):Int)/60=((c%3600/60:Nat):Int):=by omega
     have q8:(c:Int)%60=((c%60:Nat):Int):=by omega
     have b1:c/3600<24:=by omega
     have b2:c%3600<3600:=by omega
     have b3:c%3600/60<60:=by omega
     have b4:c%60<60:=by omega
     obtain⟨k1,hk1⟩:∃ z,c/3600=z:=⟨_,rfl⟩;obtain ⟨k2,hk2⟩:∃ z,c%3600=z:=⟨_,rfl⟩;rw[hk2] at q2 q3 q6 q7 b2 b3;obtain ⟨k3,hk3⟩:∃ z,k2/60=z:=⟨_,rfl⟩;obtain ⟨k4,hk4⟩:∃ z,c%60=z:=⟨_,rfl⟩;rw[hk1] at q1 q5 b1;rw[hk3] at q3 q7 b3;rw[hk4] at q4 q8 b4;have r1:IntKind.i64.wrap (k1:Int)=(k1:Int):=by rw[IntKind.wrap_i64];omega
     have r2:IntKind.i64.wrap (k2:Int)=(k2:Int):=by rw[IntKind.wrap_i64];omega
     have r3:IntKind.i64.wrap (k3:Int)=(k3:Int):=by rw[IntKind.wrap_i64];omega
     have r4:IntKind.i64.wrap (k4:Int)=(k4:Int):=by rw[IntKind.wrap_i64];omega
     have HK:Hid (k1=c/3600∧k3=c%3600/60∧k4=c%60∧d1=d+1):=⟨hk1.symm,by rw[hk2,hk3],hk4.symm,hd1.symm⟩;clear hk1 hk2 hk3 hk4 hd1 HM cd;obtain ⟨tR,hR⟩:=R0;have HR:Hid _:=hR;clear hR;go_wp2_with (first|(refine wpList_store_row rfl 211 _ _ rfl w.heap.size #[.int .i64 (y:Int),.int .i64 (m:Int),.int .i64 (d1:Int),.int .i64 (k1:Int),.int .i64 (k3:Int),.int .i64 (k4:Int)] rfl rfl tR _ HR.out (by rw[Zhf];rfl) rfl (by simp[Value.oneCell']) ?_)|fail);exact bodyPost_ret (results_cell_row rfl _ _ w.heap.size tR #[.int .i64 (y:Int),.int .i64 (m:Int),.int .i64 (d1:Int),.int .i64 (k1:Int),.int .i64 (k3:Int),.int .i64 (k4:Int)] (0,0) _ rfl (setRow_heap _ _ _ _ _ _ HR.out) Tryz.underlying211 rfl (by rw[Zhf];rfl)) rfl ⟨y,m,d,c,d1,k1,k3,k4,rfl,HI.out,HK.out,below_setRow bel (Nat.le_refl _) _⟩
end Go.Proofs.YtohcdbifhnfcbaaGreatDoor
