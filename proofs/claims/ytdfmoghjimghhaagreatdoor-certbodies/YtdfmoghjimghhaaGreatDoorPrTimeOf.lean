import Derived.Test.YtdfmoghjimghhaaGreatDoorCtSize
import Derived.Test.YtdfmoghjimghhaaGreatDoorDrTG
import Derived.Test.YtdfmoghjimghhaaGreatDoorLBytes
import Derived.Test.YtdfmoghjimghhaaGreatDoorPrOidB
import Derived.Test.YtdfmoghjimghhaaGreatDoorRows
import Derived.Deep.OwnRows
import Derived.Deep.AppendLies
import Derived.Great.BuildSlice
import Derived.Deep.WholeRow
import Derived.Deep.RegionHeld3
import Derived.Deep.DeepCutAuto
import Derived.Deep.DeepFit
import Derived.BigQuiet
import Derived.Laws.Rows
import Derived.Laws.CopyOwn
namespace Go.Proofs.YtdfmoghjimghhaaGreatDoor
open Go.RowKit
set_option linter.unusedSimpArgs false
set_option maxRecDepth 100000
set_option maxHeartbeats 4000000
def Zbh (y:Nat):Int:=Zmn y-366
theorem Zl4 {y:Nat} (h:1≤y):((y:Int)-1)*365+(((y-1)/4:Nat):Int)-(((y-1)/100:Nat):Int)+(((y-1)/400:Nat):Int)=Zbh y:=by
 unfold Zbh Zmn;have e1:(y+3)/4=(y-1)/4+1:=by omega
 have e2:(y+399)/400=(y-1)/400+1:=by omega
 have e3:(y+99)/100=(y-1)/100+1:=by omega
 rw[e1,e2,e3];generalize (y-1)/4=a;generalize (y-1)/100=b;generalize (y-1)/400=c;omega
theorem Zd6 (y:Nat):Zbh (y+1)=Zbh y+337+(ZaR y 2:Nat):=by
 have:=ZeV y;unfold Zbh;omega
theorem ZfP {y z:Nat} (h:y≤z):Zbh y≤Zbh z:=by
 have:=Zki h;unfold Zbh;omega
theorem ZiV:Zbh 1970=719162:=by decide
theorem ZjH:Zbh 1=0:=by decide
theorem ZeM:∀ n:Nat,Zbh (n+1)≤366*(n:Int)
 | 0=>by rw[ZjH];decide
 | n+1=>by
  have h1:=ZeM n;have h2:=feb (n+1);rw[Zd6]
  split at h2<;>omega
theorem Zen {y:Nat} (h:1≤y):0≤Zbh y:=by
 have:=ZfP h;rw[ZjH] at this;exact this
theorem ZjI:Zbh 10000=3652059:=by decide
theorem ZiU:Zbh 1950=711857:=by decide
theorem Zlv (y m d:Nat):Zcr y m d=(Zbh y-719162+(ZdC y (m-1):Int)+(d:Int)-1)*86400:=by
 rw[Zbw];unfold Zbh;refine congrArg (fun z:Int=>z*86400) ?_;omega
theorem feb_28 (y:Nat):28≤ZaR y 2∧ZaR y 2≤29:=by
 rw[feb]
 split<;>omega
theorem Zks (y:Nat):28+Zbh (y+1)-Zbh y-365=((ZaR y 2:Nat):Int):=by
 rw[Zd6];omega
theorem Zoi {y m:Nat} (h:m=4∨m=6∨m=9∨m=11):ZaR y m=30:=by
 rw[Za2 (by omega)];rcases h with rfl|rfl|rfl|rfl<;>rfl
theorem Zoj {y m:Nat} (h1:1≤m) (h2:m≤12) (h:¬ (m=2∨m=4∨m=6∨m=9∨m=11)):ZaR y m=31:=by
 rw[Za2 (by omega)];have:m=1∨m=3∨m=5∨m=7∨m=8∨m=10∨m=12:=by omega
 rcases this with rfl|rfl|rfl|rfl|rfl|rfl|rfl<;>rfl
theorem ZkI {t:Int} {y m d c:Nat} (hy1:1950≤y) (hy2:y≤9999) (hm1:1≤m) (hm2:m≤12) (hd:d<ZaR y m) (hc:c<86400) (h:t+719162*86400=(Zbh y+(ZdC y (m-1):Nat)+d)*86400+c):ZiQ t y m∧(t-Zcr y m 1).toNat=86400*d+c:=by
 have e:=Zlv y m 1;refine ⟨⟨hy1,hy2,hm1,hm2,?_,?_⟩,?_⟩
 ·rw[e];omega
 ·rw[e];omega
 ·rw[e];omega
theorem Zpj {t:Int} {y:Nat} {d c:Int} (h1:-631152000≤t) (hc:0≤c∧c<86400) (h:t+719162*86400=d*86400+c) (hy:d<Zbh (y+1)):1950≤y:=by
 by_cases k:1950≤y
 ·exact k
 ·have:=ZfP (show y+1≤1950 by omega)
  rw[ZiU] at this;omega
theorem Zpi {t:Int} {y:Nat} {d c:Int} (h1:t≤253402300799) (hc:0≤c∧c<86400) (h:t+719162*86400=d*86400+c) (hy:Zbh y≤d):y≤9999:=by
 by_cases k:y≤9999
 ·exact k
 ·have:=ZfP (show 10000≤y by omega)
  rw[ZjI] at this;omega
theorem ZiW {d c:Nat} (hc:c<86400):1+(86400*d+c)/86400=d+1∧(86400*d+c)/3600%24=c/3600∧(86400*d+c)/60%60=c%3600/60∧(86400*d+c)%60=c%60:=by
 refine⟨by omega,?_,?_,by omega⟩
 ·have:(86400*d+c)/3600=24*d+c/3600:=by omega
  rw[this];omega
 ·have:(86400*d+c)/60=1440*d+c/60:=by omega
  rw[this];have:c%3600/60=c/60%60:=by omega
  rw[this];omega
def Zca (y:Nat):Int:=if y=0 then -365 else Zbh y
theorem Zb4 {y:Nat} (h:1≤y):Zca y=Zbh y:=by unfold Zca;rw[if_neg (by omega)]
def mdZ (y m:Nat):Int:=if y=0∧m=2 then 28 else ((ZaR y m:Nat):Int)
theorem ZhH {y m:Nat} (h:1≤y):mdZ y m=((ZaR y m:Nat):Int):=by unfold mdZ;rw[if_neg (by omega)]
theorem mdZ_2 (y:Nat):28+Zca (y+1)-Zca y-365=mdZ y 2:=by
 by_cases h:y=0
 ·subst h;decide
 ·rw[Zb4 (by omega),Zb4 (by omega),ZhH (by omega)]
  exact Zks y
theorem ZmS {y m:Nat} (h:¬ m=2):mdZ y m=((ZaR y m:Nat):Int):=by unfold mdZ;rw[if_neg (by omega)]
theorem Zgq {y:Nat} (h:y≤100000):-400≤Zca y∧Zca y≤36600000:=by
 unfold Zca
 split
 ·decide
 ·have h1:=Zen (y:=y) (by omega)
  have h2:=ZeM (y-1);rw[show y-1+1=y by omega] at h2;omega
theorem Zc4 {y:Nat} {w:World} (hy:y≤100001) :
  Calls Tryz.prog 210 #[.int .i64 (y:Int)] w fun e w'=>e=.returned (.int .i64 (Zca y))∧w'=w:=by
 by_cases c0:y=0
 ·have HA:Hid (Zca y=-365):=by show _=_;rw[c0];rfl
  have g0:(y:Int)=0:=by omega
  clear c0;have w0:IntKind.i64.wrap (-1)=-1:=by decide
  go_enter Tryz.func210,Tryz.ntmps210;go_wp2_with fail;go_ret;exact ⟨by rw[HA.out];rfl,rfl⟩
 have HA:Hid _:=Zl4 (y:=y) (by omega);have HZ:Hid (Zca y=Zbh y):=Zb4 (by omega);obtain ⟨n,hn⟩:∃ n,y-1=n:=⟨_,rfl⟩;have w1:IntKind.i64.wrap ((y:Int)-1)=(n:Int):=by rw[IntKind.wrap_i64];omega
 rw[hn] at HA;have hm:((y:Int)-1)=(n:Int):=by omega
 rw[hm] at HA;have t1:(n:Int).tdiv 4=((n/4:Nat):Int):=by rw[Int.tdiv_eq_ediv_of_nonneg (by omega)];omega
 have t2:(n:Int).tdiv 100=((n/100:Nat):Int):=by rw[Int.tdiv_eq_ediv_of_nonneg (by omega)];omega
 have t3:(n:Int).tdiv 400=((n/400:Nat):Int):=by rw[Int.tdiv_eq_ediv_of_nonneg (by omega)];omega
 have b1:n/4≤n:=Nat.div_le_self _ _;have b2:n/100≤n:=Nat.div_le_self _ _;have b3:n/400≤n:=Nat.div_le_self _ _;have hn2:n≤100001:=by omega
 have t4:(n:Int)/4=((n/4:Nat):Int):=by omega
 have t5:(n:Int)/100=((n/100:Nat):Int):=by omega
 have t6:(n:Int)/400=((n/400:Nat):Int):=by omega
 obtain⟨a,ha⟩:∃ a,n/4=a:=⟨_,rfl⟩;obtain ⟨b,hb⟩:∃ a,n/100=a:=⟨_,rfl⟩;obtain ⟨c,hc⟩:∃ a,n/400=a:=⟨_,rfl⟩;rw[ha] at t1 t4 b1 HA;rw[hb] at t2 t5 b2 HA;rw[hc] at t3 t6 b3 HA;clear ha hb hc hn hm hy;obtain ⟨m,hm⟩:∃ m,(n:Int)*365=m:=⟨_,rfl⟩;have w2:IntKind.i64.wrap ((n:Int)*365)=m:=by rw[IntKind.wrap_i64];omega
 obtain⟨s1,hs1⟩:∃ s,m+(a:Int)=s:=⟨_,rfl⟩;have w3:IntKind.i64.wrap (m+(a:Int))=s1:=by rw[IntKind.wrap_i64];omega
 obtain⟨s2,hs2⟩:∃ s,s1-(b:Int)=s:=⟨_,rfl⟩;have w4:IntKind.i64.wrap (s1-(b:Int))=s2:=by rw[IntKind.wrap_i64];omega
 obtain⟨s3,hs3⟩:∃ s,s2+(c:Int)=s:=⟨_,rfl⟩;have w5:IntKind.i64.wrap (s2+(c:Int))=s3:=by rw[IntKind.wrap_i64];omega
 have w6:IntKind.i64.wrap (a:Int)=(a:Int):=by rw[IntKind.wrap_i64];omega
 have w7:IntKind.i64.wrap (b:Int)=(b:Int):=by rw[IntKind.wrap_i64];omega
 have w8:IntKind.i64.wrap (c:Int)=(c:Int):=by rw[IntKind.wrap_i64];omega
 have HE:Hid (Zca y=s3):=by show _=_;rw[HZ.out,← HA.out];omega
 clear HA HZ hm hs1 hs2 hs3 c0;go_enter Tryz.func210,Tryz.ntmps210;go_wp2_with fail;go_ret;exact ⟨by rw[HE.out];rfl,rfl⟩
theorem Zgx {y m:Nat} {w:World} (hy:y≤99999) (h1:1≤m) (h2:m≤12) :
  Calls Tryz.prog 211 #[.int .i64 (y:Int),.int .i64 (m:Int)] w fun e w'=>e=.returned (.int .i64 (mdZ y m))∧w'=w:=by
 by_cases c2:m=2
 ·have HE:Hid (mdZ y m=28+Zca (y+1)-Zca y-365):=by show _=_;rw[c2,mdZ_2]
  have g2:((m:Int) == 2)=true:=by rw[c2];rfl
  have a1:=Zgq (y:=y+1) (by omega);have a2:=Zgq (y:=y) (by omega);have b2:(m:Int)=2:=by omega
  clear c2;obtain ⟨y1,hy1⟩:∃ z,y+1=z:=⟨_,rfl⟩;have w1:IntKind.i64.wrap ((y:Int)+1)=(y1:Int):=by rw[IntKind.wrap_i64];omega
  rw[hy1] at HE a1;go_enter Tryz.func211,Tryz.ntmps211;go_wp2_with fail;refine (Zc4 (y:=y1) (by omega)).mono ?_;rintro e w1 ⟨rfl,rfl⟩;obtain ⟨p,hp⟩:∃ z,Zca y1=z:=⟨_,rfl⟩;rw[hp] at HE a1 ⊢;have w2:IntKind.i64.wrap (28+p)=28+p:=by rw[IntKind.wrap_i64];omega
  clear hp hy1;go_wp2_with fail;refine (Zc4 (y:=y) (by omega)).mono ?_;rintro e w3 ⟨rfl,rfl⟩;obtain ⟨q,hq⟩:∃ z,Zca y=z:=⟨_,rfl⟩;rw[hq] at HE a2 ⊢;have w4:IntKind.i64.wrap (28+p-q)=28+p-q:=by rw[IntKind.wrap_i64];omega
  have w5:IntKind.i64.wrap (28+p-q-365)=28+p-q-365:=by rw[IntKind.wrap_i64];omega
  clear hq;go_wp2_with fail;go_ret;exact ⟨by rw[HE.out];rfl,rfl⟩
 have HN:Hid (mdZ y m=((ZaR y m:Nat):Int)):=ZmS c2;have n2:((m:Int) == 2)=false:=by rw[beq_eq_false_iff_ne];omega
 have i2:¬ (m:Int)=2:=by omega
 by_cases c30:m=4∨m=6∨m=9∨m=11
 ·have HE:Hid (mdZ y m=30):=by show _=_;rw[HN.out,Zoi c30];rfl
  rcases c30 with c|c|c|c
  ·have d4:(m:Int)=4:=by omega
   clear c c2;go_enter Tryz.func211,Tryz.ntmps211;go_wp2_with fail;go_ret;exact ⟨by rw[HE.out];rfl,rfl⟩
  ·have d6:(m:Int)=6:=by omega
   clear c c2;go_enter Tryz.func211,Tryz.ntmps211;go_wp2_with fail;go_ret;exact ⟨by rw[HE.out];rfl,rfl⟩
  ·have d9:(m:Int)=9:=by omega
   clear c c2;go_enter Tryz.func211,Tryz.ntmps211;go_wp2_with fail;go_ret;exact ⟨by rw[HE.out];rfl,rfl⟩
  ·have d11:(m:Int)=11:=by omega
   clear c c2;go_enter Tryz.func211,Tryz.ntmps211;go_wp2_with fail;go_ret;exact ⟨by rw[HE.out];rfl,rfl⟩
 ·have HE:Hid (mdZ y m=31):=by show _=_;rw[HN.out,Zoj h1 h2 (by omega)];rfl
  have i4:¬ (m:Int)=4:=by omega
  have i6:¬ (m:Int)=6:=by omega
  have i9:¬ (m:Int)=9:=by omega
  have i11:¬ (m:Int)=11:=by omega
  clear c30 c2;go_enter Tryz.func211,Tryz.ntmps211;go_wp2_with fail;go_ret;exact ⟨by rw[HE.out];rfl,rfl⟩
theorem Zhq {w:World}:Calls Tryz.prog 172 #[.int .i64 23] w fun e w'=>e=.returned (.int .i64 6)∧w'=w:=by
 go_enter Tryz.func172,Tryz.ntmps172;go_wp2_with fail;go_ret;exact ⟨rfl,rfl⟩
theorem Zhr {w:World}:Calls Tryz.prog 172 #[.int .i64 24] w fun e w'=>e=.returned (.int .i64 7)∧w'=w:=by
 go_enter Tryz.func172,Tryz.ntmps172;go_wp2_with fail;go_ret;exact ⟨rfl,rfl⟩
theorem Zhp {w:World}:Calls Tryz.prog 210 #[.int .i64 1970] w fun e w'=>e=.returned (.int .i64 719162)∧w'=w:=by
 have h:=Zc4 (y:=1970) (w:=w) (by omega);rw[Zb4 (by omega),ZiV] at h;exact h
def ZlY (t:Int) (y m d c:Nat):Prop:=1950≤y∧y≤9999∧1≤m∧m≤12∧d<ZaR y m∧c<86400∧t+719162*86400=(Zbh y+(ZdC y (m-1):Nat)+d)*86400+c
theorem ZiO:Hid (∀ w:World,(zeroValue 242).run Tryz.prog w=.ok (.agg #[.int .i64 0,.int .i64 0,.int .i64 0,.int .i64 0,.int .i64 0,.int .i64 0]) w):=fun w=>by kernel_rfl
theorem Zgi:(Tryz.prog.info? 242).map (·.size)=some 6:=by kernel_rfl
theorem ZmW {y m:Nat} {d:Int} (h1:1≤m) (h2:m≤12) (hd:((ZaR y m:Nat):Int)≤d) (ht:d+(ZdC y (m-1):Nat)<337+(ZaR y 2:Nat)):m+1≤12:=by
 by_cases k:m=12
 ·subst k
  have:=ZkK y;rw[show (12:Nat)=11+1 from rfl,ZdC] at this;rw[show 12-1=11 from rfl] at ht;rw[show (11+1:Nat)=12 from rfl] at this;omega
 ·omega
theorem Zgy {t:Int} {w:World} (ht1:-631152000≤t) (ht2:t≤253402300799) :
  Calls Tryz.prog 170 #[.int .i64 t] w fun e w'=>∃ y m d c d1 k1 k3 k4:Nat,e=.returned (.agg #[.int .i64 (y:Int),.int .i64 (m:Int),.int .i64 (d1:Int),.int .i64 (k1:Int),.int .i64 (k3:Int),.int .i64 (k4:Int)])∧ZlY t y m d c∧(k1=c/3600∧k3=c%3600/60∧k4=c%60∧d1=d+1)∧Below w.heap.size w w':=by
 have hz:=ZiO.out;have R0:=Blk.new w #[.int .i64 0,.int .i64 0,.int .i64 0,.int .i64 0,.int .i64 0,.int .i64 0].toList 242 w.heap.size rfl;have bel:=bal w (.cells #[.int .i64 0,.int .i64 0,.int .i64 0,.int .i64 0,.int .i64 0,.int .i64 0] 242);have w1:IntKind.i64.wrap (719162*86400)=62135596800:=by decide
 obtain⟨T,hT⟩:∃ T,t+62135596800=T:=⟨_,rfl⟩;have w2:IntKind.i64.wrap (t+62135596800)=T:=by rw[IntKind.wrap_i64];omega
 obtain⟨T',rfl⟩:=Int.eq_ofNat_of_zero_le (show 0≤T by omega);obtain ⟨D0,hD0⟩:∃ d,T'/86400=d:=⟨_,rfl⟩;obtain ⟨c,hc⟩:∃ c,T'%86400=c:=⟨_,rfl⟩;have t1:(T':Int).tdiv 86400=(D0:Int):=by rw[Int.tdiv_eq_ediv_of_nonneg (by omega)];omega
 have t2:(T':Int).tmod 86400=(c:Int):=by rw[Int.tmod_eq_emod_of_nonneg (by omega)];omega
 have t3:(T':Int)/86400=(D0:Int):=by omega
 have t4:(T':Int)%86400=(c:Int):=by omega
 have hc2:c<86400:=by omega
 have HTt:Hid (t+719162*86400=(D0:Int)*86400+(c:Int)):=by show _=_;omega
 have hDb:D0≤3652059:=by omega
 have w3:IntKind.i64.wrap (D0:Int)=(D0:Int):=by rw[IntKind.wrap_i64];omega
 obtain⟨n0,hn0⟩:∃ n,D0/366=n:=⟨_,rfl⟩;have t5:(D0:Int).tdiv 366=(n0:Int):=by rw[Int.tdiv_eq_ediv_of_nonneg (by omega)];omega
 have t6:(D0:Int)/366=(n0:Int):=by omega
 obtain⟨y0,hy0⟩:∃ y,n0+1=y:=⟨_,rfl⟩;have w4:IntKind.i64.wrap (1+(n0:Int))=(y0:Int):=by rw[IntKind.wrap_i64];omega
 have w5:IntKind.i64.wrap (n0:Int)=(n0:Int):=by rw[IntKind.wrap_i64];omega
 have w6:IntKind.i64.wrap (c:Int)=(c:Int):=by rw[IntKind.wrap_i64];omega
 have HA0:Hid (Zbh y0≤(D0:Int)):=by
  have:=ZeM n0;rw[hy0] at this;show _≤_;omega
 have hy01:1≤y0:=by omega
 have HHi:Hid (∀ y:Nat,Zbh y≤(D0:Int)→y≤9999):=fun y h=>Zpi ht2 (by omega) HTt.out h;have HLo:Hid (∀ y:Nat,(D0:Int)<Zbh (y+1)→1950≤y):=fun y h=>Zpj ht1 (by omega) HTt.out h;clear hT hD0 hc hn0 hy0;go_enter Tryz.func170,Tryz.ntmps170;go_upto_region 1 with fail;clear hz;generalize w.alloc (.cells #[.int .i64 0,.int .i64 0,.int .i64 0,.int .i64 0,.int .i64 0,.int .i64 0] 242)=W at *;go_wp2_with fail;refine Zhp.mono ?_;rintro e w1 ⟨rfl,rfl⟩;go_wp2_with fail;go_loop [5] (fun yv=>∃ y:Nat,1≤y∧yv=.int .i64 (y:Int)∧Hid (Zbh y≤(D0:Int))) (fun yv=>10000-(intOf yv).toNat)
 case atStart=>exact ⟨y0,hy01,rfl,HA0⟩
 case round =>
  clear HA0 hy01 w4 t5 t6;obtain ⟨y,hy1,rfl,HA⟩:=hrel;have hy9:=HHi.out y HA.out;obtain ⟨y2,hy2⟩:∃ z,y+1=z:=⟨_,rfl⟩;have v1:IntKind.i64.wrap ((y:Int)+1)=(y2:Int):=by rw[IntKind.wrap_i64];omega
  go_wp2_with fail;refine (Zc4 (y:=y2) (by omega)).mono ?_;rintro e w1 ⟨rfl,rfl⟩;rw[Zb4 (by omega)]
  by_cases cl:Zbh y2≤(D0:Int)
  ·have HA2:Hid (Zbh y2≤(D0:Int)):=cl
   obtain⟨z,hz⟩:∃ z,Zbh y2=z:=⟨_,rfl⟩;rw[hz] at cl ⊢;clear hz;have hy29:=HHi.out y2 HA2.out;go_wp2_with fail;go_round
   case rel=>exact ⟨y2,by omega,rfl,HA2⟩
   case measure=>simp[intOf];omega
  ·have HYl:Hid (1950≤y):=HLo.out y (by rw[hy2];omega)
   have HYn:Hid ((D0:Int)<Zbh y+337+(ZaR y 2:Nat)):=by
    have:=Zd6 y;rw[hy2] at this;show _<_;omega
   have ha0:=Zen hy1;obtain ⟨z,hz⟩:∃ z,Zbh y2=z:=⟨_,rfl⟩;rw[hz] at cl ⊢;clear hz hy2;go_wp2_with fail;refine (Zc4 (y:=y) (by omega)).mono ?_;rintro e w1 ⟨rfl,rfl⟩;rw[Zb4 hy1];have hal:=HA.out;obtain ⟨a,ha⟩:∃ z,Zbh y=z:=⟨_,rfl⟩;have HAe:Hid (Zbh y=a):=ha;rw[ha] at ha0 hal HYn ⊢;clear ha HA;obtain ⟨e0,he0⟩:∃ z,(D0:Int)-a=z:=⟨_,rfl⟩;have v2:IntKind.i64.wrap ((D0:Int)-a)=e0:=by rw[IntKind.wrap_i64];omega
   obtain⟨d0,rfl⟩:=Int.eq_ofNat_of_zero_le (show 0≤e0 by omega);have HDe:Hid ((D0:Int)=a+(d0:Int)):=by show _=_;omega
   have hd0:d0≤400:=by
    have:=HYn.out;have:=(feb_28 y).2;omega
   have HDl:Hid ((d0:Int)<337+(ZaR y 2:Nat)):=by
    have:=HYn.out;show _<_;omega
   clear he0 HYn cl;go_wp2_with fail;go_loop [3,6] (fun dv mv=>∃ m d:Nat,1≤m∧m≤12∧d≤400∧dv=.int .i64 (d:Int)∧mv=.int .i64 (m:Int)∧Hid (d0=ZdC y (m-1)+d)) (fun _ mv=>13-(intOf mv).toNat)
   case atStart=>exact ⟨1,d0,by omega,by omega,hd0,rfl,rfl,by show _=_;rw[show 1-1=0 from rfl,ZdC];omega⟩
   case round =>
    obtain⟨m,d,hm1,hm2,hd4,rfl,rfl,HM⟩:=hrel;go_wp2_with fail;refine (Zgx (y:=y) (m:=m) (by omega) hm1 hm2).mono ?_;rintro e w1 ⟨rfl,rfl⟩;rw[ZhH hy1]
    by_cases cd:ZaR y m≤d
    ·have HMn:Hid (m+1≤12):=ZmW (y:=y) (d:=(d:Int)) hm1 hm2 (by omega) (by have:=HM.out;have:=HDl.out;omega)
     have HM2:Hid (d0=ZdC y (m+1-1)+(d-ZaR y m)):=by show _=_;rw[Ze3 hm1,HM.out];omega
     have gm:IntKind.i64.wrap ((m:Int)+1)=(m:Int)+1:=by rw[IntKind.wrap_i64];omega
     have hfun:=fun w:World=>Zgx (y:=y) (m:=m) (w:=w) (by omega) hm1 hm2;rw[ZhH hy1] at hfun;have HF:Hid _:=hfun;clear hfun;obtain ⟨x,hx⟩:∃ x,ZaR y m=x:=⟨_,rfl⟩;rw[hx] at cd HM2 HF ⊢;clear hx;have gx:(x:Int)≤(d:Int):=by omega
     go_wp2_with fail;refine (HF.out _).mono ?_;rintro e w1 ⟨rfl,rfl⟩;have gd:IntKind.i64.wrap ((d:Int)-(x:Int))=((d-x:Nat):Int):=by rw[IntKind.wrap_i64];omega
     have hm12:=HMn.out;clear HF;go_wp2_with fail;go_round
     case rel=>exact ⟨m+1,d-x,by omega,by omega,by omega,rfl,by go_num,HM2⟩
     case measure=>simp[intOf];omega
    ·have HI:Hid (ZlY t y m d c):=by
      refine⟨HYl.out,by omega,hm1,hm2,by omega,hc2,?_⟩;rw[HTt.out,HDe.out,HAe.out,HM.out]
      congr 2
      omega
     obtain⟨x,hx⟩:∃ x,ZaR y m=x:=⟨_,rfl⟩;rw[hx] at cd ⊢;clear hx;have gx:¬ (x:Int)≤(d:Int):=by omega
     obtain⟨d1,hd1⟩:∃ z,d+1=z:=⟨_,rfl⟩;have gd:IntKind.i64.wrap ((d:Int)+1)=(d1:Int):=by rw[IntKind.wrap_i64];omega
     have q1:(c:Int).tdiv 3600=((c/3600:Nat):Int):=by rw[Int.tdiv_eq_ediv_of_nonneg (by omega)];omega
     have q2:(c:Int).tmod 3600=((c%3600:Nat):Int):=by rw[Int.tmod_eq_emod_of_nonneg (by omega)];omega
     have q3:((c%3600:Nat):Int).tdiv 60=((c%3600/60:Nat):Int):=by rw[Int.tdiv_eq_ediv_of_nonneg (by omega)];omega
     have q4:(c:Int).tmod 60=((c%60:Nat):Int):=by rw[Int.tmod_eq_emod_of_nonneg (by omega)];omega
     have q5:(c:Int)/3600=((c/3600:Nat):Int):=by omega
     have q6:(c:Int)%3600=((c%3600:Nat):Int):=by omega
     have q7:((c%3600:Nat):Int)/60=((c%3600/60:Nat):Int):=by omega
     have q8:(c:Int)%60=((c%60:Nat):Int):=by omega
     have b1:c/3600<24:=by omega
     have b2:c%3600<3600:=by omega
     have b3:c%3600/60<60:=by omega
     have b4:c%60<60:=by omega
     obtain⟨k1,hk1⟩:∃ z,c/3600=z:=⟨_,rfl⟩;obtain ⟨k2,hk2⟩:∃ z,c%3600=z:=⟨_,rfl⟩;rw[hk2] at q2 q3 q6 q7 b2 b3;obtain ⟨k3,hk3⟩:∃ z,k2/60=z:=⟨_,rfl⟩;obtain ⟨k4,hk4⟩:∃ z,c%60=z:=⟨_,rfl⟩;rw[hk1] at q1 q5 b1;rw[hk3] at q3 q7 b3;rw[hk4] at q4 q8 b4;have r1:IntKind.i64.wrap (k1:Int)=(k1:Int):=by rw[IntKind.wrap_i64];omega
     have r2:IntKind.i64.wrap (k2:Int)=(k2:Int):=by rw[IntKind.wrap_i64];omega
     have r3:IntKind.i64.wrap (k3:Int)=(k3:Int):=by rw[IntKind.wrap_i64];omega
     have r4:IntKind.i64.wrap (k4:Int)=(k4:Int):=by rw[IntKind.wrap_i64];omega
     have HK:Hid (k1=c/3600∧k3=c%3600/60∧k4=c%60∧d1=d+1):=⟨hk1.symm,by rw[hk2,hk3],hk4.symm,hd1.symm⟩;clear hk1 hk2 hk3 hk4 hd1 HM cd;obtain ⟨tR,hR⟩:=R0;have HR:Hid _:=hR;clear hR;go_wp2_with (first|(refine wpList_store_row rfl 242 _ _ rfl w.heap.size #[.int .i64 (y:Int),.int .i64 (m:Int),.int .i64 (d1:Int),.int .i64 (k1:Int),.int .i64 (k3:Int),.int .i64 (k4:Int)] rfl rfl tR _ HR.out (by rw[Zgi];rfl) rfl (by simp[Value.oneCell']) ?_)|fail);exact bodyPost_ret (results_cell_row rfl _ _ w.heap.size tR #[.int .i64 (y:Int),.int .i64 (m:Int),.int .i64 (d1:Int),.int .i64 (k1:Int),.int .i64 (k3:Int),.int .i64 (k4:Int)] (0,0) _ rfl (setRow_heap _ _ _ _ _ _ HR.out) Tryz.underlying242 rfl (by rw[Zgi];rfl)) rfl ⟨y,m,d,c,d1,k1,k3,k4,rfl,HI.out,HK.out,below_setRow bel (Nat.le_refl _) _⟩
abbrev i64s (A:List Int):List Value:=A.map (Value.int .i64)
theorem ZmC (A:List Int) (j:Nat) (h:j<A.length):(i64s A)[j]?=some (.int .i64 (A.getD j 0)):=by
 simp[i64s,h]
def Is (w:World) (v:Value) (L:List Int):Prop :=
 ∃ ao cap,v=.slice ao L.length cap∧cap≤maxLen∧L.length≤cap∧(0<L.length→∃ b o,ao=some ⟨b,o,none⟩∧b<w.heap.size∧∀ j,j<L.length→w.cell? ⟨b,o+j,none⟩=some (.int .i64 (L.getD j 0)))
theorem Is.of_own {w:World} {base:Nat} {e:TypeId} {v:Value} {n:Nat} {D:List Int} (h:w.ownsRow base e 1 v n (i64s D)):Is w v D:=by
 obtain⟨hl,h⟩:=h;have hn:D.length=n:=by simpa using hl
 rcases h with ⟨h1,h2⟩|⟨g,cap,cur,h1,h2,h3,h4,h5,h6,h7⟩
 ·exact ⟨none,0,by rw[h1,hn,h2],Nat.zero_le _,by omega,fun h=>by omega⟩
 ·refine ⟨_,cap,by rw[hn];exact h1,h5,by omega,fun _=>⟨g,0,rfl,(Array.getElem?_eq_some_iff.1 h3).1,fun j hj=>?_⟩⟩
  have e1:(cur.toList.take (n*1))[j]?=some (.int .i64 (D.getD j 0)):=by rw[h7];exact ZmC D j hj
  rw[List.getElem?_take,if_pos (by omega)] at e1;rw[Nat.zero_add];simp only[World.cell?,h3,Option.isSome_none,Bool.false_eq_true,if_false]
  simpa using e1
theorem is_cut {w:World} {g o n cap r m k:Nat} {ad:Option Addr} {B:List Int} (h:Is w (.slice (some ⟨g,o,none⟩) n cap) B) (hn:B.length=n) (hr:r≤n) (hm:m=n-r) (ha:0<m→ad=some ⟨g,o+r,none⟩) (hk:k=cap-r):Is w (.slice ad m k) (B.drop r):=by
 obtain⟨a,c,e,h1,h2,h3⟩:=h;obtain ⟨rfl,_,rfl⟩:some ⟨g,o,none⟩=a∧n=B.length∧cap=c:=by simpa using e
 have el:(B.drop r).length=m:=by rw[List.length_drop,hn,hm]
 refine⟨ad,k,by rw[el],by rw[hk];exact Nat.le_trans (Nat.sub_le _ _) h1,by rw[el,hm,hk];exact Nat.sub_le_sub_right (by rw[← hn];exact h2) r,fun h0=>?_⟩;rw[el] at h0 ⊢;obtain ⟨b',o',e',k1,k2⟩:=h3 (by rw[hn];exact Nat.lt_of_lt_of_le h0 (by rw[hm];exact Nat.sub_le _ _));simp only[Option.some.injEq,Addr.mk.injEq] at e';obtain ⟨rfl,rfl,-⟩:=e';refine ⟨g,o+r,ha h0,k1,fun j hj=>?_⟩;rw[Nat.add_assoc,k2 (r+j) (by omega),List.getD_eq_getElem?_getD,List.getD_eq_getElem?_getD,List.getElem?_drop]
def ZhU:List Nat→List Int
 | []=>[]
 | n::l=>Zaw n++ZhU l
theorem ZlP {l:List Nat} {k:Nat} (h:k<l.length):ZhU (l.take (k+1))=ZhU (l.take k)++Zaw (l.getD k 0):=by
 induction l generalizing k with
 | nil=>simp at h
 | cons a l ih =>
  cases k with
  | zero=>simp[ZhU]
  | succ k =>
   have:=ih (k:=k) (by simpa using h);rw[List.take_succ_cons,List.take_succ_cons,ZhU,ZhU,this,List.getD_cons_succ,List.append_assoc]
theorem ZmG {l:List Nat} {k:Nat} (h:k<l.length):(l.map (fun n:Nat=>(n:Int))).getD k 0=((l.getD k 0:Nat):Int):=by
 rw[List.getD_eq_getElem?_getD,List.getElem?_map,List.getD_eq_getElem?_getD,List.getElem?_eq_getElem h]
 rfl
theorem ZdO {v:Value} {l:List Nat} {w:World} (hv:Is w v (l.map (fun n:Nat=>(n:Int)))) (hb:∀ j,l.getD j 0≤99) (hl:l.length≤7) :
  Calls Tryz.prog 171 #[v] w fun e w'=>∃ v',e=.returned v'∧Bs w' v' (ZhU l++[90])∧ZbR w v'∧Below w.heap.size w w':=by
 obtain⟨ao,cap,rfl,h1,h2,h3⟩:=hv;obtain ⟨N,hN⟩:∃ N,l.length=N:=⟨_,rfl⟩;have HN:Hid (l.length=N):=hN;rw[List.length_map,hN] at h2 h3 ⊢;rw[hN] at hl;have HC:Hid (∀ j,j<N→∃ g o,ao=some ⟨g,o,none⟩∧w.cell? ⟨g,o+j,none⟩=some (.int .i64 ((l.getD j 0:Nat):Int))∧g<w.heap.size):=fun j hj=>by
  obtain⟨g,o,e1,e2,e3⟩:=h3 (by omega);have:=e3 j hj;rw[ZmG (by rw[HN.out];exact hj)] at this;exact ⟨g,o,e1,this,e2⟩
 have HBd:Hid _:=hb;unfold maxLen at h1;clear hN h3 hb;go_enter Tryz.func171,Tryz.ntmps171;go_wp2_with fail;obtain ⟨W,hW⟩:∃ z,z=w:=⟨_,rfl⟩;rw[← hW];have bel0:Below w.heap.size w W:=by rw[hW];exact Below.refl _ _
 clear hW;go_loopw [3,8] (fun bv iv wx=>∃ (i:Nat) (X:List Int),i≤N∧iv=.int .i64 (i:Int)∧X.length≤2*i∧wx.ownsRow w.heap.size 5 1 bv X.length (u8s X)∧Hid (X=ZhU (l.take i))∧Below w.heap.size w wx) (fun _ iv _=>N-(intOf iv).toNat)
 case atStart=>exact ⟨0,[],by omega,rfl,by show 0≤_;omega,⟨rfl,.inl ⟨rfl,rfl⟩⟩,rfl,bel0⟩
 case round =>
  clear bel0;obtain ⟨i,X,hi,rfl,hX,own,HX,bel⟩:=hrel
  by_cases hil:i<N
  ·have k1:(i:Int)<(N:Int):=by omega
   have k2:(0:Int)≤(i:Int):=by omega
   have gi:IntKind.i64.wrap ((i:Int)+1)=(i:Int)+1:=by rw[IntKind.wrap_i64];omega
   obtain⟨g,o,rfl,cy0,lg0⟩:=HC.out i hil;have cy:=(bel.cell (p:=⟨g,o+i,none⟩) lg0).trans cy0;have lg:g<wr.heap.size:=Nat.lt_of_lt_of_le lg0 bel.size;have yb:=HBd.out i;have HX2:Hid (ZhU (l.take (i+1))=X++Zaw (l.getD i 0)):=by show _=_;rw[ZlP (by rw[HN.out];exact hil),← HX.out]
   obtain⟨n,hn⟩:∃ n,l.getD i 0=n:=⟨_,rfl⟩;rw[hn] at cy yb HX2;clear hn cy0;have t1:(n:Int).tdiv 10=((n/10:Nat):Int):=by rw[Int.tdiv_eq_ediv_of_nonneg (by omega)];omega
   have t2:(n:Int).tmod 10=((n%10:Nat):Int):=by rw[Int.tmod_eq_emod_of_nonneg (by omega)];omega
   have t3:(n:Int)/10=((n/10:Nat):Int):=by omega
   have t4:(n:Int)%10=((n%10:Nat):Int):=by omega
   have b1:n/10<10:=by omega
   have b2:n%10<10:=by omega
   have HTw:Hid (Zaw n=[((48+n/10:Nat):Int),((48+n%10:Nat):Int)]):=rfl;obtain ⟨a,ha⟩:∃ a,n/10=a:=⟨_,rfl⟩;obtain ⟨c,hc⟩:∃ a,n%10=a:=⟨_,rfl⟩;rw[ha] at t1 t3 b1 HTw;rw[hc] at t2 t4 b2 HTw;clear ha hc;obtain ⟨p,hp⟩:∃ p,48+a=p:=⟨_,rfl⟩;obtain ⟨q,hq⟩:∃ p,48+c=p:=⟨_,rfl⟩;rw[hp,hq] at HTw;rw[HTw.out] at HX2;have g1:IntKind.i64.wrap (48+(a:Int))=(p:Int):=by rw[IntKind.wrap_i64];omega
   have g2:IntKind.i64.wrap (48+(c:Int))=(q:Int):=by rw[IntKind.wrap_i64];omega
   have g3:IntKind.u8.wrap (p:Int)=(p:Int):=by rw[IntKind.wrap_u8];omega
   have g4:IntKind.u8.wrap (q:Int)=(q:Int):=by rw[IntKind.wrap_u8];omega
   have g5:IntKind.i64.wrap (a:Int)=(a:Int):=by rw[IntKind.wrap_i64];omega
   have g6:IntKind.i64.wrap (c:Int)=(c:Int):=by rw[IntKind.wrap_i64];omega
   clear hp hq HTw HX;have o0:=own.alloc (.cells #[.int .u8 (p:Int),.int .u8 (q:Int)] 5);have b0:=Bs.of_own (Zax wr (u8s [(p:Int),(q:Int)]) 5 2 wr.heap.size rfl (Nat.le_refl _) (by decide));have hbl:=Zaf (o:=.cells #[.int .u8 (p:Int),.int .u8 (q:Int)] 5) bel;have hsz:w.heap.size≤(wr.alloc (.cells #[.int .u8 (p:Int),.int .u8 (q:Int)] 5)).heap.size:=hbl.size;clear own;go_wp2_with (first|(at_builtin;refine Zac (by rfl) _ _ (by rfl) w.heap.size _ X.length X (by rfl) o0 _ [(p:Int),(q:Int)] (by rfl) b0 (by show X.length+2≤_;omega) hsz ?_;intro v5 w5 own5 hgrow hat)|fail);have bel5:=Zai (base:=w.heap.size) hbl hgrow hsz (fun g hg=>Zan o0 hg) (Nat.le_refl _);go_roundw
   case rel=>exact ⟨i+1,X++[(p:Int),(q:Int)],by omega,by go_num,by rw[List.length_append];show X.length+2≤_;omega,by rw[List.length_append];exact own5,by show _=_;rw[HX2.out],bel5⟩
   case measure=>simp[intOf];omega
  ·have k1:¬ (i:Int)<(N:Int):=by omega
   have HF:Hid (ZhU l=X):=by
    show _=_;rw[HX.out,List.take_of_length_le (by rw[HN.out];omega)]
   have o0:=own.alloc (.cells #[.int .u8 90] 5);have b0:=ZeO wr 90;have hbl:=Zaf (o:=.cells #[.int .u8 90] 5) bel;have hsz:w.heap.size≤(wr.alloc (.cells #[.int .u8 90] 5)).heap.size:=hbl.size;clear own HX;go_wp2_with (first|(at_builtin;refine Zac (by rfl) _ _ (by rfl) w.heap.size _ X.length X (by rfl) o0 _ [90] (by rfl) b0 (by show X.length+1≤_;omega) hsz ?_;intro v5 w5 own5 hgrow hat)|fail);have bel5:=Zai (base:=w.heap.size) hbl hgrow hsz (fun g hg=>Zan o0 hg) (Nat.le_refl _);go_ret;exact ⟨v5,rfl,by rw[HF.out];exact Bs.of_own own5,Zdn own5,bel5⟩
def Zl0 (w:World) (r:Except Nat (Int × List Int)) (e:Ending) (w':World):Prop:=(∀ (a:Int) (X:List Int),r=.ok (a,X)→∃ v':Value,e=.returned (.tuple #[.int .i64 a,v',.nilIface])∧Bs w' v' X∧ZbR w v'∧Below w.heap.size w w')∧(∀ c,r=.error c→∃ (ao:Option Addr) (cap:Nat),e=.returned (.tuple #[.int .i64 0,.slice ao 0 cap,.iface 53 (.int .i64 (c:Int))])∧Below w.heap.size w w')
theorem Zl0.ok {w w':World} {r:Except Nat (Int × List Int)} {a:Int} {X:List Int} {v:Value} (h:r=.ok (a,X)) (hb:Bs w' v X) (hn:ZbR w v) (bel:Below w.heap.size w w'):Zl0 w r (.returned (.tuple #[.int .i64 a,v,.nilIface])) w' :=
 ⟨fun m j hm=>(by rw[h] at hm;cases hm;exact ⟨v,rfl,hb,hn,bel⟩),fun c hc=>(by rw[h] at hc;cases hc)⟩
theorem Zl0.bad {w w':World} {r:Except Nat (Int × List Int)} {c:Nat} {ao:Option Addr} {cap:Nat} (h:r=.error c) (bel:Below w.heap.size w w'):Zl0 w r (.returned (.tuple #[.int .i64 0,.slice ao 0 cap,.iface 53 (.int .i64 (c:Int))])) w' :=
 ⟨fun m j hm=>(by rw[h] at hm;cases hm),fun c2 hc=>(by rw[h] at hc;cases hc;exact ⟨ao,cap,rfl,bel⟩)⟩
theorem Zhb {t:Int} (h:t < -631152000∨253402300799<t):ZaQ t=.error 3:=by unfold ZaQ;rw[if_pos h]
theorem Zjz {t:Int} {y m d c d1 k1 k3 k4:Nat} (h1:¬ t < -631152000) (h2:¬ 253402300799<t) (hm:ZlY t y m d c) (hk:k1=c/3600∧k3=c%3600/60∧k4=c%60∧d1=d+1):ZaQ t=.ok (ZlX y,(if 2049<y then Zaw (y/100) else [])++(ZhU [y%100,m,d1,k1,k3,k4]++[90])):=by
 obtain⟨a1,a2,a3,a4,a5,a6,a7⟩:=hm;obtain ⟨rfl,rfl,rfl,rfl⟩:=hk;obtain ⟨hM,hR⟩:=ZkI a1 a2 a3 a4 a5 a6 a7;rw[Zfa hM h1 h2,hR];unfold Zdu;obtain ⟨b1,b2,b3,b4⟩:=ZiW (d:=d) a6;rw[b1,b2,b3,b4];simp only[ZhU,List.append_assoc,List.append_nil]
theorem ZkH {t:Int} {y m d c:Nat} (hm:ZlY t y m d c):d+1≤31:=by
 obtain⟨_,_,_,_,a5,_⟩:=hm;have:=Zc9 (y:=y) (m:=m);omega
theorem Zi0 {t:Int} {w:World} :
    Calls Tryz.prog 107 #[.int .i64 t] w (Zl0 w (ZaQ t)):=by
  by_cases c1:t < -631152000
  · have H:Hid (ZaQ t=.error 3):=Zhb (.inl c1)
    go_enter Tryz.func107,Tryz.ntmps107;go_wp2_with fail;refine bodyPost_ret (results_tmp3 rfl _ _ _) rfl ?_;exact Zl0.bad H.out (Below.refl _ _)
  by_cases c2:253402300799<t
  · have H:Hid (ZaQ t=.error 3):=Zhb (.inr c2)
    go_enter Tryz.func107,Tryz.ntmps107;go_wp2_with fail;refine bodyPost_ret (results_tmp3 rfl _ _ _) rfl ?_;exact Zl0.bad H.out (Below.refl _ _)
  go_enter Tryz.func107,Tryz.ntmps107;go_wp2_with fail;refine (Zgy (t:=t) (by omega) (by omega)).mono ?_;rintro e W1 ⟨y,m,d,c,d1,k1,k3,k4,rfl,hM,hK,bel⟩;have HT:Hid _:=Zjz (by omega) (by omega) hM hK;have hds:=ZkH hM;obtain ⟨a1,a2,a3,a4,_,a6,_⟩:=hM;have b1:k1<24:=by omega
  have b3:k3<60:=by omega
  have b4:k4<60:=by omega
  have b5:d1≤31:=by omega
  clear hK hds;have t1:(y:Int).tdiv 100=((y/100:Nat):Int):=by rw[Int.tdiv_eq_ediv_of_nonneg (by omega)];omega
  have t2:(y:Int).tmod 100=((y%100:Nat):Int):=by rw[Int.tmod_eq_emod_of_nonneg (by omega)];omega
  have t3:(y:Int)/100=((y/100:Nat):Int):=by omega
  have t4:(y:Int)%100=((y%100:Nat):Int):=by omega
  have hyhb:y/100≤99:=by omega
  have hylb:y%100≤99:=by omega
  obtain⟨yh,hyh⟩:∃ z,y/100=z:=⟨_,rfl⟩;obtain ⟨yl,hyl⟩:∃ z,y%100=z:=⟨_,rfl⟩;rw[hyh] at t1 t3 hyhb;rw[hyl] at t2 t4 hylb;have r1:IntKind.i64.wrap (yh:Int)=(yh:Int):=by rw[IntKind.wrap_i64];omega
  have r2:IntKind.i64.wrap (yl:Int)=(yl:Int):=by rw[IntKind.wrap_i64];omega
  have hz:=ZiO.out;replace bel:=Zaf (o:=.cells #[.int .i64 (y:Int),.int .i64 (m:Int),.int .i64 (d1:Int),.int .i64 (k1:Int),.int .i64 (k3:Int),.int .i64 (k4:Int)] 242) bel;have BM:=Blk.new W1 [.int .i64 (y:Int),.int .i64 (m:Int),.int .i64 (d1:Int),.int .i64 (k1:Int),.int .i64 (k3:Int),.int .i64 (k4:Int)] 242 W1.heap.size rfl;go_upto_region 4 with (first|(refine wpList_store_row rfl 242 _ _ rfl W1.heap.size #[.int .i64 (y:Int),.int .i64 (m:Int),.int .i64 (d1:Int),.int .i64 (k1:Int),.int .i64 (k3:Int),.int .i64 (k4:Int)] rfl rfl 242 _ (heap_alloc_last _ _) (by rw[Zgi];rfl) rfl (by simp[Value.oneCell']) ?_;rw[World.setRow_alloc_new])|fail);clear hz;obtain ⟨gm,hgm⟩:∃ z,W1.heap.size=z:=⟨_,rfl⟩;rw[hgm] at BM ⊢;clear hgm;generalize W1.alloc (.cells #[.int .i64 (y:Int),.int .i64 (m:Int),.int .i64 (d1:Int),.int .i64 (k1:Int),.int .i64 (k3:Int),.int .i64 (k4:Int)] 242)=W2 at *;have f0:=BM.cell 0 _ rfl;have f1:=BM.cell 1 _ rfl;have f2:=BM.cell 2 _ rfl;have f3:=BM.cell 3 _ rfl;have f4:=BM.cell 4 _ rfl;have f5:=BM.cell 5 _ rfl;have lm:=BM.lt;have HYH:Hid (y/100=yh):=hyh;have HYL:Hid (y%100=yl):=hyl;clear hyh hyl
  by_cases cy:2049<y
  · have H:Hid (ZaQ t=.ok (24,ZhU [yh,yl,m,d1,k1,k3,k4]++[90])):=by
      show _=_;rw[HT.out,HYH.out,HYL.out];unfold ZlX;rw[if_pos (by omega),if_pos (by omega)];simp only[ZhU,List.append_assoc,List.append_nil]
    have gy:(2050:Int)≤(y:Int):=by omega
    go_upto_region 7 with fail;have BA:=Zax W2 (i64s [(yh:Int),(yl:Int),(m:Int),(d1:Int),(k1:Int),(k3:Int),(k4:Int)]) 3 7 W2.heap.size rfl (Nat.le_refl _) (by decide);have IA:Is (W2.alloc (.cells #[.int .i64 (yh:Int),.int .i64 (yl:Int),.int .i64 (m:Int),.int .i64 (d1:Int),.int .i64 (k1:Int),.int .i64 (k3:Int),.int .i64 (k4:Int)] 3)) (.slice (some ⟨W2.heap.size,0,none⟩) 7 7) [(yh:Int),(yl:Int),(m:Int),(d1:Int),(k1:Int),(k3:Int),(k4:Int)]:=Is.of_own BA;have bel3:Below w.heap.size w (W2.alloc (.cells #[.int .i64 (yh:Int),.int .i64 (yl:Int),.int .i64 (m:Int),.int .i64 (d1:Int),.int .i64 (k1:Int),.int .i64 (k3:Int),.int .i64 (k4:Int)] 3)):=Zaf bel;have hlw:=bel.size;clear BA;go_upto_region 8 with fail;clear f0 f1 f2 f3 f4 f5 lm BM;obtain ⟨ga,hga⟩:∃ z,W2.heap.size=z:=⟨_,rfl⟩;rw[hga] at IA ⊢;have hga2:w.heap.size≤ga:=by omega
    clear hga;generalize W2.alloc (.cells #[.int .i64 (yh:Int),.int .i64 (yl:Int),.int .i64 (m:Int),.int .i64 (d1:Int),.int .i64 (k1:Int),.int .i64 (k3:Int),.int .i64 (k4:Int)] 3)=W3 at *;have IB:Is W3 (.slice (some ⟨ga,0,none⟩) 7 7) (([yh,yl,m,d1,k1,k3,k4]:List Nat).map (fun n:Nat=>(n:Int))):=IA;have HIB:Hid _:=IB;clear IB IA;go_wp2_with fail;refine Zhr.mono ?_;rintro e w5 ⟨rfl,rfl⟩;have v1:IntKind.i64.wrap (7-7)=0:=by decide
    go_wp2_with fail;refine (ZdO (l:=[yh,yl,m,d1,k1,k3,k4]) HIB.out (by
      intro j
      match j with
      | 0=>show yh≤99;omega
      | 1=>show yl≤99;omega
      | 2=>show m≤99;omega
      | 3=>show d1≤99;omega
      | 4=>show k1≤99;omega
      | 5=>show k3≤99;omega
      | 6=>show k4≤99;omega
      | (j+7)=>exact Nat.zero_le _) (by show 7≤7;omega)).mono ?_
    rintro e w6 ⟨v6,rfl,b6,n6,hb6⟩;have bel6:=bel3.trans (hb6.mono bel3.size);have n7:=n6.up bel3.size;go_wp2_with fail;refine bodyPost_ret (results_tmp3 rfl _ _ _) rfl ?_;exact Zl0.ok H.out b6 n7 bel6
  · have H:Hid (ZaQ t=.ok (23,ZhU [yl,m,d1,k1,k3,k4]++[90])):=by
      show _=_;rw[HT.out,HYH.out,HYL.out];unfold ZlX;rw[if_neg (by omega),if_neg (by omega)]
      rfl
    have gy:¬ (2050:Int)≤(y:Int):=by omega
    go_upto_region 7 with fail;have BA:=Zax W2 (i64s [(yh:Int),(yl:Int),(m:Int),(d1:Int),(k1:Int),(k3:Int),(k4:Int)]) 3 7 W2.heap.size rfl (Nat.le_refl _) (by decide);have IA:Is (W2.alloc (.cells #[.int .i64 (yh:Int),.int .i64 (yl:Int),.int .i64 (m:Int),.int .i64 (d1:Int),.int .i64 (k1:Int),.int .i64 (k3:Int),.int .i64 (k4:Int)] 3)) (.slice (some ⟨W2.heap.size,0,none⟩) 7 7) [(yh:Int),(yl:Int),(m:Int),(d1:Int),(k1:Int),(k3:Int),(k4:Int)]:=Is.of_own BA;have bel3:Below w.heap.size w (W2.alloc (.cells #[.int .i64 (yh:Int),.int .i64 (yl:Int),.int .i64 (m:Int),.int .i64 (d1:Int),.int .i64 (k1:Int),.int .i64 (k3:Int),.int .i64 (k4:Int)] 3)):=Zaf bel;have hlw:=bel.size;clear BA;go_upto_region 8 with fail;clear f0 f1 f2 f3 f4 f5 lm BM;obtain ⟨ga,hga⟩:∃ z,W2.heap.size=z:=⟨_,rfl⟩;rw[hga] at IA ⊢;have hga2:w.heap.size≤ga:=by omega
    clear hga;generalize W2.alloc (.cells #[.int .i64 (yh:Int),.int .i64 (yl:Int),.int .i64 (m:Int),.int .i64 (d1:Int),.int .i64 (k1:Int),.int .i64 (k3:Int),.int .i64 (k4:Int)] 3)=W3 at *;have IB:Is W3 (.slice (some ⟨ga,1,none⟩) 6 6) (([yl,m,d1,k1,k3,k4]:List Nat).map (fun n:Nat=>(n:Int))):=is_cut IA rfl (r:=1) (by omega) rfl (fun _=>rfl) rfl;have HIB:Hid _:=IB;clear IB IA;go_wp2_with fail;refine Zhq.mono ?_;rintro e w5 ⟨rfl,rfl⟩;have v1:IntKind.i64.wrap (7-6)=1:=by decide
    go_wp2_with fail;refine (ZdO (l:=[yl,m,d1,k1,k3,k4]) HIB.out (by
      intro j
      match j with
      | 0=>show yl≤99;omega
      | 1=>show m≤99;omega
      | 2=>show d1≤99;omega
      | 3=>show k1≤99;omega
      | 4=>show k3≤99;omega
      | 5=>show k4≤99;omega
      | (j+6)=>exact Nat.zero_le _) (by show 6≤7;omega)).mono ?_
    rintro e w6 ⟨v6,rfl,b6,n6,hb6⟩;have bel6:=bel3.trans (hb6.mono bel3.size);have n7:=n6.up bel3.size;go_wp2_with fail;refine bodyPost_ret (results_tmp3 rfl _ _ _) rfl ?_;exact Zl0.ok H.out b6 n7 bel6
theorem Zja {x:Int} {w:World} (_:-9223372036854775808≤x∧x≤9223372036854775807) :
  Calls Tryz.prog 107 #[.int .i64 x] w fun e w'=>(∀ (a:Int) (X:List Int),ZaQ x=.ok (a,X)→∃ v':Value,e=.returned (.tuple #[.int .i64 a,v',.nilIface])∧Bs w' v' X∧ZbR w v'∧Below w.heap.size w w')∧(∀ c,ZaQ x=.error c→∃ (ao:Option Addr) (cap:Nat),e=.returned (.tuple #[.int .i64 0,.slice ao 0 cap,.iface 53 (.int .i64 (c:Int))])∧Below w.heap.size w w'):=Zi0.mono (fun _ _ h=>h)
end Go.Proofs.YtdfmoghjimghhaaGreatDoor
