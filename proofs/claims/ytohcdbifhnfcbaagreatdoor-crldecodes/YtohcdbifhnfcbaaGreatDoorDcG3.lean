import Derived.Test.YtohcdbifhnfcbaaGreatDoorDrDG
import Derived.Test.YtohcdbifhnfcbaaGreatDoorNlSG
import Derived.Test.YtohcdbifhnfcbaaGreatDoorDcG2
import Derived.Test.YtohcdbifhnfcbaaGreatDoorRows
import Derived.Deep.OwnRows
import Derived.Deep.AppendLies
import Derived.Great.BuildSlice
import Derived.Laws.BitsAllLaws
import Derived.Deep.WholeRow
import Derived.Deep.RegionHeld3
import Derived.Deep.DeepCutAuto
import Derived.Deep.DeepFit
namespace Go.Proofs.YtohcdbifhnfcbaaGreatDoor
open Go.RowKit
set_option linter.unusedSimpArgs false
set_option maxRecDepth 100000
set_option maxHeartbeats 4000000
theorem Zdr (a b:Nat) (ha:a<9223372036854775808) (hb:b<9223372036854775808):bits .and .i64 (a:Int) (b:Int)=((a &&& b:Nat):Int):=by
 have hx:a &&& b<2 ^ 63:=Nat.and_lt_two_pow _ (by omega);show IntKind.i64.wrap ((BitVec.ofInt 64 (a:Int) &&& BitVec.ofInt 64 (b:Int)).toNat:Int)=_;rw[BitVec.toNat_and,ofInt_u64 a (by omega),ofInt_u64 b (by omega),IntKind.wrap_i64];omega
theorem Ziu (a b:Nat) (ha:a<9223372036854775808) (hb:b<9223372036854775808):bits .or .i64 (a:Int) (b:Int)=((a ||| b:Nat):Int):=by
 have hx:a ||| b<2 ^ 63:=Nat.or_lt_two_pow (by omega) (by omega);show IntKind.i64.wrap ((BitVec.ofInt 64 (a:Int) ||| BitVec.ofInt 64 (b:Int)).toNat:Int)=_;rw[BitVec.toNat_or,ofInt_u64 a (by omega),ofInt_u64 b (by omega),IntKind.wrap_i64];omega
theorem ZqY {n x:Nat} (hn:n<16777216) (hx:x<256):bits .or .i64 ((256*n:Nat):Int) (x:Int)=((256*n+x:Nat):Int):=by
 rw[Ziu _ _ (by omega) (by omega)];have:=Nat.two_pow_add_eq_or_of_lt (i:=8) (b:=x) (by omega) n;rw[show (2:Nat) ^ 8=256 from rfl] at this;rw[this]
theorem and_31 {x:Nat} (hx:x<256):bits .and .i64 (x:Int) 31=((x%32:Nat):Int):=by
 have:=Zdr x 31 (by omega) (by omega);rw[show (31:Nat)=2 ^ 5-1 from rfl,Nat.and_two_pow_sub_one_eq_mod] at this;exact this
theorem ZpQ:∀ x:Nat,x<256→x &&& 32=if x/32%2=1 then 32 else 0:=by decide +kernel
theorem Zqf {x:Nat} (hx:x<256) (h:x/32%2=1):bits .and .i64 (x:Int) 32=32:=by
 have:=Zdr x 32 (by omega) (by omega);rw[ZpQ x hx,if_pos h] at this;exact this
theorem Zqe {x:Nat} (hx:x<256) (h:¬ x/32%2=1):bits .and .i64 (x:Int) 32=0:=by
 have:=Zdr x 32 (by omega) (by omega);rw[ZpQ x hx,if_neg h] at this;exact this
def ZcA (w w':World) (c p:Int) (er:Value):Prop:=∃ g,er=.iface 99 (.pointer (some ⟨g,0,none⟩))∧w.heap.size≤g∧Blk w' g [.int .i64 p,.iface 46 (.int .i64 c)]∧Below w.heap.size w w'
theorem ZcA.up {w W w1:World} {c p:Int} {er:Value} (bel:Below w.heap.size w W) (h:ZcA W w1 c p er):ZcA w w1 c p er:=by
 obtain⟨g,h1,h2,h3,h4⟩:=h;have:=bel.size;exact ⟨g,h1,by omega,h3,bel.trans (h4.mono bel.size)⟩
theorem ZcA.row {w W w1:World} {c p:Int} {er:Value} {k:Nat} {cs:Array Value} (bel:Below w.heap.size w W) (hk:w.heap.size≤k) (lt:k<W.heap.size) (h:ZcA W w1 c p er):ZcA w (w1.setRow k cs) c p er:=by
 obtain⟨g,h1,h2,h3,h4⟩:=h;have:=bel.size;exact ⟨g,h1,by omega,h3.row (by omega),below_setRow (bel.trans (h4.mono bel.size)) hk _⟩
def Cut (w:World) (v:Value) (B:List Int) (en:Nat):Prop:=∃ ao cap,v=.slice ao en cap∧en≤cap∧cap≤maxLen∧(0<en→∃ g o,ao=some ⟨g,o,none⟩∧g<w.heap.size∧∀ j,j<en→w.cell? ⟨g,o+j,none⟩=some (.int .u8 ((byN B j:Nat):Int)))
theorem Cut.later {w w':World} {v:Value} {B:List Int} {en:Nat} (h:Cut w v B en) (hb:Below w.heap.size w w'):Cut w' v B en:=by
 obtain⟨ao,cap,h1,h2,h3,h4⟩:=h;refine ⟨ao,cap,h1,h2,h3,fun h0=>?_⟩;obtain ⟨g,o,e,hg,hc⟩:=h4 h0;exact ⟨g,o,e,Nat.lt_of_lt_of_le hg hb.size,fun j hj=>(hb.cell (p:=⟨g,o+j,none⟩) hg).trans (hc j hj)⟩
theorem Cut.of {w:World} {v:Value} {B:List Int} (h:Bs w v B) (b:byt B):Cut w v B B.length:=by
 obtain⟨ao,cap,h1,h2,h3,h4⟩:=h;refine ⟨ao,cap,h1,h3,h2,fun h0=>?_⟩;obtain ⟨g,o,e,hg,hc⟩:=h4 h0;exact ⟨g,o,e,hg,fun j hj=>by rw[← Zb6 b];exact hc j hj⟩
theorem Cut.less {w:World} {ao:Option Addr} {en cap st k:Nat} {ad:Option Addr} {B:List Int} (h:Cut w (.slice ao en cap) B en) (hs:st≤en) (hk:k=cap) (ha:0<st→ad=ao):Cut w (.slice ad st k) B st:=by
 subst hk;obtain ⟨ao',cap',h1,h2,h3,h4⟩:=h;obtain ⟨rfl,_,rfl⟩:ao=ao'∧en=en∧k=cap':=by simpa using h1
 refine⟨ad,k,rfl,by omega,h3,fun h0=>?_⟩;obtain ⟨g,o,e,hg,hc⟩:=h4 (by omega);exact ⟨g,o,(ha h0).trans e,hg,fun j hj=>hc j (by omega)⟩
theorem Cut.part {w:World} {gb ob en cap f n m k:Nat} {ad:Option Addr} {B:List Int} (h:Cut w (.slice (some ⟨gb,ob,none⟩) en cap) B en) (b:byt B) (he:en≤B.length) (hf:f+n≤en) (hm:m=n) (ha:0<n→ad=some ⟨gb,ob+f,none⟩) (hk1:n≤k) (hk2:k≤maxLen):Bs w (.slice ad m k) ((B.drop f).take n):=by
 subst hm;have el:((B.drop f).take m).length=m:=by rw[List.length_take,List.length_drop];omega
 refine⟨ad,k,by rw[el],hk2,by rw[el];exact hk1,fun hp=>?_⟩;rw[el] at hp ⊢;obtain ⟨a1,k1,e1,_,_,d3⟩:=h;obtain ⟨rfl,_,rfl⟩:some ⟨gb,ob,none⟩=a1∧en=en∧cap=k1:=by simpa using e1
 obtain⟨b1,o1,e2,hb1,hc1⟩:=d3 (by omega);obtain ⟨rfl,rfl⟩:gb=b1∧ob=o1:=by simpa using e2
 refine⟨gb,ob+f,ha hp,hb1,fun j hj=>?_⟩;rw[List.getD_eq_getElem?_getD,List.getElem?_take,if_pos hj,List.getElem?_drop,← List.getD_eq_getElem?_getD,Nat.add_assoc,Zb6 b];exact hc1 (f+j) (by omega)
def Zc9 (B:List Int) (a en:Nat):Except (Nat × Nat) (Nat × Nat):=match Zc2 B a en with|.error e=>.error e|.ok (n,f)=>if en<f+n then .error (6,a) else .ok (f,f+n)
theorem Zi9 {B:List Int} {f k:Nat}:∀ i,i≤k→beV ((B.drop f).take k) 0 i=beV B f i
 | 0,_=>rfl
 | i+1,h=>by
  rw[beV,beV,Zi9 i (by omega),List.getD_eq_getElem?_getD,List.getElem?_take,if_pos (by omega),List.getElem?_drop,← List.getD_eq_getElem?_getD,Nat.zero_add]
theorem Zlm {B:List Int} (b:byt B) (o:Nat):∀ k,beV B o k<256 ^ k
 | 0=>by simp[beV]
 | k+1=>by
  have:=Zlm b o k;have h:=b (o+k);rw[beV,Nat.pow_succ];omega
theorem ZbN {p c:Int} {w:World}:Calls Tryz.prog 36 #[.int .i64 p,.int .i64 c] w fun e w'=>∃ er,e=.returned er∧ZcA w w' c p er:=by
 have B0:=Blk.new w [.int .i64 p,.iface 46 (.int .i64 c)] 104 w.heap.size rfl;have bel:=bal w (.cells #[.int .i64 p,.iface 46 (.int .i64 c)] 104);go_enter Tryz.func36,Tryz.ntmps36;go_wp2_with fail;go_ret;exact ⟨_,rfl,w.heap.size,rfl,Nat.le_refl _,B0,bel⟩
theorem Zj9 {v:Value} {X:List Int} {w:World} (hv:Bs w v X) (b:byt X) (hl:X.length≤3):Calls Tryz.prog 105 #[v] w fun e w'=>e=.returned (.int .i64 ((beV X 0 X.length:Nat):Int))∧w'=w:=by
 have HB:Hid (byt X):=b;obtain ⟨ao,cap,rfl,h1,h2,h3⟩:=hv;unfold maxLen at h1;have H3:Hid _:=h3;clear h3 b;go_enter Tryz.func105,Tryz.ntmps105;go_wp2_with fail;go_loop [3,8] (fun nv iv=>∃ i n:Nat,i≤X.length∧iv=.int .i64 (i:Int)∧nv=.int .i64 (n:Int)∧n<256 ^ i∧Hid (n=beV X 0 i)) (fun _ iv=>X.length-(intOf iv).toNat)
 case atStart=>exact ⟨0,0,by omega,rfl,rfl,by simp,rfl⟩
 case round =>
  obtain⟨i,n,hi,rfl,rfl,hn,HN⟩:=hrel
  by_cases hil:i<X.length
  ·have g1:(i:Int)<(X.length:Int):=by omega
   have g2:(0:Int)≤(i:Int):=by omega
   have gi:IntKind.i64.wrap ((i:Int)+1)=(i:Int)+1:=by rw[IntKind.wrap_i64];omega
   obtain⟨g,o,rfl,hg,hc⟩:=H3.out (by omega);have ca:=hc i hil;rw[Zb6 HB.out] at ca;have xa:=ZcP HB.out i;have HX:Hid (beV X 0 (i+1)=256*n+byN X i):=by show _=_;rw[beV,← HN.out,Nat.zero_add];rfl
   obtain⟨x,hx⟩:∃ x,byN X i=x:=⟨_,rfl⟩;rw[hx] at ca xa HX;clear hx hc;have hn2:n<65536:=Nat.lt_of_lt_of_le hn (by
    rcases(show i=0∨i=1∨i=2 by omega) with rfl|rfl|rfl<;>decide)
   have w1:IntKind.i64.wrap (x:Int)=(x:Int):=by rw[IntKind.wrap_i64];omega
   have w3:=ZqY (n:=n) (x:=x) (by omega) xa;obtain ⟨m,hm⟩:∃ m,256*n=m:=⟨_,rfl⟩;have w2:IntKind.i64.wrap ((n:Int)*256)=(m:Int):=by rw[IntKind.wrap_i64];omega
   rw[hm] at w3 HX;obtain ⟨z,hz⟩:∃ z,m+x=z:=⟨_,rfl⟩;rw[hz] at w3 HX;have hz2:z<256*256 ^ i:=by omega
   go_wp2_with fail;go_round
   case rel=>exact ⟨i+1,z,by omega,by go_num,rfl,by rw[Nat.pow_succ];omega,by show _=_;rw[HX.out]⟩
   case measure=>simp[intOf];omega
  ·have HI:Hid (i=X.length):=by show i=X.length;omega
   have g1:¬ (i:Int)<(X.length:Int):=by omega
   go_wp2_with fail;go_ret;exact ⟨by rw[HN.out,HI.out];rfl,rfl⟩
theorem Zoc {a en:Nat} {v:Value} {B:List Int} {w:World} (hc:Cut w v B en) (b:byt B) (he:en≤B.length) (hl:B.length≤1048576) (ha:a≤1048577) :
  Calls Tryz.prog 68 #[v,.int .i64 (a:Int)] w fun e w'=>(∀ f s,Zc9 B a en=.ok (f,s)→e=.returned (.tuple #[.int .i64 (f:Int),.int .i64 (s:Int),.nilIface])∧w'=w)∧(∀ c p,Zc9 B a en=.error (c,p)→∃ er,e=.returned (.tuple #[.int .i64 0,.int .i64 0,er])∧ZcA w w' (c:Int) (p:Int) er):=by
 have HB:Hid (byt B):=b;have HC0:Hid (Cut w v B en):=hc;obtain ⟨ao,cap,rfl,k1,k2,k3⟩:=hc;unfold maxLen at k2;have HP:Hid (Zc9 B a en=match Zc2 B a en with|.error e=>.error e|.ok (n,f)=>if en<f+n then .error (6,a) else .ok (f,f+n)):=by show _=_;unfold Zc9;rfl
 clear b;go_enter Tryz.func68,Tryz.ntmps68
 by_cases c1:en≤a
 ·have H:Hid (Zc9 B a en=.error (6,a)):=by
   show _=_;rw[HP.out,Zc2,if_pos c1]
  have g1:(en:Int)≤(a:Int):=by omega
  clear k3;go_wp2_with fail;refine (ZbN (p:=(a:Int)) (c:=6)).mono ?_;rintro e w1 ⟨er,rfl,hbad⟩;go_wp2_with fail;refine bodyPost_ret (results_tmp3 rfl _ _ _) rfl ?_;exact ⟨fun f s h=>(by rw[H.out] at h;cases h),fun c p h=>(by rw[H.out] at h;cases h;exact ⟨er,rfl,hbad⟩)⟩
 have g1:¬ (en:Int)≤(a:Int):=by omega
 obtain⟨gb,ob,rfl,hg,hcell⟩:=k3 (by omega);have HC:Hid _:=hcell;clear hcell;have ca:=HC.out a (by omega);have xa:=ZcP HB.out a;obtain ⟨x,hx⟩:∃ x,byN B a=x:=⟨_,rfl⟩;have HX:Hid (byN B a=x):=hx;rw[hx] at ca xa;clear hx;have w1:IntKind.i64.wrap (x:Int)=(x:Int):=by rw[IntKind.wrap_i64];omega
 obtain⟨f,hf⟩:∃ f,a+1=f:=⟨_,rfl⟩;have w2:IntKind.i64.wrap ((a:Int)+1)=(f:Int):=by rw[IntKind.wrap_i64];omega
 have g1b:(a:Int)<(en:Int):=by omega
 have g1c:(0:Int)≤(a:Int):=by omega
 by_cases c2:x=128
 ·have H:Hid (Zc9 B a en=.error (7,a)):=by
   show _=_;rw[HP.out,Zc2,if_neg c1,HX.out,if_neg (by omega),if_pos (by omega)]
  have g2:(x:Int)=128:=by omega
  go_wp2_with fail;refine (ZbN (p:=(a:Int)) (c:=7)).mono ?_;rintro e w1 ⟨er,rfl,hbad⟩;go_wp2_with fail;refine bodyPost_ret (results_tmp3 rfl _ _ _) rfl ?_;exact ⟨fun f s h=>(by rw[H.out] at h;cases h),fun c p h=>(by rw[H.out] at h;cases h;exact ⟨er,rfl,hbad⟩)⟩
 have g2:¬ (x:Int)=128:=by omega
 by_cases c3:131<x
 ·have H:Hid (Zc9 B a en=.error (7,a)):=by
   show _=_;rw[HP.out,Zc2,if_neg c1,HX.out,if_neg (by omega),if_pos (by omega)]
  have g3:(131:Int)<(x:Int):=by omega
  go_wp2_with fail;refine (ZbN (p:=(a:Int)) (c:=7)).mono ?_;rintro e w1 ⟨er,rfl,hbad⟩;go_wp2_with fail;refine bodyPost_ret (results_tmp3 rfl _ _ _) rfl ?_;exact ⟨fun f s h=>(by rw[H.out] at h;cases h),fun c p h=>(by rw[H.out] at h;cases h;exact ⟨er,rfl,hbad⟩)⟩
 have g3:¬ (131:Int)<(x:Int):=by omega
 by_cases c4:x<128
 ·have g4:¬ (128:Int)<(x:Int):=by omega
  obtain⟨r,hr⟩:∃ r,en-f=r:=⟨_,rfl⟩;have w3:IntKind.i64.wrap ((en:Int)-(f:Int))=(r:Int):=by rw[IntKind.wrap_i64];omega
  by_cases c5:r<x
  ·have H:Hid (Zc9 B a en=.error (6,a)):=by
    show _=_;rw[HP.out,Zc2,if_neg c1,HX.out,if_pos c4];show (if en<a+1+x then _ else _)=_;rw[if_pos (by omega)]
   have g5:(r:Int)<(x:Int):=by omega
   go_wp2_with fail;refine (ZbN (p:=(a:Int)) (c:=6)).mono ?_;rintro e w1 ⟨er,rfl,hbad⟩;go_wp2_with fail;refine bodyPost_ret (results_tmp3 rfl _ _ _) rfl ?_;exact ⟨fun f s h=>(by rw[H.out] at h;cases h),fun c p h=>(by rw[H.out] at h;cases h;exact ⟨er,rfl,hbad⟩)⟩
  ·obtain ⟨st,hst⟩:∃ st,f+x=st:=⟨_,rfl⟩
   have H:Hid (Zc9 B a en=.ok (f,st)):=by
    show _=_;rw[HP.out,Zc2,if_neg c1,HX.out,if_pos c4];show (if en<a+1+x then _ else _)=_;rw[if_neg (by omega),hf,hst]
   have g5:¬ (r:Int)<(x:Int):=by omega
   have w4:IntKind.i64.wrap ((f:Int)+(x:Int))=(st:Int):=by rw[IntKind.wrap_i64];omega
   go_wp2_with fail;refine bodyPost_ret (results_tmp3 rfl _ _ _) rfl ?_;exact ⟨fun f s h=>(by rw[H.out] at h;cases h;exact ⟨rfl,rfl⟩),fun c p h=>(by rw[H.out] at h;cases h)⟩
 ·have g4:(128:Int)<(x:Int):=by omega
  obtain⟨k,hk⟩:∃ k,x-128=k:=⟨_,rfl⟩;have hk3:k≤3:=by omega
  have hk1:1≤k:=by omega
  have w3:IntKind.i64.wrap ((x:Int)-128)=(k:Int):=by rw[IntKind.wrap_i64];omega
  obtain⟨r,hr⟩:∃ r,en-f=r:=⟨_,rfl⟩;have w4:IntKind.i64.wrap ((en:Int)-(f:Int))=(r:Int):=by rw[IntKind.wrap_i64];omega
  have HL:Hid (Zc2 B a en=if en<f+k then .error (6,a) else if byN B f=0∨beV B f k<128 then .error (7,a) else .ok (beV B f k,f+k)):=by
   show _=_;rw[Zc2,if_neg c1,HX.out,if_neg c4,if_neg (by omega),hf,hk]
  by_cases c5:r<k
  ·have H:Hid (Zc9 B a en=.error (6,a)):=by
    show _=_;rw[HP.out,HL.out,if_pos (by omega)]
   have g5:(r:Int)<(k:Int):=by omega
   go_wp2_with fail;refine (ZbN (p:=(a:Int)) (c:=6)).mono ?_;rintro e w1 ⟨er,rfl,hbad⟩;go_wp2_with fail;refine bodyPost_ret (results_tmp3 rfl _ _ _) rfl ?_;exact ⟨fun f s h=>(by rw[H.out] at h;cases h),fun c p h=>(by rw[H.out] at h;cases h;exact ⟨er,rfl,hbad⟩)⟩
  have g5:¬ (r:Int)<(k:Int):=by omega
  obtain⟨f2,hf2⟩:∃ f2,f+k=f2:=⟨_,rfl⟩;have w5:IntKind.i64.wrap ((f:Int)+(k:Int))=(f2:Int):=by rw[IntKind.wrap_i64];omega
  replace HL:Hid (Zc2 B a en=if byN B f=0∨beV B f k<128 then .error (7,a) else .ok (beV B f k,f2)):=by show _=_;rw[HL.out,if_neg (by omega),hf2]
  have y1:(0:Int)≤(f:Int):=by omega
  have y2:(f:Int)≤(f2:Int):=by omega
  have y3:f2≤cap:=by omega
  have y4:f≤f2:=by omega
  have y5:f2-f=k:=by omega
  have hbe:=Zlm HB.out f k;have hbe2:beV B f k<16777216:=Nat.lt_of_lt_of_le hbe (by rcases (show k=1∨k=2∨k=3 by omega) with rfl|rfl|rfl<;>decide);clear hbe;have HLn:Hid (((B.drop f).take k).length=k):=by show _=_;rw[List.length_take,List.length_drop];omega
  have HPt:Hid (beV ((B.drop f).take k) 0 k=beV B f k):=Zi9 k (Nat.le_refl _);have hnum:=fun v hv=>Zj9 (v:=v) (w:=w) (X:=(B.drop f).take k) hv (Zhr HB.out _ _) (by rw[HLn.out];exact hk3);rw[HLn.out,HPt.out] at hnum;have HNum:Hid _:=hnum;clear hnum;obtain ⟨n,hn⟩:∃ n,beV B f k=n:=⟨_,rfl⟩;rw[hn] at HL HNum hbe2;have HCut:Hid (∀ ad m q,m=k→(0<k→ad=some ⟨gb,ob+f,none⟩)→k≤q→q≤maxLen→Bs w (.slice ad m q) ((B.drop f).take k)):=fun ad m q h1 h2 h3 h4=>HC0.out.part HB.out he (by omega) h1 h2 h3 h4;clear hn HPt HLn;go_wp2_with fail;refine (HNum.out _ (HCut.out _ _ _ (by omega) (by intro hp;first|rfl|rw[if_neg (by omega)]) (by omega) (by unfold maxLen;omega))).mono ?_;rintro e w1 ⟨rfl,rfl⟩;clear HNum HCut;have cf:=HC.out f (by omega);have xf:=ZcP HB.out f;obtain ⟨y,hy⟩:∃ y,byN B f=y:=⟨_,rfl⟩;rw[hy] at cf xf HL;clear hy;have gfb:(f:Int)<(en:Int):=by omega
  by_cases c6:y=0
  ·have H:Hid (Zc9 B a en=.error (7,a)):=by
    show _=_;rw[HP.out,HL.out,if_pos (.inl c6)]
   subst c6;go_wp2_with fail;refine (ZbN (p:=(a:Int)) (c:=7)).mono ?_;rintro e w1 ⟨er,rfl,hbad⟩;go_wp2_with fail;refine bodyPost_ret (results_tmp3 rfl _ _ _) rfl ?_;exact ⟨fun f s h=>(by rw[H.out] at h;cases h),fun c p h=>(by rw[H.out] at h;cases h;exact ⟨er,rfl,hbad⟩)⟩
  have g6:((y:Int) == 0)=false:=by rw[beq_eq_false_iff_ne];omega
  by_cases c7:n<128
  ·have H:Hid (Zc9 B a en=.error (7,a)):=by
    show _=_;rw[HP.out,HL.out,if_pos (.inr c7)]
   have g7:(n:Int)<128:=by omega
   go_wp2_with fail;refine (ZbN (p:=(a:Int)) (c:=7)).mono ?_;rintro e w1 ⟨er,rfl,hbad⟩;go_wp2_with fail;refine bodyPost_ret (results_tmp3 rfl _ _ _) rfl ?_;exact ⟨fun f s h=>(by rw[H.out] at h;cases h),fun c p h=>(by rw[H.out] at h;cases h;exact ⟨er,rfl,hbad⟩)⟩
  have g7:¬ (n:Int)<128:=by omega
  replace HL:Hid (Zc2 B a en=.ok (n,f2)):=by show _=_;rw[HL.out,if_neg (by omega)]
  obtain⟨r2,hr2⟩:∃ r,en-f2=r:=⟨_,rfl⟩;have w6:IntKind.i64.wrap ((en:Int)-(f2:Int))=(r2:Int):=by rw[IntKind.wrap_i64];omega
  by_cases c8:r2<n
  ·have H:Hid (Zc9 B a en=.error (6,a)):=by
    show _=_;rw[HP.out,HL.out];show (if en<f2+n then _ else _)=_;rw[if_pos (by omega)]
   have g8:(r2:Int)<(n:Int):=by omega
   go_wp2_with fail;refine (ZbN (p:=(a:Int)) (c:=6)).mono ?_;rintro e w1 ⟨er,rfl,hbad⟩;go_wp2_with fail;refine bodyPost_ret (results_tmp3 rfl _ _ _) rfl ?_;exact ⟨fun f s h=>(by rw[H.out] at h;cases h),fun c p h=>(by rw[H.out] at h;cases h;exact ⟨er,rfl,hbad⟩)⟩
  obtain⟨st,hst⟩:∃ st,f2+n=st:=⟨_,rfl⟩;have H:Hid (Zc9 B a en=.ok (f2,st)):=by
   show _=_;rw[HP.out,HL.out];show (if en<f2+n then _ else _)=_;rw[if_neg (by omega),hst]
  have g8:¬ (r2:Int)<(n:Int):=by omega
  have w7:IntKind.i64.wrap ((f2:Int)+(n:Int))=(st:Int):=by rw[IntKind.wrap_i64];omega
  go_wp2_with fail;refine bodyPost_ret (results_tmp3 rfl _ _ _) rfl ?_;exact ⟨fun f s h=>(by rw[H.out] at h;cases h;exact ⟨rfl,rfl⟩),fun c p h=>(by rw[H.out] at h;cases h)⟩
theorem Zlv {v:Value} {X:List Int} {w:World} (hv:Bs w v X) (hl:X.length≤1048576):Calls Tryz.prog 69 #[v] w fun e w'=>∃ v',e=.returned v'∧w'.ownsRow w.heap.size 5 1 v' X.length (u8s X)∧Below w.heap.size w w':=by
 have HV:Hid (Bs w v X):=hv;obtain ⟨ao,cap,rfl,h1,h2,h3⟩:=hv;go_enter Tryz.func69,Tryz.ntmps69
 cases ao with
 | none =>
  have hX:X.length=0:=by
   by_cases q:0<X.length
   ·obtain ⟨_,_,e,_⟩:=h3 q
    cases e
   ·omega
  obtain rfl:X=[]:=List.eq_nil_of_length_eq_zero hX;clear h3;have e0:(binOp .eql 22 (.slice none 0 cap) (.slice none 0 0)).run Tryz.prog w=.ok (.bool true) w:=by kernel_rfl
  go_wp2_with fail;go_ret;exact ⟨_,rfl,⟨rfl,.inl ⟨rfl,rfl⟩⟩,Below.refl _ _⟩
 | some ad =>
  clear h3;have e0:(binOp .eql 22 (.slice (some ad) X.length cap) (.slice none 0 0)).run Tryz.prog w=.ok (.bool false) w:=by kernel_rfl
  have own0:=Zcc w [] 0 w.heap.size rfl (Nat.le_refl _) (by decide);have hb0:=HV.out.later ((Below.refl _ _).alloc (Nat.le_refl _) (.cells #[] 5));go_wp2_with (first|(at_builtin;refine Zad (by rfl) _ _ (by rfl) w.heap.size _ 0 ([]) (by rfl) own0 _ X (by rfl) hb0 (by omega) (by simp) ?_;intro v1 w1 own1 hgrow hat)|fail);have hb1:=Zag (base:=w.heap.size) ((Below.refl w.heap.size w).alloc (Nat.le_refl _) (.cells #[] 5)) hgrow (by simp) (fun g hg=>ZaI own0 hg) (Nat.le_refl _);rw[Nat.zero_add,List.nil_append] at own1;go_ret;exact ⟨v1,rfl,own1,hb1⟩
theorem ZcA.below {w w':World} {c p:Int} {er:Value} (h:ZcA w w' c p er):Below w.heap.size w w':=by
 obtain⟨_,_,_,_,h⟩:=h;exact h
theorem ZcA.form {w w':World} {c p:Int} {er:Value} (h:ZcA w w' c p er):∃ g,er=.iface 99 (.pointer (some ⟨g,0,none⟩)):=by
 obtain⟨g,h,_⟩:=h;exact ⟨g,h⟩
theorem ZcA.more {w w':World} {c p:Int} {er:Value} (h:ZcA w w' c p er) (o:Obj):ZcA w (w'.alloc o) c p er:=by
 obtain⟨g,h1,h2,h3,h4⟩:=h;exact ⟨g,h1,h2,h3.alloc o,h4.alloc h4.size o⟩
theorem ZcA.cell {w w':World} {c p:Int} {er:Value} {k j:Nat} {u:Value} (h:ZcA w w' c p er) (hk:k<w.heap.size) {w0:World} (bel:Below w0.heap.size w0 w) (hk0:w0.heap.size≤k):ZcA w0 (w'.setCell ⟨k,j,none⟩ u) c p er:=by
 obtain⟨g,h1,h2,h3,h4⟩:=h;have:=bel.size;exact ⟨g,h1,by omega,h3.other ⟨k,j,none⟩ u (by show g≠k;omega),(bel.trans (h4.mono bel.size)).setCell (p:=⟨k,j,none⟩) hk0 u⟩
theorem ZcA.setrow {w w':World} {c p:Int} {er:Value} {k:Nat} {cs:Array Value} (h:ZcA w w' c p er) (hk:w.heap.size=k) (hn:∀ g,er=.iface 99 (.pointer (some ⟨g,0,none⟩))→g≠k):ZcA w (w'.setRow k cs) c p er:=by
 obtain⟨g,h1,h2,h3,h4⟩:=h;exact ⟨g,h1,h2,h3.row (hn g h1),below_setRow h4 (by omega) _⟩
theorem ZaV {P:Program} {fn:Func} {p u v:Tmp} {ty:TypeId} (h:fn.results=#[.cell p ty,.tmp u,.tmp v]) (tmps:Array Value) (w:World) (g:Nat) (t:TypeId) (cs:Array Value) (fr:Nat × Nat) (d:TypeDesc)
  (hp:tmps.getD p undef=.pointer (some ⟨g,0,none⟩)) (hg:w.heap[g]?=some (.cells cs t fr))
  (hu:P.underlying ty=some d) (hd:(match d with|.struct _|.array _ _=>true|_=>false)=true) (hi:(P.info? ty).map (·.size)=some cs.size) :
  (results fn tmps).run P w=.ok (.tuple #[.agg cs,tmps.getD u undef,tmps.getD v undef]) w:=by
 have hp':tmps[p]?.getD undef=.pointer (some ⟨g,0,none⟩):=by simpa using hp
 simp[results,h,hp',asAddr,run_loadVar_row w g t ty cs fr d hg hu hd hi]
theorem Zox {B:List Int} {a en f s:Nat} (b:byt B) (h:Zc9 B a en=.ok (f,s)):a+1≤f∧f≤s∧s≤en:=by
 unfold Zc9 at h
 cases hq:Zc2 B a en with
 | error e=>rw[hq] at h;cases h
 | ok q =>
  obtain⟨n,f'⟩:=q;rw[hq] at h;simp only at h
  split at h
  ·cases h
  ·cases h
   have:=Zmh b hq;have h1:=Zen n;omega
theorem Zks {B:List Int} {d a en:Nat} (c1:¬ en≤a):ZaH B (d+1) a en=if byN B a%32=31 then .error (7,a) else match Zc9 B (a+1) en with|.error e=>.error e|.ok (f,s)=>if byN B a/32%2=1 then (match Zbf (ZaH B d) s (s-f) f [] with|.error e=>.error e|.ok (ks,z)=>.ok (.mk ((byN B a/64:Nat):Int) ((byN B a%32:Nat):Int) true [] ks,z)) else .ok (.mk ((byN B a/64:Nat):Int) ((byN B a%32:Nat):Int) false ((B.drop f).take (s-f)) [],s):=by
 rw[ZaH,if_neg c1];unfold Zc9
 cases hq:Zc2 B (a+1) en with
 | error e=>rfl
 | ok q =>
  obtain⟨n,f⟩:=q
  by_cases h:en<f+n
  ·simp only[if_pos h]
  ·simp only[if_neg h]
   rw[show f+n-f=n by omega]
   rfl
theorem ZkD {wr w1 w3 wz:World} {base gg cap1:Nat} {e:TypeId} {kv:Value} {acc:List Tl} {xs cs:List Value} {T:Tl} (own:wr.ownsRow base e 5 kv acc.length xs)
    (HD:∀ i t,acc[i]?=some t→Dep (fun b=>base≤b∧kv.ownBlock≠some b) wr t ((xs.drop (5*i)).take 5)) (hb:Below wr.heap.size wr w1) (hdep:Dep (fun b=>wr.heap.size≤b) w1 T cs) (l5:cs.length=5)
    (hb3:Below w1.heap.size w1 w3) (hgrow:w3.grownBy wz kv.ownBlock) (hat:kv.ownBlock=some gg∨gg=w3.heap.size) (hs:base≤wr.heap.size) :
      ∀ i t,(acc++[T])[i]?=some t→Dep (fun b=>base≤b∧(Value.slice (some ⟨gg,0,none⟩) (acc.length+1) cap1).ownBlock≠some b) wz t (((xs++cs).drop (5*i)).take 5):=by
  have s1:=hb.size;have s3:=hb3.size;have hxs:=own.1;intro i t hi
  by_cases hil:i<acc.length
  · rw[List.getElem?_append_left hil] at hi
    rw[List.drop_append_of_le_length (by omega),List.take_append_of_le_length (by rw[List.length_drop];omega)];refine (HD i t hi).next (((Agr.below hb).trans (Agr.below hb3)).trans (Agr.grown hgrow (fun b hb=>hb.2))) (fun b hb hl=>⟨hb.1,fun e=>?_⟩);simp only[Value.ownBlock,Option.some.injEq] at e;subst e;rcases hat with h|h
    · exact hb.2 h
    · omega
  · have hlt:=(List.getElem?_eq_some_iff.1 hi).1
    rw[List.length_append] at hlt;have ei:i=acc.length:=by simp at hlt;omega
    subst ei;rw[List.getElem?_append_right (Nat.le_refl _),Nat.sub_self] at hi;simp only[List.getElem?_cons_zero,Option.some.injEq] at hi;subst hi;rw[show 5*acc.length=xs.length by omega,List.drop_left,List.take_of_length_le (by omega)];refine hdep.next ((Agr.below hb3).trans (Agr.grown hgrow (fun b hb e=>?_))) (fun b hb hl=>⟨by omega,fun e=>?_⟩)
    · have:=ZaB own e
      omega
    · simp only[Value.ownBlock,Option.some.injEq] at e
      subst e;rcases hat with h|h
      · have:=ZaB own h
        omega
      · omega
def Zqd (B:List Int) (d:Nat):Prop:=∀ (a en:Nat) (v:Value) (w:World),d≤16→a≤1048576→en≤B.length→Cut w v B en →
  Calls Tryz.prog 35 #[v,.int .i64 (a:Int),.int .i64 (16-(d:Int))] w fun e w'=>(∀ T z,ZaH B d a en=.ok (T,z)→∃ cs,e=.returned (.tuple #[.agg cs.toArray,.int .i64 (z:Int),.nilIface])∧Dep (fun b=>w.heap.size≤b) w' T cs∧Below w.heap.size w w')∧(∀ c p,ZaH B d a en=.error (c,p)→∃ er,e=.returned (.tuple #[.agg #[.int .i64 0,.int .i64 0,.bool false,.slice none 0 0,.slice none 0 0],.int .i64 0,er])∧ZcA w w' (c:Int) (p:Int) er)
theorem Zly {B:List Int} (b:byt B) (hl:B.length≤1048576) {d:Nat} (IH:Zqd B d):∀ (a n st:Nat) (v:Value) (w:World),d≤16→st≤B.length→a≤st→st≤a+n→Cut w v B st →
    Calls Tryz.prog 70 #[v,.int .i64 (a:Int),.int .i64 (16-(d:Int))] w fun e w'=>(∀ ks z,Zbf (ZaH B d) st n a []=.ok (ks,z)→∃ kv xs,e=.returned (.tuple #[kv,.nilIface])∧w'.ownsRow w.heap.size 53 5 kv ks.length xs∧(∀ i t,ks[i]?=some t→Dep (fun b=>w.heap.size≤b∧kv.ownBlock≠some b) w' t ((xs.drop (5*i)).take 5))∧z=st∧Below w.heap.size w w')∧(∀ c p,Zbf (ZaH B d) st n a []=.error (c,p)→∃ er,e=.returned (.tuple #[.slice none 0 0,er])∧ZcA w w' (c:Int) (p:Int) er):=by
  intro a n st v w hd hst ha han hc;have HB:Hid (byt B):=b;have HC0:Hid (Cut w v B st):=hc;obtain ⟨ao,cap,rfl,k1,k2,k3⟩:=hc;clear k3 b;unfold maxLen at k2;obtain ⟨j0,hj0,hy0,hy1,hy2⟩:=ZaO Zcb;obtain ⟨dn,hdn⟩:∃ dn:Int,16-(d:Int)=dn:=⟨_,rfl⟩;have HIH:Hid (∀ (a:Nat) (v:Value) (w:World),a≤1048576→Cut w v B st→Calls Tryz.prog 35 #[v,.int .i64 (a:Int),.int .i64 dn] w fun e w'=>(∀ T z,ZaH B d a st=.ok (T,z)→∃ cs,e=.returned (.tuple #[.agg cs.toArray,.int .i64 (z:Int),.nilIface])∧Dep (fun b=>w.heap.size≤b) w' T cs∧Below w.heap.size w w')∧(∀ c p,ZaH B d a st=.error (c,p)→∃ er,e=.returned (.tuple #[.agg #[.int .i64 0,.int .i64 0,.bool false,.slice none 0 0,.slice none 0 0],.int .i64 0,er])∧ZcA w w' (c:Int) (p:Int) er)):=fun a v w h1 h2=>by rw[← hdn];exact IH a st v w hd h1 hst h2
  clear IH;rw[hdn];clear hdn;go_enter Tryz.func70,Tryz.ntmps70;go_wp2_with fail;go_loopw [1,8] (fun av kv wx=>∃ (y k:Nat) (acc:List Tl) (xs:List Value),y≤st∧av=.int .i64 (y:Int)∧Hid (Zbf (ZaH B d) st n a []=Zbf (ZaH B d) st k y acc)∧st≤y+k∧2*acc.length≤y∧wx.ownsRow w.heap.size 53 5 kv acc.length xs∧Hid (∀ i t,acc[i]?=some t→Dep (fun b=>w.heap.size≤b∧kv.ownBlock≠some b) wx t ((xs.drop (5*i)).take 5))∧Below w.heap.size w wx) (fun av _ _=>st-(intOf av).toNat)
  case atStart=>exact ⟨a,n,[],[],ha,rfl,rfl,by omega,by simp,⟨rfl,.inl ⟨rfl,rfl⟩⟩,fun i t h=>by simp at h,Below.refl _ _⟩
  case round =>
    obtain⟨y,k,acc,xs,hy,rfl,HK,hyk,hac,own,HD,bel⟩:=hrel;have HKV:Hid (∃ va vc,u8=.slice va acc.length vc):=by rcases own.2 with ⟨h,h'⟩|⟨_,_,_,h,_⟩;exact ⟨none,0,by rw[h,h']⟩;exact ⟨_,_,h⟩
    by_cases hyl:y<st
    · have g5:(y:Int)<(st:Int):=by omega
      obtain⟨k',rfl⟩:∃ k',k=k'+1:=⟨k-1,by omega⟩;have bsz:=bel.size;go_wp2_with fail;refine (HIH.out y _ wr (by omega) (HC0.out.later bel)).mono ?_;rintro e w1 ⟨hok,hbad⟩
      cases hep:ZaH B d y st with
      | error q =>
        obtain⟨c,p⟩:=q;obtain ⟨er,rfl,hr⟩:=hbad c p hep;clear hok hbad;have H:Hid (Zbf (ZaH B d) st n a []=.error (c,p)):=by show _=_;rw[HK.out,Zbf,if_pos hyl,hep]
        clear hep HK own HD;have HBad:Hid (ZcA w (w1.alloc (.cells #[.int .i64 0,.int .i64 0,.bool false,.slice none 0 0,.slice none 0 0] 53)) (c:Int) (p:Int) er):=ZcA.more (ZcA.up bel hr) _;obtain ⟨g9,rfl⟩:=hr.form;clear hr;have hz:=Zaj.out;go_upto_region 4 with (first|(refine wpList_store_row rfl 53 _ _ rfl w1.heap.size #[.int .i64 0,.int .i64 0,.bool false,.slice none 0 0,.slice none 0 0] rfl rfl 53 _ (heap_alloc_last _ _) (by rw[Zae];rfl) rfl (by simp[Value.oneCell']) ?_;rw[World.setRow_alloc_new])|fail);clear hz;generalize w1.alloc (.cells #[.int .i64 0,.int .i64 0,.bool false,.slice none 0 0,.slice none 0 0] 53)=w2 at *;go_wp2_with fail;refine bodyPost_ret (results_tmp2 rfl _ _ _) rfl ?_;exact ⟨fun ks z h=>(by rw[H.out] at h;cases h),fun c p h=>(by rw[H.out] at h;cases h;exact ⟨_,rfl,HBad.out⟩)⟩
      | ok q =>
        obtain⟨T,z⟩:=q;obtain ⟨cs,rfl,hdep,hb⟩:=hok T z hep;clear hok hbad;have heo:=ZeJ HB.out d y st T z (by omega) hep;have hb2:=Zcs T;have hz1:y+2≤z:=by have:=heo.1.1;omega
        have hz2:z≤st:=heo.2;clear heo hb2;have HK2:Hid (Zbf (ZaH B d) st n a []=Zbf (ZaH B d) st k' z (acc++[T])):=by show _=_;rw[HK.out,Zbf,if_pos hyl,hep]
        clear hep HK;have HO5:Hid (Zca cs):=hdep.now.ones;have l5:=hdep.now.five;have HL5:Hid (cs.length=5):=l5;have HS5:Hid (cs.toArray.size=5):=by show _=_;rw[List.size_toArray];exact l5
        have HDp:Hid (Dep (fun b=>wr.heap.size≤b) w1 T cs):=hdep;have HOw:Hid _:=own;have HBw:Hid _:=hb;have bel1:=Zah (o:=.cells cs.toArray 53) (Zar bel hb);have KB:=Blk.new w1 cs 53 w1.heap.size rfl;have own1:=Za7 (S:=fun _=>True) own (Agr.below (hb.trans (((Below.refl _ _).alloc (Nat.le_refl _) (.cells cs.toArray 53)).mono hb.size))) (fun _ _=>trivial);have HB2:Hid (Below w1.heap.size w1 (w1.alloc (.cells cs.toArray 53))):=(Below.refl _ _).alloc (Nat.le_refl _) _;have hz:=Zaj.out;have hs1:=hb.size;clear hb own hdep bel;go_upto_region 4 with (first|(refine wpList_store_row rfl 53 _ _ rfl w1.heap.size cs.toArray rfl rfl 53 _ (heap_alloc_last _ _) (by rw[Zae,HS5.out]) (by rw[HS5.out];rfl) HO5.out ?_;rw[World.setRow_alloc_new])|fail);clear hz;obtain ⟨g1,hg1⟩:∃ g1,g1=w1.heap.size:=⟨_,rfl⟩;rw[← hg1] at KB hs1;generalize w1.alloc (.cells cs.toArray 53)=w2 at *;rw[← hg1];clear hg1;go_upto_region 6 with fail;have HF:Hid _:=ZeX HL5.out;have NB:=Blk.new w2 cs 53 w2.heap.size rfl;have HNews:Hid (∀ j u,cs[j]?=some u→(w2.alloc (.cells cs.toArray 53)).cell? ((⟨w2.heap.size,0,none⟩:Addr).add j)=some u):=fun j u hu=>by
          have e:(⟨w2.heap.size,0,none⟩:Addr).add j=⟨w2.heap.size,j,none⟩:=by unfold Addr.add;split<;>simp_all
          rw[e];exact NB.cell j u hu
        clear NB;have HO1:Hid (∀ u∈cs,u.oneCell'=true):=by have:=HO5.out;unfold Zca at this;rw[Array.all_eq_true_iff_forall_mem] at this;exact fun u hu=>this u (by simpa using hu)
        have lk1:=KB.lt;have HSz:Hid (w.heap.size≤w2.heap.size):=by show _≤_;omega
        have HS3:Hid (Below w1.heap.size w1 (w2.alloc (.cells cs.toArray 53))):=HB2.out.alloc HB2.out.size _;go_upto_region 7 with (first
          | (refine Zab (by rfl) (by rfl) (by rfl) (KB.load Tryz.underlying53 rfl Zae HL5.out) ?_;refine Go.wpList_buildSlice rfl 51 53 1 _ rfl cs.toArray j0 _ Tryz.underlying51 hj0 hy0 (by rw[hy1];decide) (by rw[hy1];decide) (by rw[hy1];refine (congrArg _ (?_:_=[(0,Value.agg cs.toArray)])).trans HF.out;kernel_rfl) ?_)
          | (at_builtin;refine wpList_append_lies _ (by rfl) _ _ _ (by rfl) w.heap.size 53 j0 _ 5 72 Tryz.underlying51 hj0 hy0 hy1 hy2 rfl (by omega) u8 acc.length xs (by rfl) (own1.alloc _) ⟨w2.heap.size,0,none⟩ 1 1 cs (by rfl) HL5.out HNews.out HO1.out (by omega) (by unfold maxLen;omega) (by omega) (by simp;omega) (w2.heap.size+1) (by simp) ?_;intro gg cap1 wz hownz hgrow hat hltz)
          | fail)
        have bel10:=Below.grown (bel1.alloc bel1.size (.cells cs.toArray 53)) hgrow (by simp;omega) (fun k hk=>(ZaB own1 hk).1);have HST:Hid (∀ i t,(acc++[T])[i]?=some t→Dep (fun b=>w.heap.size≤b∧(Value.slice (some ⟨gg,0,none⟩) (acc.length+1) cap1).ownBlock≠some b) wz t (((xs++cs).drop (5*i)).take 5)):=ZkD HOw.out HD.out HBw.out HDp.out HL5.out HS3.out hgrow (by rcases hat with h|h;exact .inl h;exact .inr (by rw[h];simp)) bsz;clear hgrow hat hltz bel1 own1 KB lk1;go_wp2_with fail;go_roundw
        case rel=>exact ⟨z,k',acc++[T],xs++cs,hz2,rfl,HK2,by omega,by rw[List.length_append];simp;omega,by rw[List.length_append];exact hownz,HST,bel10⟩
        case measure=>simp[intOf];omega
    · have g5:¬ (y:Int)<(st:Int):=by omega
      have HY:Hid (y=st):=by show y=st;omega
      have H:Hid (Zbf (ZaH B d) st n a []=.ok (acc,y)):=by
        show _=_;rw[HK.out]
        cases k with
        | zero=>rw[Zbf]
        | succ k=>rw[Zbf,if_neg hyl]
      clear HK;have HO:Hid _:=own;clear own;go_wp2_with fail;refine bodyPost_ret (results_tmp2 rfl _ _ _) rfl ?_;exact ⟨fun ks z h=>(by rw[H.out] at h;cases h;first|exact ⟨_,xs,rfl,HO.out,HD.out,HY.out,bel⟩|exact ⟨_,rfl,xs,HO.out,HD.out,HY.out,bel⟩),fun c p h=>(by rw[H.out] at h;cases h)⟩
theorem Zob {B:List Int} (b:byt B) (hl:B.length≤1048576) (d:Nat):Zqd B d:=by
 unfold Zqd at *;have HB:Hid (byt B):=b;clear b
 induction d with
 | zero =>
  intro a en v w hd ha he hc;have HC0:Hid (Cut w v B en):=hc;have hz:=Zaj.out;have R0:=Blk.new w [.int .i64 0,.int .i64 0,.bool false,.slice none 0 0,.slice none 0 0] 53 w.heap.size rfl;have bel:=bal w (.cells #[.int .i64 0,.int .i64 0,.bool false,.slice none 0 0,.slice none 0 0] 53);have e16:16-((0:Nat):Int)=16:=by decide
  rw[e16];clear e16;have H:Hid (ZaH B 0 a en=.error (9,a)):=rfl;obtain ⟨ao,cap,rfl,k1,k2,k3⟩:=hc;clear k3;go_enter Tryz.func35,Tryz.ntmps35;go_upto_region 1 with fail;generalize w.alloc (.cells #[.int .i64 0,.int .i64 0,.bool false,.slice none 0 0,.slice none 0 0] 53)=W at *;have lW:=R0.lt;clear hz;go_wp2_with fail;refine (ZbN (p:=(a:Int)) (c:=9)).mono ?_;rintro e w1 ⟨er,rfl,hbad⟩;have R1:=R0.later hbad.below;have HBad:Hid (ZcA w (w1.setRow w.heap.size #[.int .i64 0,.int .i64 0,.bool false,.slice none 0 0,.slice none 0 0]) 9 (a:Int) er):=ZcA.row bel (Nat.le_refl _) lW hbad;clear hbad;obtain ⟨tR,hR⟩:=R1;have HR1:Hid _:=hR;clear hR;go_wp2_with (first|(refine wpList_store_row rfl 53 _ _ rfl w.heap.size #[.int .i64 0,.int .i64 0,.bool false,.slice none 0 0,.slice none 0 0] rfl rfl tR _ HR1.out (by rw[Zae];rfl) rfl (by simp[Value.oneCell']) ?_)|fail);exact bodyPost_ret (ZaV rfl _ _ w.heap.size tR #[.int .i64 0,.int .i64 0,.bool false,.slice none 0 0,.slice none 0 0] (0,0) _ rfl (setRow_heap _ _ _ _ _ _ HR1.out) Tryz.underlying53 rfl (by rw[Zae];rfl)) rfl ⟨fun T z h=>(by rw[H.out] at h;cases h),fun c p h=>(by rw[H.out] at h;cases h;exact ⟨_,rfl,HBad.out⟩)⟩
 | succ d IH =>
  intro a en v w hd ha he hc;have HC0:Hid (Cut w v B en):=hc;have hz:=Zaj.out;have R0:=Blk.new w [.int .i64 0,.int .i64 0,.bool false,.slice none 0 0,.slice none 0 0] 53 w.heap.size rfl;have bel:=bal w (.cells #[.int .i64 0,.int .i64 0,.bool false,.slice none 0 0,.slice none 0 0] 53);obtain ⟨dn,hdn⟩:∃ dn:Int,16-((d+1:Nat):Int)=dn:=⟨_,rfl⟩;rw[hdn];have hdn2:dn=15-(d:Int):=by omega
  obtain⟨dm,hdm⟩:∃ dm:Int,16-(d:Int)=dm:=⟨_,rfl⟩;have wd:IntKind.i64.wrap (dn+1)=dm:=by rw[IntKind.wrap_i64];omega
  have g0:¬ (16:Int)≤dn:=by omega
  have HEs:Hid (∀ (f n st:Nat) (v:Value) (w:World),st≤B.length→f≤st→st≤f+n→Cut w v B st→Calls Tryz.prog 70 #[v,.int .i64 (f:Int),.int .i64 dm] w fun e w'=>(∀ ks z,Zbf (ZaH B d) st n f []=.ok (ks,z)→∃ kv xs,e=.returned (.tuple #[kv,.nilIface])∧w'.ownsRow w.heap.size 53 5 kv ks.length xs∧(∀ i t,ks[i]?=some t→Dep (fun b=>w.heap.size≤b∧kv.ownBlock≠some b) w' t ((xs.drop (5*i)).take 5))∧z=st∧Below w.heap.size w w')∧(∀ c p,Zbf (ZaH B d) st n f []=.error (c,p)→∃ er,e=.returned (.tuple #[.slice none 0 0,er])∧ZcA w w' (c:Int) (p:Int) er)):=fun f n st v w h1 h2 h3 h4=>by rw[← hdm];exact Zly HB.out hl IH f n st v w (by omega) h1 h2 h3 h4
  clear hdn hdn2 hdm IH;obtain ⟨ao,cap,rfl,k1,k2,k3⟩:=hc;unfold maxLen at k2;have K3:Hid _:=k3;clear k3;go_enter Tryz.func35,Tryz.ntmps35;go_upto_region 1 with fail;generalize w.alloc (.cells #[.int .i64 0,.int .i64 0,.bool false,.slice none 0 0,.slice none 0 0] 53)=W at *;have lW:=R0.lt;clear hz
  by_cases c1:en≤a
  ·have H:Hid (ZaH B (d+1) a en=.error (6,a)):=by show _=_;rw[ZaH,if_pos c1]
   have g1:(en:Int)≤(a:Int):=by omega
   go_wp2_with fail;refine (ZbN (p:=(a:Int)) (c:=6)).mono ?_;rintro e w1 ⟨er,rfl,hbad⟩;have R1:=R0.later hbad.below;have HBad:Hid (ZcA w (w1.setRow w.heap.size #[.int .i64 0,.int .i64 0,.bool false,.slice none 0 0,.slice none 0 0]) 6 (a:Int) er):=ZcA.row bel (Nat.le_refl _) lW hbad;clear hbad;obtain ⟨tR,hR⟩:=R1;have HR1:Hid _:=hR;clear hR;go_wp2_with (first|(refine wpList_store_row rfl 53 _ _ rfl w.heap.size #[.int .i64 0,.int .i64 0,.bool false,.slice none 0 0,.slice none 0 0] rfl rfl tR _ HR1.out (by rw[Zae];rfl) rfl (by simp[Value.oneCell']) ?_)|fail);exact bodyPost_ret (ZaV rfl _ _ w.heap.size tR #[.int .i64 0,.int .i64 0,.bool false,.slice none 0 0,.slice none 0 0] (0,0) _ rfl (setRow_heap _ _ _ _ _ _ HR1.out) Tryz.underlying53 rfl (by rw[Zae];rfl)) rfl ⟨fun T z h=>(by rw[H.out] at h;cases h),fun c p h=>(by rw[H.out] at h;cases h;exact ⟨_,rfl,HBad.out⟩)⟩
  have g1:¬ (en:Int)≤(a:Int):=by omega
  have HCW:Hid (Cut W (.slice ao en cap) B en):=HC0.out.later bel;obtain ⟨gb,ob,rfl,hg0,hcell0⟩:=K3.out (by omega);have hg:gb<W.heap.size:=Nat.lt_of_lt_of_le hg0 bel.size;have ca:=Zan (hcell0 a (by omega)) bel;clear hcell0 hg0 K3;have xa:=ZcP HB.out a;have HE:Hid _:=Zks (B:=B) (d:=d) c1;obtain ⟨x,hx⟩:∃ x,byN B a=x:=⟨_,rfl⟩;rw[hx] at ca xa HE;clear hx;have w1:IntKind.i64.wrap (x:Int)=(x:Int):=by rw[IntKind.wrap_i64];omega
  obtain⟨a1,ha1⟩:∃ a1,a+1=a1:=⟨_,rfl⟩;rw[ha1] at HE;have w2:IntKind.i64.wrap ((a:Int)+1)=(a1:Int):=by rw[IntKind.wrap_i64];omega
  have q1:=and_31 xa;have g1b:(a:Int)<(en:Int):=by omega
  have g1c:(0:Int)≤(a:Int):=by omega
  obtain⟨ct,hct⟩:∃ ct,x%32=ct:=⟨_,rfl⟩;rw[hct] at q1 HE
  by_cases c2:ct=31
  ·have H:Hid (ZaH B (d+1) a en=.error (7,a)):=by show _=_;rw[HE.out,if_pos c2]
   have g2:(ct:Int)=31:=by omega
   go_wp2_with fail;refine (ZbN (p:=(a:Int)) (c:=7)).mono ?_;rintro e w1 ⟨er,rfl,hbad⟩;have R1:=R0.later hbad.below;have HBad:Hid (ZcA w (w1.setRow w.heap.size #[.int .i64 0,.int .i64 0,.bool false,.slice none 0 0,.slice none 0 0]) 7 (a:Int) er):=ZcA.row bel (Nat.le_refl _) lW hbad;clear hbad;obtain ⟨tR,hR⟩:=R1;have HR1:Hid _:=hR;clear hR;go_wp2_with (first|(refine wpList_store_row rfl 53 _ _ rfl w.heap.size #[.int .i64 0,.int .i64 0,.bool false,.slice none 0 0,.slice none 0 0] rfl rfl tR _ HR1.out (by rw[Zae];rfl) rfl (by simp[Value.oneCell']) ?_)|fail);exact bodyPost_ret (ZaV rfl _ _ w.heap.size tR #[.int .i64 0,.int .i64 0,.bool false,.slice none 0 0,.slice none 0 0] (0,0) _ rfl (setRow_heap _ _ _ _ _ _ HR1.out) Tryz.underlying53 rfl (by rw[Zae];rfl)) rfl ⟨fun T z h=>(by rw[H.out] at h;cases h),fun c p h=>(by rw[H.out] at h;cases h;exact ⟨_,rfl,HBad.out⟩)⟩
  have g2:¬ (ct:Int)=31:=by omega
  rw[if_neg c2] at HE;clear c2;go_wp2_with fail;refine (Zoc (a:=a1) HCW.out HB.out he hl (by omega)).mono ?_;rintro e w1 ⟨hok,hbad⟩
  cases hhp:Zc9 B a1 en with
  | error q =>
   obtain⟨c,p⟩:=q;obtain ⟨er,rfl,hr⟩:=hbad c p hhp;clear hok hbad;have H:Hid (ZaH B (d+1) a en=.error (c,p)):=by show _=_;rw[HE.out,hhp]
   clear hhp HE;have R1:=R0.later hr.below;have HBad:Hid (ZcA w (w1.setRow w.heap.size #[.int .i64 0,.int .i64 0,.bool false,.slice none 0 0,.slice none 0 0]) (c:Int) (p:Int) er):=ZcA.row bel (Nat.le_refl _) lW hr;obtain ⟨g9,rfl⟩:=hr.form;clear hr;obtain ⟨tR,hR⟩:=R1;have HR1:Hid _:=hR;clear hR;go_wp2_with (first|(refine wpList_store_row rfl 53 _ _ rfl w.heap.size #[.int .i64 0,.int .i64 0,.bool false,.slice none 0 0,.slice none 0 0] rfl rfl tR _ HR1.out (by rw[Zae];rfl) rfl (by simp[Value.oneCell']) ?_)|fail);exact bodyPost_ret (ZaV rfl _ _ w.heap.size tR #[.int .i64 0,.int .i64 0,.bool false,.slice none 0 0,.slice none 0 0] (0,0) _ rfl (setRow_heap _ _ _ _ _ _ HR1.out) Tryz.underlying53 rfl (by rw[Zae];rfl)) rfl ⟨fun T z h=>(by rw[H.out] at h;cases h),fun c p h=>(by rw[H.out] at h;cases h;exact ⟨_,rfl,HBad.out⟩)⟩
  | ok q =>
   obtain⟨f,st⟩:=q;obtain ⟨rfl,hw1⟩:=hok f st hhp;rw[hw1];clear hok hbad hw1;have hlo:=Zox HB.out hhp;rw[hhp] at HE;obtain ⟨cc,hcc⟩:∃ cc,x/64=cc:=⟨_,rfl⟩;obtain ⟨n,hn⟩:∃ n,st-f=n:=⟨_,rfl⟩;replace HE:Hid (ZaH B (d+1) a en=if x/32%2=1 then (match Zbf (ZaH B d) st n f [] with|.error e=>.error e|.ok (ks,z)=>.ok (.mk (cc:Int) (ct:Int) true [] ks,z)) else .ok (.mk (cc:Int) (ct:Int) false ((B.drop f).take n) [],st)):=by rw[← hcc,← hn];exact HE
   clear hhp;have q2:(x:Int).tdiv 64=(cc:Int):=by rw[Int.tdiv_eq_ediv_of_nonneg (by omega)];omega
   have v2:IntKind.i64.wrap (cc:Int)=(cc:Int):=by rw[IntKind.wrap_i64];omega
   have hz:=Zaj.out
   by_cases c4:x/32%2=1
   rotate_left
   ·have q4:=Zqe xa c4
    rw[if_neg c4] at HE;have T0:=Blk.new W [.int .i64 (cc:Int),.int .i64 (ct:Int),.bool false,.slice none 0 0,.slice none 0 0] 53 W.heap.size rfl;have R1:=R0.alloc (.cells #[.int .i64 (cc:Int),.int .i64 (ct:Int),.bool false,.slice none 0 0,.slice none 0 0] 53);have bel1:=Zah (o:=.cells #[.int .i64 (cc:Int),.int .i64 (ct:Int),.bool false,.slice none 0 0,.slice none 0 0] 53) bel;have HCV:Hid (Cut (W.alloc (.cells #[.int .i64 (cc:Int),.int .i64 (ct:Int),.bool false,.slice none 0 0,.slice none 0 0] 53)) (.slice (some ⟨gb,ob,none⟩) en cap) B en):=HCW.out.later ((Below.refl _ _).alloc (Nat.le_refl _) _);go_upto_region 12 with (first|(refine wpList_store_row rfl 53 _ _ rfl W.heap.size #[.int .i64 (cc:Int),.int .i64 (ct:Int),.bool false,.slice none 0 0,.slice none 0 0] rfl rfl 53 _ (heap_alloc_last _ _) (by rw[Zae];rfl) rfl (by simp[Value.oneCell']) ?_;rw[World.setRow_alloc_new])|fail);clear hz;obtain ⟨gT,hgT⟩:∃ g,g=W.heap.size:=⟨_,rfl⟩;rw[← hgT] at T0 lW;generalize W.alloc (.cells #[.int .i64 (cc:Int),.int .i64 (ct:Int),.bool false,.slice none 0 0,.slice none 0 0] 53)=V at *;rw[← hgT];clear hgT R0 bel HCW;have lT:=T0.lt;have t2:=T0.cell 2 _ rfl;have y1:(0:Int)≤(f:Int):=by omega
    have y2:(f:Int)≤(st:Int):=by omega
    have y3:st≤cap:=by omega
    have y4:f≤st:=by omega
    have y5:st-f=n:=by omega
    have HLn:Hid (((B.drop f).take n).length=n):=by show _=_;rw[List.length_take,List.length_drop];omega
    have HCut:Hid (∀ ad m q,m=n→(0<n→ad=some ⟨gb,ob+f,none⟩)→n≤q→q≤maxLen→Bs V (.slice ad m q) ((B.drop f).take n)):=fun ad m q h1 h2 h3 h4=>HCV.out.part HB.out he (by omega) h1 h2 h3 h4;obtain ⟨bd,hbd⟩:∃ bd,(B.drop f).take n=bd:=⟨_,rfl⟩;rw[hbd] at HE HCut HLn;clear hbd;go_wp2_with fail
    all_goals
     refine(Zlv (HCut.out _ _ _ (by omega) (by intro hp;first|rfl|exact absurd hp (by omega)|rw[if_neg (by omega)]) (by omega) (by unfold maxLen;omega)) (by rw[HLn.out];omega)).mono ?_;rintro e w5 ⟨v5,rfl,own5,hb5⟩;rw[HLn.out] at own5;have T5:=T0.later hb5;have R5:=R1.later hb5;have bel5:=Zar bel1 hb5;have sV:=bel1.size;clear HCut T0 R1 bel1 hb5 t2;have t5:=T5.cell 3 _ rfl;have f5:=T5.frozen 3;have l5:=T5.lt;obtain ⟨va,vc,hv5,vk1,vk2⟩:=Zbc own5;subst hv5;have T6:=T5.set 3 (.slice va n vc);replace T6:Blk (w5.setCell ⟨gT,3,none⟩ (.slice va n vc)) gT [.int .i64 (cc:Int),.int .i64 (ct:Int),.bool false,.slice va n vc,.slice none 0 0]:=T6;have R6:=R5.other ⟨gT,3,none⟩ (.slice va n vc) (by show w.heap.size≠gT;omega);have bel6:=bel5.setCell (p:=⟨gT,3,none⟩) (by show w.heap.size≤gT;omega) (.slice va n vc);obtain ⟨tR,hR⟩:=R6;have HR1:Hid _:=hR;clear hR;have HA:Hid (Agr (fun b=>V.heap.size≤b) w5 ((w5.setCell ⟨gT,3,none⟩ (.slice va n vc)).setRow w.heap.size #[.int .i64 (cc:Int),.int .i64 (ct:Int),.bool false,.slice va n vc,.slice none 0 0])):=Agr.row (Agr.cell (Agr.refl _ _) (by show ¬ V.heap.size≤gT;omega)) (by show ¬ V.heap.size≤w.heap.size;omega);have HO:Hid _:=Za7 own5 HA.out (fun g hg=>ZaI own5 hg);clear R5 bel5 own5 HA;go_wp2_with (first|(refine Zab (by rfl) (by rfl) (by rfl) (T6.load Tryz.underlying53 rfl Zae rfl) ?_)|(refine wpList_store_row rfl 53 _ _ rfl w.heap.size _ rfl rfl tR _ HR1.out (by rw[Zae];rfl) rfl (by simp[Value.oneCell']) ?_)|fail)
     all_goals exact bodyPost_ret (ZaV rfl _ _ w.heap.size tR #[.int .i64 (cc:Int),.int .i64 (ct:Int),.bool false,.slice va n vc,.slice none 0 0] (0,0) _ rfl (setRow_heap _ _ _ _ _ _ HR1.out) Tryz.underlying53 rfl (by rw[Zae];rfl)) rfl ⟨fun T z h=>(by rw[HE.out] at h;cases h;exact ⟨[.int .i64 (cc:Int),.int .i64 (ct:Int),.bool false,.slice va n vc,.slice none 0 0],rfl,Zjs HO.out HLn.out (fun g hg=>by have:=ZaI HO.out hg;show w.heap.size≤g;omega) _ _ _,below_setRow bel6 (Nat.le_refl _) _⟩),fun c p h=>(by rw[HE.out] at h;cases h)⟩
   have q4:=Zqf xa c4;rw[if_pos c4] at HE;have T0:=Blk.new W [.int .i64 (cc:Int),.int .i64 (ct:Int),.bool true,.slice none 0 0,.slice none 0 0] 53 W.heap.size rfl;have R1:=R0.alloc (.cells #[.int .i64 (cc:Int),.int .i64 (ct:Int),.bool true,.slice none 0 0,.slice none 0 0] 53);have bel1:=Zah (o:=.cells #[.int .i64 (cc:Int),.int .i64 (ct:Int),.bool true,.slice none 0 0,.slice none 0 0] 53) bel;have HCV:Hid (Cut (W.alloc (.cells #[.int .i64 (cc:Int),.int .i64 (ct:Int),.bool true,.slice none 0 0,.slice none 0 0] 53)) (.slice (some ⟨gb,ob,none⟩) en cap) B en):=HCW.out.later ((Below.refl _ _).alloc (Nat.le_refl _) _);go_upto_region 12 with (first|(refine wpList_store_row rfl 53 _ _ rfl W.heap.size #[.int .i64 (cc:Int),.int .i64 (ct:Int),.bool true,.slice none 0 0,.slice none 0 0] rfl rfl 53 _ (heap_alloc_last _ _) (by rw[Zae];rfl) rfl (by simp[Value.oneCell']) ?_;rw[World.setRow_alloc_new])|fail);clear hz;obtain ⟨gT,hgT⟩:∃ g,g=W.heap.size:=⟨_,rfl⟩;rw[← hgT] at T0 lW;generalize W.alloc (.cells #[.int .i64 (cc:Int),.int .i64 (ct:Int),.bool true,.slice none 0 0,.slice none 0 0] 53)=V at *;rw[← hgT];clear hgT R0 bel HCW;have lT:=T0.lt;have t2:=T0.cell 2 _ rfl;have y2:(0:Int)≤(st:Int):=by omega
   have y3:st≤cap:=by omega
   have HCut:Hid (∀ ad q,q=cap→(0<st→ad=some ⟨gb,ob,none⟩)→Cut V (.slice ad st q) B st):=fun ad q h1 h2=>HCV.out.less (by omega) h1 h2;go_wp2_with fail;refine (HEs.out f n st _ V (by omega) (by omega) (by omega) (HCut.out _ _ (by omega) (by intro hp;first|rfl|rw[if_neg (by omega)]))).mono ?_;rintro e w5 ⟨hok,hbad⟩;have sV:=bel1.size;clear HCut t2
   cases hkp:Zbf (ZaH B d) st n f [] with
   | error q =>
    obtain⟨c,p⟩:=q;obtain ⟨er,rfl,hr⟩:=hbad c p hkp;clear hok hbad;have H:Hid (ZaH B (d+1) a en=.error (c,p)):=by show _=_;rw[HE.out,hkp]
    clear hkp HE;have hb5:=hr.below;have T5:=T0.later hb5;have R5:=R1.later hb5;have t5:=T5.cell 4 _ rfl;have f5:=T5.frozen 4;have l5:=T5.lt;have R1:=R5.other ⟨gT,4,none⟩ (.slice none 0 0) (by show w.heap.size≠gT;omega);have HBad0:Hid (ZcA w (w5.setCell ⟨gT,4,none⟩ (.slice none 0 0)) (c:Int) (p:Int) er):=ZcA.cell hr lT bel1 (by omega);have HBad:Hid (ZcA w ((w5.setCell ⟨gT,4,none⟩ (.slice none 0 0)).setRow w.heap.size #[.int .i64 0,.int .i64 0,.bool false,.slice none 0 0,.slice none 0 0]) (c:Int) (p:Int) er):=ZcA.setrow HBad0.out rfl (fun g hg=>by obtain ⟨g2,h1,h2,_⟩:=hr;rw[h1] at hg;simp at hg;omega);obtain ⟨g9,rfl⟩:=hr.form;clear hr hb5 T0 R5 HBad0;obtain ⟨tR,hR⟩:=R1;have HR1:Hid _:=hR;clear hR;go_wp2_with (first|(refine wpList_store_row rfl 53 _ _ rfl w.heap.size #[.int .i64 0,.int .i64 0,.bool false,.slice none 0 0,.slice none 0 0] rfl rfl tR _ HR1.out (by rw[Zae];rfl) rfl (by simp[Value.oneCell']) ?_)|fail);exact bodyPost_ret (ZaV rfl _ _ w.heap.size tR #[.int .i64 0,.int .i64 0,.bool false,.slice none 0 0,.slice none 0 0] (0,0) _ rfl (setRow_heap _ _ _ _ _ _ HR1.out) Tryz.underlying53 rfl (by rw[Zae];rfl)) rfl ⟨fun T z h=>(by rw[H.out] at h;cases h),fun c p h=>(by rw[H.out] at h;cases h;exact ⟨_,rfl,HBad.out⟩)⟩
   | ok q =>
    obtain⟨ks,z⟩:=q;obtain ⟨kv,xs,rfl,own5,hd5,rfl,hb5⟩:=hok ks z hkp;clear hok hbad;have H:Hid (ZaH B (d+1) a en=.ok (.mk (cc:Int) (ct:Int) true [] ks,z)):=by show _=_;rw[HE.out,hkp]
    clear hkp HE;have T5:=T0.later hb5;have R5:=R1.later hb5;have bel5:=Zar bel1 hb5;have HKV:Hid (∃ va vc,kv=.slice va ks.length vc):=by rcases own5.2 with ⟨h,h'⟩|⟨_,_,_,h,_⟩;exact ⟨none,0,by rw[h,h']⟩;exact ⟨_,_,h⟩
    obtain⟨va,vc,hkv⟩:=HKV.out;subst hkv;have t5:=T5.cell 4 _ rfl;have f5:=T5.frozen 4;have l5:=T5.lt;have T6:=T5.set 4 (.slice va ks.length vc);replace T6:Blk (w5.setCell ⟨gT,4,none⟩ (.slice va ks.length vc)) gT [.int .i64 (cc:Int),.int .i64 (ct:Int),.bool true,.slice none 0 0,.slice va ks.length vc]:=T6;have R6:=R5.other ⟨gT,4,none⟩ (.slice va ks.length vc) (by show w.heap.size≠gT;omega);have bel6:=bel5.setCell (p:=⟨gT,4,none⟩) (by show w.heap.size≤gT;omega) (.slice va ks.length vc);obtain ⟨tR,hR⟩:=R6;have HR1:Hid _:=hR;clear hR;have HA:Hid (Agr (fun b=>V.heap.size≤b) w5 ((w5.setCell ⟨gT,4,none⟩ (.slice va ks.length vc)).setRow w.heap.size #[.int .i64 (cc:Int),.int .i64 (ct:Int),.bool true,.slice none 0 0,.slice va ks.length vc])):=Agr.row (Agr.cell (Agr.refl _ _) (by show ¬ V.heap.size≤gT;omega)) (by show ¬ V.heap.size≤w.heap.size;omega);have HO:Hid _:=Za7 own5 HA.out (fun g hg=>(ZaB own5 hg).1);have HD2:Hid (∀ i t,ks[i]?=some t→Dep (fun b=>V.heap.size≤b∧(Value.slice va ks.length vc).ownBlock≠some b) ((w5.setCell ⟨gT,4,none⟩ (.slice va ks.length vc)).setRow w.heap.size #[.int .i64 (cc:Int),.int .i64 (ct:Int),.bool true,.slice none 0 0,.slice va ks.length vc]) t ((xs.drop (5*i)).take 5)):=fun i t h=>(hd5 i t h).next (Agr.row (Agr.cell (Agr.refl _ _) (by show ¬ (V.heap.size≤gT∧_);omega)) (by show ¬ (V.heap.size≤w.heap.size∧_);omega)) (fun b hb _=>hb);have HG:Hid (∀ g,(Value.slice va ks.length vc).ownBlock=some g→w.heap.size≤g):=fun g hg=>by have:=(ZaB own5 hg).1;omega
    clear R5 bel5 own5 HA hd5 T0 R1 bel1 hb5;go_wp2_with (first|(refine Zab (by rfl) (by rfl) (by rfl) (T6.load Tryz.underlying53 rfl Zae rfl) ?_)|(refine wpList_store_row rfl 53 _ _ rfl w.heap.size _ rfl rfl tR _ HR1.out (by rw[Zae];rfl) rfl (by simp[Value.oneCell']) ?_)|fail)
    all_goals exact bodyPost_ret (ZaV rfl _ _ w.heap.size tR #[.int .i64 (cc:Int),.int .i64 (ct:Int),.bool true,.slice none 0 0,.slice va ks.length vc] (0,0) _ rfl (setRow_heap _ _ _ _ _ _ HR1.out) Tryz.underlying53 rfl (by rw[Zae];rfl)) rfl ⟨fun T z h=>(by rw[H.out] at h;cases h;exact ⟨[.int .i64 (cc:Int),.int .i64 (ct:Int),.bool true,.slice none 0 0,.slice va ks.length vc],rfl,Zem HO.out HD2.out _ _ _ (fun b hb=>by have:=hb.1;omega) HG.out,below_setRow bel6 (Nat.le_refl _) _⟩),fun c p h=>(by rw[H.out] at h;cases h)⟩
theorem Zjk {w w':World} {c p:Nat} {er:Value} (h:ZcA w w' (c:Int) (p:Int) er) (hc:¬ c=2):ZdT w' c p er∧ZgA w.heap.size er:=by
 obtain⟨g,h1,h2,h3,_⟩:=h;refine ⟨.inr ⟨hc,g,h1,h3⟩,fun g2 e=>?_⟩;rw[h1] at e;simp only[Value.iface.injEq,Value.pointer.injEq,Option.some.injEq,Addr.mk.injEq] at e;omega
theorem ZfB {v:Value} {B:List Int} {w:World} (hv:Bs w v B) (b:byt B) :
  Calls Tryz.prog 14 #[v] w fun e w'=>(∀ T,Zaq B=.ok T→∃ cs,e=.returned (.tuple #[.agg cs.toArray,.nilIface])∧Dep (fun b=>w.heap.size≤b) w' T cs∧Below w.heap.size w w')∧(∀ c p,Zaq B=.error (c,p)→∃ (cs:List Value) (er:Value),e=.returned (.tuple #[.agg cs.toArray,er])∧Zav w' (.mk 0 0 false [] []) cs∧ZdT w' c p er∧ZgA w.heap.size er∧Below w.heap.size w w'):=by
 have HB:Hid (byt B):=b;have HV:Hid (Bs w v B):=hv;have hz:=Zaj.out;obtain ⟨ao,cap,rfl,h1,h2,h3⟩:=hv;clear h3 b;unfold maxLen at h1;have R0:=Blk.new w [.int .i64 0,.int .i64 0,.bool false,.slice none 0 0,.slice none 0 0] 53 w.heap.size rfl;have bel:=bal w (.cells #[.int .i64 0,.int .i64 0,.bool false,.slice none 0 0,.slice none 0 0] 53);go_enter Tryz.func14,Tryz.ntmps14;go_upto_region 1 with fail;generalize w.alloc (.cells #[.int .i64 0,.int .i64 0,.bool false,.slice none 0 0,.slice none 0 0] 53)=W at *;clear hz
 by_cases c1:1048576<B.length
 ·have H:Hid (Zaq B=.error (2,0)):=by show _=_;unfold Zaq;rw[if_pos c1]
  have g1:(1048576:Int)<((B.length:Nat):Int):=by omega
  obtain⟨tR,hR⟩:=R0;have HR1:Hid _:=hR;clear hR;go_wp2_with (first|(refine wpList_store_row rfl 53 _ _ rfl w.heap.size #[.int .i64 0,.int .i64 0,.bool false,.slice none 0 0,.slice none 0 0] rfl rfl tR _ HR1.out (by rw[Zae];rfl) rfl (by simp[Value.oneCell']) ?_)|fail);exact bodyPost_ret (Zac rfl _ _ w.heap.size tR #[.int .i64 0,.int .i64 0,.bool false,.slice none 0 0,.slice none 0 0] (0,0) _ rfl (setRow_heap _ _ _ _ _ _ HR1.out) Tryz.underlying53 rfl (by rw[Zae];rfl)) rfl ⟨fun T h=>(by rw[H.out] at h;cases h),fun c p h=>(by rw[H.out] at h;cases h;exact ⟨[.int .i64 0,.int .i64 0,.bool false,.slice none 0 0,.slice none 0 0],_,rfl,ZiA _,.inl ⟨rfl,rfl⟩,fun g h=>by simp at h,below_setRow bel (Nat.le_refl _) _⟩)⟩
 have g1:¬ (1048576:Int)<((B.length:Nat):Int):=by omega
 have HP:Hid (Zaq B=match ZaH B 16 0 B.length with|.error e=>.error e|.ok (t,z)=>if z<B.length then .error (8,z) else .ok t):=by
  show _=_;unfold Zaq;rw[if_neg c1]
  rfl
 have lW:=R0.lt;have hcall:=Zob HB.out (by omega) 16 0 B.length (.slice ao B.length cap) W (by omega) (by omega) (by omega) (Cut.of (HV.out.later bel) HB.out);rw[show 16-((16:Nat):Int)=0 from rfl] at hcall;go_wp2_with fail;refine hcall.mono ?_;rintro e w1 ⟨hok,hbad⟩;clear hcall;have hz:=Zaj.out
 cases hep:ZaH B 16 0 B.length with
 | error q =>
  obtain⟨c,p⟩:=q;obtain ⟨er,rfl,hr⟩:=hbad c p hep;clear hok hbad;have hcb:=Zdo hep;have H:Hid (Zaq B=.error (c,p)):=by show _=_;rw[HP.out,hep]
  clear hep HP;have R1:=(R0.later hr.below).alloc (.cells #[.int .i64 0,.int .i64 0,.bool false,.slice none 0 0,.slice none 0 0] 53);have HBad:Hid (ZcA w ((w1.alloc (.cells #[.int .i64 0,.int .i64 0,.bool false,.slice none 0 0,.slice none 0 0] 53)).setRow w.heap.size #[.int .i64 0,.int .i64 0,.bool false,.slice none 0 0,.slice none 0 0]) (c:Int) (p:Int) er):=ZcA.row bel (Nat.le_refl _) lW (ZcA.more hr _);obtain ⟨g9,rfl⟩:=hr.form;clear hr;go_upto_region 4 with (first|(refine wpList_store_row rfl 53 _ _ rfl w1.heap.size #[.int .i64 0,.int .i64 0,.bool false,.slice none 0 0,.slice none 0 0] rfl rfl 53 _ (heap_alloc_last _ _) (by rw[Zae];rfl) rfl (by simp[Value.oneCell']) ?_;rw[World.setRow_alloc_new])|fail);clear hz;generalize w1.alloc (.cells #[.int .i64 0,.int .i64 0,.bool false,.slice none 0 0,.slice none 0 0] 53)=w2 at *;obtain ⟨tR,hR⟩:=R1;have HR1:Hid _:=hR;clear hR;go_wp2_with (first|(refine wpList_store_row rfl 53 _ _ rfl w.heap.size #[.int .i64 0,.int .i64 0,.bool false,.slice none 0 0,.slice none 0 0] rfl rfl tR _ HR1.out (by rw[Zae];rfl) rfl (by simp[Value.oneCell']) ?_)|fail);exact bodyPost_ret (Zac rfl _ _ w.heap.size tR #[.int .i64 0,.int .i64 0,.bool false,.slice none 0 0,.slice none 0 0] (0,0) _ rfl (setRow_heap _ _ _ _ _ _ HR1.out) Tryz.underlying53 rfl (by rw[Zae];rfl)) rfl ⟨fun T h=>(by rw[H.out] at h;cases h),fun c p h=>(by rw[H.out] at h;cases h;have he:=Zjk HBad.out (by omega);exact ⟨[.int .i64 0,.int .i64 0,.bool false,.slice none 0 0,.slice none 0 0],_,rfl,ZiA _,he.1,he.2,HBad.out.below⟩)⟩
 | ok q =>
  obtain⟨T,z⟩:=q;obtain ⟨cs,rfl,hdep,hb⟩:=hok T z hep;clear hok hbad;have heo:=ZeJ HB.out 16 0 B.length T z (Nat.le_refl _) hep;have hz2:z≤B.length:=heo.2;replace HP:Hid (Zaq B=if z<B.length then .error (8,z) else .ok T):=by show _=_;rw[HP.out,hep]
  clear hep heo;have HO5:Hid (Zca cs):=hdep.now.ones;have l5:=hdep.now.five;have HL5:Hid (cs.length=5):=l5;have HS5:Hid (cs.toArray.size=5):=by show _=_;rw[List.size_toArray];exact l5
  have HDp:Hid (Dep (fun b=>W.heap.size≤b) w1 T cs):=hdep;have KB:=Blk.new w1 cs 53 w1.heap.size rfl;have R1:=(R0.later hb).alloc (.cells cs.toArray 53);have bel1:=Zah (o:=.cells cs.toArray 53) (Zar bel hb);have HAg:Hid (Agr (fun b=>W.heap.size≤b) w1 (w1.alloc (.cells cs.toArray 53))):=Agr.below ((Below.refl _ _).alloc (Nat.le_refl _) _);clear hb hdep l5 R0 bel;go_upto_region 4 with (first|(refine wpList_store_row rfl 53 _ _ rfl w1.heap.size cs.toArray rfl rfl 53 _ (heap_alloc_last _ _) (by rw[Zae,HS5.out]) (by rw[HS5.out];rfl) HO5.out ?_;rw[World.setRow_alloc_new])|fail);clear hz;obtain ⟨g1,hg1⟩:∃ g1,g1=w1.heap.size:=⟨_,rfl⟩;rw[← hg1] at KB;generalize w1.alloc (.cells cs.toArray 53)=w2 at *;rw[← hg1];clear hg1
  by_cases c2:z<B.length
  ·have H:Hid (Zaq B=.error (8,z)):=by show _=_;rw[HP.out,if_pos c2]
   have g2:(z:Int)<((B.length:Nat):Int):=by omega
   have lw2:=R1.lt;go_wp2_with fail;refine (ZbN (p:=(z:Int)) (c:=8)).mono ?_;rintro e w3 ⟨er,rfl,hr⟩;replace R1:=R1.later hr.below;have HBad:Hid (ZcA w (w3.setRow w.heap.size #[.int .i64 0,.int .i64 0,.bool false,.slice none 0 0,.slice none 0 0]) ((8:Nat):Int) (z:Int) er):=ZcA.row bel1 (Nat.le_refl _) lw2 hr;clear hr;obtain ⟨tR,hR⟩:=R1;have HR1:Hid _:=hR;clear hR;go_wp2_with (first|(refine wpList_store_row rfl 53 _ _ rfl w.heap.size #[.int .i64 0,.int .i64 0,.bool false,.slice none 0 0,.slice none 0 0] rfl rfl tR _ HR1.out (by rw[Zae];rfl) rfl (by simp[Value.oneCell']) ?_)|fail);exact bodyPost_ret (Zac rfl _ _ w.heap.size tR #[.int .i64 0,.int .i64 0,.bool false,.slice none 0 0,.slice none 0 0] (0,0) _ rfl (setRow_heap _ _ _ _ _ _ HR1.out) Tryz.underlying53 rfl (by rw[Zae];rfl)) rfl ⟨fun T h=>(by rw[H.out] at h;cases h),fun c p h=>(by rw[H.out] at h;cases h;have he:=Zjk HBad.out (by decide);exact ⟨[.int .i64 0,.int .i64 0,.bool false,.slice none 0 0,.slice none 0 0],er,rfl,ZiA _,he.1,he.2,HBad.out.below⟩)⟩
  ·have H:Hid (Zaq B=.ok T):=by show _=_;rw[HP.out,if_neg c2]
   have g2:¬ (z:Int)<((B.length:Nat):Int):=by omega
   have HD2:Hid (Dep (fun b=>w.heap.size≤b) (w2.setRow w.heap.size cs.toArray) T cs):=Dep.next HDp.out (Agr.row HAg.out (by show ¬ W.heap.size≤w.heap.size;omega)) (fun b hb _=>by show w.heap.size≤b;omega);obtain ⟨tR,hR⟩:=R1;have HR1:Hid _:=hR;clear hR;go_wp2_with (first|(refine Zab (by rfl) (by rfl) (by rfl) (KB.load Tryz.underlying53 rfl Zae HL5.out) ?_)|(refine wpList_store_row rfl 53 _ _ rfl w.heap.size cs.toArray rfl rfl tR _ HR1.out (by rw[Zae,HS5.out]) (by rw[HS5.out];rfl) HO5.out ?_)|fail);exact bodyPost_ret (Zac rfl _ _ w.heap.size tR cs.toArray (0,0) _ rfl (setRow_heap _ _ _ _ _ _ HR1.out) Tryz.underlying53 rfl (by rw[Zae,HS5.out])) rfl ⟨fun T h=>(by rw[H.out] at h;cases h;exact ⟨cs,rfl,HD2.out,below_setRow bel1 (Nat.le_refl _) _⟩),fun c p h=>(by rw[H.out] at h;cases h)⟩
end Go.Proofs.YtohcdbifhnfcbaaGreatDoor
