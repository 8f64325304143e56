/- The program's spot, number, held. -/
import Derived.Test.YtnkipgbnnhahbaaGreatDoorDrDep
import Derived.Test.YtnkipgbnnhahbaaGreatDoorCtPl
import Derived.Test.YtnkipgbnnhahbaaGreatDoorRows
import Derived.Deep.OwnRows
import Derived.Deep.AppendLies
import Derived.Great.BuildSlice
import Derived.Laws.BitsAllLaws
import Derived.Deep.WholeRow
import Derived.Deep.RegionHeld3
import Derived.Deep.DeepCutAuto
import Derived.Deep.DeepFit
namespace Go.Proofs.YtnkipgbnnhahbaaGreatDoor
open Go.RowKit
theorem i64_and_natD (a b:Nat) (ha:a < 9223372036854775808) (hb:b < 9223372036854775808):bits .and .i64 (a:Int) (b:Int)=((a &&& b:Nat):Int):=by
 have hx:a &&& b < 2 ^ 63:=Nat.and_lt_two_pow _ (by omega)
 show IntKind.i64.wrap ((BitVec.ofInt 64 (a:Int) &&& BitVec.ofInt 64 (b:Int)).toNat:Int)=_
 rw [BitVec.toNat_and,ofInt_u64 a (by omega),ofInt_u64 b (by omega),IntKind.wrap_i64]
 omega
theorem i64_or_natD (a b:Nat) (ha:a < 9223372036854775808) (hb:b < 9223372036854775808):bits .or .i64 (a:Int) (b:Int)=((a ||| b:Nat):Int):=by
 have hx:a ||| b < 2 ^ 63:=Nat.or_lt_two_pow (by omega) (by omega)
 show IntKind.i64.wrap ((BitVec.ofInt 64 (a:Int) ||| BitVec.ofInt 64 (b:Int)).toNat:Int)=_
 rw [BitVec.toNat_or,ofInt_u64 a (by omega),ofInt_u64 b (by omega),IntKind.wrap_i64]
 omega
theorem or_byte {n x:Nat} (hn:n < 16777216) (hx:x < 256):bits .or .i64 ((256 * n:Nat):Int) (x:Int)=((256 * n + x:Nat):Int):=by
 rw [i64_or_natD _ _ (by omega) (by omega)]
 have:=Nat.two_pow_add_eq_or_of_lt (i:=8) (b:=x) (by omega) n
 rw [show (2:Nat) ^ 8=256 from rfl] at this
 rw [this]
theorem and_31 {x:Nat} (hx:x < 256):bits .and .i64 (x:Int) 31=((x % 32:Nat):Int):=by
 have:=i64_and_natD x 31 (by omega) (by omega)
 rw [show (31:Nat)=2 ^ 5 - 1 from rfl,Nat.and_two_pow_sub_one_eq_mod] at this
 exact this
theorem and_32:∀ x:Nat,x < 256→x &&& 32=if x / 32 % 2=1 then 32 else 0:=by decide +kernel
theorem and_32y {x:Nat} (hx:x < 256) (h:x / 32 % 2=1):bits .and .i64 (x:Int) 32=32:=by
 have:=i64_and_natD x 32 (by omega) (by omega)
 rw [and_32 x hx,if_pos h] at this
 exact this
theorem and_32n {x:Nat} (hx:x < 256) (h:¬ x / 32 % 2=1):bits .and .i64 (x:Int) 32=0:=by
 have:=i64_and_natD x 32 (by omega) (by omega)
 rw [and_32 x hx,if_neg h] at this
 exact this
/-- an error that was made: a Spot in a new block -/
def BadR (w w':World) (c p:Int) (er:Value):Prop:=∃ g,er=.iface 98 (.pointer (some ⟨g,0,none⟩))∧w.heap.size≤g∧Blk w' g [.int .i64 p,.iface 46 (.int .i64 c)]∧Below w.heap.size w w'
theorem BadR.up {w W w1:World} {c p:Int} {er:Value} (bel:Below w.heap.size w W) (h:BadR W w1 c p er):BadR w w1 c p er:=by
 obtain ⟨g,h1,h2,h3,h4⟩:=h
 have:=bel.size
 exact ⟨g,h1,by omega,h3,bel.trans (h4.mono bel.size)⟩
theorem BadR.row {w W w1:World} {c p:Int} {er:Value} {k:Nat} {cs:Array Value} (bel:Below w.heap.size w W) (hk:w.heap.size≤k) (lt:k < W.heap.size) (h:BadR W w1 c p er):BadR w (w1.setRow k cs) c p er:=by
 obtain ⟨g,h1,h2,h3,h4⟩:=h
 have:=bel.size
 exact ⟨g,h1,by omega,h3.row (by omega),below_setRow (bel.trans (h4.mono bel.size)) hk _⟩
/-- the bytes of B up to a place, as they lie -/
def Cut (w:World) (v:Value) (B:List Int) (en:Nat):Prop:=∃ ao cap,v=.slice ao en cap∧en≤cap∧cap≤maxLen∧(0 < en→∃ g o,ao=some ⟨g,o,none⟩∧g < w.heap.size∧∀ j,j < en→w.cell? ⟨g,o + j,none⟩=some (.int .u8 ((byN B j:Nat):Int)))
theorem Cut.later {w w':World} {v:Value} {B:List Int} {en:Nat} (h:Cut w v B en) (hb:Below w.heap.size w w'):Cut w' v B en:=by
 obtain ⟨ao,cap,h1,h2,h3,h4⟩:=h
 refine ⟨ao,cap,h1,h2,h3,fun h0=>?_⟩
 obtain ⟨g,o,e,hg,hc⟩:=h4 h0
 exact ⟨g,o,e,Nat.lt_of_lt_of_le hg hb.size,fun j hj=>(hb.cell (p:=⟨g,o + j,none⟩) hg).trans (hc j hj)⟩
theorem Cut.of {w:World} {v:Value} {B:List Int} (h:Bs w v B) (b:byt B):Cut w v B B.length:=by
 obtain ⟨ao,cap,h1,h2,h3,h4⟩:=h
 refine ⟨ao,cap,h1,h3,h2,fun h0=>?_⟩
 obtain ⟨g,o,e,hg,hc⟩:=h4 h0
 exact ⟨g,o,e,hg,fun j hj=>by rw [← byN_int b];exact hc j hj⟩
theorem Cut.less {w:World} {ao:Option Addr} {en cap st k:Nat} {ad:Option Addr} {B:List Int} (h:Cut w (.slice ao en cap) B en) (hs:st≤en) (hk:k=cap) (ha:0 < st→ad=ao):Cut w (.slice ad st k) B st:=by
 subst hk
 obtain ⟨ao',cap',h1,h2,h3,h4⟩:=h
 obtain ⟨rfl,_,rfl⟩:ao=ao'∧en=en∧k=cap':=by simpa using h1
 refine ⟨ad,k,rfl,by omega,h3,fun h0=>?_⟩
 obtain ⟨g,o,e,hg,hc⟩:=h4 (by omega)
 exact ⟨g,o,(ha h0).trans e,hg,fun j hj=>hc j (by omega)⟩
theorem Cut.part {w:World} {gb ob en cap f n m k:Nat} {ad:Option Addr} {B:List Int} (h:Cut w (.slice (some ⟨gb,ob,none⟩) en cap) B en) (b:byt B) (he:en≤B.length) (hf:f + n≤en) (hm:m=n) (ha:0 < n→ad=some ⟨gb,ob + f,none⟩) (hk1:n≤k) (hk2:k≤maxLen):Bs w (.slice ad m k) ((B.drop f).take n):=by
 subst hm
 have el:((B.drop f).take m).length=m:=by rw [List.length_take,List.length_drop];omega
 refine ⟨ad,k,by rw [el],hk2,by rw [el];exact hk1,fun hp=>?_⟩
 rw [el] at hp ⊢
 obtain ⟨a1,k1,e1,_,_,d3⟩:=h
 obtain ⟨rfl,_,rfl⟩:some ⟨gb,ob,none⟩=a1∧en=en∧cap=k1:=by simpa using e1
 obtain ⟨b1,o1,e2,hb1,hc1⟩:=d3 (by omega)
 obtain ⟨rfl,rfl⟩:gb=b1∧ob=o1:=by simpa using e2
 refine ⟨gb,ob + f,ha hp,hb1,fun j hj=>?_⟩
 rw [List.getD_eq_getElem?_getD,List.getElem?_take,if_pos hj,List.getElem?_drop,← List.getD_eq_getElem?_getD,Nat.add_assoc,byN_int b]
 exact hc1 (f + j) (by omega)
/-- where what a length tells of begins, and ends -/
def heldP (B:List Int) (a en:Nat):Except (Nat × Nat) (Nat × Nat):=match lenP B a en with|.error e=>.error e|.ok (n,f)=>if en < f + n then .error (6,a) else .ok (f,f + n)
theorem beV_part {B:List Int} {f k:Nat}:∀ i,i≤k→beV ((B.drop f).take k) 0 i=beV B f i
 | 0,_=>rfl
 | i + 1,h=>by
  rw [beV,beV,beV_part i (by omega),List.getD_eq_getElem?_getD,List.getElem?_take,if_pos (by omega),List.getElem?_drop,← List.getD_eq_getElem?_getD,Nat.zero_add]
theorem beV_ltD {B:List Int} (b:byt B) (o:Nat):∀ k,beV B o k < 256 ^ k
 | 0=>by simp [beV]
 | k + 1=>by
  have:=beV_ltD b o k
  have h:=b (o + k)
  rw [beV,Nat.pow_succ]
  omega
set_option linter.unusedSimpArgs false in
set_option maxRecDepth 100000 in
set_option maxHeartbeats 1000000 in
theorem c12_spot {p c:Int} {w:World}:Calls Tryz.prog 33 #[.int .i64 p,.int .i64 c] w fun e w'=>∃ er,e=.returned er∧BadR w w' c p er:=by
 have B0:=Blk.new w [.int .i64 p,.iface 46 (.int .i64 c)] 103 w.heap.size rfl
 have bel:Below w.heap.size w (w.alloc (.cells #[.int .i64 p,.iface 46 (.int .i64 c)] 103)):=(Below.refl _ _).alloc (Nat.le_refl _) _
 go_enter Tryz.func33,Tryz.ntmps33
 go_wp2_with fail
 go_ret
 exact ⟨_,rfl,w.heap.size,rfl,Nat.le_refl _,B0,bel⟩
set_option linter.unusedSimpArgs false in
set_option maxRecDepth 100000 in
set_option maxHeartbeats 1000000 in
theorem c12_number {v:Value} {X:List Int} {w:World} (hv:Bs w v X) (b:byt X) (hl:X.length≤3):Calls Tryz.prog 86 #[v] w fun e w'=>e=.returned (.int .i64 ((beV X 0 X.length:Nat):Int))∧w'=w:=by
 have HB:Hid (byt X):=b
 obtain ⟨ao,cap,rfl,h1,h2,h3⟩:=hv
 unfold maxLen at h1
 have H3:Hid _:=h3
 clear h3 b
 go_enter Tryz.func86,Tryz.ntmps86
 go_wp2_with fail
 go_loop [3,8] (fun nv iv=>∃ i n:Nat,i≤X.length∧iv=.int .i64 (i:Int)∧nv=.int .i64 (n:Int)∧n < 256 ^ i∧Hid (n=beV X 0 i)) (fun _ iv=>X.length - (intOf iv).toNat)
 case atStart=>exact ⟨0,0,by omega,rfl,rfl,by simp,rfl⟩
 case round =>
  obtain ⟨i,n,hi,rfl,rfl,hn,HN⟩:=hrel
  by_cases hil:i < X.length
  ·have g1:(i:Int) < (X.length:Int):=by omega
   have g2:(0:Int)≤(i:Int):=by omega
   have gi:IntKind.i64.wrap ((i:Int) + 1)=(i:Int) + 1:=by rw [IntKind.wrap_i64];omega
   obtain ⟨g,o,rfl,hg,hc⟩:=H3.out (by omega)
   have ca:=hc i hil
   rw [byN_int HB.out] at ca
   have xa:=byN_lt HB.out i
   have HX:Hid (beV X 0 (i + 1)=256 * n + byN X i):=by show _=_;rw [beV,← HN.out,Nat.zero_add];rfl
   obtain ⟨x,hx⟩:∃ x,byN X i=x:=⟨_,rfl⟩
   rw [hx] at ca xa HX
   clear hx hc
   have hn2:n < 65536:=Nat.lt_of_lt_of_le hn (by
    rcases (show i=0∨i=1∨i=2 by omega) with rfl|rfl|rfl<;>decide)
   have w1:IntKind.i64.wrap (x:Int)=(x:Int):=by rw [IntKind.wrap_i64];omega
   have w3:=or_byte (n:=n) (x:=x) (by omega) xa
   obtain ⟨m,hm⟩:∃ m,256 * n=m:=⟨_,rfl⟩
   have w2:IntKind.i64.wrap ((n:Int) * 256)=(m:Int):=by rw [IntKind.wrap_i64];omega
   rw [hm] at w3 HX
   obtain ⟨z,hz⟩:∃ z,m + x=z:=⟨_,rfl⟩
   rw [hz] at w3 HX
   have hz2:z < 256 * 256 ^ i:=by omega
   go_wp2_with fail
   go_round
   case rel=>exact ⟨i + 1,z,by omega,by go_num,rfl,by rw [Nat.pow_succ];omega,by show _=_;rw [HX.out]⟩
   case measure=>simp [intOf];omega
  ·have HI:Hid (i=X.length):=by show i=X.length;omega
   have g1:¬ (i:Int) < (X.length:Int):=by omega
   go_wp2_with fail
   go_ret
   exact ⟨by rw [HN.out,HI.out];rfl,rfl⟩
set_option linter.unusedSimpArgs false in
set_option maxRecDepth 100000 in
set_option maxHeartbeats 2000000 in
theorem c12_held {a en:Nat} {v:Value} {B:List Int} {w:World} (hc:Cut w v B en) (b:byt B) (he:en≤B.length) (hl:B.length≤1048576) (ha:a≤1048577) :
  Calls Tryz.prog 60 #[v,.int .i64 (a:Int)] w fun e w'=>(∀ f s,heldP B a en=.ok (f,s)→e=.returned (.tuple #[.int .i64 (f:Int),.int .i64 (s:Int),.nilIface])∧w'=w)∧(∀ c p,heldP B a en=.error (c,p)→∃ er,e=.returned (.tuple #[.int .i64 0,.int .i64 0,er])∧BadR w w' (c:Int) (p:Int) er):=by
 have HB:Hid (byt B):=b
 have HC0:Hid (Cut w v B en):=hc
 obtain ⟨ao,cap,rfl,k1,k2,k3⟩:=hc
 unfold maxLen at k2
 have HP:Hid (heldP B a en=match lenP B a en with|.error e=>.error e|.ok (n,f)=>if en < f + n then .error (6,a) else .ok (f,f + n)):=by show _=_;unfold heldP;rfl
 clear b
 go_enter Tryz.func60,Tryz.ntmps60
 by_cases c1:en≤a
 ·have H:Hid (heldP B a en=.error (6,a)):=by
   show _=_
   rw [HP.out,lenP,if_pos c1]
  have g1:(en:Int)≤(a:Int):=by omega
  clear k3
  go_wp2_with fail
  refine (c12_spot (p:=(a:Int)) (c:=6)).mono ?_
  rintro e w1 ⟨er,rfl,hbad⟩
  go_wp2_with fail
  refine bodyPost_ret (results_tmp3 rfl _ _ _) rfl ?_
  exact ⟨fun f s h=>(by rw [H.out] at h;cases h),fun c p h=>(by rw [H.out] at h;cases h;exact ⟨er,rfl,hbad⟩)⟩
 have g1:¬ (en:Int)≤(a:Int):=by omega
 obtain ⟨gb,ob,rfl,hg,hcell⟩:=k3 (by omega)
 have HC:Hid _:=hcell
 clear hcell
 have ca:=HC.out a (by omega)
 have xa:=byN_lt HB.out a
 obtain ⟨x,hx⟩:∃ x,byN B a=x:=⟨_,rfl⟩
 have HX:Hid (byN B a=x):=hx
 rw [hx] at ca xa
 clear hx
 have w1:IntKind.i64.wrap (x:Int)=(x:Int):=by rw [IntKind.wrap_i64];omega
 obtain ⟨f,hf⟩:∃ f,a + 1=f:=⟨_,rfl⟩
 have w2:IntKind.i64.wrap ((a:Int) + 1)=(f:Int):=by rw [IntKind.wrap_i64];omega
 have g1b:(a:Int) < (en:Int):=by omega
 have g1c:(0:Int)≤(a:Int):=by omega
 by_cases c2:x=128
 ·have H:Hid (heldP B a en=.error (7,a)):=by
   show _=_
   rw [HP.out,lenP,if_neg c1,HX.out,if_neg (by omega),if_pos (by omega)]
  have g2:(x:Int)=128:=by omega
  go_wp2_with fail
  refine (c12_spot (p:=(a:Int)) (c:=7)).mono ?_
  rintro e w1 ⟨er,rfl,hbad⟩
  go_wp2_with fail
  refine bodyPost_ret (results_tmp3 rfl _ _ _) rfl ?_
  exact ⟨fun f s h=>(by rw [H.out] at h;cases h),fun c p h=>(by rw [H.out] at h;cases h;exact ⟨er,rfl,hbad⟩)⟩
 have g2:¬ (x:Int)=128:=by omega
 by_cases c3:131 < x
 ·have H:Hid (heldP B a en=.error (7,a)):=by
   show _=_
   rw [HP.out,lenP,if_neg c1,HX.out,if_neg (by omega),if_pos (by omega)]
  have g3:(131:Int) < (x:Int):=by omega
  go_wp2_with fail
  refine (c12_spot (p:=(a:Int)) (c:=7)).mono ?_
  rintro e w1 ⟨er,rfl,hbad⟩
  go_wp2_with fail
  refine bodyPost_ret (results_tmp3 rfl _ _ _) rfl ?_
  exact ⟨fun f s h=>(by rw [H.out] at h;cases h),fun c p h=>(by rw [H.out] at h;cases h;exact ⟨er,rfl,hbad⟩)⟩
 have g3:¬ (131:Int) < (x:Int):=by omega
 by_cases c4:x < 128
 ·have g4:¬ (128:Int) < (x:Int):=by omega
  obtain ⟨r,hr⟩:∃ r,en - f=r:=⟨_,rfl⟩
  have w3:IntKind.i64.wrap ((en:Int) - (f:Int))=(r:Int):=by rw [IntKind.wrap_i64];omega
  by_cases c5:r < x
  ·have H:Hid (heldP B a en=.error (6,a)):=by
    show _=_
    rw [HP.out,lenP,if_neg c1,HX.out,if_pos c4]
    show (if en < a + 1 + x then _ else _)=_
    rw [if_pos (by omega)]
   have g5:(r:Int) < (x:Int):=by omega
   go_wp2_with fail
   refine (c12_spot (p:=(a:Int)) (c:=6)).mono ?_
   rintro e w1 ⟨er,rfl,hbad⟩
   go_wp2_with fail
   refine bodyPost_ret (results_tmp3 rfl _ _ _) rfl ?_
   exact ⟨fun f s h=>(by rw [H.out] at h;cases h),fun c p h=>(by rw [H.out] at h;cases h;exact ⟨er,rfl,hbad⟩)⟩
  ·obtain ⟨st,hst⟩:∃ st,f + x=st:=⟨_,rfl⟩
   have H:Hid (heldP B a en=.ok (f,st)):=by
    show _=_
    rw [HP.out,lenP,if_neg c1,HX.out,if_pos c4]
    show (if en < a + 1 + x then _ else _)=_
    rw [if_neg (by omega),hf,hst]
   have g5:¬ (r:Int) < (x:Int):=by omega
   have w4:IntKind.i64.wrap ((f:Int) + (x:Int))=(st:Int):=by rw [IntKind.wrap_i64];omega
   go_wp2_with fail
   refine bodyPost_ret (results_tmp3 rfl _ _ _) rfl ?_
   exact ⟨fun f s h=>(by rw [H.out] at h;cases h;exact ⟨rfl,rfl⟩),fun c p h=>(by rw [H.out] at h;cases h)⟩
 ·have g4:(128:Int) < (x:Int):=by omega
  obtain ⟨k,hk⟩:∃ k,x - 128=k:=⟨_,rfl⟩
  have hk3:k≤3:=by omega
  have hk1:1≤k:=by omega
  have w3:IntKind.i64.wrap ((x:Int) - 128)=(k:Int):=by rw [IntKind.wrap_i64];omega
  obtain ⟨r,hr⟩:∃ r,en - f=r:=⟨_,rfl⟩
  have w4:IntKind.i64.wrap ((en:Int) - (f:Int))=(r:Int):=by rw [IntKind.wrap_i64];omega
  have HL:Hid (lenP B a en=if en < f + k then .error (6,a) else if byN B f=0∨beV B f k < 128 then .error (7,a) else .ok (beV B f k,f + k)):=by
   show _=_
   rw [lenP,if_neg c1,HX.out,if_neg c4,if_neg (by omega),hf,hk]
  by_cases c5:r < k
  ·have H:Hid (heldP B a en=.error (6,a)):=by
    show _=_
    rw [HP.out,HL.out,if_pos (by omega)]
   have g5:(r:Int) < (k:Int):=by omega
   go_wp2_with fail
   refine (c12_spot (p:=(a:Int)) (c:=6)).mono ?_
   rintro e w1 ⟨er,rfl,hbad⟩
   go_wp2_with fail
   refine bodyPost_ret (results_tmp3 rfl _ _ _) rfl ?_
   exact ⟨fun f s h=>(by rw [H.out] at h;cases h),fun c p h=>(by rw [H.out] at h;cases h;exact ⟨er,rfl,hbad⟩)⟩
  have g5:¬ (r:Int) < (k:Int):=by omega
  obtain ⟨f2,hf2⟩:∃ f2,f + k=f2:=⟨_,rfl⟩
  have w5:IntKind.i64.wrap ((f:Int) + (k:Int))=(f2:Int):=by rw [IntKind.wrap_i64];omega
  replace HL:Hid (lenP B a en=if byN B f=0∨beV B f k < 128 then .error (7,a) else .ok (beV B f k,f2)):=by show _=_;rw [HL.out,if_neg (by omega),hf2]
  have y1:(0:Int)≤(f:Int):=by omega
  have y2:(f:Int)≤(f2:Int):=by omega
  have y3:f2≤cap:=by omega
  have y4:f≤f2:=by omega
  have y5:f2 - f=k:=by omega
  have hbe:=beV_ltD HB.out f k
  have hbe2:beV B f k < 16777216:=Nat.lt_of_lt_of_le hbe (by rcases (show k=1∨k=2∨k=3 by omega) with rfl|rfl|rfl<;>decide)
  clear hbe
  have HLn:Hid (((B.drop f).take k).length=k):=by show _=_;rw [List.length_take,List.length_drop];omega
  have HPt:Hid (beV ((B.drop f).take k) 0 k=beV B f k):=beV_part k (Nat.le_refl _)
  have hnum:=fun v hv=>c12_number (v:=v) (w:=w) (X:=(B.drop f).take k) hv (byt_takeP HB.out _ _) (by rw [HLn.out];exact hk3)
  rw [HLn.out,HPt.out] at hnum
  have HNum:Hid _:=hnum
  clear hnum
  obtain ⟨n,hn⟩:∃ n,beV B f k=n:=⟨_,rfl⟩
  rw [hn] at HL HNum hbe2
  have HCut:Hid (∀ ad m q,m=k→(0 < k→ad=some ⟨gb,ob + f,none⟩)→k≤q→q≤maxLen→Bs w (.slice ad m q) ((B.drop f).take k)):=fun ad m q h1 h2 h3 h4=>HC0.out.part HB.out he (by omega) h1 h2 h3 h4
  clear hn HPt HLn
  go_wp2_with fail
  refine (HNum.out _ (HCut.out _ _ _ (by omega) (by intro hp;first|rfl|rw [if_neg (by omega)]) (by omega) (by unfold maxLen;omega))).mono ?_
  rintro e w1 ⟨rfl,rfl⟩
  clear HNum HCut
  have cf:=HC.out f (by omega)
  have xf:=byN_lt HB.out f
  obtain ⟨y,hy⟩:∃ y,byN B f=y:=⟨_,rfl⟩
  rw [hy] at cf xf HL
  clear hy
  have gfb:(f:Int) < (en:Int):=by omega
  by_cases c6:y=0
  ·have H:Hid (heldP B a en=.error (7,a)):=by
    show _=_
    rw [HP.out,HL.out,if_pos (.inl c6)]
   subst c6
   go_wp2_with fail
   refine (c12_spot (p:=(a:Int)) (c:=7)).mono ?_
   rintro e w1 ⟨er,rfl,hbad⟩
   go_wp2_with fail
   refine bodyPost_ret (results_tmp3 rfl _ _ _) rfl ?_
   exact ⟨fun f s h=>(by rw [H.out] at h;cases h),fun c p h=>(by rw [H.out] at h;cases h;exact ⟨er,rfl,hbad⟩)⟩
  have g6:((y:Int) == 0)=false:=by rw [beq_eq_false_iff_ne];omega
  by_cases c7:n < 128
  ·have H:Hid (heldP B a en=.error (7,a)):=by
    show _=_
    rw [HP.out,HL.out,if_pos (.inr c7)]
   have g7:(n:Int) < 128:=by omega
   go_wp2_with fail
   refine (c12_spot (p:=(a:Int)) (c:=7)).mono ?_
   rintro e w1 ⟨er,rfl,hbad⟩
   go_wp2_with fail
   refine bodyPost_ret (results_tmp3 rfl _ _ _) rfl ?_
   exact ⟨fun f s h=>(by rw [H.out] at h;cases h),fun c p h=>(by rw [H.out] at h;cases h;exact ⟨er,rfl,hbad⟩)⟩
  have g7:¬ (n:Int) < 128:=by omega
  replace HL:Hid (lenP B a en=.ok (n,f2)):=by show _=_;rw [HL.out,if_neg (by omega)]
  obtain ⟨r2,hr2⟩:∃ r,en - f2=r:=⟨_,rfl⟩
  have w6:IntKind.i64.wrap ((en:Int) - (f2:Int))=(r2:Int):=by rw [IntKind.wrap_i64];omega
  by_cases c8:r2 < n
  ·have H:Hid (heldP B a en=.error (6,a)):=by
    show _=_
    rw [HP.out,HL.out]
    show (if en < f2 + n then _ else _)=_
    rw [if_pos (by omega)]
   have g8:(r2:Int) < (n:Int):=by omega
   go_wp2_with fail
   refine (c12_spot (p:=(a:Int)) (c:=6)).mono ?_
   rintro e w1 ⟨er,rfl,hbad⟩
   go_wp2_with fail
   refine bodyPost_ret (results_tmp3 rfl _ _ _) rfl ?_
   exact ⟨fun f s h=>(by rw [H.out] at h;cases h),fun c p h=>(by rw [H.out] at h;cases h;exact ⟨er,rfl,hbad⟩)⟩
  obtain ⟨st,hst⟩:∃ st,f2 + n=st:=⟨_,rfl⟩
  have H:Hid (heldP B a en=.ok (f2,st)):=by
   show _=_
   rw [HP.out,HL.out]
   show (if en < f2 + n then _ else _)=_
   rw [if_neg (by omega),hst]
  have g8:¬ (r2:Int) < (n:Int):=by omega
  have w7:IntKind.i64.wrap ((f2:Int) + (n:Int))=(st:Int):=by rw [IntKind.wrap_i64];omega
  go_wp2_with fail
  refine bodyPost_ret (results_tmp3 rfl _ _ _) rfl ?_
  exact ⟨fun f s h=>(by rw [H.out] at h;cases h;exact ⟨rfl,rfl⟩),fun c p h=>(by rw [H.out] at h;cases h)⟩
set_option linter.unusedSimpArgs false in
set_option maxRecDepth 100000 in
set_option maxHeartbeats 1000000 in
theorem c12_Clone {v:Value} {X:List Int} {w:World} (hv:Bs w v X) (hl:X.length≤1048576):Calls Tryz.prog 61 #[v] w fun e w'=>∃ v',e=.returned v'∧w'.ownsRow w.heap.size 5 1 v' X.length (u8s X)∧Below w.heap.size w w':=by
 have HV:Hid (Bs w v X):=hv
 obtain ⟨ao,cap,rfl,h1,h2,h3⟩:=hv
 go_enter Tryz.func61,Tryz.ntmps61
 cases ao with
 | none =>
  have hX:X.length=0:=by
   by_cases q:0 < X.length
   ·obtain ⟨_,_,e,_⟩:=h3 q
    cases e
   ·omega
  obtain rfl:X=[]:=List.eq_nil_of_length_eq_zero hX
  clear h3
  have e0:(binOp .eql 22 (.slice none 0 cap) (.slice none 0 0)).run Tryz.prog w=.ok (.bool true) w:=by kernel_rfl
  go_wp2_with fail
  go_ret
  exact ⟨_,rfl,⟨rfl,.inl ⟨rfl,rfl⟩⟩,Below.refl _ _⟩
 | some ad =>
  clear h3
  have e0:(binOp .eql 22 (.slice (some ad) X.length cap) (.slice none 0 0)).run Tryz.prog w=.ok (.bool false) w:=by kernel_rfl
  have own0:=own_lits w [] 0 w.heap.size rfl (Nat.le_refl _) (by decide)
  have hb0:=HV.out.later ((Below.refl _ _).alloc (Nat.le_refl _) (.cells #[] 5))
  go_wp2_with (first|(at_builtin;refine wpList_append_bs (by rfl) _ _ (by rfl) w.heap.size _ 0 ([]) (by rfl) own0 _ X (by rfl) hb0 (by omega) (by simp) ?_;intro v1 w1 own1 hgrow hat)|fail)
  have hb1:=below_own (base:=w.heap.size) ((Below.refl w.heap.size w).alloc (Nat.le_refl _) (.cells #[] 5)) hgrow (by simp) (fun g hg=>own_geD own0 hg) (Nat.le_refl _)
  rw [Nat.zero_add,List.nil_append] at own1
  go_ret
  exact ⟨v1,rfl,own1,hb1⟩
end Go.Proofs.YtnkipgbnnhahbaaGreatDoor
