/- Reading a time, as functions; digits out of digits; a part of bytes. The document's two digits of layer 13. Telling a time: which year, which month. Plain facts. The two tables of the field as they lie in memory. (Plain part.) The two tables of the field as they lie in memory. order.N: the order. What makes 1 of a number, by Fermat, modulo the order. Numbers of six limbs as rows of cells. Numbers of six limbs and points as rows of cells. Rows of cells: numbers, points and signatures loaded and stored whole. (Plain part.) Rows of cells: numbers, points and signatures loaded and stored whole. The document's Of6 of a row of cells. The document's order. Signatures held against each other, and put together. Names that are handed in: from the row's reading to the walk's words. Words of 64 bits in slices; append of any of them, also of none, to a row of one's own. Names and their elements. A text as bytes. Certificates and their elements, as functions. Bytes in a list; a slice that is owned. Elements of several, and what der.Write answers, shortly. -/
import Derived.Test.YtohcdbifhnfcbaaGreatDoorPmSec
import Derived.Test.YtohcdbifhnfcbaaGreatDoorPmOidN
import Derived.Test.YtohcdbifhnfcbaaGreatDoorLimb
import Derived.Test.YtohcdbifhnfcbaaGreatDoorDrDG
import Derived.Test.YtohcdbifhnfcbaaGreatDoorDrTG
import Derived.Test.YtohcdbifhnfcbaaGreatDoorDcG1
import Derived.Test.YtohcdbifhnfcbaaGreatDoorDcG2
import Derived.Test.YtohcdbifhnfcbaaGreatDoorRows
import Derived.Deep.OwnRows
import Derived.Deep.WholeRow
import Derived.Deep.RegionHeld3
import Derived.Deep.DeepCutAuto
import Derived.Deep.DeepFit
import Derived.Deep.QuietTactic
import Derived.BigQuiet
import Derived.Deep.AppendLies
import Derived.Great.BuildSlice
import Derived.Laws.Rows
import Derived.Laws.StructEq
import Derived.ChangeArms
import Derived.ChangeOld
import Derived.Lib.ConvBytes
import Derived.Laws.AppendOwn
namespace Go.Proofs.YtohcdbifhnfcbaaGreatDoor
open Go.RowKit
open Go.ChangeShapes Go.WideShapes Go.ChangeAt Go.RowKit
def allD (l:List Int):Prop:=∀ x,x∈l→48≤x∧x≤57
theorem digV_neg:∀ (l:List Int) (v:Int),0≤v→0≤digV l v→allD l
 | [],_,_,_=>fun x h=>by cases h
 | y :: l,v,hv,h=>by
  rw [digV] at h
  by_cases c:y < 48∨57 < y
  ·rw [if_pos c] at h;omega
  ·rw [if_neg c] at h
   have ih:=digV_neg l _ (by omega) h
   intro x hx
   rcases List.mem_cons.1 hx with rfl|hx
   ·omega
   ·exact ih x hx
theorem digV_two {a b:Int} (ha:48≤a∧a≤57) (hb:48≤b∧b≤57):digV [a,b] 0=10 * (a - 48) + (b - 48):=by
 rw [digV,if_neg (by omega),digV,if_neg (by omega),digV];omega
theorem digV_four {a b c d:Int} (ha:48≤a∧a≤57) (hb:48≤b∧b≤57) (hc:48≤c∧c≤57) (hd:48≤d∧d≤57):digV [a,b,c,d] 0=1000 * (a - 48) + 100 * (b - 48) + 10 * (c - 48) + (d - 48):=by
 rw [digV,if_neg (by omega),digV,if_neg (by omega),digV,if_neg (by omega),digV,if_neg (by omega),digV];omega
theorem part_two {B:List Int} {lo:Nat} (h:lo + 2≤B.length):(B.drop lo).take 2=[B.getD lo 0,B.getD (lo + 1) 0]:=by
 rw [List.drop_eq_getElem_cons (by omega:lo < B.length),List.drop_eq_getElem_cons (by omega:lo + 1 < B.length),List.take_succ_cons,List.take_succ_cons,List.take_zero]
 simp [List.getD_eq_getElem?_getD,(by omega:lo < B.length),(by omega:lo + 1 < B.length)]
theorem get_dig {B:List Int} {k j:Nat} (h:allD (B.take k)) (hj:j < k) (hk:k≤B.length):48≤B.getD j 0∧B.getD j 0≤57:=by
 refine h _ ?_
 rw [List.getD_eq_getElem?_getD,List.getElem?_eq_getElem (by omega),Option.getD_some]
 have e:(B.take k)[j]'(by rw [List.length_take];omega)=B[j]'(by omega):=by simp
 rw [← e]
 exact List.getElem_mem _
/-- two digits of a time: a number below 100 -/
theorem part_dig {B:List Int} {k lo:Nat} (h:allD (B.take k)) (hj:lo + 2≤k) (hk:k≤B.length):0≤digV ((B.drop lo).take 2) 0∧digV ((B.drop lo).take 2) 0≤99:=by
 have h1:=get_dig h (by omega:lo < k) hk
 have h2:=get_dig h (by omega:lo + 1 < k) hk
 rw [part_two (by omega),digV_two h1 h2]
 omega
/-- the year that is meant -/
def yearN (n:Nat) (y:Int):Int:=if n=2 then (if y < 50 then y + 2000 else y + 1900) else y
/-- what the numbers of a time say -/
def timeG (n:Nat) (y m d h i s:Int):Except Nat Int :=
 if (n=4∧y < 2050)∨m < 1∨12 < m∨d < 1∨23 < h∨59 < i∨59 < s then .error 3
 else if ((daysN y.toNat m.toNat:Nat):Int) < d then .error 3
 else .ok (secN y.toNat m.toNat d.toNat + (3600 * h + 60 * i + s))
/-- a time's body, of n digits of the year -/
def timeF (n:Nat) (B:List Int):Except Nat Int :=
 if ¬ B.length=n + 11∨¬ B.getD (n + 10) 0=90∨digV (B.take (n + 10)) 0 < 0 then .error 7
 else timeG n (yearN n (digV (B.take n) 0)) (digV ((B.drop n).take 2) 0) (digV ((B.drop (n + 2)).take 2) 0) (digV ((B.drop (n + 4)).take 2) 0) (digV ((B.drop (n + 6)).take 2) 0) (digV ((B.drop (n + 8)).take 2) 0)
/-- a time -/
def timeP (tag:Int) (B:List Int):Except Nat Int :=
 if tag=23 then timeF 2 B else if tag=24 then timeF 4 B else .error 1
/-- a number's two digits -/
def twoN (n:Nat):List Int:=[((48 + n / 10:Nat):Int),((48 + n % 10:Nat):Int)]
set_option linter.unusedSimpArgs false in
set_option maxRecDepth 100000 in
set_option maxHeartbeats 1000000 in
theorem r13_two {n:Nat} {w:World} (hn:n < 100) :
  Calls Tryz.prog 103 #[.int .i64 (n:Int)] w fun e w'=>∃ v':Value,e=.returned v'∧Bs w' v' (twoN n)∧Below w.heap.size w w':=by
 have t1:(n:Int).tdiv 10=((n / 10:Nat):Int):=by rw [Int.tdiv_eq_ediv_of_nonneg (by omega)];omega
 have t2:(n:Int).tmod 10=((n % 10:Nat):Int):=by rw [Int.tmod_eq_emod_of_nonneg (by omega)];omega
 have t3:(n:Int) / 10=((n / 10:Nat):Int):=by omega
 have t4:(n:Int) % 10=((n % 10:Nat):Int):=by omega
 have b1:n / 10 < 10:=by omega
 have b2:n % 10 < 10:=by omega
 have HT:Hid (twoN n=[((48 + n / 10:Nat):Int),((48 + n % 10:Nat):Int)]):=rfl
 obtain ⟨a,ha⟩:∃ a,n / 10=a:=⟨_,rfl⟩
 obtain ⟨c,hc⟩:∃ a,n % 10=a:=⟨_,rfl⟩
 obtain ⟨T,hT⟩:∃ T,twoN n=T:=⟨_,rfl⟩
 rw [ha] at t1 t3 b1 HT
 rw [hc] at t2 t4 b2 HT
 rw [hT] at HT
 rw [hT]
 clear ha hc hT
 have g1:IntKind.i64.wrap (48 + (a:Int))=((48 + a:Nat):Int):=by rw [IntKind.wrap_i64];omega
 have g2:IntKind.i64.wrap (48 + (c:Int))=((48 + c:Nat):Int):=by rw [IntKind.wrap_i64];omega
 have g3:IntKind.u8.wrap ((48 + a:Nat):Int)=((48 + a:Nat):Int):=by rw [IntKind.wrap_u8];omega
 have g4:IntKind.u8.wrap ((48 + c:Nat):Int)=((48 + c:Nat):Int):=by rw [IntKind.wrap_u8];omega
 obtain ⟨p,hp⟩:∃ p:Int,((48 + a:Nat):Int)=p:=⟨_,rfl⟩
 obtain ⟨q,hq⟩:∃ p:Int,((48 + c:Nat):Int)=p:=⟨_,rfl⟩
 rw [hp] at g1 g3 HT
 rw [hq] at g2 g4 HT
 clear hp hq
 have hT:=HT.out
 subst hT
 have own:=own_made w [.int .u8 p,.int .u8 q] 5 2 w.heap.size rfl (Nat.le_refl _) (by decide)
 have hbl:=bal w (.cells #[.int .u8 p,.int .u8 q] 5)
 have bs:Bs (w.alloc (.cells #[.int .u8 p,.int .u8 q] 5)) _ [p,q]:=Bs.of_own own
 clear own
 have HBS:Hid _:=bs
 clear bs
 go_enter Tryz.func103,Tryz.ntmps103
 go_wp2_with fail
 go_ret
 exact ⟨_,rfl,HBS.out,hbl⟩
theorem feb (y:Nat):daysN y 2=if y % 400=0∨(y % 4=0∧¬ y % 100=0) then 29 else 28:=by
 unfold daysN
 by_cases h:y % 400=0∨(y % 4=0∧¬ y % 100=0)
 ·rw [if_pos ⟨rfl,h⟩,if_pos h]
 ·rw [if_neg (fun k=>h k.2),if_neg h];rfl
theorem days_not2 {y m:Nat} (h:¬ m=2):daysN y m=monN.getD (m - 1) 0:=by
 unfold daysN
 rw [if_neg (fun k=>h k.1)]
theorem step4 (x:Nat):(x + 1 + 3) / 4=(x + 3) / 4 + if x % 4=0 then 1 else 0:=by split<;>omega
theorem step100 (x:Nat):(x + 1 + 99) / 100=(x + 99) / 100 + if x % 100=0 then 1 else 0:=by split<;>omega
theorem step400 (x:Nat):(x + 1 + 399) / 400=(x + 399) / 400 + if x % 400=0 then 1 else 0:=by split<;>omega
/-- a leap year, by three counts -/
theorem leap3 (x:Nat):(if x % 400=0∨(x % 4=0∧¬ x % 100=0) then 29 else 28) + (if x % 100=0 then 1 else 0)=28 + (if x % 4=0 then 1 else 0) + (if x % 400=0 then 1 else 0):=by
 have h1:x % 400=0→x % 100=0:=by omega
 have h2:x % 100=0→x % 4=0:=by omega
 by_cases c4:x % 4=0
 ·by_cases c1:x % 100=0
  ·by_cases c400:x % 400=0
   ·simp [c4,c1,c400]
   ·simp [c4,c1,c400]
  ·have c400:¬ x % 400=0:=fun k=>c1 (h1 k)
   simp [c4,c1,c400]
 ·have c1:¬ x % 100=0:=fun k=>c4 (h2 k)
  have c400:¬ x % 400=0:=fun k=>c1 (h1 k)
  simp [c4,c1,c400]
/-- the days of years, told at once -/
theorem ysum_at (a:Nat):∀ n,ysum a n + ((a + 3) / 4 + (a + 399) / 400) + (a + n + 99) / 100=365 * n + ((a + n + 3) / 4 + (a + n + 399) / 400) + (a + 99) / 100
 | 0=>by rw [ysum]
 | n + 1=>by
  have ih:=ysum_at a n
  have l:=leap3 (a + n)
  rw [ysum,feb,← Nat.add_assoc a n 1,step4,step100,step400]
  generalize ysum a n=s at *
  generalize (a + 3) / 4=p1 at *
  generalize (a + 399) / 400=p2 at *
  generalize (a + 99) / 100=p3 at *
  generalize (a + n + 3) / 4=q1 at *
  generalize (a + n + 399) / 400=q2 at *
  generalize (a + n + 99) / 100=q3 at *
  generalize (if (a + n) % 400=0∨((a + n) % 4=0∧¬ (a + n) % 100=0) then 29 else 28)=e at *
  generalize (if (a + n) % 4=0 then 1 else 0)=e1 at *
  generalize (if (a + n) % 100=0 then 1 else 0)=e2 at *
  generalize (if (a + n) % 400=0 then 1 else 0)=e3 at *
  omega
/-- the days up to a year, from the beginning of the year 0 on -/
def dayY (y:Nat):Int:=365 * (y:Int) + (((y + 3) / 4:Nat):Int) + (((y + 399) / 400:Nat):Int) - (((y + 99) / 100:Nat):Int)
theorem sec_year (y m d:Nat):secN y m d=(dayY y - 719528 + (msum y (m - 1):Int) + (d:Int) - 1) * 86400:=by
 unfold secN dayY
 by_cases h:1970≤y
 ·have e:=ysum_at 1970 (y - 1970)
  rw [show 1970 + (y - 1970)=y by omega] at e
  have e0:ysum y (1970 - y)=0:=by rw [show 1970 - y=0 by omega];rfl
  rw [e0]
  generalize ysum 1970 (y - 1970)=s at *
  generalize msum y (m - 1)=u at *
  refine congrArg (fun z:Int=>z * 86400) ?_
  omega
 ·have e:=ysum_at y (1970 - y)
  rw [show y + (1970 - y)=1970 by omega] at e
  have e0:ysum 1970 (y - 1970)=0:=by rw [show y - 1970=0 by omega];rfl
  rw [e0]
  generalize ysum y (1970 - y)=s at *
  generalize msum y (m - 1)=u at *
  refine congrArg (fun z:Int=>z * 86400) ?_
  omega
theorem dayY_next (y:Nat):dayY (y + 1)=dayY y + 337 + (daysN y 2:Nat):=by
 have l:=leap3 y
 rw [feb]
 unfold dayY
 rw [step4,step100,step400]
 generalize (y + 3) / 4=q1 at *
 generalize (y + 399) / 400=q2 at *
 generalize (y + 99) / 100=q3 at *
 generalize (if y % 400=0∨(y % 4=0∧¬ y % 100=0) then 29 else 28)=e at *
 generalize (if y % 4=0 then 1 else 0)=e1 at *
 generalize (if y % 100=0 then 1 else 0)=e2 at *
 generalize (if y % 400=0 then 1 else 0)=e3 at *
 omega
theorem dayY_le {y z:Nat} (h:y≤z):dayY y≤dayY z:=by
 induction z with
 | zero=>rw [show y=0 by omega];exact Int.le_refl _
 | succ z ih =>
  by_cases e:y=z + 1
  ·rw [e];exact Int.le_refl _
  ·have:=ih (by omega)
   rw [dayY_next]
   omega
theorem msum_12 (y:Nat):msum y 12=337 + daysN y 2:=by
 simp only [msum]
 rw [days_not2 (m:=1) (by decide),days_not2 (m:=3) (by decide),days_not2 (m:=4) (by decide),days_not2 (m:=5) (by decide),days_not2 (m:=6) (by decide),days_not2 (m:=7) (by decide),days_not2 (m:=8) (by decide),days_not2 (m:=9) (by decide),days_not2 (m:=10) (by decide),days_not2 (m:=11) (by decide),days_not2 (m:=12) (by decide)]
 show 0 + 31 + daysN y 2 + 31 + 30 + 31 + 30 + 31 + 31 + 30 + 31 + 30 + 31=_
 omega
theorem msum_mono {y m n:Nat} (h:m≤n):msum y m≤msum y n:=by
 induction n with
 | zero=>rw [show m=0 by omega];exact Nat.le_refl _
 | succ n ih =>
  by_cases e:m=n + 1
  ·rw [e];exact Nat.le_refl _
  ·rw [msum]
   have:=ih (by omega)
   omega
theorem sec_1950:secN 1950 1 1=-631152000:=by rw [sec_year];decide
theorem sec_9999:secN 9999 12 31=253402214400:=by
 rw [sec_year,show msum 9999 (12 - 1)=334 by decide]
 decide
/-- the time t lies in the month m of the year y -/
def MonIs (t:Int) (y m:Nat):Prop:=1950≤y∧y≤9999∧1≤m∧m≤12∧secN y m 1≤t∧t < secN y m 1 + 86400 * (daysN y m:Nat)
theorem sec_month {y m:Nat} (h1:1≤m):secN y m 1 + 86400 * (daysN y m:Nat)=secN y (m + 1) 1:=by
 rw [sec_year,sec_year,msum_next h1]
 generalize msum y (m - 1)=s
 generalize daysN y m=d
 omega
theorem sec_next (y:Nat):secN y 13 1=secN (y + 1) 1 1:=by
 rw [sec_year,sec_year,dayY_next,show 13 - 1=12 from rfl,msum_12,show 1 - 1=0 from rfl,msum]
 generalize daysN y 2=d
 omega
theorem sec_mono {y m n:Nat} (h:m≤n):secN y m 1≤secN y n 1:=by
 rw [sec_year,sec_year]
 have:=msum_mono (y:=y) (show m - 1≤n - 1 by omega)
 omega
theorem sec_years {y z:Nat} (h:y≤z):secN y 1 1≤secN z 1 1:=by
 rw [sec_year,sec_year,show 1 - 1=0 from rfl,msum,msum]
 have:=dayY_le h
 omega
/-- the first year whose end lies behind t -/
def yS (t:Int):Nat→Nat→Nat
 | 0,y=>y
 | f + 1,y=>if secN (y + 1) 1 1≤t then yS t f (y + 1) else y
def mS (t:Int) (y:Nat):Nat→Nat→Nat
 | 0,m=>m
 | f + 1,m=>if m < 12∧secN y (m + 1) 1≤t then mS t y f (m + 1) else m
def yOf (t:Int):Nat:=yS t 8050 1950
def mOf (t:Int) (y:Nat):Nat:=mS t y 12 1
theorem yS_is {t:Int} {y:Nat} (h1:secN y 1 1≤t) (h2:t < secN (y + 1) 1 1):∀ f z,z≤y→y≤z + f→yS t f z=y
 | 0,z,a,b=>by rw [yS];omega
 | f + 1,z,a,b=>by
  rw [yS]
  by_cases e:z=y
  ·rw [e,if_neg (by omega)]
  ·rw [if_pos (by have:=sec_years (show z + 1≤y by omega);omega)]
   exact yS_is h1 h2 f (z + 1) (by omega) (by omega)
theorem mS_is {t:Int} {y m:Nat} (hm:m≤12) (h1:secN y m 1≤t) (h2:m=12∨t < secN y (m + 1) 1):∀ f z,z≤m→m≤z + f→mS t y f z=m
 | 0,z,a,b=>by rw [mS];omega
 | f + 1,z,a,b=>by
  rw [mS]
  by_cases e:z=m
  ·rw [e,if_neg (by omega)]
  ·rw [if_pos ⟨by omega,by have:=sec_mono (y:=y) (show z + 1≤m by omega);omega⟩]
   exact mS_is hm h1 h2 f (z + 1) (by omega) (by omega)
theorem mon_year {t:Int} {y m:Nat} (h:MonIs t y m):yOf t=y∧mOf t y=m:=by
 obtain ⟨h1,h2,h3,h4,h5,h6⟩:=h
 have e1:secN y 1 1≤t:=Int.le_trans (sec_mono h3) h5
 have e2:t < secN (y + 1) 1 1:=by
  rw [sec_month h3] at h6
  have:=sec_mono (y:=y) (show m + 1≤13 by omega)
  rw [sec_next] at this
  omega
 exact ⟨yS_is e1 e2 8050 1950 h1 (by omega),mS_is h4 h5 (.inr (by rw [← sec_month h3];exact h6)) 12 1 h3 (by omega)⟩
/-- what was found is it -/
theorem mon_found {t:Int} {y m:Nat} (h1:1950≤y) (h2:y≤9999) (h3:1≤m) (h4:m≤12) (h5:secN y m 1≤t) (h6:t < secN (y + 1) 1 1) (h7:m=12∨t < secN y (m + 1) 1):MonIs t y m:=by
 refine ⟨h1,h2,h3,h4,h5,?_⟩
 rw [sec_month h3]
 rcases h7 with e|e
 ·rw [e,sec_next];exact h6
 ·exact e
/-- a time's body -/
def bodyT (y m r:Nat):List Int:=(if 2049 < y then twoN (y / 100) else [])++twoN (y % 100)++twoN m++twoN (1 + r / 86400)++twoN (r / 3600 % 24)++twoN (r / 60 % 60)++twoN (r % 60)++[90]
def tagT (y:Nat):Int:=if 2049 < y then 24 else 23
def timeOf (t:Int):Except Nat (Int × List Int) :=
 if t < -631152000∨253402300799 < t then .error 3
 else .ok (tagT (yOf t),bodyT (yOf t) (mOf t (yOf t)) (t - secN (yOf t) (mOf t (yOf t)) 1).toNat)
theorem timeOf_is {t:Int} {y m:Nat} (h:MonIs t y m) (h1:¬ t < -631152000) (h2:¬ 253402300799 < t):timeOf t=.ok (tagT y,bodyT y m (t - secN y m 1).toNat):=by
 obtain ⟨e1,e2⟩:=mon_year h
 unfold timeOf
 rw [if_neg (by omega),e1,e2]
/-- the order -/
def QQ:Int:=39402006196394479212279040100143613805079739270465446667946905279627659399113263569398956308152294913554433653942643
theorem QQ_pos:0 < QQ:=by decide
theorem QQ_v:v64 [17072048233947408755,6348401684107011962,14367412456785391071,18446744073709551615,18446744073709551615,18446744073709551615]=QQ:=by decide
theorem fQ:fits [17072048233947408755,6348401684107011962,14367412456785391071,18446744073709551615,18446744073709551615,18446744073709551615]:=fits6 (by decide)
/-- the two tables lie where they lay -/
def GlsO (w:World):Prop:=(w.cell? ⟨1,0,none⟩=some (.int .u64 17072048233947408755)∧w.cell? ⟨1,1,none⟩=some (.int .u64 6348401684107011962)∧w.cell? ⟨1,2,none⟩=some (.int .u64 14367412456785391071)∧w.cell? ⟨1,3,none⟩=some (.int .u64 18446744073709551615)∧w.cell? ⟨1,4,none⟩=some (.int .u64 18446744073709551615)∧w.cell? ⟨1,5,none⟩=some (.int .u64 18446744073709551615))∧True
theorem GlsO.below {w w':World} (G:GlsO w) (hb:Below w.heap.size w w'):GlsO w':=by
 obtain ⟨⟨a0,a1,a2,a3,a4,a5⟩,_⟩:=G
 exact ⟨⟨cell_later a0 hb,cell_later a1 hb,cell_later a2 hb,cell_later a3 hb,cell_later a4 hb,cell_later a5 hb⟩,trivial⟩
theorem GlsO.lts {w:World} (G:GlsO w):1 < w.heap.size∧True :=
 ⟨World.block_lt_of_cell? w _ G.1.1,trivial⟩
theorem on_any {m0 m1 m2 m3 m4 m5:Int} {w:World} (l0:1 < w.heap.size) (a0:w.cell? ⟨1,0,none⟩=some (.int .u64 m0)) (a1:w.cell? ⟨1,1,none⟩=some (.int .u64 m1)) (a2:w.cell? ⟨1,2,none⟩=some (.int .u64 m2)) (a3:w.cell? ⟨1,3,none⟩=some (.int .u64 m3)) (a4:w.cell? ⟨1,4,none⟩=some (.int .u64 m4)) (a5:w.cell? ⟨1,5,none⟩=some (.int .u64 m5)) :
  Calls Tryz.prog 134 #[] w fun e w'=>e=.returned (.agg #[.int .u64 m0,.int .u64 m1,.int .u64 m2,.int .u64 m3,.int .u64 m4,.int .u64 m5])∧Below w.heap.size w w':=by
 go_enter Tryz.func134,Tryz.ntmps134
 go_wp2
 exact bodyPost_ret (v:=.agg #[.int .u64 m0,.int .u64 m1,.int .u64 m2,.int .u64 m3,.int .u64 m4,.int .u64 m5]) (by simp [results,Tryz.results134,go_sem]) rfl ⟨rfl,(Below.refl _ _).alloc (Nat.le_refl _) _⟩
theorem on6 {w:World} (G:GlsO w) :
  Calls Tryz.prog 134 #[] w fun e w'=>e=.returned (.agg #[.int .u64 17072048233947408755,.int .u64 6348401684107011962,.int .u64 14367412456785391071,.int .u64 18446744073709551615,.int .u64 18446744073709551615,.int .u64 18446744073709551615])∧Below w.heap.size w w' :=
 on_any G.lts.1 G.1.1 G.1.2.1 G.1.2.2.1 G.1.2.2.2.1 G.1.2.2.2.2.1 G.1.2.2.2.2.2
/-- each of them is one cell -/
def OneR (cs:List Value):Prop:=cs.toArray.all (·.oneCell')=true
/-- a number of six limbs, as a row of cells -/
def U6 (cs:List Value) (x:Int):Prop:=∃ z0 z1 z2 z3 z4 z5:Int,cs=[.int .u64 z0,.int .u64 z1,.int .u64 z2,.int .u64 z3,.int .u64 z4,.int .u64 z5]∧fits [z0,z1,z2,z3,z4,z5]∧v64 [z0,z1,z2,z3,z4,z5]=x
theorem U6.mk {z0 z1 z2 z3 z4 z5:Int} (h:fits [z0,z1,z2,z3,z4,z5]):U6 [.int .u64 z0,.int .u64 z1,.int .u64 z2,.int .u64 z3,.int .u64 z4,.int .u64 z5] (v64 [z0,z1,z2,z3,z4,z5]):=⟨z0,z1,z2,z3,z4,z5,rfl,h,rfl⟩
theorem U6.len {cs:List Value} {x:Int} (h:U6 cs x):cs.length=6:=by
 obtain ⟨z0,z1,z2,z3,z4,z5,rfl,_⟩:=h
 rfl
theorem U6.ones {cs:List Value} {x:Int} (h:U6 cs x):OneR cs:=by
 obtain ⟨z0,z1,z2,z3,z4,z5,rfl,_⟩:=h
 simp [OneR,Value.oneCell']
theorem U6.bd {cs:List Value} {x:Int} (h:U6 cs x):0≤x∧x < 18446744073709551616 ^ 6:=by
 obtain ⟨z0,z1,z2,z3,z4,z5,rfl,hf,rfl⟩:=h
 exact v6_bound _ rfl hf
theorem U6.same {cs ds:List Value} {x y:Int} (h:U6 cs x) (k:U6 ds y):cs=ds↔x=y:=by
 obtain ⟨z0,z1,z2,z3,z4,z5,rfl,hf,rfl⟩:=h
 obtain ⟨y0,y1,y2,y3,y4,y5,rfl,kf,rfl⟩:=k
 constructor
 ·intro e
  simp only [List.cons.injEq,Value.int.injEq,true_and,and_true] at e
  obtain ⟨rfl,rfl,rfl,rfl,rfl,rfl⟩:=e
  rfl
 ·intro e
  have e2:=v64_inj [z0,z1,z2,z3,z4,z5] [y0,y1,y2,y3,y4,y5] rfl hf kf e
  simp only [List.cons.injEq,and_true] at e2
  obtain ⟨rfl,rfl,rfl,rfl,rfl,rfl⟩:=e2
  rfl
theorem U6.zero:U6 [.int .u64 0,.int .u64 0,.int .u64 0,.int .u64 0,.int .u64 0,.int .u64 0] 0:=⟨0,0,0,0,0,0,rfl,fits6 (by decide),by decide⟩
/-- from 1 to N - 1 -/
def isSc (x:Int):Prop:=1≤x∧x < QQ
instance (x:Int):Decidable (isSc x):=by unfold isSc;exact inferInstance
theorem size_u:(Tryz.prog.info? 29).map (·.size)=some 6:=by kernel_rfl
theorem zero_u:Hid (∀ w:World,(zeroValue 29).run Tryz.prog w=.ok (.agg #[.int .u64 0,.int .u64 0,.int .u64 0,.int .u64 0,.int .u64 0,.int .u64 0]) w):=fun w=>by kernel_rfl
/-- a part of a block that is a number -/
theorem load_u {w:World} {g o:Nat} {X ys:List Value} {y:Int} (B:Blk w g X) (h:U6 ys y) (hx:∀ j v,ys[j]?=some v→X[o + j]?=some v):(loadVar 29 ⟨g,o,none⟩).run Tryz.prog w=.ok (.agg ys.toArray) w :=
 load_cells (n:=6) (fun j v hv=>B.cell _ _ (hx j v hv)) h.len Tryz.underlying29 rfl size_u
theorem app_at0 {xs ys:List Value}:∀ j v,xs[j]?=some v→(xs++ys)[0 + j]?=some v:=fun j v hv=>by
 have hj:=(List.getElem?_eq_some_iff.1 hv).1
 rw [Nat.zero_add,List.getElem?_append_left hj]
 exact hv
theorem app_at2 {xs ys:List Value} {n:Nat} (h:xs.length=n):∀ j v,ys[j]?=some v→(xs++ys)[n + j]?=some v:=fun j v hv=>by
 rw [List.getElem?_append_right (by omega),show n + j - xs.length=j by omega]
 exact hv
theorem OneR.app {xs ys:List Value} (h:OneR xs) (k:OneR ys):OneR (xs++ys):=by
 unfold OneR at *
 rw [Array.all_eq_true_iff_forall_mem] at *
 intro u hu
 simp only [List.mem_toArray,List.mem_append] at hu
 rcases hu with hu|hu
 ·exact h u (by simpa using hu)
 ·exact k u (by simpa using hu)
theorem size_s:(Tryz.prog.info? 31).map (·.size)=some 12:=by kernel_rfl
theorem zero_s:Hid (∀ w:World,(zeroValue 31).run Tryz.prog w=.ok (.agg #[.int .u64 0,.int .u64 0,.int .u64 0,.int .u64 0,.int .u64 0,.int .u64 0,.int .u64 0,.int .u64 0,.int .u64 0,.int .u64 0,.int .u64 0,.int .u64 0]) w):=fun w=>by kernel_rfl
theorem sg_fields : (Tryz.prog.fieldsOf 31).toList.map (fun f => (f.name == "_", f.type, f.offset)) = [(false, 29, 0), (false, 29, 6)] := by kernel_rfl
theorem eqF_cons {P : Program} {w : World} {d : Nat} {xs ys : Array Value} {f : Field} {fs : List Field} {a b : Value} {r : Bool} (hn : (f.name == "_") = false) (ha : ∀ w, (part f.type xs f.offset).run P w = .ok a w) (hb : ∀ w, (part f.type ys f.offset).run P w = .ok b w) (hr : ∀ w, (Op.equalIn d f.type a b).run P w = .ok r w) :
  (Op.eqFields d xs ys (f :: fs)).run P w=if r then (Op.eqFields d xs ys fs).run P w else .ok false w:=by
 have : f.name ≠ "_" := by simpa using hn
 rw [Op.eqFields,if_pos this]
 simp only [Sem.run_bind,ha,hb,hr,Result.andThen_ok]
 cases r<;>simp
theorem part_r {ps qs:List Value} {a b:Int} (ha:U6 ps a) (hb:U6 qs b):∀ w:World,(part 29 (ps++qs).toArray 0).run Tryz.prog w=.ok (.agg ps.toArray) w:=fun w=>by
 obtain ⟨z0,z1,z2,z3,z4,z5,rfl,_⟩:=ha
 obtain ⟨y0,y1,y2,y3,y4,y5,rfl,_⟩:=hb
 kernel_rfl
theorem part_s {ps qs:List Value} {a b:Int} (ha:U6 ps a) (hb:U6 qs b):∀ w:World,(part 29 (ps++qs).toArray 6).run Tryz.prog w=.ok (.agg qs.toArray) w:=fun w=>by
 obtain ⟨z0,z1,z2,z3,z4,z5,rfl,_⟩:=ha
 obtain ⟨y0,y1,y2,y3,y4,y5,rfl,_⟩:=hb
 kernel_rfl
theorem eqU9 {cs ds:List Value} {x y:Int} (h:U6 cs x) (k:U6 ds y):∀ w:World,(Op.equalIn 9999 29 (.agg cs.toArray) (.agg ds.toArray)).run Tryz.prog w=.ok (decide (x=y)) w:=fun w=>by
 obtain ⟨z0,z1,z2,z3,z4,z5,rfl,hf,rfl⟩:=h
 obtain ⟨y0,y1,y2,y3,y4,y5,rfl,kf,rfl⟩:=k
 rw [eql_six9]
 congr 1
 by_cases e:[z0,z1,z2,z3,z4,z5]=[y0,y1,y2,y3,y4,y5]
 ·rw [decide_eq_true e,decide_eq_true (by rw [e])]
 ·rw [decide_eq_false e,decide_eq_false (fun h=>e (v64_inj [z0,z1,z2,z3,z4,z5] [y0,y1,y2,y3,y4,y5] rfl hf kf h))]
theorem eqS {ps qs cs ds:List Value} {a b c d:Int} (ha:U6 ps a) (hb:U6 qs b) (hc:U6 cs c) (hd:U6 ds d):∀ w:World,(Op.equalIn 10000 31 (.agg (ps++qs).toArray) (.agg (cs++ds).toArray)).run Tryz.prog w=.ok (decide (a=c∧b=d)) w:=fun w=>by
 rw [run_equalIn_struct w 9999 31 _ _ (by kernel_rfl) (by kernel_rfl)]
 have hf:=sg_fields
 generalize (Tryz.prog.fieldsOf 31).toList=fs at *
 have hl:fs.length=2:=by simpa using congrArg List.length hf
 match fs,hl,hf with
 | [f0,f1],_,hf =>
  simp only [List.map_cons,List.map_nil,List.cons.injEq,and_true,Prod.mk.injEq] at hf
  obtain ⟨⟨n0,t0,o0⟩,⟨n1,t1,o1⟩⟩:=hf
  rw [eqF_cons n0 (by rw [t0,o0];exact part_r ha hb) (by rw [t0,o0];exact part_r hc hd) (by rw [t0];exact eqU9 ha hc)]
  rw [eqF_cons n1 (by rw [t1,o1];exact part_s ha hb) (by rw [t1,o1];exact part_s hc hd) (by rw [t1];exact eqU9 hb hd)]
  simp only [Op.eqFields,Sem.run_pure]
  by_cases h1:a=c<;>by_cases h2:b=d<;>simp [h1,h2]
theorem wpList_build_run {P:Program} {ops:Array Oper} {rest:List Oper} {o:Oper} {a:Act} {w:World} {Q:Exit→Act→World→Prop} {ty:TypeId} {fs:Array (Nat × Operand)} {ps:List (Nat × Value)} {v:Value} (hw:Region.wanted o (yielded ops a.tmps)=true) (ho:o.op=.build ty fs) (hx:fs.toList.map (fun p=>(p.1,a.eval p.2))=ps) (h:(Instr.build ty ps.toArray).run P w=.ok v w)
  (k:wpList P ops Q rest (a.put o.dst v) w):wpList P ops Q (o :: rest) a w:=by
 refine wpList_step fun K hK=>?_
 simp only [hw,if_true]
 have e:(fs.map fun (p:Nat × Operand)=>(p.1,a.eval p.2))=ps.toArray:=by rw [← hx];exact Array.ext' (by rw [Array.toList_map])
 unfold Oper.wp execOp
 simp only [ho,e,Sem.run_bind,Sem.run_pure,Result.andThen_ok,h]
 exact hK _ _ k
theorem build_sig {ps qs:List Value} {a b:Int} (ha:U6 ps a) (hb:U6 qs b):∀ w:World,(Instr.build 31 #[(0,.agg ps.toArray),(1,.agg qs.toArray)]).run Tryz.prog w=.ok (.agg (ps++qs).toArray) w:=fun w=>by
 obtain ⟨z0,z1,z2,z3,z4,z5,rfl,_⟩:=ha
 obtain ⟨y0,y1,y2,y3,y4,y5,rfl,_⟩:=hb
 kernel_rfl
theorem cells_part:Tryz.prog.cellsOf 106=2:=by kernel_rfl
theorem cells_intN:Tryz.prog.cellsOf 3=1:=by kernel_rfl
theorem cells_strN:Tryz.prog.cellsOf 9=1:=by kernel_rfl
theorem wf_intN {n:Int}:(Lit.int .i64 n).wf=true↔-9223372036854775808≤n∧n < 9223372036854775808:=by
 have h1:IntKind.i64.min=-9223372036854775808:=rfl
 have h2:IntKind.i64.max=9223372036854775807:=rfl
 simp [Lit.wf,h1,h2]
 omega
theorem cells_two {w:World} {a:Addr} {cs:List Value} (h:w.cells? 0 a 2=some cs):cs.length=2∧∀ j v,cs[j]?=some v→w.cell? (a.add j)=some v:=by
 unfold World.cells? at h
 rw [if_pos (Nat.zero_le _)] at h
 have e:List.range 2=[0,1]:=rfl
 rw [e] at h
 simp only [List.mapM_cons,List.mapM_nil,Option.bind_eq_bind,Option.pure_def,Option.bind_eq_some_iff,Option.some.injEq] at h
 obtain ⟨v0,h0,t0,⟨v1,h1,t1,rfl,rfl⟩,rfl⟩:=h
 refine ⟨rfl,fun j v hj=>?_⟩
 match j,hj with
 | 0,hj=>rw [h0];simpa using hj
 | 1,hj=>rw [h1];simpa using hj
theorem add_noneN (b o j:Nat):(⟨b,o,none⟩:Addr).add j=⟨b,o + j,none⟩:=by unfold Addr.add;split<;>simp_all
theorem str_nums (s:ByteArray):strOfNums (s.data.toList.map fun b=>(b.toNat:Int))=s:=by
 have e:∀ l:List UInt8,l.map ((fun n:Int=>UInt8.ofNat n.toNat) ∘ fun b:UInt8=>((b.toNat:Nat):Int))=l:=fun l=>by
  induction l with
  | nil=>rfl
  | cons a l ih=>rw [List.map_cons,ih];simp
 apply ByteArray.ext
 simp [strOfNums,e]
theorem nums_byt (l:List UInt8):byt (l.map fun b=>(b.toNat:Int)):=fun j=>by
 by_cases h:j < l.length
 ·have hl:=l[j].toNat_lt
  rw [List.getD_eq_getElem?_getD,List.getElem?_map,List.getElem?_eq_getElem h]
  simp only [Option.map_some,Option.getD_some]
  omega
 ·rw [List.getD_eq_getElem?_getD,List.getElem?_eq_none (by simpa using h)]
  decide
set_option maxRecDepth 10000 in
theorem open_part {H:Type} {enc:TypeId × Value→H} {w:World} {fuel:Nat} {cs:List Value} {x:DataW H × List MemPlace} (h:DataW.trod enc Tryz.prog w 0 (fun _=>true) true fuel 106 cs=some x):∃ p:Pn,cs=[.int .i64 p.1,.string (strOfNums p.2)]∧(-9223372036854775808≤p.1∧p.1 < 9223372036854775808)∧byt p.2∧p.2.length≤maxLen:=by
 obtain ⟨xs,n,rfl,_,hl,hlen,hf⟩:=DataW.trod_struct Tryz.underlying106 h
 rw [cells_part] at hl
 match cs,hl with
 | [a,b],_ =>
 have some2:∀ i,i < 2→∃ y,xs[i]?=some y:=fun i hi=>⟨_,List.getElem?_eq_getElem (by rw [hlen];exact hi)⟩
 obtain ⟨y0,s0⟩:=some2 0 (by decide)
 obtain ⟨y1,s1⟩:=some2 1 (by decide)
 have f0:DataW.trod enc Tryz.prog w 0 (fun _=>true) true n 3 (([a,b].drop 0).take (Tryz.prog.cellsOf 3))=some y0:=(hf 0 _ rfl).trans s0
 rw [cells_intN] at f0
 replace f0:DataW.trod enc Tryz.prog w 0 (fun _=>true) true n 3 [a]=some y0:=f0
 have f1:DataW.trod enc Tryz.prog w 0 (fun _=>true) true n 9 (([a,b].drop 1).take (Tryz.prog.cellsOf 9))=some y1:=(hf 1 _ rfl).trans s1
 rw [cells_strN] at f1
 replace f1:DataW.trod enc Tryz.prog w 0 (fun _=>true) true n 9 [b]=some y1:=f1
 obtain ⟨n0,e0,_,w0⟩:=DataW.trod_int Tryz.underlying3 f0
 obtain ⟨s,e1,_,hsz⟩:=DataW.trod_string Tryz.underlying9 f1
 simp only [List.cons.injEq,and_true] at e0 e1
 subst e0 e1
 exact ⟨(n0,s.data.toList.map fun b=>(b.toNat:Int)),by rw [str_nums],wf_intN.1 w0,nums_byt _,by rw [List.length_map];exact hsz⟩
theorem parts_open {w:World} {x:Addr}:∀ (n:Nat),(∀ i,i < n→∃ p:Pn,(w.cell? (x.add (i * 2))=some (.int .i64 p.1)∧w.cell? (x.add (i * 2 + 1))=some (.string (strOfNums p.2)))∧(-9223372036854775808≤p.1∧p.1 < 9223372036854775808)∧byt p.2∧p.2.length≤maxLen)→∃ ps:List Pn,ps.length=n∧WfN ps∧∀ i p,ps[i]?=some p→w.cell? (x.add (i * 2))=some (.int .i64 p.1)∧w.cell? (x.add (i * 2 + 1))=some (.string (strOfNums p.2))
 | 0,_=>⟨[],rfl,fun i p h=>by simp at h,fun i k h=>by simp at h⟩
 | n + 1,h=>by
  obtain ⟨ps,h1,h2,h3⟩:=parts_open n (fun i hi=>h i (by omega))
  obtain ⟨p,c1,c2,c3⟩:=h n (by omega)
  have key:∀ i q,(ps++[p])[i]?=some q→(ps[i]?=some q)∨(i=n∧q=p):=fun i q hq=>by
   by_cases hi:i < ps.length
   ·rw [List.getElem?_append_left hi] at hq
    exact .inl hq
   ·have hl:=(List.getElem?_eq_some_iff.1 hq).1
    rw [List.length_append] at hl
    have ei:i=n:=by simp at hl;omega
    subst ei
    rw [List.getElem?_append_right (by omega),h1,Nat.sub_self] at hq
    simp at hq
    exact .inr ⟨rfl,hq.symm⟩
  refine ⟨ps++[p],by rw [List.length_append,h1];rfl,fun i q hq=>?_,fun i q hq=>?_⟩
  ·rcases key i q hq with h|⟨rfl,rfl⟩
   ·exact h2 i q h
   ·exact ⟨c2,c3⟩
  ·rcases key i q hq with h|⟨rfl,rfl⟩
   ·exact h3 i q h
   ·exact c1
/-- what reads as a name is one -/
theorem open_nameL {H:Type} {enc:TypeId × Value→H} {w:World} {fuel:Nat} {v:Value} {x:DataW H × List MemPlace} (h:DataW.trod enc Tryz.prog w 0 (fun _=>true) true fuel 25 [v]=some x):∃ n,NmAt w v n∧WfN n∧((x.1=.nil∧n.length=0)∨∃ e r,x.1=.slice e r∧n.length=e.length):=by
 rcases DataW.trod_slice Tryz.underlying25 h with ⟨e4,ex⟩|⟨ad,len,cap,elems,rest,n',hn',e4,ex,_,hlc,hcm,hel,hea,_,_⟩
 ·simp only [List.cons.injEq,and_true] at e4
  subst e4
  exact ⟨[],NmAt.nil0 w,fun i p h=>(by simp at h),.inl ⟨by rw [ex],rfl⟩⟩
 ·simp only [List.cons.injEq,and_true] at e4
  subst e4
  have each:∀ i,i < len→∃ p:Pn,(w.cell? (ad.add (i * 2))=some (.int .i64 p.1)∧w.cell? (ad.add (i * 2 + 1))=some (.string (strOfNums p.2)))∧(-9223372036854775808≤p.1∧p.1 < 9223372036854775808)∧byt p.2∧p.2.length≤maxLen:=fun i hi=>by
   have hi2:=hea i hi
   rw [cells_part,List.getElem?_eq_getElem (by omega)] at hi2
   obtain ⟨cs,hc1,hc2⟩:=Option.bind_eq_some_iff.1 hi2
   obtain ⟨p,rfl,t1,t2⟩:=open_part hc2
   have k:=(cells_two hc1).2
   have k0:=k 0 _ rfl
   have k1:=k 1 _ rfl
   rw [Addr.add_add] at k0 k1
   exact ⟨p,⟨k0,k1⟩,t1,t2⟩
  obtain ⟨ps,k1,k2,k3⟩:=parts_open len each
  refine ⟨ps,⟨some ad,cap,by rw [k1],by omega,hcm,fun h0=>?_⟩,k2,.inr ⟨elems.map (·.1),rest.map (·.1),by rw [ex],by rw [k1,List.length_map,hel]⟩⟩
  obtain ⟨g,o,spot⟩:=ad
  obtain ⟨k,hk⟩:∃ k,ps[0]?=some k:=⟨_,List.getElem?_eq_getElem h0⟩
  have c0:=(k3 0 k hk).1
  have hs:spot=none:=by simpa [Addr.add] using World.cell?_spot c0
  subst hs
  have hb:=World.block_lt_of_cell? w _ c0
  refine ⟨g,o,rfl,by simpa [Addr.add] using hb,fun i p hp=>?_⟩
  have:=k3 i p hp
  rw [add_noneN,add_noneN] at this
  exact this
theorem open_name {H:Type} {enc:TypeId × Value→H} {w:World} {fuel:Nat} {v:Value} {x:DataW H × List MemPlace} (h:DataW.trod enc Tryz.prog w 0 (fun _=>true) true fuel 25 [v]=some x):∃ n,NmAt w v n∧WfN n:=by
 obtain ⟨n,h1,h2,_⟩:=open_nameL h
 exact ⟨n,h1,h2⟩
/-- the slice value v, in the world w, holds the words L -/
def Us (w:World) (v:Value) (L:List Int):Prop :=
 ∃ ao cap,v=.slice ao L.length cap∧cap≤maxLen∧L.length≤cap∧(0 < L.length→∃ b o,ao=some ⟨b,o,none⟩∧b < w.heap.size∧∀ j,j < L.length→w.cell? ⟨b,o + j,none⟩=some (.int .u64 (L.getD j 0)))
theorem Us.later {w w':World} {v:Value} {L:List Int} (h:Us w v L) (hb:Below w.heap.size w w'):Us w' v L:=by
 obtain ⟨ao,cap,h1,h2,h3,h4⟩:=h
 refine ⟨ao,cap,h1,h2,h3,fun hp=>?_⟩
 obtain ⟨b,o,e1,e2,e3⟩:=h4 hp
 exact ⟨b,o,e1,Nat.lt_of_lt_of_le e2 hb.size,fun j hj=>(hb.cell e2).trans (e3 j hj)⟩
theorem Us.of_own {w:World} {base:Nat} {e:TypeId} {v:Value} {n:Nat} {D:List Int} (h:w.ownsRow base e 1 v n (us D)):Us w v D:=by
 obtain ⟨hl,h⟩:=h
 have hn:D.length=n:=by simpa using hl
 rcases h with ⟨h1,h2⟩|⟨g,cap,cur,h1,h2,h3,h4,h5,h6,h7⟩
 ·exact ⟨none,0,by rw [h1,hn,h2],Nat.zero_le _,by omega,fun h=>by omega⟩
 ·refine ⟨_,cap,by rw [hn];exact h1,h5,by omega,fun _=>⟨g,0,rfl,(Array.getElem?_eq_some_iff.1 h3).1,fun j hj=>?_⟩⟩
  have e1:(cur.toList.take (n * 1))[j]?=some (.int .u64 (D.getD j 0)):=by rw [h7];exact us_get D j hj
  rw [List.getElem?_take,if_pos (by omega)] at e1
  rw [Nat.zero_add]
  simp only [World.cell?,h3,Option.isSome_none,Bool.false_eq_true,if_false]
  simpa using e1
theorem us_blk {w:World} {g q:Nat} {P:List Int} (B:Blk w g (us P)) (l:P.length=q) (h:q≤maxLen):Us w (.slice (some ⟨g,0,none⟩) q q) P :=
 ⟨some ⟨g,0,none⟩,q,by rw [l],h,by omega,fun _=>⟨g,0,rfl,B.lt,fun j hj=>by rw [Nat.zero_add];exact B.cell j _ (us_get P j hj)⟩⟩
theorem info_uA:(Tryz.prog.info? 27).map (fun i=>(i.zero,i.size,i.bytes))=some (some (.int .u64 0),1,8):=by kernel_rfl
theorem run_append_emptyU {w:World} {base ao:Option Addr} {n cap c:Nat} {ty:TypeId} (h:n≤cap) :
  (Builtin.append_ #[124,124] ty #[.slice base n cap,.slice ao 0 c]).run Tryz.prog w=.ok (.slice base n cap) w:=by
 have hu:∀ w:World,(underlying 124).run Tryz.prog w=.ok (.slice 27) w:=run_underlying Tryz.underlying124
 have hs:∀ w:World,(Go.sizeOf 27).run Tryz.prog w=.ok 1 w:=fun w=>by kernel_rfl
 have hl:∀ (a:Addr) (w:World),(loadCells a 0).run Tryz.prog w=.ok #[] w:=fun _ _=>rfl
 cases base<;>cases ao<;>simp [hl,Builtin.append_,hu,hs,h,Builtin.firstCells,Builtin.lenOf,Result.andThen,storeCells]
/-- words behind a row of one's own, be they none -/
theorem wpList_append_us {ops:Array Oper} {rest:List Oper} {o:Oper} {a:Act} {w:World} {Q:Exit→Act→World→Prop} (hgd:o.guard=none) (s x:Operand)
  (ho:o.op=.call { callee:=.builtin .append,args:=#[s,x],argTypes:=#[124,124] })
  (base:Nat) (v:Value) (n:Nat) (xs:List Int) (hs:a.eval s=v) (hown:w.ownsRow base 27 1 v n (us xs))
  (u:Value) (B:List Int) (hx:a.eval x=u) (hB:Us w u B) (h47:n + B.length≤17592186044416) (hbase:base≤w.heap.size)
  (h:∀ v' w',w'.ownsRow base 27 1 v' (n + B.length) (us (xs++B))→w.grownBy w' v.ownBlock→(v'.ownBlock=v.ownBlock∨v'.ownBlock=some w.heap.size)→wpList Tryz.prog ops Q rest (a.put o.dst v') w') :
  wpList Tryz.prog ops Q (o :: rest) a w:=by
 obtain ⟨ao,cap,rfl,c1,c2,c3⟩:=hB
 by_cases h0:B.length=0
 ·obtain rfl:B=[]:=List.eq_nil_of_length_eq_zero h0
  obtain ⟨bo,cp,rfl,k1,k2⟩:=own_slice hown
  refine Lib.wpList_append_run_sl w hgd s x 124 ho _ _ hs hx (run_append_emptyU k1) ?_
  exact h _ w (by simpa using hown) (grown_same _ _) (.inl rfl)
 ·obtain ⟨b,of,rfl,hb0,hc0⟩:=c3 (by omega)
  obtain ⟨i0,hi0,hz0,hz1,hz2⟩:=info_parts info_uA
  refine wpList_append_lies _ hgd s x _ ho base 27 i0 _ 1 8 Tryz.underlying124 hi0 hz0 hz1 hz2 rfl (by omega) v n (us xs) hs hown ⟨b,of,none⟩ B.length cap (us B) hx (by simp [us]) ?_ (by simp [us,Value.oneCell']) (by omega) (by unfold maxLen;omega) (by omega) hbase w.heap.size rfl ?_
  ·intro j z hz
   have hj:j < B.length:=by
    have:=(List.getElem?_eq_some_iff.1 hz).1
    simpa [us] using this
   have e:(⟨b,of,none⟩:Addr).add j=⟨b,of + j,none⟩:=by unfold Addr.add;split<;>simp_all
   rw [us_get B j hj] at hz
   rw [e,← hz]
   exact hc0 j hj
  ·intro g cap1 w' hown1 hgrow hat hlt
   refine h _ w' (by simpa [us] using hown1) hgrow ?_
   rcases hat with e|e
   ·exact .inl (by rw [e];rfl)
   ·exact .inr (by rw [← e];rfl)
/-- kinds of parts -/
def kindN (k:Int):Bool:=decide (k=3) || decide (k=6) || decide (k=10) || decide (k=11)
/-- may it be a part? -/
def partN (p:Pn):Bool:=kindN p.1 && (match textP p.2 with|.ok _=>true|.error _=>false)
/-- is it a name? -/
def mayN (n:List Pn):Bool:=decide (n.length≤8) && n.all partN
/-- a part's element, a name's -/
def setN (p:Pn):Tl:=.mk 0 17 true [] [.mk 0 16 true [] [.mk 0 6 false [85,4,p.1] [],.mk 0 12 false p.2 []]]
def elemN (n:List Pn):Tl:=.mk 0 16 true [] (n.map setN)
/-- an element's part -/
def ofSet:Tl→Option Pn
 | .mk c t m _ [.mk c1 t1 m1 _ [.mk c2 t2 m2 [x,y,k] _,.mk c3 t3 m3 b _]]=>if c=0∧t=17∧m=true∧c1=0∧t1=16∧m1=true∧c2=0∧t2=6∧m2=false∧x=85∧y=4∧c3=0∧t3=12∧m3=false∧partN (k,b)=true then some (k,b) else none
 | _=>none
/-- an element's name, or the error's number -/
def readN:Tl→Except Nat (List Pn)
 | .mk c t m _ ks=>if c=0∧t=16∧m=true then (match ks.mapM ofSet with|none=>.error 7|some n=>if 8 < n.length then .error 2 else .ok n) else .error 7
/-- what Element tells: the kids lie in a row of its own, which may be written -/
def ElemR (w:World) (n:List Pn) (e:Ending) (w':World):Prop :=
 (mayN n=false→e=.returned (.tuple #[.agg #[.int .i64 0,.int .i64 0,.bool false,.slice none 0 0,.slice none 0 0],.iface 46 (.int .i64 1)])∧Below w.heap.size w w') ∧
 (mayN n=true→∃ (kv:Value) (xs:List Value),e=.returned (.tuple #[.agg #[.int .i64 0,.int .i64 16,.bool true,.slice none 0 0,kv],.nilIface])∧w'.ownsRow w.heap.size 53 5 kv n.length xs∧(∀ (i:Nat) (t:Tl),(n.map setN)[i]?=some t→Dep (fun b=>w.heap.size≤b∧kv.ownBlock≠some b) w' t ((xs.drop (5 * i)).take 5))∧Below w.heap.size w w')
/-- a name in a row of its own -/
def NmNew (w w':World) (v:Value) (n:List Pn):Prop:=∀ w2,Agr (fun b=>w.heap.size≤b) w' w2→NmAt w2 v n
/-- what Of tells -/
def OfR (w:World) (T:Tl) (e:Ending) (w':World):Prop :=
 (∃ v er:Value,e=.returned (.tuple #[v,er])∧Below w.heap.size w w')∧(wrN T=0→(∀ n,readN T=.ok n→∃ v,e=.returned (.tuple #[v,.nilIface])∧NmNew w w' v n)∧(∀ c,readN T=.error c→∃ (ao:Option Addr) (cap:Nat),e=.returned (.tuple #[.slice ao 0 cap,.iface 46 (.int .i64 (c:Int))])))
/-- Element's answer as an element, from this world on -/
theorem ElemR.tl {w w':World} {n:List Pn} {kv:Value} {xs:List Value} (h:w'.ownsRow w.heap.size 53 5 kv n.length xs) (hk:∀ (i:Nat) (t:Tl),(n.map setN)[i]?=some t→Dep (fun b=>w.heap.size≤b∧kv.ownBlock≠some b) w' t ((xs.drop (5 * i)).take 5)):Dep (fun b=>w.heap.size≤b) w' (elemN n) [.int .i64 0,.int .i64 16,.bool true,.slice none 0 0,kv] :=
 kids_own (ks:=n.map setN) (by rw [List.length_map];exact h) hk 0 16 true (fun _ h=>h.1) (fun g hg=>(own_geK h hg).1)
theorem str_sizeN (A:List Int):(strOfNums A).size=A.length:=by simp [strOfNums,ByteArray.size]
theorem str_getN {A:List Int} (h:byt A) {j:Nat} (hj:j < A.length):(((strOfNums A).data.toList.getD j 0).toNat:Int)=A.getD j 0:=by
 have h0:=h j
 have e:(strOfNums A).data.toList=A.map fun n=>UInt8.ofNat n.toNat:=by simp [strOfNums]
 rw [e,List.getD_eq_getElem?_getD,List.getElem?_map,List.getElem?_eq_getElem hj]
 rw [List.getD_eq_getElem?_getD,List.getElem?_eq_getElem hj] at h0 ⊢
 simp only [Option.map_some,Option.getD_some] at h0 ⊢
 rw [UInt8.toNat_ofNat_of_lt' (by have:UInt8.size=256:=rfl;omega)]
 omega
/-- a text's bytes, in a row of their own -/
theorem conv_text {bs:List Int} (b:byt bs) (hl:bs.length≤maxLen) (w:World):∃ cap w',(convert 9 22 (.string (strOfNums bs))).run Tryz.prog w=.ok (.slice (some ⟨w.heap.size,0,none⟩) bs.length cap) w'∧Bs w' (.slice (some ⟨w.heap.size,0,none⟩) bs.length cap) bs∧Below w.heap.size w w':=by
 have hc:=Lib.run_convert_string_bytes (P:=Tryz.prog) w 9 22 5 (strOfNums bs) Tryz.underlying9 Tryz.underlying22 Tryz.underlying5
 rw [str_sizeN] at hc
 refine ⟨_,_,hc,⟨_,_,rfl,grownCap_le_maxLen _ _ _ _ hl,grownCap_ge _ _ _ _,fun _=>⟨w.heap.size,0,rfl,by rw [Lib.bytesWorld_size];omega,fun j hj=>?_⟩⟩,?_⟩
 ·rw [Nat.zero_add,Lib.bytesWorld_cell _ _ _ _ (by rw [str_sizeN];exact hj),str_getN b hj]
 ·exact ⟨rfl,rfl,rfl,by rw [Lib.bytesWorld_size];omega,fun j hj=>Lib.bytesWorld_at_old _ _ _ j hj⟩
/-- a list, an element of class 2, a truth that is true -/
def listT (ks:List Tl):Tl:=.mk 0 16 true [] ks
/-- what is answered, or no bytes -/
def orNil:Except Nat (List Int)→List Int
 | .ok b=>b
 | .error _=>[]
/-- an identifier's element -/
def oidT (l:List Int):Tl:=.mk 0 6 false (orNil (oidOf l)) []
def algT:Tl:=listT [oidT [1,2,840,10045,4,3,3]]
/-- the bytes of an element, or none -/
noncomputable def wrB (T:Tl):List Int:=if wrN T=0 then bytesT T else []
/-- a serial number's element, a time's; or none -/
def serT (n:List Int):Option Tl:=if n.length < 1∨20 < n.length∨n.getD 0 0=0 then none else some (.mk 0 2 false (orNil (numOf n)) [])
def timT (v:Int):Option Tl:=match timeOf v with|.ok (a,b)=>some (.mk 0 a false b [])|.error _=>none
noncomputable def orT:Option Tl→Tl
 | some T=>T
 | none=>.mk 0 0 false [] []
theorem own_slE {w:World} {base size:Nat} {e:TypeId} {v:Value} {n:Nat} {xs:List Value} (h:w.ownsRow base e size v n xs):∃ ao cap,v=.slice ao n cap:=by
 rcases h.2 with ⟨h1,h2⟩|⟨g,cap,cur,h1,_⟩
 ·exact ⟨none,0,by rw [h1,h2]⟩
 ·exact ⟨_,cap,h1⟩
theorem byt_in {L:List Int} (h:∀ x∈L,0≤x∧x < 256):byt L:=fun j=>by
 by_cases hj:j < L.length
 ·rw [List.getD_eq_getElem?_getD,List.getElem?_eq_getElem hj]
  exact h _ (List.getElem_mem hj)
 ·rw [List.getD_eq_getElem?_getD,List.getElem?_eq_none (by omega)]
  decide
theorem kc_n {P:Tl→List Value→Prop}:∀ (i:Nat) (k:Tl),([]:List Tl)[i]?=some k→P k ((([]:List Value).drop (5 * i)).take 5):=fun i k h=>by simp at h
theorem kc_c {P:Tl→List Value→Prop} {T:Tl} {cs xs:List Value} {Ts:List Tl} (h:P T cs) (l:cs.length=5) (hr:∀ (i:Nat) (k:Tl),Ts[i]?=some k→P k ((xs.drop (5 * i)).take 5)):∀ (i:Nat) (k:Tl),(T :: Ts)[i]?=some k→P k (((cs++xs).drop (5 * i)).take 5):=fun i k hk=>by
 match i,hk with
 | 0,hk =>
  simp only [List.getElem?_cons_zero,Option.some.injEq] at hk
  subst hk
  rw [Nat.mul_zero,List.drop_zero,List.take_append_of_le_length (by omega),List.take_of_length_le (by omega)]
  exact h
 | i + 1,hk =>
  rw [List.getElem?_cons_succ] at hk
  have:=hr i k hk
  rw [show 5 * (i + 1)=cs.length + 5 * i by omega,← List.drop_drop,List.drop_left]
  exact this
theorem fill_15 {c0 c1 c2:List Value} (h0:c0.length=5) (h1:c1.length=5) (h2:c2.length=5):Instr.fill (fun i=>some (i * 5,5)) ((Array.range (3 * 5)).map ((Value.agg #[.int .i64 0,.int .i64 0,.bool false,.slice none 0 0,.slice none 0 0]).cells[· % (Value.agg #[.int .i64 0,.int .i64 0,.bool false,.slice none 0 0,.slice none 0 0]).cells.size]!)) [(0,.agg c0.toArray),(1,.agg c1.toArray),(2,.agg c2.toArray)]=some (c0++(c1++(c2++[]))).toArray:=by
 obtain ⟨_,_,_,_,_,rfl⟩:=five h0
 obtain ⟨_,_,_,_,_,rfl⟩:=five h1
 obtain ⟨_,_,_,_,_,rfl⟩:=five h2
 kernel_rfl
/-- an error of this number, or none -/
def erN (n:Nat):Value:=if n=0 then .nilIface else .iface 46 (.int .i64 (n:Int))
theorem erN_0:erN 0=.nilIface:=rfl
theorem erN_s {n:Nat} (h:¬ n=0):erN n=.iface 46 (.int .i64 (n:Int)):=if_neg h
/-- what der.Write answers, shortly -/
theorem c17_Write {T:Tl} {cs:List Value} {w:World} (h:TlAt w T cs) (hl:(bytesT T).length≤1099511627776) :
  Calls Tryz.prog 22 #[.agg cs.toArray] w fun e w'=>∃ v':Value,e=.returned (.tuple #[v',erN (wrN T)])∧Bs w' v' (wrB T)∧NewV w v'∧Below w.heap.size w w':=by
 refine (c12_Write (smT_of_len hl) h).mono ?_
 rintro e w' ⟨v,er,rfl,hw,hb⟩
 by_cases k:wrN T=0
 ·obtain ⟨hf,rfl⟩:=hw.1 k
  refine ⟨v,by rw [k,erN_0],?_,?_,hb⟩
  ·unfold wrB
   rw [if_pos k]
   exact hf.bs
  ·obtain ⟨g,o,cap,cur,rfl,-,-,h3,-,-⟩:=hf
   exact fun a m c e h0=>by simp only [Value.slice.injEq,Option.some.injEq] at e;rw [← e.1];exact h3
 ·obtain ⟨hf,rfl⟩:=hw.2 k
  refine ⟨v,by rw [erN_s k],?_,?_,hb⟩
  ·unfold wrB
   rw [if_neg k]
   exact hf
  ·obtain ⟨ao,cap,rfl,-,-,-⟩:=hf
   exact fun a m c e h0=>by simp only [Value.slice.injEq] at e;simp at e;omega
end Go.Proofs.YtohcdbifhnfcbaaGreatDoor
