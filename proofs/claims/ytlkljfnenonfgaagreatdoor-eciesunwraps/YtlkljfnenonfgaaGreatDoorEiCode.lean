/- Signatures as numbers: what was signed holds. Plain facts. What was signed holds, in the words of the program's answers. Plain facts. Every point of the curve is a multiple of the base point: there are not so many places for more (3 N of them would be more than 2 P + 1), and no point has the order 2. So no point but the one at infinity is nothing, taken fewer than N times. Plain facts. What was wrapped is unwrapped: plain facts. ladder's notes of steps. ladder.Base. ladder's notes of steps. ladder.Mul and ladder.Base. Bytes in rows of one's own. What ladder.Mul and curve.Add answer of points as rows of cells. ecies.sealing. -/
import Derived.Test.YtlkljfnenonfgaaGreatDoorCNum
import Derived.Test.YtlkljfnenonfgaaGreatDoorEdG
import Derived.Test.YtlkljfnenonfgaaGreatDoorEiUp0
import Derived.Test.YtlkljfnenonfgaaGreatDoorAeNumG
import Derived.Test.YtlkljfnenonfgaaGreatDoorLClimb
import Derived.Test.YtlkljfnenonfgaaGreatDoorAeCodeX
import Derived.Test.YtlkljfnenonfgaaGreatDoorCAddC
import Derived.Test.YtlkljfnenonfgaaGreatDoorMcCode
import Derived.Test.YtlkljfnenonfgaaGreatDoorBase
import Derived.Test.YtlkljfnenonfgaaGreatDoorRows
import Derived.Deep.WholeRow
import Derived.Deep.RegionHeld3
import Derived.Deep.DeepCutAuto
import Derived.Deep.DeepFit
import Derived.Deep.OwnRows
import Derived.Deep.AppendLies
import Derived.Great.BuildSlice
import Derived.Laws.Rows
import Derived.BigQuiet
import Derived.Lib.SlBytesConst
namespace Go.Proofs.YtlkljfnenonfgaaGreatDoor
open Go.RowKit
/-- the order of the base point -/
def OrdN:Nat:=39402006196394479212279040100143613805079739270465446667946905279627659399113263569398956308152294913554433653942643
theorem ord_G:cmul OrdN GG=none:=ord_none
theorem cmul_times (q:Nat):cmul (q * OrdN) GG=none:=by rw [cmul_mul on_G,ord_G,cmul_none]
/-- multiples of the base point go by the order -/
theorem cmul_cong {m n:Nat} (h:(OrdN:Int) ∣ (m:Int) - (n:Int)):cmul m GG=cmul n GG:=by
 have key:∀ {a b:Nat},b≤a→(OrdN:Int) ∣ (a:Int) - (b:Int)→cmul a GG=cmul b GG:=by
  intro a b hab hd
  obtain ⟨c,hc⟩:=hd
  have h0:0 < (OrdN:Int):=by decide
  have hc0:0≤c:=by
   rcases Int.lt_or_le c 0 with k|k
   ·have h1:(OrdN:Int) * c < 0:=Int.mul_neg_of_pos_of_neg h0 k
    omega
   ·exact k
  obtain ⟨q,rfl⟩:=Int.eq_ofNat_of_zero_le hc0
  have e:a=q * OrdN + b:=by
   have h2:((a:Nat):Int)=((q * OrdN + b:Nat):Int):=by
    rw [Int.natCast_add,Int.natCast_mul,Int.mul_comm]
    omega
   exact Int.ofNat_inj.1 h2
  rw [e,cmul_add on_G,cmul_times,none_cadd]
 rcases Nat.le_total n m with k|k
 ·exact key k h
 ·refine (key k ?_).symm
  obtain ⟨c,hc⟩:=h
  exact ⟨-c,by rw [Int.mul_neg,← hc];omega⟩
/-- a sum that is nothing: one is the opposite of the other -/
theorem opp_of {P Q:Pt} (hP:OnC P) (hQ:OnC Q) (h:cadd P Q=none):P=cneg Q:=by
 have:=cancel hP hQ
 rw [h,none_cadd] at this
 exact this.symm
/-- no smaller multiple is nothing -/
theorem cmul_some {k j:Nat} (h:(OrdN:Int) ∣ (j:Int) * k - 1):cmul k GG≠none:=fun e=>by
 have h1:cmul (j * k) GG=cmul 1 GG:=cmul_cong (by rw [Int.natCast_mul];exact h)
 rw [cmul_mul on_G,e,cmul_none,cmul_one] at h1
 cases h1
theorem ord_QQ:((OrdN:Nat):Int)=QQ:=by decide
theorem dvd_rest (A:Int):QQ ∣ A % QQ - A:=⟨-(A / QQ),by
 have:=Int.emod_add_mul_ediv A QQ
 generalize QQ=q at *
 rw [Int.mul_neg]
 omega⟩
theorem rest_bd (A:Int):0≤A % QQ∧A % QQ < QQ:=⟨Int.emod_nonneg _ (by decide),Int.emod_lt_of_pos _ (by decide)⟩
theorem InvO.bd {x z:Int} (h:InvO x z):0≤z∧z < QQ:=by
 unfold InvO OutO at h
 rw [h]
 exact rest_bd _
/-- it is 1 over it -/
theorem InvO.mul {x z:Int} (hx:isSc x) (h:InvO x z):QQ ∣ x * z - 1:=by
 have h1:=(oout_inv (by have:=hx.1;omega) h).2 (by rw [Int.emod_eq_of_lt (by have:=hx.1;omega) hx.2];have:=hx.1;omega)
 have h2:=dvd_rest (x * z)
 rw [h1] at h2
 obtain ⟨c,hc⟩:=h2
 exact ⟨-c,by rw [Int.mul_neg,← hc];omega⟩
theorem base_some {k:Int} (hk:isSc k):cmul k.toNat GG≠none:=by
 obtain ⟨i,hi⟩:∃ i,InvO k i:=⟨_,rfl⟩
 have h1:=InvO.mul hk hi
 have h2:=hi.bd.1
 have h3:=hk.1
 refine cmul_some (j:=i.toNat) ?_
 rw [ord_QQ,Int.toNat_of_nonneg h2,Int.toNat_of_nonneg (by omega),Int.mul_comm]
 exact h1
/-- of more things than places two share one -/
theorem pigeon:∀ (m:Nat) (f:Nat→Nat),(∀ i,i≤m→f i < m)→∃ i j,i < j∧j≤m∧f i=f j
 | 0,_,h=>absurd (h 0 (Nat.le_refl _)) (Nat.not_lt_zero _)
 | m + 1,f,h=>by
  by_cases c:∃ i,i≤m∧f i=f (m + 1)
  ·obtain ⟨i,hi,e⟩:=c
   exact ⟨i,m + 1,by omega,Nat.le_refl _,e⟩
  ·have hne:∀ i,i≤m→f i≠f (m + 1):=fun i hi e=>c ⟨i,hi,e⟩
   obtain ⟨i,j,h1,h2,h3⟩:=pigeon m (fun i=>if f i=m then f (m + 1) else f i) (fun i hi=>by
    have a:=h i (by omega)
    have b:=h (m + 1) (Nat.le_refl _)
    have d:=hne i hi
    show (if f i=m then f (m + 1) else f i) < m
    split<;>omega)
   refine ⟨i,j,h1,by omega,?_⟩
   have d1:=hne i (by omega)
   have d2:=hne j (by omega)
   have h3':(if f i=m then f (m + 1) else f i)=(if f j=m then f (m + 1) else f j):=h3
   split at h3'<;>split at h3'<;>omega
/-- a place of its own for each point -/
def codeP:Pt→Nat
 | none=>(2 * PP).toNat
 | some p=>(2 * p.1 + p.2 % 2).toNat
theorem codeP_lt {P:Pt} (h:OnC P):codeP P < (2 * PP + 1).toNat:=by
 have o:=PP_pos
 cases P with
 | none =>
  show (2 * PP).toNat < _
  generalize PP=p at *
  omega
 | some p =>
  have l:=Aff.lx h
  unfold Lo at l
  unfold codeP
  simp only
  generalize PP=q at *
  omega
theorem nu_sum {a b:Int} (ha:Lo a) (hb:Lo b) (h:Nu (a + b)):a + b=0∨a + b=PP:=by
 obtain ⟨c,hc⟩:=h
 unfold Lo at ha hb
 have o:=PP_pos
 generalize PP=p at *
 have h0:0≤c:=by
  rcases Int.lt_or_le c 0 with k|k
  ·have:=Int.mul_neg_of_pos_of_neg o k
   omega
  ·exact k
 have h2:c < 2:=by
  rcases Int.lt_or_le c 2 with k|k
  ·exact k
  ·have:=Int.mul_le_mul_of_nonneg_left k (Int.le_of_lt o)
   omega
 have:c=0∨c=1:=by omega
 rcases this with rfl|rfl
 ·left;rw [hc,Int.mul_zero]
 ·right;rw [hc,Int.mul_one]
theorem codeP_inj {P Q:Pt} (h:OnC P) (k:OnC Q) (e:codeP P=codeP Q):P=Q:=by
 have o:=PP_pos
 cases P with
 | none =>
  cases Q with
  | none=>rfl
  | some q =>
   have l:=Aff.lx k
   unfold Lo at l
   unfold codeP at e
   simp only at e
   generalize PP=p at *
   omega
 | some p =>
  have l:=Aff.lx h
  cases Q with
  | none =>
   unfold Lo at l
   unfold codeP at e
   simp only at e
   generalize PP=p at *
   omega
  | some q =>
   have l2:=Aff.lx k
   obtain ⟨x,y⟩:=p
   obtain ⟨u,v⟩:=q
   have hy:=Aff.ly h
   have hv:=Aff.ly k
   have c1:=Aff.cu h
   have c2:=Aff.cu k
   simp only at hy hv c1 c2 l l2
   have e2:x=u∧y % 2=v % 2:=by
    unfold Lo at l l2
    unfold codeP at e
    simp only at e
    generalize PP=p at *
    omega
   obtain ⟨rfl,e3⟩:=e2
   have hn:Nu ((y - v) * (y + v)):=nu_of2 c1 1 c2 (-1) (by grind)
   rcases hn.split with hd|hs
   ·rw [hy.eq hv hd]
   ·have od:=PP_odd
    have:=nu_sum hy hv hs
    unfold Lo at hy hv
    have e4:y=v:=by
     generalize PP=p at *
     omega
    rw [e4]
theorem no_order2 {Q:Pt} (h:OnC Q) (e:cadd Q Q=none):Q=none:=by
 cases Q with
 | none=>rfl
 | some p =>
  exfalso
  by_cases c:p.1=p.1∧(p.2 + p.2) % PP=0
  ·have h1:Nu (p.2 + p.2):=nu_iff.2 c.2
   have h2:Nu p.2:=(Nu.to h1 (show p.2 * 2=p.2 + p.2 by omega)).left nu_two
   exact no_two (Aff.lx h).1 (nu_of2 h2 p.2 (Aff.cu h) (-1) (by grind))
  ·have h1:cadd (some p) (some p)≠none:=by
    show (if p.1=p.1∧(p.2 + p.2) % PP=0 then none else _)≠none
    rw [if_neg c]
    exact Option.some_ne_none _
   exact h1 e
/-- multiples below the order are apart -/
theorem base_inj {a b:Nat} (ha:a < OrdN) (hb:b < OrdN) (e:cmul a GG=cmul b GG):a=b:=by
 have key:∀ {a b:Nat},a < OrdN→a≤b→b < OrdN→cmul a GG=cmul b GG→a=b:=by
  intro a b ha hab hb e
  rcases Nat.eq_or_lt_of_le hab with h|h
  ·exact h
  ·exfalso
   have h1:cmul (b - a) GG=none:=by rw [cmul_sub on_G hab,e,add_neg]
   have h2:isSc ((b - a:Nat):Int):=⟨by omega,by rw [← ord_QQ];omega⟩
   exact base_some h2 h1
 rcases Nat.le_total a b with h|h
 ·exact key ha h hb e
 ·exact (key hb h ha e.symm).symm
/-- from sums that are one: so many times less -/
theorem diff_of {A B C D:Pt} (hA:OnC A) (hB:OnC B) (hC:OnC C) (hD:OnC D) (e:cadd A B=cadd C (cadd B D)):D=cadd A (cneg C):=by
 have h1:cadd A B=cadd (cadd C D) B:=by rw [e,add_comm' hB hD,assoc hC hD hB]
 have h2:A=cadd C D:=by
  have:=cancel hA hB
  rw [h1,cancel (on_add hC hD) hB] at this
  exact this.symm
 rw [h2,add_comm' hC hD,cancel hD hC]
theorem many:(2 * PP + 1).toNat < 3 * OrdN:=by decide +kernel
theorem ord_pos:0 < OrdN:=by decide +kernel
theorem ord_odd:OrdN % 2=1:=by decide +kernel
/-- every point is a multiple of the base point -/
theorem in_base {P:Pt} (hP:OnC P):∃ n:Nat,P=cmul n GG:=by
 obtain ⟨i,j,hij,hj,e⟩:=pigeon (2 * PP + 1).toNat (fun n=>codeP (cadd (cmul (n % OrdN) GG) (cmul (n / OrdN) P))) (fun n _=>codeP_lt (on_add (on_cmul on_G _) (on_cmul hP _)))
 have e1:=codeP_inj (on_add (on_cmul on_G _) (on_cmul hP _)) (on_add (on_cmul on_G _) (on_cmul hP _)) e
 have hj3:j < OrdN * 3:=by have:=many;rw [Nat.mul_comm];omega
 have hjd:j / OrdN < 3:=Nat.div_lt_of_lt_mul hj3
 have hle:i / OrdN≤j / OrdN:=Nat.div_le_div_right (by omega)
 have ha:=Nat.mod_lt i ord_pos
 have hb:=Nat.mod_lt j ord_pos
 have ei:=Nat.div_add_mod i OrdN
 have ej:=Nat.div_add_mod j OrdN
 generalize i % OrdN=a at *
 generalize j % OrdN=b at *
 generalize i / OrdN=s at *
 generalize j / OrdN=t at *
 clear e
 rcases Nat.eq_or_lt_of_le hle with h|h
 ·exfalso
  subst h
  have e2:cmul a GG=cmul b GG:=by
   have h1:=cancel (on_cmul on_G a) (on_cmul hP s)
   rw [e1,cancel (on_cmul on_G b) (on_cmul hP s)] at h1
   exact h1.symm
  have e3:=base_inj ha hb e2
  omega
 ·obtain ⟨r,hr⟩:∃ r,t=s + r:=⟨t - s,by omega⟩
  subst hr
  rw [cmul_add hP] at e1
  have e2:=diff_of (on_cmul on_G a) (on_cmul hP s) (on_cmul on_G b) (on_cmul hP r) e1
  have e3:cmul r P=cmul (a + (OrdN - b)) GG:=by
   rw [e2,cmul_add on_G,cmul_sub on_G (Nat.le_of_lt hb),ord_G,none_cadd]
  have hr:r=1∨r=2:=by omega
  rcases hr with rfl|rfl
  ·exact ⟨_,e3⟩
  ·generalize a + (OrdN - b)=c at *
   have o:=ord_odd
   obtain ⟨m,hm⟩:∃ m,OrdN + 1=2 * m:=⟨(OrdN + 1) / 2,by omega⟩
   have hH:OnC (cmul (m * c) GG):=on_cmul on_G _
   have e4:cadd (cmul (m * c) GG) (cmul (m * c) GG)=cmul c GG:=by
    rw [← cmul_add on_G]
    apply cmul_cong
    refine ⟨(c:Int),?_⟩
    have hm':((OrdN:Nat):Int) + 1=2 * (m:Int):=by omega
    rw [Int.natCast_add,Int.natCast_mul]
    generalize ((OrdN:Nat):Int)=N at *
    have:N=2 * (m:Int) - 1:=by omega
    rw [this]
    grind
   have e5:cadd P P=cmul c GG:=e3
   refine ⟨m * c,?_⟩
   generalize cmul (m * c) GG=H at *
   have q:cadd (cadd P (cneg H)) (cadd P (cneg H))=none:=by
    rw [four hP (on_neg hH) hP (on_neg hH),e5,← neg_add hH hH,e4,add_neg]
   have q2:=no_order2 (on_add hP (on_neg hH)) q
   have q3:=opp_of hP (on_neg hH) q2
   rw [q3,neg_neg hH]
/-- no point is nothing, taken fewer than N times -/
theorem every_some {X Y d:Int} (hA:Aff X Y) (hd:isSc d):cmul d.toNat (some (X,Y))≠none:=fun e=>by
 have hP:OnC (some (X,Y)):=hA
 obtain ⟨n,hn⟩:=in_base hP
 obtain ⟨i,hi⟩:∃ i,InvO d i:=⟨_,rfl⟩
 have h1:=InvO.mul hd hi
 have h2:=hi.bd.1
 have h3:=hd.1
 rw [hn,← cmul_mul on_G] at e
 have h4:cmul (i.toNat * (d.toNat * n)) GG=cmul n GG:=by
  apply cmul_cong
  obtain ⟨c,hc⟩:=h1
  refine ⟨c * n,?_⟩
  rw [Int.natCast_mul,Int.natCast_mul,Int.toNat_of_nonneg h2,Int.toNat_of_nonneg (by omega),ord_QQ]
  generalize QQ=q at *
  have:d * i=q * c + 1:=by omega
  grind
 rw [cmul_mul on_G,e,cmul_none] at h4
 rw [← hn] at h4
 cases h4
theorem times_swap {d k:Int} {X Y PX PY:Int} (hP:cmul d.toNat GG=some (X,Y)) (hQ:cmul k.toNat GG=some (PX,PY)):cmul d.toNat (some (PX,PY))=cmul k.toNat (some (X,Y)):=by
 rw [← hP,← hQ,← cmul_mul on_G,← cmul_mul on_G,Nat.mul_comm]
/-- what is in a wrapped key -/
theorem wrap_back {d k X Y:Int} {key b:List Int} (hP:cmul d.toNat GG=some (X,Y)) (bK:byt key) (l:key.length=32) (h:WrapIs X Y k key b) :
  b.length=145∧byt b∧DecOk (b.take 97)∧∃ O,KeyIs (b.take 97) (othX d (b.take 97)) O∧(b.drop 97).take 32=hidN (O.take 32) (O.drop 32) key∧(b.drop 97).drop 32=tagN (O.take 32) (O.drop 32) (b.take 97) (hidN (O.take 32) (O.drop 32) key):=by
 obtain ⟨p,O,hE,hK,rfl⟩:=h
 have lp:=hE.ln
 have e1:(p++sealN (O.take 32) (O.drop 32) p key).take 97=p:=by rw [List.take_append_of_le_length (by omega),List.take_of_length_le (by omega)]
 have e2:(p++sealN (O.take 32) (O.drop 32) p key).drop 97=sealN (O.take 32) (O.drop 32) p key:=by rw [List.drop_append_of_le_length (by omega),List.drop_of_length_le (by omega),List.nil_append]
 have hE2:=hE
 obtain ⟨PX,PY,XB,YB,hQ,-,-,-⟩:=hE2
 have hA:Aff PX PY:=by have h:=on_cmul on_G k.toNat;rw [hQ] at h;exact h
 rw [hQ] at hE
 have e3:othX d p=xOf (cmul k.toNat (some (X,Y))):=by
  unfold othX
  rw [hE.pts.1,hE.pts.2.1,times_swap hP hQ]
 refine ⟨by rw [List.length_append,lp,sealN_len,l],byt_x2 hE.byt (sealN_byt (byt_takeC hK.byt _) (byt_dropC hK.byt _) bK),by rw [e1];exact hE.dec hA,O,?_,?_,?_⟩
 ·rw [e1,e3];exact hK
 ·have:=seal_take (O.take 32) (O.drop 32) p key
  rw [l] at this
  rw [e2,this]
 ·have:=seal_drop (O.take 32) (O.drop 32) p key
  rw [l] at this
  rw [e1,e2,this]
theorem unw_yes {w w':World} {d:Int} {B O:List Int} {e:Ending} (h:UnwR w d B e w') (hd:isSc d) (hl:B.length=145) (hok:DecOk (B.take 97)) (hk:KeyIs (B.take 97) (othX d (B.take 97)) O) (ht:(B.drop 97).drop 32=tagN (O.take 32) (O.drop 32) (B.take 97) ((B.drop 97).take 32)):∃ v',e=.returned (.tuple #[v',.nilIface])∧Bs w' v' (hidN (O.take 32) (O.drop 32) ((B.drop 97).take 32))∧Below w.heap.size w w':=by
 obtain ⟨O',k',h'⟩:=((h.2 hd).2 hl).2 hok
 obtain rfl:=k'.one hk
 exact h'.1 ht
theorem unw_no {w w':World} {d:Int} {B O:List Int} {e:Ending} (h:UnwR w d B e w') (hd:isSc d) (hl:B.length=145) (hok:DecOk (B.take 97)) (hk:KeyIs (B.take 97) (othX d (B.take 97)) O) (ht:¬ (B.drop 97).drop 32=tagN (O.take 32) (O.drop 32) (B.take 97) ((B.drop 97).take 32)):NoneX w 5 e w':=by
 obtain ⟨O',k',h'⟩:=((h.2 hd).2 hl).2 hok
 obtain rfl:=k'.one hk
 exact h'.2 ht
/-- a byte among the last 16 turned -/
theorem turn_97 {B:List Int} {n:Nat} {x:Int} (h:129≤n):(B.set n x).take 97=B.take 97∧((B.set n x).drop 97).take 32=(B.drop 97).take 32:=by
 refine ⟨turn_take (by omega),?_⟩
 rw [List.take_drop,List.take_drop,turn_take (by omega)]
theorem turn_tag {B:List Int} {n:Nat} {x:Int} (h:129≤n) (hn:n < B.length):((B.set n x).drop 97).drop 32=(B.drop 97).drop 32↔x=B.getD n 0:=by
 rw [List.drop_drop,List.drop_drop]
 exact turn_same (by omega) hn
set_option maxRecDepth 100000 in
theorem con_nBase {w:World} {d:Int} :
  Calls Tryz.prog 33 #[.int .i64 d] w fun e w'=>e=.returned (.tuple #[])∧w'=w:=by
 go_enter Tryz.func33,Tryz.ntmps33
 go_wp2
 exact bodyPost_end (v:=.tuple #[]) (by simp [results,Tryz.results33,go_sem]) rfl ⟨rfl,rfl⟩
theorem quiet_base {w0:World} {B:Nat}:Hid (∀ (k:Nat) (d:Int) (b:World),(fun (_:Nat) (b:World)=>Below w0.heap.size w0 b) k b→k < 1152→d=((k % 3:Nat):Int) + 1→Calls Tryz.prog 33 #[.int .i64 d] b fun e c=>e=.returned (.tuple #[])∧(fun (_:Nat) (b:World)=>Below w0.heap.size w0 b) (k + 1) c∧b.heap.size≤c.heap.size∧∀ i X,B≤i→Blk b i X→Blk c i X):=by
 intro k d b h _ _
 refine con_nBase.mono ?_
 rintro e w' ⟨rfl,rfl⟩
 exact ⟨rfl,h,Nat.le_refl _,fun _ _ _ h=>h⟩
set_option maxRecDepth 100000 in
theorem base_climb {a0 a1 a2 a3 a4 a5:Int} {w:World} (G:GlsC w) (fA:fits [a0,a1,a2,a3,a4,a5]) :
  Calls Tryz.prog 29 #[.agg #[.int .u64 a0,.int .u64 a1,.int .u64 a2,.int .u64 a3,.int .u64 a4,.int .u64 a5],.agg #[.int .u64 4203087948775033527,.int .u64 6125724927633205612,.int .u64 6482722621138151992,.int .u64 7934563412932533144,.int .u64 10282218360005504372,.int .u64 12288012358878168375,.int .u64 8809917716911230559,.int .u64 747793036959711645,.int .u64 16850834916486723776,.int .u64 17938995913990739068,.int .u64 6745997240412855337,.int .u64 3897828414440483951,.bool false],.func (.func 33) #[] #[]] w fun e w'=>∃ (s0 s1 s2 s3 s4 s5 t0 t1 t2 t3 t4 t5:Int) (k:Bool),e=.returned (.agg #[.int .u64 s0,.int .u64 s1,.int .u64 s2,.int .u64 s3,.int .u64 s4,.int .u64 s5,.int .u64 t0,.int .u64 t1,.int .u64 t2,.int .u64 t3,.int .u64 t4,.int .u64 t5,.bool k])∧Told (cmul (v64 [a0,a1,a2,a3,a4,a5]).toNat GG) [s0,s1,s2,s3,s4,s5] [t0,t1,t2,t3,t4,t5] k∧Below w.heap.size w w' :=
 con_climb (J:=fun _ b=>Below w.heap.size w b) (fun _ _=>rfl) (Below.refl _ _) (fun _ _ h=>GlsC.below G h) (fun _ _ _ h h2=>h.trans h2) quiet_base fA told_GC on_G
set_option maxRecDepth 100000 in
set_option maxHeartbeats 4000000 in
theorem con_Base {a0 a1 a2 a3 a4 a5:Int} {w:World} (G:GlsC w) (fA:fits [a0,a1,a2,a3,a4,a5]) :
    Calls Tryz.prog 12 #[.agg #[.int .u64 a0,.int .u64 a1,.int .u64 a2,.int .u64 a3,.int .u64 a4,.int .u64 a5]] w fun e w'=>∃ (s0 s1 s2 s3 s4 s5 t0 t1 t2 t3 t4 t5:Int) (k:Bool),e=.returned (.agg #[.int .u64 s0,.int .u64 s1,.int .u64 s2,.int .u64 s3,.int .u64 s4,.int .u64 s5,.int .u64 t0,.int .u64 t1,.int .u64 t2,.int .u64 t3,.int .u64 t4,.int .u64 t5,.bool k])∧Told (cmul (v64 [a0,a1,a2,a3,a4,a5]).toNat GG) [s0,s1,s2,s3,s4,s5] [t0,t1,t2,t3,t4,t5] k∧Below w.heap.size w w':=by
  have B0:=(Blk.new w [.int .u64 a0,.int .u64 a1,.int .u64 a2,.int .u64 a3,.int .u64 a4,.int .u64 a5] 24 (w.heap.size) rfl).alloc (.cells [.int .u64 0,.int .u64 0,.int .u64 0,.int .u64 0,.int .u64 0,.int .u64 0,.int .u64 0,.int .u64 0,.int .u64 0,.int .u64 0,.int .u64 0,.int .u64 0,.bool false].toArray 26)
  have B1:=Blk.new (w.alloc (.cells [.int .u64 a0,.int .u64 a1,.int .u64 a2,.int .u64 a3,.int .u64 a4,.int .u64 a5].toArray 24)) [.int .u64 0,.int .u64 0,.int .u64 0,.int .u64 0,.int .u64 0,.int .u64 0,.int .u64 0,.int .u64 0,.int .u64 0,.int .u64 0,.int .u64 0,.int .u64 0,.bool false] 26 (w.heap.size + 1) (by simp)
  have bel:Below w.heap.size w ((w.alloc (.cells [.int .u64 a0,.int .u64 a1,.int .u64 a2,.int .u64 a3,.int .u64 a4,.int .u64 a5].toArray 24)).alloc (.cells [.int .u64 0,.int .u64 0,.int .u64 0,.int .u64 0,.int .u64 0,.int .u64 0,.int .u64 0,.int .u64 0,.int .u64 0,.int .u64 0,.int .u64 0,.int .u64 0,.bool false].toArray 26)):=(((Below.refl _ _).alloc (Nat.le_refl _) _).alloc (by simp) _)
  go_enter Tryz.func12,Tryz.ntmps12
  go_upto_region 1 with fail
  try simp only [us,List.map_cons,List.map_nil] at bel
  generalize ((w.alloc (Obj.cells #[.int .u64 a0,.int .u64 a1,.int .u64 a2,.int .u64 a3,.int .u64 a4,.int .u64 a5] 24)).alloc (Obj.cells #[.int .u64 0,.int .u64 0,.int .u64 0,.int .u64 0,.int .u64 0,.int .u64 0,.int .u64 0,.int .u64 0,.int .u64 0,.int .u64 0,.int .u64 0,.int .u64 0,.bool false] 26))=W at *
  obtain ⟨S1,hS1,KL1,KA1,KD1,KS1,KQ1,KN1,KB1,KM1,KR1⟩:=held3 (w0:=w) (W:=W) [(w.heap.size,[.int .u64 a0,.int .u64 a1,.int .u64 a2,.int .u64 a3,.int .u64 a4,.int .u64 a5])] (by
    intro b X h
    simp only [List.mem_cons,List.not_mem_nil,or_false,Prod.mk.injEq] at h
    rcases h with ⟨rfl,rfl⟩
    · exact B0) bel
  have kb1a:∀ wx,Hd S1 wx→Blk wx (w.heap.size) [.int .u64 a0,.int .u64 a1,.int .u64 a2,.int .u64 a3,.int .u64 a4,.int .u64 a5]:=fun wx h=>KM1.out wx _ _ h (by simp)
  have c1a0:=rulec kb1a 0 _ rfl
  have c1a1:=rulec kb1a 1 _ rfl
  have c1a2:=rulec kb1a 2 _ rfl
  have c1a3:=rulec kb1a 3 _ rfl
  have c1a4:=rulec kb1a 4 _ rfl
  have c1a5:=rulec kb1a 5 _ rfl
  have c1al:=ruleb kb1a
  clear kb1a
  have mq1a:∀ c X,(c,X)∈[((w.heap.size:Nat),([.int .u64 a0,.int .u64 a1,.int .u64 a2,.int .u64 a3,.int .u64 a4,.int .u64 a5]:List Value))]→c≠w.heap.size + 1:=by
    intro c X h
    simp only [List.mem_cons,List.not_mem_nil,or_false,Prod.mk.injEq] at h
    omega
  have hN1:=bel.size
  clear bel B0
  go_region_held3 (Hd S1)
    (first
      | with_reducible exact (KQ1.out _ _ _ _ (KQ1.out _ _ _ _ (KQ1.out _ _ _ _ (KQ1.out _ _ _ _ (KQ1.out _ _ _ _ (KQ1.out _ _ _ _ (KQ1.out _ _ _ _ (KQ1.out _ _ _ _ (KQ1.out _ _ _ _ (KQ1.out _ _ _ _ (KQ1.out _ _ _ _ (KQ1.out _ _ _ _ (KQ1.out _ _ _ _ (by assumption) (Or.inr mq1a) (by omega)) (Or.inr mq1a) (by omega)) (Or.inr mq1a) (by omega)) (Or.inr mq1a) (by omega)) (Or.inr mq1a) (by omega)) (Or.inr mq1a) (by omega)) (Or.inr mq1a) (by omega)) (Or.inr mq1a) (by omega)) (Or.inr mq1a) (by omega)) (Or.inr mq1a) (by omega)) (Or.inr mq1a) (by omega)) (Or.inr mq1a) (by omega)) (Or.inr mq1a) (by omega))
      | with_reducible exact KL1.out _ _ (by assumption) hb
      | with_reducible exact KA1.out _ _ (by assumption)
      | with_reducible exact KS1.out _ _ _ (by omega) (by assumption)
      | with_reducible exact KD1.out _ hS1
      | with_reducible exact KD1.out _ (KA1.out _ _ hS1)
      | with_reducible assumption)
    (first
      | (go_at_call 32;go_fit (con_G (G.below (KB1.out _ (by first|with_reducible assumption|with_reducible exact KA1.out _ _ (by assumption)|with_reducible exact KD1.out _ (by assumption)))));rintro e w' ⟨rfl,hb⟩;(first|replace B1:=B1.later hb|replace B1:=B1.drew.later hb|skip))
      | (go_at_call 29;go_fit (base_climb (G.below (KB1.out _ (by first|with_reducible assumption|with_reducible exact KA1.out _ _ (by assumption)|with_reducible exact KD1.out _ (by assumption)))) fA);rintro e w' ⟨s0,s1,s2,s3,s4,s5,t0,t1,t2,t3,t4,t5,kk,rfl,TS,hb⟩;(first|replace B1:=B1.later hb|replace B1:=B1.drew.later hb|skip);have lt1:=B1.lt;have d0:=B1.cell 0 _ rfl;have g0:=B1.frozen 0;have d1:=B1.cell 1 _ rfl;have g1:=B1.frozen 1;have d2:=B1.cell 2 _ rfl;have g2:=B1.frozen 2;have d3:=B1.cell 3 _ rfl;have g3:=B1.frozen 3;have d4:=B1.cell 4 _ rfl;have g4:=B1.frozen 4;have d5:=B1.cell 5 _ rfl;have g5:=B1.frozen 5;have d6:=B1.cell 6 _ rfl;have g6:=B1.frozen 6;have d7:=B1.cell 7 _ rfl;have g7:=B1.frozen 7;have d8:=B1.cell 8 _ rfl;have g8:=B1.frozen 8;have d9:=B1.cell 9 _ rfl;have g9:=B1.frozen 9;have d10:=B1.cell 10 _ rfl;have g10:=B1.frozen 10;have d11:=B1.cell 11 _ rfl;have g11:=B1.frozen 11;have d12:=B1.cell 12 _ rfl;have g12:=B1.frozen 12))
  all_goals go_wp2
  all_goals exact bodyPost_ret (v:=.agg #[.int .u64 s0,.int .u64 s1,.int .u64 s2,.int .u64 s3,.int .u64 s4,.int .u64 s5,.int .u64 t0,.int .u64 t1,.int .u64 t2,.int .u64 t3,.int .u64 t4,.int .u64 t5,.bool kk]) (by simp [results,Tryz.results12,go_sem,d0,d1,d2,d3,d4,d5,d6,d7,d8,d9,d10,d11,d12]) rfl ⟨s0,s1,s2,s3,s4,s5,t0,t1,t2,t3,t4,t5,kk,rfl,TS,KB1.out _ (by assumption)⟩
set_option maxRecDepth 100000 in
theorem con_nMul {w:World} {d:Int} :
  Calls Tryz.prog 30 #[.int .i64 d] w fun e w'=>e=.returned (.tuple #[])∧w'=w:=by
 go_enter Tryz.func30,Tryz.ntmps30
 go_wp2
 exact bodyPost_end (v:=.tuple #[]) (by simp [results,Tryz.results30,go_sem]) rfl ⟨rfl,rfl⟩
theorem quiet_mul {w0:World} {B:Nat}:Hid (∀ (k:Nat) (d:Int) (b:World),(fun (_:Nat) (b:World)=>Below w0.heap.size w0 b) k b→k < 1152→d=((k % 3:Nat):Int) + 1→Calls Tryz.prog 30 #[.int .i64 d] b fun e c=>e=.returned (.tuple #[])∧(fun (_:Nat) (b:World)=>Below w0.heap.size w0 b) (k + 1) c∧b.heap.size≤c.heap.size∧∀ i X,B≤i→Blk b i X→Blk c i X):=by
 intro k d b h _ _
 refine con_nMul.mono ?_
 rintro e w' ⟨rfl,rfl⟩
 exact ⟨rfl,h,Nat.le_refl _,fun _ _ _ h=>h⟩
set_option maxRecDepth 100000 in
set_option maxHeartbeats 4000000 in
theorem con_Mul {a0 a1 a2 a3 a4 a5 x0 x1 x2 x3 x4 x5 y0 y1 y2 y3 y4 y5:Int} {n:Bool} {P:Pt} {w:World} (G:GlsC w) (fA:fits [a0,a1,a2,a3,a4,a5]) (t:Told P [x0,x1,x2,x3,x4,x5] [y0,y1,y2,y3,y4,y5] n) (hP:OnC P) :
  Calls Tryz.prog 10 #[.agg #[.int .u64 a0,.int .u64 a1,.int .u64 a2,.int .u64 a3,.int .u64 a4,.int .u64 a5],.agg #[.int .u64 x0,.int .u64 x1,.int .u64 x2,.int .u64 x3,.int .u64 x4,.int .u64 x5,.int .u64 y0,.int .u64 y1,.int .u64 y2,.int .u64 y3,.int .u64 y4,.int .u64 y5,.bool n]] w fun e w'=>∃ (s0 s1 s2 s3 s4 s5 t0 t1 t2 t3 t4 t5:Int) (k:Bool),e=.returned (.tuple #[.agg #[.int .u64 s0,.int .u64 s1,.int .u64 s2,.int .u64 s3,.int .u64 s4,.int .u64 s5,.int .u64 t0,.int .u64 t1,.int .u64 t2,.int .u64 t3,.int .u64 t4,.int .u64 t5,.bool k],.nilIface])∧Told (cmul (v64 [a0,a1,a2,a3,a4,a5]).toNat P) [s0,s1,s2,s3,s4,s5] [t0,t1,t2,t3,t4,t5] k∧Below w.heap.size w w':=by
 have fX:fits [x0,x1,x2,x3,x4,x5]:=t.fA
 have fY:fits [y0,y1,y2,y3,y4,y5]:=t.fB
 have HO:Hid _:=on_told t hP
 have B0:=((Blk.new w [.int .u64 a0,.int .u64 a1,.int .u64 a2,.int .u64 a3,.int .u64 a4,.int .u64 a5] 24 (w.heap.size) rfl).alloc (.cells [.int .u64 x0,.int .u64 x1,.int .u64 x2,.int .u64 x3,.int .u64 x4,.int .u64 x5,.int .u64 y0,.int .u64 y1,.int .u64 y2,.int .u64 y3,.int .u64 y4,.int .u64 y5,.bool n].toArray 26)).alloc (.cells [.int .u64 0,.int .u64 0,.int .u64 0,.int .u64 0,.int .u64 0,.int .u64 0,.int .u64 0,.int .u64 0,.int .u64 0,.int .u64 0,.int .u64 0,.int .u64 0,.bool false].toArray 26)
 have B1:=(Blk.new (w.alloc (.cells [.int .u64 a0,.int .u64 a1,.int .u64 a2,.int .u64 a3,.int .u64 a4,.int .u64 a5].toArray 24)) [.int .u64 x0,.int .u64 x1,.int .u64 x2,.int .u64 x3,.int .u64 x4,.int .u64 x5,.int .u64 y0,.int .u64 y1,.int .u64 y2,.int .u64 y3,.int .u64 y4,.int .u64 y5,.bool n] 26 (w.heap.size + 1) (by simp)).alloc (.cells [.int .u64 0,.int .u64 0,.int .u64 0,.int .u64 0,.int .u64 0,.int .u64 0,.int .u64 0,.int .u64 0,.int .u64 0,.int .u64 0,.int .u64 0,.int .u64 0,.bool false].toArray 26)
 have B2:=Blk.new ((w.alloc (.cells [.int .u64 a0,.int .u64 a1,.int .u64 a2,.int .u64 a3,.int .u64 a4,.int .u64 a5].toArray 24)).alloc (.cells [.int .u64 x0,.int .u64 x1,.int .u64 x2,.int .u64 x3,.int .u64 x4,.int .u64 x5,.int .u64 y0,.int .u64 y1,.int .u64 y2,.int .u64 y3,.int .u64 y4,.int .u64 y5,.bool n].toArray 26)) [.int .u64 0,.int .u64 0,.int .u64 0,.int .u64 0,.int .u64 0,.int .u64 0,.int .u64 0,.int .u64 0,.int .u64 0,.int .u64 0,.int .u64 0,.int .u64 0,.bool false] 26 (w.heap.size + 1 + 1) (by simp)
 have bel:Below w.heap.size w (((w.alloc (.cells [.int .u64 a0,.int .u64 a1,.int .u64 a2,.int .u64 a3,.int .u64 a4,.int .u64 a5].toArray 24)).alloc (.cells [.int .u64 x0,.int .u64 x1,.int .u64 x2,.int .u64 x3,.int .u64 x4,.int .u64 x5,.int .u64 y0,.int .u64 y1,.int .u64 y2,.int .u64 y3,.int .u64 y4,.int .u64 y5,.bool n].toArray 26)).alloc (.cells [.int .u64 0,.int .u64 0,.int .u64 0,.int .u64 0,.int .u64 0,.int .u64 0,.int .u64 0,.int .u64 0,.int .u64 0,.int .u64 0,.int .u64 0,.int .u64 0,.bool false].toArray 26)):=((((Below.refl _ _).alloc (Nat.le_refl _) _).alloc (by simp) _).alloc (by simp;omega) _)
 go_enter Tryz.func10,Tryz.ntmps10
 go_upto_region 1 with fail
 try simp only [us,List.map_cons,List.map_nil] at bel
 generalize (((w.alloc (Obj.cells #[.int .u64 a0,.int .u64 a1,.int .u64 a2,.int .u64 a3,.int .u64 a4,.int .u64 a5] 24)).alloc (Obj.cells #[.int .u64 x0,.int .u64 x1,.int .u64 x2,.int .u64 x3,.int .u64 x4,.int .u64 x5,.int .u64 y0,.int .u64 y1,.int .u64 y2,.int .u64 y3,.int .u64 y4,.int .u64 y5,.bool n] 26)).alloc (Obj.cells #[.int .u64 0,.int .u64 0,.int .u64 0,.int .u64 0,.int .u64 0,.int .u64 0,.int .u64 0,.int .u64 0,.int .u64 0,.int .u64 0,.int .u64 0,.int .u64 0,.bool false] 26))=W at *
 have Bk:=B0
 have Bp:=B1
 have Br:=B2
 clear B0 B1 B2
 have ltp:=Bp.lt
 have cp0:=Bp.cell 0 _ rfl
 have cp1:=Bp.cell 1 _ rfl
 have cp2:=Bp.cell 2 _ rfl
 have cp3:=Bp.cell 3 _ rfl
 have cp4:=Bp.cell 4 _ rfl
 have cp5:=Bp.cell 5 _ rfl
 have cp6:=Bp.cell 6 _ rfl
 have cp7:=Bp.cell 7 _ rfl
 have cp8:=Bp.cell 8 _ rfl
 have cp9:=Bp.cell 9 _ rfl
 have cp10:=Bp.cell 10 _ rfl
 have cp11:=Bp.cell 11 _ rfl
 have cp12:=Bp.cell 12 _ rfl
 go_wp2_with fail
 refine (con_On (b:=true) (G.below bel) fX fY ⟨fun _=>HO.out,fun _=>rfl⟩).mono ?_
 rintro e w1 ⟨rfl,hb⟩
 clear ltp cp0 cp1 cp2 cp3 cp4 cp5 cp6 cp7 cp8 cp9 cp10 cp11 cp12
 replace Bk:=Bk.later hb
 replace Bp:=Bp.later hb
 replace Br:=Br.later hb
 replace bel:=below_step bel hb
 clear hb
 have ltk:=Bk.lt
 have ck0:=Bk.cell 0 _ rfl
 have ck1:=Bk.cell 1 _ rfl
 have ck2:=Bk.cell 2 _ rfl
 have ck3:=Bk.cell 3 _ rfl
 have ck4:=Bk.cell 4 _ rfl
 have ck5:=Bk.cell 5 _ rfl
 have ltp:=Bp.lt
 have cp0:=Bp.cell 0 _ rfl
 have cp1:=Bp.cell 1 _ rfl
 have cp2:=Bp.cell 2 _ rfl
 have cp3:=Bp.cell 3 _ rfl
 have cp4:=Bp.cell 4 _ rfl
 have cp5:=Bp.cell 5 _ rfl
 have cp6:=Bp.cell 6 _ rfl
 have cp7:=Bp.cell 7 _ rfl
 have cp8:=Bp.cell 8 _ rfl
 have cp9:=Bp.cell 9 _ rfl
 have cp10:=Bp.cell 10 _ rfl
 have cp11:=Bp.cell 11 _ rfl
 have cp12:=Bp.cell 12 _ rfl
 go_wp2_with fail
 refine (con_climb (J:=fun _ b=>Below w1.heap.size w1 b) (fun _ _=>rfl) (Below.refl _ _) (fun _ _ h=>GlsC.below (G.below bel) h) (fun _ _ _ h h2=>h.trans h2) quiet_mul fA t hP).mono ?_
 rintro e w2 ⟨s0,s1,s2,s3,s4,s5,t0,t1,t2,t3,t4,t5,kk,rfl,TS,hb⟩
 clear ltk ck0 ck1 ck2 ck3 ck4 ck5 ltp cp0 cp1 cp2 cp3 cp4 cp5 cp6 cp7 cp8 cp9 cp10 cp11 cp12
 replace Bk:=Bk.later hb
 replace Bp:=Bp.later hb
 replace Br:=Br.later hb
 replace bel:=below_step bel hb
 clear hb
 have ltr:=Br.lt
 have d0:=Br.cell 0 _ rfl;have g0:=Br.frozen 0;have d1:=Br.cell 1 _ rfl;have g1:=Br.frozen 1;have d2:=Br.cell 2 _ rfl;have g2:=Br.frozen 2;have d3:=Br.cell 3 _ rfl;have g3:=Br.frozen 3;have d4:=Br.cell 4 _ rfl;have g4:=Br.frozen 4;have d5:=Br.cell 5 _ rfl;have g5:=Br.frozen 5;have d6:=Br.cell 6 _ rfl;have g6:=Br.frozen 6;have d7:=Br.cell 7 _ rfl;have g7:=Br.frozen 7;have d8:=Br.cell 8 _ rfl;have g8:=Br.frozen 8;have d9:=Br.cell 9 _ rfl;have g9:=Br.frozen 9;have d10:=Br.cell 10 _ rfl;have g10:=Br.frozen 10;have d11:=Br.cell 11 _ rfl;have g11:=Br.frozen 11;have d12:=Br.cell 12 _ rfl;have g12:=Br.frozen 12
 go_wp2_with fail
 exact bodyPost_ret (v:=.tuple #[.agg #[.int .u64 s0,.int .u64 s1,.int .u64 s2,.int .u64 s3,.int .u64 s4,.int .u64 s5,.int .u64 t0,.int .u64 t1,.int .u64 t2,.int .u64 t3,.int .u64 t4,.int .u64 t5,.bool kk],.nilIface]) (by simp [results,Tryz.results10,go_sem,d0,d1,d2,d3,d4,d5,d6,d7,d8,d9,d10,d11,d12]) rfl ⟨s0,s1,s2,s3,s4,s5,t0,t1,t2,t3,t4,t5,kk,rfl,TS,below_put13 bel (by omega)⟩
theorem own_laterD {w w':World} {base:Nat} {e:TypeId} {v:Value} {n:Nat} {xs:List Value} (h:w.ownsRow base e 1 v n xs) (hb:Below w.heap.size w w'):w'.ownsRow base e 1 v n xs:=by
 obtain ⟨hl,h⟩:=h
 rcases h with h|⟨g,cap,cur,h1,h2,h3,h4⟩
 ·exact ⟨hl,.inl h⟩
 ·exact ⟨hl,.inr ⟨g,cap,cur,h1,h2,by rw [hb.block g (Array.getElem?_eq_some_iff.1 h3).1];exact h3,h4⟩⟩
theorem own_geD {w:World} {base:Nat} {e:TypeId} {v:Value} {n:Nat} {xs:List Value} {j:Nat} (h:w.ownsRow base e 1 v n xs) (hj:v.ownBlock=some j):base≤j:=by
 rcases h.2 with ⟨h1,_⟩|⟨g,c,cur,h1,h2,_⟩
 ·rw [h1] at hj;simp [Value.ownBlock] at hj
 ·rw [h1] at hj;simp [Value.ownBlock] at hj;omega
theorem own_later6 {w:World} {base:Nat} {e:TypeId} {v:Value} {n:Nat} {xs:List Value} {o:Obj} (h:w.ownsRow base e 1 v n xs):(w.alloc o).ownsRow base e 1 v n xs:=own_laterD h ((Below.refl _ _).alloc (Nat.le_refl _) o)
theorem uMulP {cs ps:List Value} {x:Int} {P:Pt} {w:World} (G:GlsC w) (h:U6 cs x) (k:P13 ps P) (hP:OnC P):Calls Tryz.prog 10 #[.agg cs.toArray,.agg ps.toArray] w fun e w'=>∃ es,e=.returned (.tuple #[.agg es.toArray,.nilIface])∧P13 es (cmul x.toNat P)∧Below w.heap.size w w':=by
 obtain ⟨z0,z1,z2,z3,z4,z5,rfl,hf,rfl⟩:=h
 obtain ⟨s0,s1,s2,s3,s4,s5,t0,t1,t2,t3,t4,t5,n,rfl,T⟩:=k
 refine (con_Mul G hf T hP).mono ?_
 rintro e w' ⟨p0,p1,p2,p3,p4,p5,q0,q1,q2,q3,q4,q5,m,rfl,U,hb⟩
 exact ⟨_,rfl,⟨p0,p1,p2,p3,p4,p5,q0,q1,q2,q3,q4,q5,m,rfl,U⟩,hb⟩
set_option linter.unusedSimpArgs false in
set_option maxRecDepth 100000 in
set_option maxHeartbeats 2000000 in
theorem c15_sealing {v:Value} {ds cs:List Value} {p:List Int} {X Y d:Int} {w:World} (G:GlsX w) (hv:Bs w v p) (bp:byt p) (lp:p.length≤20000) (hd:U6 ds d) (hs:isSc d) (hc:P13R cs X Y false) (hA:Aff X Y) :
  Calls Tryz.prog 21 #[v,.agg ds.toArray,.agg cs.toArray] w fun e w'=>∃ v1 v2 O,e=.returned (.tuple #[v1,v2,.nilIface])∧KeyIs p (xOf (cmul d.toNat (some (X,Y)))) O∧Bs w' v1 (O.take 32)∧Bs w' v2 (O.drop 32)∧Below w.heap.size w w':=by
 have HG:Hid (GlsX w):=G
 have HC:Hid (P13R cs X Y false):=hc
 have HD:Hid (U6 ds d):=hd
 have HSc:Hid (isSc d):=hs
 have HA:Hid (Aff X Y):=hA
 have HLc:Hid (cs.length=13):=hc.len
 have HLd:Hid (ds.length=6):=hd.len
 have HB:Hid (byt p):=bp
 have HV:Hid (Bs w v p):=hv
 have HLp:Hid (p.length≤20000):=lp
 obtain ⟨ao,cap,rfl,h1,h2,h3⟩:=hv
 clear G hc hd hs hA bp h1 h2 h3 lp
 have D0:=(Blk.new w ds 24 w.heap.size rfl).alloc (.cells cs.toArray 26)
 have C0:=Blk.new (w.alloc (.cells ds.toArray 24)) cs 26 (w.heap.size + 1) (by simp)
 have bel:Below w.heap.size w ((w.alloc (.cells ds.toArray 24)).alloc (.cells cs.toArray 26)):=((Below.refl _ _).alloc (Nat.le_refl _) _).alloc (by simp) _
 go_enter Tryz.func21,Tryz.ntmps21
 go_upto_region 1 with fail
 generalize (w.alloc (.cells ds.toArray 24)).alloc (.cells cs.toArray 26)=W at *
 have l0:=D0.lt
 have l1:=C0.lt
 go_wp2_with (first|(refine wpList_load_run (by rfl) (by rfl) (by rfl) (D0.load Tryz.underlying24 rfl size_u HLd.out) ?_)|(refine wpList_load_run (by rfl) (by rfl) (by rfl) (C0.load Tryz.underlying26 rfl size_p HLc.out) ?_)|fail)
 refine (uMulP (HG.out.below bel).1 HD.out HC.out.told HA.out).mono ?_
 rintro e w1 ⟨es,rfl,hp,hb⟩
 clear l0 l1
 obtain ⟨OX,OY,hPP⟩:∃ a b,cmul d.toNat (some (X,Y))=some (a,b):=by
  cases hq:cmul d.toNat (some (X,Y)) with
  | none=>exact absurd hq (every_some HA.out HSc.out)
  | some p=>exact ⟨p.1,p.2,rfl⟩
 have HOX:Hid (xOf (cmul d.toNat (some (X,Y)))=OX):=by show _=_;rw [hPP];rfl
 have HAf:Hid (Aff OX OY):=by have h:=on_cmul (P:=some (X,Y)) HA.out d.toNat;rw [hPP] at h;exact h
 rw [hPP] at hp
 have HP:Hid (P13 es (some (OX,OY))):=hp
 clear hp hPP D0 C0
 replace bel:=below_step bel hb
 clear hb
 have HLo:Hid (es.length=13):=HP.out.len
 have HSo:Hid (es.toArray.size=13):=by show _=_;rw [List.size_toArray];exact HLo.out
 have HOo:Hid (OneR es):=HP.out.rawS.ones
 replace bel:=below_alloc (o:=.cells es.toArray 26) bel
 have Bo:=Blk.new w1 es 26 w1.heap.size rfl
 have hz:=zero_p.out
 go_upto_region 2 with (first|(refine wpList_store_row rfl 26 _ _ rfl w1.heap.size es.toArray rfl rfl 26 _ (heap_alloc_last _ _) (by rw [size_p,HSo.out]) (by rw [HSo.out];rfl) HOo.out ?_;rw [World.setRow_alloc_new])|fail)
 clear hz
 obtain ⟨go,hgo⟩:∃ g,g=w1.heap.size:=⟨_,rfl⟩
 rw [← hgo] at Bo
 generalize w1.alloc (.cells es.toArray 26)=Vo at *
 rw [← hgo]
 clear hgo
 have q3:=ne_nilX
 have l0:=Bo.lt
 go_wp2_with (first|(refine wpList_load_run (by rfl) (by rfl) (by rfl) (Bo.load Tryz.underlying26 rfl size_p HLo.out) ?_)|fail)
 refine (uEnc (HG.out.below bel).1 HP.out HAf.out).mono ?_
 rintro e w2 ⟨pv,p2,rfl,hpv,hpe,hb⟩
 clear l0 Bo
 replace bel:=below_step bel hb
 clear hb
 have hl97:=hpe.ln
 obtain ⟨xb,HX,hdt⟩:∃ xb,Hid (B48 xb OX)∧Hid ((p2.drop 1).take 48=xb):=by
  obtain ⟨X',Y',XB,YB,e,u1,u2,rfl⟩:=hpe
  simp only [Option.some.injEq,Prod.mk.injEq] at e
  obtain ⟨rfl,rfl⟩:=e
  refine ⟨XB,u1,?_⟩
  show _=_
  rw [List.drop_succ_cons,List.drop_zero,List.take_append_of_le_length (by rw [u1.1];omega),List.take_of_length_le (by rw [u1.1];omega)]
 have HPv:Hid (Bs w2 pv p2):=hpv
 obtain ⟨pa,pc,rfl,-,hpc,h5⟩:=hpv
 obtain ⟨pb,po,rfl,-,-⟩:=h5 (by omega)
 have HBx:Hid (Bs w2 (.slice (some ⟨pb,po + 1,none⟩) 48 (pc - 1)) xb):=by
  rw [← hdt.out]
  exact bs_uptoC (bs_dropC HPv.out rfl (by omega)) (by rw [List.length_drop]) (by omega)
 obtain ⟨m,hm97⟩:∃ m,p2.length=m:=⟨_,rfl⟩
 rw [hm97] at hl97 hpc ⊢
 subst hl97
 clear h5 hpe HPv hm97 hdt
 have g0:¬ pc=1:=by omega
 have g1:(49:Int)≤(pc:Int):=by omega
 have g2:49≤pc:=by omega
 have g3:¬ pc - 1=0:=by omega
 go_wp2_with fail
 refine (con_Extract (HG.out.below bel).2.2 (HV.out.later bel) HB.out HLp.out HBx.out HX.out.2.1 (by rw [HX.out.1];omega)).mono ?_
 rintro e w3 ⟨v2,rfl,⟨prk,hm,hb2⟩,hb⟩
 have HM:Hid (HmacIs p xb prk):=hm
 have HB2:Hid (Bs w3 v2 prk):=hb2
 obtain ⟨a2,c2,rfl,-,-,-⟩:=hb2
 clear hm HBx
 replace bel:=below_step bel hb
 clear hb
 have HBw:Hid (Bs (w3.alloc (.cells #[.int .u8 119,.int .u8 114,.int .u8 97,.int .u8 112] 5 (4,5))) (.slice (some ⟨w3.heap.size,0,none⟩) 4 4) wrapB):=bs_constX w3 wrapB 4 rfl (by decide) (4,5)
 have q8:=Lib.run_convert_bytes_const (P:=Tryz.prog) w3 27 5 #[.int .u8 119,.int .u8 114,.int .u8 97,.int .u8 112] 4 4 Tryz.underlying27 Tryz.underlying5
 have belw:=below_alloc (o:=.cells #[.int .u8 119,.int .u8 114,.int .u8 97,.int .u8 112] 5 (4,5)) bel
 have HB2w:Hid (Bs (w3.alloc (.cells #[.int .u8 119,.int .u8 114,.int .u8 97,.int .u8 112] 5 (4,5))) (.slice a2 prk.length c2) prk):=HB2.out.later ((Below.refl _ _).alloc (Nat.le_refl _) _)
 clear bel HB2
 go_wp2_with fail
 clear q8
 refine (con_Expand (n:=44) (HG.out.below belw).2.2 HB2w.out HM.out.byt (by rw [HM.out.ln];omega) HBw.out (by intro j;unfold wrapB;match j with|0=>decide|1=>decide|2=>decide|3=>decide|j + 4=>simp) (by decide) (by omega)).mono ?_
 rintro e w4 ⟨v3,rfl,⟨O,hm,hb3⟩,hb⟩
 have HK:Hid (KeyIs p (xOf (cmul d.toNat (some (X,Y)))) O):=⟨xb,prk,by rw [HOX.out];exact HX.out,HM.out,hm⟩
 have HB3:Hid (Bs w4 v3 O):=hb3
 have hln:=HK.out.ln
 obtain ⟨a3,c3,rfl,-,hc3,h5⟩:=hb3
 obtain ⟨b3,o3,rfl,-,-⟩:=h5 (by omega)
 replace belw:=below_step belw hb
 have HT:Hid (Bs w4 (.slice (some ⟨b3,o3,none⟩) 32 c3) (O.take 32)):=bs_uptoC HB3.out rfl (by omega)
 have HDr:Hid (Bs w4 (.slice (some ⟨b3,o3 + 32,none⟩) (O.length - 32) (c3 - 32)) (O.drop 32)):=bs_dropC HB3.out rfl (by omega)
 obtain ⟨m,hm44⟩:∃ m,O.length=m:=⟨_,rfl⟩
 rw [hm44] at HDr hln hc3 ⊢
 subst hln
 clear hb hm h5 HB2w HBw g0 g1 g2 g3 hm44
 have q3:=ne_nilX
 have g1:¬ c3=32:=by omega
 go_upto_region 11 with fail
 go_quiet (fail)
 go_wp2_with fail
 refine bodyPost_ret (results_tmp3 rfl _ _ _) rfl ?_
 exact ⟨_,_,O,rfl,HK.out,bs_drN HT.out _,bs_drN HDr.out _,below_dN belw _⟩
end Go.Proofs.YtlkljfnenonfgaaGreatDoor
