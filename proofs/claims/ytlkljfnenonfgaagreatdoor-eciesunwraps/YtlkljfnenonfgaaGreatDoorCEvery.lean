/- Signatures as numbers: what was signed holds. Plain facts. What was signed holds, in the words of the program's answers. Plain facts. Every point of the curve is a multiple of the base point: there are not so many places for more (3 N of them would be more than 2 P + 1), and no point has the order 2. So no point but the one at infinity is nothing, taken fewer than N times. Plain facts. -/
import Derived.Test.YtlkljfnenonfgaaGreatDoorCNum
import Derived.Test.YtlkljfnenonfgaaGreatDoorEdG
namespace Go.Proofs.YtlkljfnenonfgaaGreatDoor
/-- the order of the base point -/
def OrdN:Nat:=39402006196394479212279040100143613805079739270465446667946905279627659399113263569398956308152294913554433653942643
theorem ord_G:cmul OrdN GG=none:=ord_none
theorem cmul_times (q:Nat):cmul (q * OrdN) GG=none:=by rw [cmul_mul on_G,ord_G,cmul_none]
/-- multiples of the base point go by the order -/
theorem cmul_cong {m n:Nat} (h:(OrdN:Int) ∣ (m:Int) - (n:Int)):cmul m GG=cmul n GG:=by
 have key:∀ {a b:Nat},b≤a→(OrdN:Int) ∣ (a:Int) - (b:Int)→cmul a GG=cmul b GG:=by
  intro a b hab hd
  obtain ⟨c,hc⟩:=hd
  have h0:0 < (OrdN:Int):=by decide
  have hc0:0≤c:=by
   rcases Int.lt_or_le c 0 with k|k
   ·have h1:(OrdN:Int) * c < 0:=Int.mul_neg_of_pos_of_neg h0 k
    omega
   ·exact k
  obtain ⟨q,rfl⟩:=Int.eq_ofNat_of_zero_le hc0
  have e:a=q * OrdN + b:=by
   have h2:((a:Nat):Int)=((q * OrdN + b:Nat):Int):=by
    rw [Int.natCast_add,Int.natCast_mul,Int.mul_comm]
    omega
   exact Int.ofNat_inj.1 h2
  rw [e,cmul_add on_G,cmul_times,none_cadd]
 rcases Nat.le_total n m with k|k
 ·exact key k h
 ·refine (key k ?_).symm
  obtain ⟨c,hc⟩:=h
  exact ⟨-c,by rw [Int.mul_neg,← hc];omega⟩
/-- a sum that is nothing: one is the opposite of the other -/
theorem opp_of {P Q:Pt} (hP:OnC P) (hQ:OnC Q) (h:cadd P Q=none):P=cneg Q:=by
 have:=cancel hP hQ
 rw [h,none_cadd] at this
 exact this.symm
/-- no smaller multiple is nothing -/
theorem cmul_some {k j:Nat} (h:(OrdN:Int) ∣ (j:Int) * k - 1):cmul k GG≠none:=fun e=>by
 have h1:cmul (j * k) GG=cmul 1 GG:=cmul_cong (by rw [Int.natCast_mul];exact h)
 rw [cmul_mul on_G,e,cmul_none,cmul_one] at h1
 cases h1
theorem ord_QQ:((OrdN:Nat):Int)=QQ:=by decide
theorem dvd_rest (A:Int):QQ ∣ A % QQ - A:=⟨-(A / QQ),by
 have:=Int.emod_add_mul_ediv A QQ
 generalize QQ=q at *
 rw [Int.mul_neg]
 omega⟩
theorem rest_bd (A:Int):0≤A % QQ∧A % QQ < QQ:=⟨Int.emod_nonneg _ (by decide),Int.emod_lt_of_pos _ (by decide)⟩
theorem InvO.bd {x z:Int} (h:InvO x z):0≤z∧z < QQ:=by
 unfold InvO OutO at h
 rw [h]
 exact rest_bd _
/-- it is 1 over it -/
theorem InvO.mul {x z:Int} (hx:isSc x) (h:InvO x z):QQ ∣ x * z - 1:=by
 have h1:=(oout_inv (by have:=hx.1;omega) h).2 (by rw [Int.emod_eq_of_lt (by have:=hx.1;omega) hx.2];have:=hx.1;omega)
 have h2:=dvd_rest (x * z)
 rw [h1] at h2
 obtain ⟨c,hc⟩:=h2
 exact ⟨-c,by rw [Int.mul_neg,← hc];omega⟩
theorem base_some {k:Int} (hk:isSc k):cmul k.toNat GG≠none:=by
 obtain ⟨i,hi⟩:∃ i,InvO k i:=⟨_,rfl⟩
 have h1:=InvO.mul hk hi
 have h2:=hi.bd.1
 have h3:=hk.1
 refine cmul_some (j:=i.toNat) ?_
 rw [ord_QQ,Int.toNat_of_nonneg h2,Int.toNat_of_nonneg (by omega),Int.mul_comm]
 exact h1
/-- of more things than places two share one -/
theorem pigeon:∀ (m:Nat) (f:Nat→Nat),(∀ i,i≤m→f i < m)→∃ i j,i < j∧j≤m∧f i=f j
 | 0,_,h=>absurd (h 0 (Nat.le_refl _)) (Nat.not_lt_zero _)
 | m + 1,f,h=>by
  by_cases c:∃ i,i≤m∧f i=f (m + 1)
  ·obtain ⟨i,hi,e⟩:=c
   exact ⟨i,m + 1,by omega,Nat.le_refl _,e⟩
  ·have hne:∀ i,i≤m→f i≠f (m + 1):=fun i hi e=>c ⟨i,hi,e⟩
   obtain ⟨i,j,h1,h2,h3⟩:=pigeon m (fun i=>if f i=m then f (m + 1) else f i) (fun i hi=>by
    have a:=h i (by omega)
    have b:=h (m + 1) (Nat.le_refl _)
    have d:=hne i hi
    show (if f i=m then f (m + 1) else f i) < m
    split<;>omega)
   refine ⟨i,j,h1,by omega,?_⟩
   have d1:=hne i (by omega)
   have d2:=hne j (by omega)
   have h3':(if f i=m then f (m + 1) else f i)=(if f j=m then f (m + 1) else f j):=h3
   split at h3'<;>split at h3'<;>omega
/-- a place of its own for each point -/
def codeP:Pt→Nat
 | none=>(2 * PP).toNat
 | some p=>(2 * p.1 + p.2 % 2).toNat
theorem codeP_lt {P:Pt} (h:OnC P):codeP P < (2 * PP + 1).toNat:=by
 have o:=PP_pos
 cases P with
 | none =>
  show (2 * PP).toNat < _
  generalize PP=p at *
  omega
 | some p =>
  have l:=Aff.lx h
  unfold Lo at l
  unfold codeP
  simp only
  generalize PP=q at *
  omega
theorem nu_sum {a b:Int} (ha:Lo a) (hb:Lo b) (h:Nu (a + b)):a + b=0∨a + b=PP:=by
 obtain ⟨c,hc⟩:=h
 unfold Lo at ha hb
 have o:=PP_pos
 generalize PP=p at *
 have h0:0≤c:=by
  rcases Int.lt_or_le c 0 with k|k
  ·have:=Int.mul_neg_of_pos_of_neg o k
   omega
  ·exact k
 have h2:c < 2:=by
  rcases Int.lt_or_le c 2 with k|k
  ·exact k
  ·have:=Int.mul_le_mul_of_nonneg_left k (Int.le_of_lt o)
   omega
 have:c=0∨c=1:=by omega
 rcases this with rfl|rfl
 ·left;rw [hc,Int.mul_zero]
 ·right;rw [hc,Int.mul_one]
theorem codeP_inj {P Q:Pt} (h:OnC P) (k:OnC Q) (e:codeP P=codeP Q):P=Q:=by
 have o:=PP_pos
 cases P with
 | none =>
  cases Q with
  | none=>rfl
  | some q =>
   have l:=Aff.lx k
   unfold Lo at l
   unfold codeP at e
   simp only at e
   generalize PP=p at *
   omega
 | some p =>
  have l:=Aff.lx h
  cases Q with
  | none =>
   unfold Lo at l
   unfold codeP at e
   simp only at e
   generalize PP=p at *
   omega
  | some q =>
   have l2:=Aff.lx k
   obtain ⟨x,y⟩:=p
   obtain ⟨u,v⟩:=q
   have hy:=Aff.ly h
   have hv:=Aff.ly k
   have c1:=Aff.cu h
   have c2:=Aff.cu k
   simp only at hy hv c1 c2 l l2
   have e2:x=u∧y % 2=v % 2:=by
    unfold Lo at l l2
    unfold codeP at e
    simp only at e
    generalize PP=p at *
    omega
   obtain ⟨rfl,e3⟩:=e2
   have hn:Nu ((y - v) * (y + v)):=nu_of2 c1 1 c2 (-1) (by grind)
   rcases hn.split with hd|hs
   ·rw [hy.eq hv hd]
   ·have od:=PP_odd
    have:=nu_sum hy hv hs
    unfold Lo at hy hv
    have e4:y=v:=by
     generalize PP=p at *
     omega
    rw [e4]
theorem no_order2 {Q:Pt} (h:OnC Q) (e:cadd Q Q=none):Q=none:=by
 cases Q with
 | none=>rfl
 | some p =>
  exfalso
  by_cases c:p.1=p.1∧(p.2 + p.2) % PP=0
  ·have h1:Nu (p.2 + p.2):=nu_iff.2 c.2
   have h2:Nu p.2:=(Nu.to h1 (show p.2 * 2=p.2 + p.2 by omega)).left nu_two
   exact no_two (Aff.lx h).1 (nu_of2 h2 p.2 (Aff.cu h) (-1) (by grind))
  ·have h1:cadd (some p) (some p)≠none:=by
    show (if p.1=p.1∧(p.2 + p.2) % PP=0 then none else _)≠none
    rw [if_neg c]
    exact Option.some_ne_none _
   exact h1 e
/-- multiples below the order are apart -/
theorem base_inj {a b:Nat} (ha:a < OrdN) (hb:b < OrdN) (e:cmul a GG=cmul b GG):a=b:=by
 have key:∀ {a b:Nat},a < OrdN→a≤b→b < OrdN→cmul a GG=cmul b GG→a=b:=by
  intro a b ha hab hb e
  rcases Nat.eq_or_lt_of_le hab with h|h
  ·exact h
  ·exfalso
   have h1:cmul (b - a) GG=none:=by rw [cmul_sub on_G hab,e,add_neg]
   have h2:isSc ((b - a:Nat):Int):=⟨by omega,by rw [← ord_QQ];omega⟩
   exact base_some h2 h1
 rcases Nat.le_total a b with h|h
 ·exact key ha h hb e
 ·exact (key hb h ha e.symm).symm
/-- from sums that are one: so many times less -/
theorem diff_of {A B C D:Pt} (hA:OnC A) (hB:OnC B) (hC:OnC C) (hD:OnC D) (e:cadd A B=cadd C (cadd B D)):D=cadd A (cneg C):=by
 have h1:cadd A B=cadd (cadd C D) B:=by rw [e,add_comm' hB hD,assoc hC hD hB]
 have h2:A=cadd C D:=by
  have:=cancel hA hB
  rw [h1,cancel (on_add hC hD) hB] at this
  exact this.symm
 rw [h2,add_comm' hC hD,cancel hD hC]
theorem many:(2 * PP + 1).toNat < 3 * OrdN:=by decide +kernel
theorem ord_pos:0 < OrdN:=by decide +kernel
theorem ord_odd:OrdN % 2=1:=by decide +kernel
/-- every point is a multiple of the base point -/
theorem in_base {P:Pt} (hP:OnC P):∃ n:Nat,P=cmul n GG:=by
 obtain ⟨i,j,hij,hj,e⟩:=pigeon (2 * PP + 1).toNat (fun n=>codeP (cadd (cmul (n % OrdN) GG) (cmul (n / OrdN) P))) (fun n _=>codeP_lt (on_add (on_cmul on_G _) (on_cmul hP _)))
 have e1:=codeP_inj (on_add (on_cmul on_G _) (on_cmul hP _)) (on_add (on_cmul on_G _) (on_cmul hP _)) e
 have hj3:j < OrdN * 3:=by have:=many;rw [Nat.mul_comm];omega
 have hjd:j / OrdN < 3:=Nat.div_lt_of_lt_mul hj3
 have hle:i / OrdN≤j / OrdN:=Nat.div_le_div_right (by omega)
 have ha:=Nat.mod_lt i ord_pos
 have hb:=Nat.mod_lt j ord_pos
 have ei:=Nat.div_add_mod i OrdN
 have ej:=Nat.div_add_mod j OrdN
 generalize i % OrdN=a at *
 generalize j % OrdN=b at *
 generalize i / OrdN=s at *
 generalize j / OrdN=t at *
 clear e
 rcases Nat.eq_or_lt_of_le hle with h|h
 ·exfalso
  subst h
  have e2:cmul a GG=cmul b GG:=by
   have h1:=cancel (on_cmul on_G a) (on_cmul hP s)
   rw [e1,cancel (on_cmul on_G b) (on_cmul hP s)] at h1
   exact h1.symm
  have e3:=base_inj ha hb e2
  omega
 ·obtain ⟨r,hr⟩:∃ r,t=s + r:=⟨t - s,by omega⟩
  subst hr
  rw [cmul_add hP] at e1
  have e2:=diff_of (on_cmul on_G a) (on_cmul hP s) (on_cmul on_G b) (on_cmul hP r) e1
  have e3:cmul r P=cmul (a + (OrdN - b)) GG:=by
   rw [e2,cmul_add on_G,cmul_sub on_G (Nat.le_of_lt hb),ord_G,none_cadd]
  have hr:r=1∨r=2:=by omega
  rcases hr with rfl|rfl
  ·exact ⟨_,e3⟩
  ·generalize a + (OrdN - b)=c at *
   have o:=ord_odd
   obtain ⟨m,hm⟩:∃ m,OrdN + 1=2 * m:=⟨(OrdN + 1) / 2,by omega⟩
   have hH:OnC (cmul (m * c) GG):=on_cmul on_G _
   have e4:cadd (cmul (m * c) GG) (cmul (m * c) GG)=cmul c GG:=by
    rw [← cmul_add on_G]
    apply cmul_cong
    refine ⟨(c:Int),?_⟩
    have hm':((OrdN:Nat):Int) + 1=2 * (m:Int):=by omega
    rw [Int.natCast_add,Int.natCast_mul]
    generalize ((OrdN:Nat):Int)=N at *
    have:N=2 * (m:Int) - 1:=by omega
    rw [this]
    grind
   have e5:cadd P P=cmul c GG:=e3
   refine ⟨m * c,?_⟩
   generalize cmul (m * c) GG=H at *
   have q:cadd (cadd P (cneg H)) (cadd P (cneg H))=none:=by
    rw [four hP (on_neg hH) hP (on_neg hH),e5,← neg_add hH hH,e4,add_neg]
   have q2:=no_order2 (on_add hP (on_neg hH)) q
   have q3:=opp_of hP (on_neg hH) q2
   rw [q3,neg_neg hH]
/-- no point is nothing, taken fewer than N times -/
theorem every_some {X Y d:Int} (hA:Aff X Y) (hd:isSc d):cmul d.toNat (some (X,Y))≠none:=fun e=>by
 have hP:OnC (some (X,Y)):=hA
 obtain ⟨n,hn⟩:=in_base hP
 obtain ⟨i,hi⟩:∃ i,InvO d i:=⟨_,rfl⟩
 have h1:=InvO.mul hd hi
 have h2:=hi.bd.1
 have h3:=hd.1
 rw [hn,← cmul_mul on_G] at e
 have h4:cmul (i.toNat * (d.toNat * n)) GG=cmul n GG:=by
  apply cmul_cong
  obtain ⟨c,hc⟩:=h1
  refine ⟨c * n,?_⟩
  rw [Int.natCast_mul,Int.natCast_mul,Int.toNat_of_nonneg h2,Int.toNat_of_nonneg (by omega),ord_QQ]
  generalize QQ=q at *
  have:d * i=q * c + 1:=by omega
  grind
 rw [cmul_mul on_G,e,cmul_none] at h4
 rw [← hn] at h4
 cases h4
end Go.Proofs.YtlkljfnenonfgaaGreatDoor
