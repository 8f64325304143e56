/- Primes, in plain numbers: Fermat's little theorem, Euclid's lemma, and Pocklington's test, with a reckoning of powers that the kernel carries out. -/
import Derived.Test.YtnkipgbnnhahbaaNum
namespace Go.Proofs.Ytnkipgbnnhahbaa
/-- a prime -/
def Pr (p:Nat):Prop:=1 < p∧∀ d,d ∣ p→d=1∨d=p
theorem Pr.cop {p a:Nat} (h:Pr p) (ha:¬ p ∣ a):Nat.Coprime p a:=by
 rcases h.2 (Nat.gcd p a) (Nat.gcd_dvd_left p a) with h1|h1
 ·exact h1
 ·exact absurd (h1 ▸ Nat.gcd_dvd_right p a) ha
theorem Pr.split {p a b:Nat} (h:Pr p) (hd:p ∣ a * b):p ∣ a∨p ∣ b:=by
 by_cases ha:p ∣ a
 ·exact .inl ha
 ·exact .inr ((h.cop ha).dvd_of_dvd_mul_left hd)
/-- fewer places than things: two in one -/
theorem sub_len:∀ (l m:List Nat),l.Nodup→(∀ x,x∈l→x∈m)→l.length≤m.length
 | [],_,_,_=>by simp
 | a :: l,m,hn,hs=>by
  have ha:a∈m:=hs a (by simp)
  have hn':=List.nodup_cons.1 hn
  have:=sub_len l (m.erase a) hn'.2 (fun x hx=>(List.mem_erase_of_ne (show x≠a from fun e=>hn'.1 (by rw [← e];exact hx))).2 (hs x (by simp [hx])))
  have hl:=List.length_erase_of_mem ha
  have hp:0 < m.length:=List.length_pos_of_mem ha
  simp only [List.length_cons]
  omega
/-! ### Pocklington -/
theorem pow_one_mod {b s m k:Nat} (hs:1 < s) (h:b ^ m % s=1):b ^ (m * k) % s=1:=by
 rw [Nat.pow_mul,Nat.pow_mod,h,Nat.one_pow,Nat.mod_eq_of_lt hs]
theorem pow_gcd {b s:Nat} (hs:1 < s) (m n:Nat):b ^ m % s=1→b ^ n % s=1→b ^ Nat.gcd m n % s=1:=by
 induction m,n using Nat.gcd.induction with
 | H0 n=>intro _ h;rw [Nat.gcd_zero_left];exact h
 | H1 m n hm ih =>
  intro h1 h2
  rw [Nat.gcd_rec]
  refine ih ?_ h1
  have e:n=m * (n / m) + n % m:=(Nat.div_add_mod n m).symm
  rw [e,Nat.pow_add,Nat.mul_mod,pow_one_mod hs h1,Nat.one_mul,Nat.mod_mod] at h2
  exact h2
theorem count_pow {b s F:Nat} (hs:1 < s) (hF:b ^ F % s=1) (hk:∀ k,0 < k→k < F→b ^ k % s≠1):F≤s:=by
 have nd:((List.range F).map fun i=>b ^ i % s).Nodup:=by
  refine List.pairwise_map.2 ?_
  refine List.Pairwise.imp_of_mem ?_ List.pairwise_lt_range
  intro i j hi hj hij he
  have hj':=List.mem_range.1 hj
  refine hk (j - i) (by omega) (by omega) ?_
  have e1:(b ^ (F - i) * b ^ i) % s=1:=by rw [← Nat.pow_add,show F - i + i=F by omega];exact hF
  have e2:(b ^ (F - i) * b ^ j) % s=1:=by rw [Nat.mul_mod,← he,← Nat.mul_mod];exact e1
  rw [← Nat.pow_add,show F - i + j=F + (j - i) by omega,Nat.pow_add,Nat.mul_mod,hF,Nat.one_mul,Nat.mod_mod] at e2
  exact e2
 have:=sub_len _ (List.range s) nd (fun x hx=>by
  obtain ⟨i,_,rfl⟩:=List.mem_map.1 hx
  exact List.mem_range.2 (Nat.mod_lt _ (by omega)))
 simpa using this
theorem part_of:∀ (rs:List Nat) (t:Nat),(∀ r,r∈rs→Pr r)→t ∣ rs.prod→(∀ r,r∈rs→¬ r ∣ t)→t=1
 | [],t,_,hd,_=>by
  rw [List.prod_nil] at hd
  exact Nat.dvd_one.1 hd
 | r :: rs,t,hp,hd,hn=>by
  rw [List.prod_cons] at hd
  have hc:Nat.Coprime t r:=((hp r (by simp)).cop (hn r (by simp))).symm
  exact part_of rs t (fun x hx=>hp x (by simp [hx])) (hc.dvd_of_dvd_mul_left hd) (fun x hx=>hn x (by simp [hx]))
theorem pock (n F R a:Nat) (rs:List Nat) (h1:n=F * R + 1) (hn:1 < n) (hF:rs.prod=F) (hr:∀ r,r∈rs→Pr r) (ha:a ^ (n - 1) % n=1) (hg:∀ r,r∈rs→Nat.gcd (a ^ ((n - 1) / r) % n + (n - 1)) n=1) (hb:n < F * F):Pr n:=by
 have key:∀ s,1 < s→s ∣ n→F≤s:=by
  intro s hs hd
  have hb1:(a ^ R) ^ F % s=1:=by
   rw [← Nat.pow_mul,Nat.mul_comm,show F * R=n - 1 by omega,← Nat.mod_mod_of_dvd _ hd,ha,Nat.mod_eq_of_lt hs]
  refine count_pow (b:=a ^ R) hs hb1 ?_
  intro k k0 k1 hk
  have hg1:=pow_gcd hs k F hk hb1
  obtain ⟨g,hgg⟩:∃ g,g=Nat.gcd k F:=⟨_,rfl⟩
  rw [← hgg] at hg1
  have gF:g ∣ F:=hgg ▸ Nat.gcd_dvd_right k F
  have gk:g≤k:=Nat.le_of_dvd k0 (hgg ▸ Nat.gcd_dvd_left k F)
  obtain ⟨t,ht⟩:=gF
  have t1:t≠1:=by
   rintro rfl
   omega
  have:∃ r,r∈rs∧r ∣ t:=by
   refine Classical.byContradiction fun hno=>t1 (part_of rs t hr ⟨g,by rw [hF,ht,Nat.mul_comm]⟩ fun r hr' hd'=>hno ⟨r,hr',hd'⟩)
  obtain ⟨r,hrs,u,hu⟩:=this
  have r0:0 < r:=by have:=(hr r hrs).1;omega
  have e1:(n - 1) / r=R * (g * u):=by
   have:n - 1=r * (R * (g * u)):=by
    rw [show n - 1=F * R by omega,ht,hu]
    rw [Nat.mul_left_comm r R,Nat.mul_left_comm r g,Nat.mul_comm (g * (r * u)) R]
   rw [this,Nat.mul_div_cancel_left _ r0]
  have e2:a ^ ((n - 1) / r) % s=1:=by
   rw [e1,Nat.pow_mul]
   exact pow_one_mod hs hg1
  have e3:s ∣ a ^ ((n - 1) / r) % n + (n - 1):=by
   have e4:a ^ ((n - 1) / r) % n % s=1:=by rw [Nat.mod_mod_of_dvd _ hd];exact e2
   obtain ⟨m,hm⟩:=hd
   generalize a ^ ((n - 1) / r) % n=x at *
   have e5:x=s * (x / s) + 1:=by have:=Nat.div_add_mod x s;omega
   refine ⟨x / s + m,?_⟩
   rw [Nat.mul_add,← hm]
   omega
  have:=Nat.dvd_gcd e3 hd
  rw [hg r hrs] at this
  have:=Nat.dvd_one.1 this
  omega
 refine ⟨hn,fun d hd=>?_⟩
 obtain ⟨e,he⟩:=hd
 refine Classical.byContradiction fun hno=>?_
 have d0:d≠0:=by rintro rfl;omega
 have e0:e≠0:=by rintro rfl;omega
 have d1:1 < d:=by
  have:d≠1:=fun h=>hno (.inl h)
  omega
 have e1:1 < e:=by
  have:e≠1:=by
   rintro rfl
   exact hno (.inr (by omega))
  omega
 have k1:=key d d1 ⟨e,he⟩
 have k2:=key e e1 ⟨d,by rw [he,Nat.mul_comm]⟩
 have:=Nat.mul_le_mul k1 k2
 omega
/-! ### Reckoning -/
/-- powers by a modulus, so many bits deep -/
def pm (n:Nat):Nat→Nat→Nat→Nat
 | 0,_,_=>1 % n
 | f + 1,a,e=>bif e % 2 == 1 then a * pm n f (a * a % n) (e / 2) % n else pm n f (a * a % n) (e / 2)
def hv:Nat→Nat→Nat
 | 0,e=>e
 | f + 1,e=>hv f (e / 2)
theorem pm_is (n:Nat):∀ (f a e:Nat),hv f e=0→pm n f a e=a ^ e % n
 | 0,a,e,h=>by
  have:e=0:=h
  subst this
  rfl
 | f + 1,a,e,h=>by
  have ih:=pm_is n f (a * a % n) (e / 2) h
  have sq:(a * a % n) ^ (e / 2) % n=a ^ (2 * (e / 2)) % n:=by
   rw [← Nat.pow_mod,Nat.pow_mul,Nat.pow_two]
  rw [sq] at ih
  unfold pm
  rw [ih]
  by_cases h2:e % 2=1
  ·have:(e % 2 == 1)=true:=by simpa using h2
   rw [this,cond_true,Nat.mul_mod,Nat.mod_mod,← Nat.mul_mod,← Nat.pow_succ']
   congr 2;omega
  ·have:(e % 2 == 1)=false:=by simpa using h2
   rw [this,cond_false]
   congr 2;omega
/-- small ones, by trial -/
def noPart (n:Nat):Nat→Bool
 | 0=>true
 | k + 1=>(k < 2 || n % k != 0) && noPart n k
theorem noPart_is (n:Nat):∀ k,noPart n k=true→∀ d,1 < d→d < k→¬ d ∣ n
 | 0,_,d,_,h=>absurd h (by omega)
 | k + 1,h,d,d1,hd=>by
  simp only [noPart,Bool.and_eq_true,Bool.or_eq_true,decide_eq_true_eq,bne_iff_ne,ne_eq] at h
  by_cases e:d=k
  ·subst e
   intro hdv
   have:=Nat.mod_eq_zero_of_dvd hdv
   rcases h.1 with h1|h1<;>omega
  ·exact noPart_is n k h.2 d d1 (by omega)
theorem trial (n k:Nat) (hn:1 < n) (hk:n < k * k) (h:noPart n k=true):Pr n:=by
 refine ⟨hn,fun d hd=>?_⟩
 obtain ⟨e,he⟩:=hd
 refine Classical.byContradiction fun hno=>?_
 have d0:d≠0:=by rintro rfl;omega
 have e0:e≠0:=by rintro rfl;omega
 have d1:1 < d:=by
  have:d≠1:=fun h=>hno (.inl h)
  omega
 have e1:1 < e:=by
  have:e≠1:=by
   rintro rfl
   exact hno (.inr (by omega))
  omega
 by_cases hd:d < k
 ·exact noPart_is n k h d d1 hd ⟨e,he⟩
 ·by_cases he':e < k
  ·exact noPart_is n k h e e1 he' ⟨d,by rw [he,Nat.mul_comm]⟩
  ·have:=Nat.mul_le_mul (Nat.le_of_not_lt hd) (Nat.le_of_not_lt he')
   omega
/-- all that the kernel reckons of one prime -/
def ck (n F R a f:Nat) (rs:List Nat):Bool :=
 n == F * R + 1 && Nat.blt 1 n && rs.prod == F && Nat.blt n (F * F) && hv f (n - 1) == 0 && pm n f a (n - 1) == 1 && rs.all fun r=>hv f ((n - 1) / r) == 0 && Nat.gcd (pm n f a ((n - 1) / r) + (n - 1)) n == 1
theorem pockB (n F R a f:Nat) (rs:List Nat) (h:ck n F R a f rs=true) (hr:∀ r,r∈rs→Pr r):Pr n:=by
 simp only [ck,Bool.and_eq_true,beq_iff_eq,Nat.blt_eq,List.all_eq_true] at h
 obtain ⟨⟨⟨⟨⟨⟨h1,h2⟩,h3⟩,h4⟩,h5⟩,h6⟩,h7⟩:=h
 refine pock n F R a rs h1 h2 h3 hr ?_ ?_ h4
 ·rw [← pm_is n f a (n - 1) h5];exact h6
 ·intro r hrs
  obtain ⟨h8,h9⟩:=h7 r hrs
  rw [← pm_is n f a _ h8];exact h9
end Go.Proofs.Ytnkipgbnnhahbaa
