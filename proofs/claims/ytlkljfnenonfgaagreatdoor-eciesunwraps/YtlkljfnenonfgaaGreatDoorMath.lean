/- Numbers by a modulus: what is taken off, what is left, Montgomery's steps; plain facts on numbers alone. Montgomery's reduction: the steps, in numbers alone. Newton's steps, R's square, powers by bits; in numbers alone. Primes, in plain numbers: Fermat's little theorem, Euclid's lemma, and Pocklington's test, with a reckoning of powers that the kernel carries out. That the number 39402006196394479212279040100143613805079739270465446667948293404245721771496870329047266088258938001861606973112319 is prime. That the number 39402006196394479212279040100143613805079739270465446667946905279627659399113263569398956308152294913554433653942643 is prime. What makes 1 of a number, by Fermat, modulo a prime. The field's prime: plain facts on numbers. -/
import Derived.Test.YtlkljfnenonfgaaGreatDoorBase
namespace Go.Proofs.YtlkljfnenonfgaaGreatDoor
/-- the digits of a modulus as New makes it -/
structure IsMod (M:List Int) (i:Int) (T:List Int):Prop where
 lM:M.length=6
 fM:fits M
 lT:T.length=6
 fT:fits T
 i0:0≤i
 i1:i < 18446744073709551616
 inv:(i * M.getD 0 0) % 18446744073709551616=18446744073709551615
 big:18446744073709551616 ^ 6≤2 * v64 M
 odd:v64 M % 2=1
 two:v64 T=(18446744073709551616 ^ 6 * 18446744073709551616 ^ 6) % v64 M
theorem v6_bound (A:List Int) (l:A.length=6) (h:fits A):0≤v64 A∧v64 A < 18446744073709551616 ^ 6:=by
 have:=v64_bound A h
 rw [l] at this;exact this
/-- what is left where a modulus is at most once in it -/
theorem once_mod (X M:Int) (h0:0≤X) (h:X < 2 * M):(if M≤X then X - M else X)=X % M:=by
 split
 ·rename_i h1
  rw [show X=X - M + M by omega,Int.add_emod_right,Int.emod_eq_of_lt (by omega) (by omega)]
  omega
 ·rw [Int.emod_eq_of_lt h0 (by omega)]
/-- an odd number that divides twice another one divides it -/
theorem odd_half (M X:Int) (ho:M % 2=1) (h:(2 * X) % M=0):X % M=0:=by
 obtain ⟨k,hk⟩:=Int.dvd_of_emod_eq_zero h
 have h2:k % 2=0:=by
  have e:(M * k) % 2=0:=by omega
  rw [Int.mul_emod,ho] at e
  omega
 have e2:k=2 * (k / 2):=by omega
 refine Int.emod_eq_zero_of_dvd ⟨k / 2,?_⟩
 have:2 * X=2 * (M * (k / 2)):=by
  rw [hk];conv=>lhs;rw [e2]
  rw [Int.mul_left_comm]
 omega
theorem odd_pow (M:Int) (ho:M % 2=1):∀ (n:Nat) (X:Int),(2 ^ n * X) % M=0→X % M=0
 | 0,X,h=>by simpa using h
 | n + 1,X,h=>by
  rw [Int.pow_succ,Int.mul_assoc] at h
  exact odd_half M X ho (odd_pow M ho n _ h)
theorem r_pow:(2:Int) ^ 384=18446744073709551616 ^ 6:=by
 rw [show (18446744073709551616:Int)=2 ^ 64 by decide,← Int.pow_mul]
/-- R may be cut off both sides -/
theorem cut_R {M X Y:Int} (ho:M % 2=1) (h:(18446744073709551616 ^ 6 * X) % M=(18446744073709551616 ^ 6 * Y) % M):X % M=Y % M:=by
 rw [← r_pow] at h
 have h1:(2 ^ 384 * (X - Y)) % M=0:=by
  rw [Int.mul_sub]
  exact Int.emod_eq_emod_iff_emod_sub_eq_zero.1 h
 exact Int.emod_eq_emod_iff_emod_sub_eq_zero.2 (odd_pow M ho 384 _ h1)
/-- of a product and R's square, reduced -/
theorem mont_mul {M x r1 r2 t:Int} (ho:M % 2=1) (h1:(18446744073709551616 ^ 6 * r1) % M=x % M) (ht:t=(18446744073709551616 ^ 6 * 18446744073709551616 ^ 6) % M) (h2:(18446744073709551616 ^ 6 * r2) % M=(r1 * t) % M):r2 % M=x % M:=by
 subst ht
 generalize hR:(18446744073709551616:Int) ^ 6=R at *
 have h2':(r1 * (R * R % M)) % M=(r1 * (R * R)) % M:=by rw [Int.mul_emod,Int.emod_emod,← Int.mul_emod]
 have h3:(R * r2) % M=(R * (R * r1)) % M:=by rw [h2,h2'];congr 1;grind
 rw [← hR] at h3
 have h4:=cut_R ho h3
 rw [hR] at h4
 rw [h4,h1]
theorem pv_put (b:Int):∀ (P:List Int) (k:Nat) (s:Int),k < P.length→pv b (P.set k s)=pv b P + (s - P.getD k 0) * b ^ k
 | [],k,s,h=>absurd h (by simp)
 | p :: P,0,s,_=>by simp [pv];omega
 | p :: P,k + 1,s,h=>by
  have ih:=pv_put b P k s (by simpa using h)
  rw [List.set_cons_succ,pv,pv,ih,List.getD_cons_succ,Int.pow_succ]
  grind
theorem getD_put_ne (S:List Int) (k j:Nat) (s:Int) (h:k≠j):(S.set k s).getD j 0=S.getD j 0:=by simp [List.getD_eq_getElem?_getD,h]
/-- a round of the inner loop -/
theorem red_step (P B:List Int) (k m:Nat) (V a b s c:Int) (lP:P.length=12) (lB:B.length=6) (hk:k < 6) (hm:m < 6) (hs:P.getD (k + m) 0=s) (hb:B.getD m 0=b)
  (h:v64 P + c * 18446744073709551616 ^ (k + m)=V + a * 18446744073709551616 ^ k * v64 (B.take m)) :
  v64 (P.set (k + m) ((a * b + s + c) % 18446744073709551616)) + (a * b + s + c) / 18446744073709551616 * 18446744073709551616 ^ (k + (m + 1))=V + a * 18446744073709551616 ^ k * v64 (B.take (m + 1)):=by
 have e:=Int.mul_ediv_add_emod (a * b + s + c) 18446744073709551616
 simp only [v64] at *
 rw [pv_put _ P _ _ (by omega),hs,pv_take _ B m (by omega),hb,← Nat.add_assoc,Int.pow_succ]
 rw [Int.pow_add] at *
 generalize (a * b + s + c) / 18446744073709551616=q at *
 generalize (a * b + s + c) % 18446744073709551616=r at *
 generalize (18446744073709551616:Int) ^ k=p at *
 generalize (18446744073709551616:Int) ^ m=z at *
 generalize pv 18446744073709551616 P=X at *
 generalize pv 18446744073709551616 (B.take m)=Y at *
 have e2:r=a * b + s + c - 18446744073709551616 * q:=by omega
 subst e2
 have e3:X=V + a * p * Y - c * (p * z):=by omega
 subst e3
 grind
/-- the lowest limb is cleared -/
theorem red_clear (t i m:Int) (h:(i * m) % 18446744073709551616=18446744073709551615):((t * i % 18446744073709551616) * m + t) % 18446744073709551616=0:=by
 have h1:((t * i % 18446744073709551616) * m) % 18446744073709551616=(t * (i * m)) % 18446744073709551616:=by
  rw [Int.mul_emod,Int.emod_emod,← Int.mul_emod,Int.mul_assoc]
 have h2:(t * (i * m)) % 18446744073709551616=(t * 18446744073709551615) % 18446744073709551616:=by
  rw [Int.mul_emod,h,Int.mul_emod t 18446744073709551615]
  rfl
 have h3:=h1.trans h2
 omega
/-- a row's end -/
theorem red_row (P M T:List Int) (k:Nat) (V Q q c s o:Int) (lP:P.length=12) (lM:M.length=6) (hk:k < 6) (hs:P.getD (k + 6) 0=s) (hq0:0≤q) (hq1:q < 18446744073709551616)
  (hQ0:0≤Q) (hQ1:Q < 18446744073709551616 ^ k) (hV:V + o * 18446744073709551616 ^ (k + 6)=v64 T + Q * v64 M) (h:v64 P + c * 18446744073709551616 ^ (k + 6)=V + q * 18446744073709551616 ^ k * v64 (M.take 6)) :
  ∃ Q',0≤Q'∧Q' < 18446744073709551616 ^ (k + 1)∧v64 (P.set (k + 6) ((s + c + o) % 18446744073709551616)) + (s + c + o) / 18446744073709551616 * 18446744073709551616 ^ (k + 1 + 6)=v64 T + Q' * v64 M:=by
 have e:=Int.mul_ediv_add_emod (s + c + o) 18446744073709551616
 rw [List.take_of_length_le (by omega)] at h
 simp only [v64] at *
 rw [pv_put _ P _ _ (by omega),hs,show k + 1 + 6=k + 6 + 1 by omega,Int.pow_succ (18446744073709551616:Int) (k + 6),Int.pow_succ (18446744073709551616:Int) k]
 have hp:(0:Int) < 18446744073709551616 ^ k:=Int.pow_pos (by decide)
 generalize (18446744073709551616:Int) ^ (k + 6)=z at *
 generalize (18446744073709551616:Int) ^ k=p at *
 generalize (s + c + o) / 18446744073709551616=x at *
 generalize (s + c + o) % 18446744073709551616=r at *
 generalize pv 18446744073709551616 P=X at *
 generalize pv 18446744073709551616 T=Y at *
 generalize pv 18446744073709551616 M=N at *
 have m1:0≤q * p:=Int.mul_nonneg hq0 (Int.le_of_lt hp)
 have m2:q * p≤18446744073709551615 * p:=Int.mul_le_mul_of_nonneg_right (by omega) (Int.le_of_lt hp)
 refine ⟨Q + q * p,by omega,by omega,?_⟩
 have e2:r=s + c + o - 18446744073709551616 * x:=by omega
 subst e2
 have e3:X=V + q * p * N - c * z:=by omega
 subst e3
 have e4:V=Y + Q * N - o * z:=by omega
 subst e4
 grind
theorem pv_noughts (b:Int):∀ (n:Nat) (P:List Int),(∀ j,j < n→P.getD j 0=0)→n≤P.length→pv b P=b ^ n * pv b (P.drop n)
 | 0,P,_,_=>by simp
 | n + 1,[],_,h=>absurd h (by simp)
 | n + 1,p :: P,h,hl=>by
  have h0:p=0:=h 0 (by omega)
  rw [pv,pv_noughts b n P (fun j hj=>h (j + 1) (by omega)) (by simpa using hl),List.drop_succ_cons,Int.pow_succ,h0]
  grind
theorem fits_drop {P:List Int} (h:fits P) (n:Nat):fits (P.drop n):=by
 intro j
 have:(P.drop n).getD j 0=P.getD (n + j) 0:=by simp [List.getD_eq_getElem?_getD]
 rw [this];exact h _
/-- what is left above R's noughts -/
theorem red_end (P M T:List Int) (Q o:Int) (lP:P.length=12) (lT:T.length=12) (fT:fits T) (fM:fits M) (hz:∀ j,j < 6→P.getD j 0=0) (hQ1:Q < 18446744073709551616 ^ 6)
  (h:v64 P + o * 18446744073709551616 ^ (6 + 6)=v64 T + Q * v64 M) :
  18446744073709551616 ^ 6 * (v64 (P.drop 6) + o * 18446744073709551616 ^ 6)=v64 T + Q * v64 M∧v64 (P.drop 6) + o * 18446744073709551616 ^ 6 < 18446744073709551616 ^ 6 + v64 M:=by
 have bT:=v64_bound T fT
 rw [lT] at bT
 have bM:=(v64_bound M fM).1
 simp only [v64] at *
 rw [pv_noughts _ 6 P hz (by omega)] at h
 rw [show (18446744073709551616:Int) ^ (6 + 6)=18446744073709551616 ^ 6 * 18446744073709551616 ^ 6 from Int.pow_add _ 6 6] at h
 rw [show (12:Nat)=6 + 6 from rfl,Int.pow_add _ 6 6] at bT
 have hp:(0:Int) < 18446744073709551616 ^ 6:=Int.pow_pos (by decide)
 generalize (18446744073709551616:Int) ^ 6=R at *
 generalize pv 18446744073709551616 (P.drop 6)=X at *
 generalize pv 18446744073709551616 T=Y at *
 generalize pv 18446744073709551616 M=N at *
 have e:R * (X + o * R)=Y + Q * N:=by rw [← h];grind
 refine ⟨e,?_⟩
 have m1:Q * N≤R * N:=Int.mul_le_mul_of_nonneg_right (by omega) bM
 have m2:R * (X + o * R) < R * (R + N):=by rw [e,Int.mul_add];omega
 exact Int.lt_of_mul_lt_mul_left m2 (Int.le_of_lt hp)
/-- the answer's rest -/
theorem red_rest {R N Y Q M r:Int} (e:R * N=Y + Q * M) (hr:r=N % M):(R * r) % M=Y % M:=by
 subst hr
 rw [Int.mul_emod,Int.emod_emod,← Int.mul_emod,e,Int.add_mul_emod_self_right]
/-- what is taken off, in numbers -/
def offN (X M:Int):Int:=if M≤X then X - M else X
theorem offN_mod (X M:Int):offN X M % M=X % M:=by
 unfold offN;split
 ·exact Int.sub_emod_right X M
 ·rfl
theorem offN_rest {X M:Int} (h0:0≤X) (h:X < 2 * M):offN X M=X % M:=once_mod X M h0 h
theorem off_num (A S M:List Int) (n k:Int) (lA:A.length=6) (lM:M.length=6) (lS:S.length=6) (fA:fits A) (fM:fits M) (fS:fits S) (hn:n=0∨n=1) (k0:0≤k) (k1:k≤1)
  (h:v64 S - k * 18446744073709551616 ^ 6=v64 A - v64 M) (hb:v64 A + n * 18446744073709551616 ^ 6 < 18446744073709551616 ^ 6 + v64 M) :
  (if n=1∨k=0 then v64 S else v64 A)=offN (v64 A + n * 18446744073709551616 ^ 6) (v64 M):=by
 have bA:=v6_bound A lA fA
 have bM:=v6_bound M lM fM
 have bS:=v6_bound S lS fS
 unfold offN
 generalize (18446744073709551616:Int) ^ 6=R at *
 generalize v64 A=a at *
 generalize v64 M=m at *
 generalize v64 S=s at *
 have hk:k=0∨k=1:=by omega
 rcases hn with rfl|rfl
 ·rcases hk with rfl|rfl
  ·rw [if_pos (.inr rfl),if_pos (by omega)];omega
  ·rw [if_neg (by omega),if_neg (by omega)];omega
 ·rw [if_pos (.inl rfl),if_pos (by omega)]
  rcases hk with rfl|rfl<;>omega
/-- a prime -/
def Pr (p:Nat):Prop:=1 < p∧∀ d,d ∣ p→d=1∨d=p
theorem Pr.cop {p a:Nat} (h:Pr p) (ha:¬ p ∣ a):Nat.Coprime p a:=by
 rcases h.2 (Nat.gcd p a) (Nat.gcd_dvd_left p a) with h1|h1
 ·exact h1
 ·exact absurd (h1 ▸ Nat.gcd_dvd_right p a) ha
theorem Pr.split {p a b:Nat} (h:Pr p) (hd:p ∣ a * b):p ∣ a∨p ∣ b:=by
 by_cases ha:p ∣ a
 ·exact .inl ha
 ·exact .inr ((h.cop ha).dvd_of_dvd_mul_left hd)
/-- fewer places than things: two in one -/
theorem sub_len:∀ (l m:List Nat),l.Nodup→(∀ x,x∈l→x∈m)→l.length≤m.length
 | [],_,_,_=>by simp
 | a :: l,m,hn,hs=>by
  have ha:a∈m:=hs a (by simp)
  have hn':=List.nodup_cons.1 hn
  have:=sub_len l (m.erase a) hn'.2 (fun x hx=>(List.mem_erase_of_ne (show x≠a from fun e=>hn'.1 (by rw [← e];exact hx))).2 (hs x (by simp [hx])))
  have hl:=List.length_erase_of_mem ha
  have hp:0 < m.length:=List.length_pos_of_mem ha
  simp only [List.length_cons]
  omega
theorem sub_all (l m:List Nat) (hn:l.Nodup) (hs:∀ x,x∈l→x∈m) (hl:m.length≤l.length):∀ x,x∈m→x∈l:=by
 intro x hx
 by_cases h:x∈l
 ·exact h
 ·have:=sub_len (x :: l) m (List.nodup_cons.2 ⟨h,hn⟩) (fun y hy=>by
   rcases List.mem_cons.1 hy with rfl|hy
   ·exact hx
   ·exact hs y hy)
  simp only [List.length_cons] at this
  omega
theorem prod_map (a p:Nat):∀ l:List Nat,(l.map fun x=>a * x % p).prod % p=(a ^ l.length * l.prod) % p
 | []=>by simp
 | x :: l=>by
  rw [List.map_cons,List.prod_cons,List.prod_cons,List.length_cons,Nat.mul_mod,prod_map a p l,Nat.mod_mod,← Nat.mul_mod,Nat.pow_succ]
  congr 1
  rw [Nat.mul_assoc,Nat.mul_assoc,Nat.mul_left_comm (a ^ l.length) a,Nat.mul_left_comm (a ^ l.length) x]
theorem prod_not {p:Nat} (h:Pr p):∀ l:List Nat,(∀ x,x∈l→¬ p ∣ x)→¬ p ∣ l.prod
 | [],_=>by
  simp only [List.prod_nil]
  intro hd
  have:=Nat.le_of_dvd (by decide) hd
  have:=h.1
  omega
 | x :: l,hx=>by
  rw [List.prod_cons]
  intro hd
  rcases h.split hd with h1|h1
  ·exact hx x (by simp) h1
  ·exact prod_not h l (fun y hy=>hx y (by simp [hy])) h1
theorem fermat {p a:Nat} (h:Pr p) (ha:¬ p ∣ a):a ^ (p - 1) % p=1:=by
 have hp:=h.1
 obtain ⟨l,hl⟩:∃ l,l=List.range' 1 (p - 1):=⟨_,rfl⟩
 have mem:∀ x,x∈l↔1≤x∧x < p:=fun x=>by rw [hl,List.mem_range'_1];omega
 have len:l.length=p - 1:=by rw [hl,List.length_range']
 have nd:l.Nodup:=by rw [hl];exact List.nodup_range'
 have small:∀ x,x∈l→¬ p ∣ x:=fun x hx hd=>by
  have:=(mem x).1 hx
  have:=Nat.le_of_dvd (by omega) hd
  omega
 have ndm:(l.map fun x=>a * x % p).Nodup:=by
  refine List.pairwise_map.2 ?_
  have lt:l.Pairwise (· < ·):=by rw [hl];exact List.pairwise_lt_range'
  refine List.Pairwise.imp_of_mem ?_ lt
  intro x y hx hy hxy he
  have h1:=Nat.sub_mod_eq_zero_of_mod_eq he.symm
  rw [← Nat.mul_sub] at h1
  have bx:=(mem x).1 hx
  have by':=(mem y).1 hy
  rcases h.split (Nat.dvd_of_mod_eq_zero h1) with h2|h2
  ·exact ha h2
  ·have:=Nat.le_of_dvd (by omega) h2
   omega
 have sub:∀ x,x∈(l.map fun x=>a * x % p)→x∈l:=fun y hy=>by
  obtain ⟨x,hx,rfl⟩:=List.mem_map.1 hy
  refine (mem _).2 ⟨?_,Nat.mod_lt _ (by omega)⟩
  rcases Nat.eq_zero_or_pos (a * x % p) with h0|h0
  ·rcases h.split (Nat.dvd_of_mod_eq_zero h0) with h1|h1
   ·exact absurd h1 ha
   ·exact absurd h1 (small x hx)
  ·exact h0
 have perm:(l.map fun x=>a * x % p).Perm l:=(List.perm_ext_iff_of_nodup ndm nd).2 fun x=>⟨sub x,sub_all _ _ ndm sub (by simp) x⟩
 have e:=prod_map a p l
 rw [perm.prod_nat,len] at e
 have hnot:=prod_not h l small
 generalize l.prod=P at *
 generalize hA:a ^ (p - 1)=A at *
 have hA1:1≤A:=by
  rw [← hA]
  rcases Nat.eq_zero_or_pos a with h0|h0
  ·subst h0;exact absurd (Nat.dvd_zero p) ha
  ·exact Nat.pow_pos h0
 have h1:=Nat.sub_mod_eq_zero_of_mod_eq e.symm
 have h2:A * P - P=(A - 1) * P:=by rw [Nat.sub_mul,Nat.one_mul]
 rw [h2] at h1
 rcases h.split (Nat.dvd_of_mod_eq_zero h1) with h3|h3
 ·obtain ⟨k,hk⟩:=h3
  have:A=1 + p * k:=by omega
  rw [this,Nat.add_mul_mod_self_left,Nat.mod_eq_of_lt hp]
 ·exact absurd h3 hnot
/-! ### Pocklington -/
theorem pow_one_mod {b s m k:Nat} (hs:1 < s) (h:b ^ m % s=1):b ^ (m * k) % s=1:=by
 rw [Nat.pow_mul,Nat.pow_mod,h,Nat.one_pow,Nat.mod_eq_of_lt hs]
theorem pow_gcd {b s:Nat} (hs:1 < s) (m n:Nat):b ^ m % s=1→b ^ n % s=1→b ^ Nat.gcd m n % s=1:=by
 induction m,n using Nat.gcd.induction with
 | H0 n=>intro _ h;rw [Nat.gcd_zero_left];exact h
 | H1 m n hm ih =>
  intro h1 h2
  rw [Nat.gcd_rec]
  refine ih ?_ h1
  have e:n=m * (n / m) + n % m:=(Nat.div_add_mod n m).symm
  rw [e,Nat.pow_add,Nat.mul_mod,pow_one_mod hs h1,Nat.one_mul,Nat.mod_mod] at h2
  exact h2
theorem count_pow {b s F:Nat} (hs:1 < s) (hF:b ^ F % s=1) (hk:∀ k,0 < k→k < F→b ^ k % s≠1):F≤s:=by
 have nd:((List.range F).map fun i=>b ^ i % s).Nodup:=by
  refine List.pairwise_map.2 ?_
  refine List.Pairwise.imp_of_mem ?_ List.pairwise_lt_range
  intro i j hi hj hij he
  have hj':=List.mem_range.1 hj
  refine hk (j - i) (by omega) (by omega) ?_
  have e1:(b ^ (F - i) * b ^ i) % s=1:=by rw [← Nat.pow_add,show F - i + i=F by omega];exact hF
  have e2:(b ^ (F - i) * b ^ j) % s=1:=by rw [Nat.mul_mod,← he,← Nat.mul_mod];exact e1
  rw [← Nat.pow_add,show F - i + j=F + (j - i) by omega,Nat.pow_add,Nat.mul_mod,hF,Nat.one_mul,Nat.mod_mod] at e2
  exact e2
 have:=sub_len _ (List.range s) nd (fun x hx=>by
  obtain ⟨i,_,rfl⟩:=List.mem_map.1 hx
  exact List.mem_range.2 (Nat.mod_lt _ (by omega)))
 simpa using this
theorem part_of:∀ (rs:List Nat) (t:Nat),(∀ r,r∈rs→Pr r)→t ∣ rs.prod→(∀ r,r∈rs→¬ r ∣ t)→t=1
 | [],t,_,hd,_=>by
  rw [List.prod_nil] at hd
  exact Nat.dvd_one.1 hd
 | r :: rs,t,hp,hd,hn=>by
  rw [List.prod_cons] at hd
  have hc:Nat.Coprime t r:=((hp r (by simp)).cop (hn r (by simp))).symm
  exact part_of rs t (fun x hx=>hp x (by simp [hx])) (hc.dvd_of_dvd_mul_left hd) (fun x hx=>hn x (by simp [hx]))
theorem pock (n F R a:Nat) (rs:List Nat) (h1:n=F * R + 1) (hn:1 < n) (hF:rs.prod=F) (hr:∀ r,r∈rs→Pr r) (ha:a ^ (n - 1) % n=1) (hg:∀ r,r∈rs→Nat.gcd (a ^ ((n - 1) / r) % n + (n - 1)) n=1) (hb:n < F * F):Pr n:=by
 have key:∀ s,1 < s→s ∣ n→F≤s:=by
  intro s hs hd
  have hb1:(a ^ R) ^ F % s=1:=by
   rw [← Nat.pow_mul,Nat.mul_comm,show F * R=n - 1 by omega,← Nat.mod_mod_of_dvd _ hd,ha,Nat.mod_eq_of_lt hs]
  refine count_pow (b:=a ^ R) hs hb1 ?_
  intro k k0 k1 hk
  have hg1:=pow_gcd hs k F hk hb1
  obtain ⟨g,hgg⟩:∃ g,g=Nat.gcd k F:=⟨_,rfl⟩
  rw [← hgg] at hg1
  have gF:g ∣ F:=hgg ▸ Nat.gcd_dvd_right k F
  have gk:g≤k:=Nat.le_of_dvd k0 (hgg ▸ Nat.gcd_dvd_left k F)
  obtain ⟨t,ht⟩:=gF
  have t1:t≠1:=by
   rintro rfl
   omega
  have:∃ r,r∈rs∧r ∣ t:=by
   refine Classical.byContradiction fun hno=>t1 (part_of rs t hr ⟨g,by rw [hF,ht,Nat.mul_comm]⟩ fun r hr' hd'=>hno ⟨r,hr',hd'⟩)
  obtain ⟨r,hrs,u,hu⟩:=this
  have r0:0 < r:=by have:=(hr r hrs).1;omega
  have e1:(n - 1) / r=R * (g * u):=by
   have:n - 1=r * (R * (g * u)):=by
    rw [show n - 1=F * R by omega,ht,hu]
    rw [Nat.mul_left_comm r R,Nat.mul_left_comm r g,Nat.mul_comm (g * (r * u)) R]
   rw [this,Nat.mul_div_cancel_left _ r0]
  have e2:a ^ ((n - 1) / r) % s=1:=by
   rw [e1,Nat.pow_mul]
   exact pow_one_mod hs hg1
  have e3:s ∣ a ^ ((n - 1) / r) % n + (n - 1):=by
   have e4:a ^ ((n - 1) / r) % n % s=1:=by rw [Nat.mod_mod_of_dvd _ hd];exact e2
   obtain ⟨m,hm⟩:=hd
   generalize a ^ ((n - 1) / r) % n=x at *
   have e5:x=s * (x / s) + 1:=by have:=Nat.div_add_mod x s;omega
   refine ⟨x / s + m,?_⟩
   rw [Nat.mul_add,← hm]
   omega
  have:=Nat.dvd_gcd e3 hd
  rw [hg r hrs] at this
  have:=Nat.dvd_one.1 this
  omega
 refine ⟨hn,fun d hd=>?_⟩
 obtain ⟨e,he⟩:=hd
 refine Classical.byContradiction fun hno=>?_
 have d0:d≠0:=by rintro rfl;omega
 have e0:e≠0:=by rintro rfl;omega
 have d1:1 < d:=by
  have:d≠1:=fun h=>hno (.inl h)
  omega
 have e1:1 < e:=by
  have:e≠1:=by
   rintro rfl
   exact hno (.inr (by omega))
  omega
 have k1:=key d d1 ⟨e,he⟩
 have k2:=key e e1 ⟨d,by rw [he,Nat.mul_comm]⟩
 have:=Nat.mul_le_mul k1 k2
 omega
/-! ### Reckoning -/
/-- powers by a modulus, so many bits deep -/
def pm (n:Nat):Nat→Nat→Nat→Nat
 | 0,_,_=>1 % n
 | f + 1,a,e=>bif e % 2 == 1 then a * pm n f (a * a % n) (e / 2) % n else pm n f (a * a % n) (e / 2)
def hv:Nat→Nat→Nat
 | 0,e=>e
 | f + 1,e=>hv f (e / 2)
theorem pm_is (n:Nat):∀ (f a e:Nat),hv f e=0→pm n f a e=a ^ e % n
 | 0,a,e,h=>by
  have:e=0:=h
  subst this
  rfl
 | f + 1,a,e,h=>by
  have ih:=pm_is n f (a * a % n) (e / 2) h
  have sq:(a * a % n) ^ (e / 2) % n=a ^ (2 * (e / 2)) % n:=by
   rw [← Nat.pow_mod,Nat.pow_mul,Nat.pow_two]
  rw [sq] at ih
  unfold pm
  rw [ih]
  by_cases h2:e % 2=1
  ·have:(e % 2 == 1)=true:=by simpa using h2
   rw [this,cond_true,Nat.mul_mod,Nat.mod_mod,← Nat.mul_mod,← Nat.pow_succ']
   congr 2;omega
  ·have:(e % 2 == 1)=false:=by simpa using h2
   rw [this,cond_false]
   congr 2;omega
/-- small ones, by trial -/
def noPart (n:Nat):Nat→Bool
 | 0=>true
 | k + 1=>(k < 2 || n % k != 0) && noPart n k
theorem noPart_is (n:Nat):∀ k,noPart n k=true→∀ d,1 < d→d < k→¬ d ∣ n
 | 0,_,d,_,h=>absurd h (by omega)
 | k + 1,h,d,d1,hd=>by
  simp only [noPart,Bool.and_eq_true,Bool.or_eq_true,decide_eq_true_eq,bne_iff_ne,ne_eq] at h
  by_cases e:d=k
  ·subst e
   intro hdv
   have:=Nat.mod_eq_zero_of_dvd hdv
   rcases h.1 with h1|h1<;>omega
  ·exact noPart_is n k h.2 d d1 (by omega)
theorem trial (n k:Nat) (hn:1 < n) (hk:n < k * k) (h:noPart n k=true):Pr n:=by
 refine ⟨hn,fun d hd=>?_⟩
 obtain ⟨e,he⟩:=hd
 refine Classical.byContradiction fun hno=>?_
 have d0:d≠0:=by rintro rfl;omega
 have e0:e≠0:=by rintro rfl;omega
 have d1:1 < d:=by
  have:d≠1:=fun h=>hno (.inl h)
  omega
 have e1:1 < e:=by
  have:e≠1:=by
   rintro rfl
   exact hno (.inr (by omega))
  omega
 by_cases hd:d < k
 ·exact noPart_is n k h d d1 hd ⟨e,he⟩
 ·by_cases he':e < k
  ·exact noPart_is n k h e e1 he' ⟨d,by rw [he,Nat.mul_comm]⟩
  ·have:=Nat.mul_le_mul (Nat.le_of_not_lt hd) (Nat.le_of_not_lt he')
   omega
/-- all that the kernel reckons of one prime -/
def ck (n F R a f:Nat) (rs:List Nat):Bool :=
 n == F * R + 1 && Nat.blt 1 n && rs.prod == F && Nat.blt n (F * F) && hv f (n - 1) == 0 && pm n f a (n - 1) == 1 && rs.all fun r=>hv f ((n - 1) / r) == 0 && Nat.gcd (pm n f a ((n - 1) / r) + (n - 1)) n == 1
theorem pockB (n F R a f:Nat) (rs:List Nat) (h:ck n F R a f rs=true) (hr:∀ r,r∈rs→Pr r):Pr n:=by
 simp only [ck,Bool.and_eq_true,beq_iff_eq,Nat.blt_eq,List.all_eq_true] at h
 obtain ⟨⟨⟨⟨⟨⟨h1,h2⟩,h3⟩,h4⟩,h5⟩,h6⟩,h7⟩:=h
 refine pock n F R a rs h1 h2 h3 hr ?_ ?_ h4
 ·rw [← pm_is n f a (n - 1) h5];exact h6
 ·intro r hrs
  obtain ⟨h8,h9⟩:=h7 r hrs
  rw [← pm_is n f a _ h8];exact h9
theorem pr363557:Pr 363557:=trial 363557 603 (by decide) (by decide) (by decide +kernel)
theorem pr532247449:Pr 532247449:=pockB 532247449 363557 1464 2 30 [363557] (by decide +kernel) (fun r h=>by
 simp only [List.mem_cons,List.not_mem_nil,or_false] at h
 rcases h with rfl
 ·exact pr363557)
theorem pr44925942675193:Pr 44925942675193:=pockB 44925942675193 532247449 84408 2 47 [532247449] (by decide +kernel) (fun r h=>by
 simp only [List.mem_cons,List.not_mem_nil,or_false] at h
 rcases h with rfl
 ·exact pr532247449)
theorem pr35581458644053887931343:Pr 35581458644053887931343:=pockB 35581458644053887931343 44925942675193 792002494 2 76 [44925942675193] (by decide +kernel) (fun r h=>by
 simp only [List.mem_cons,List.not_mem_nil,or_false] at h
 rcases h with rfl
 ·exact pr44925942675193)
theorem pr23964610537191310276190549303:Pr 23964610537191310276190549303:=pockB 23964610537191310276190549303 35581458644053887931343 673514 2 96 [35581458644053887931343] (by decide +kernel) (fun r h=>by
 simp only [List.mem_cons,List.not_mem_nil,or_false] at h
 rcases h with rfl
 ·exact pr35581458644053887931343)
theorem pr862725979338887169942859774909:Pr 862725979338887169942859774909:=pockB 862725979338887169942859774909 23964610537191310276190549303 36 2 101 [23964610537191310276190549303] (by decide +kernel) (fun r h=>by
 simp only [List.mem_cons,List.not_mem_nil,or_false] at h
 rcases h with rfl
 ·exact pr23964610537191310276190549303)
theorem prP6:Pr 20705423504133292078628634597817:=pockB 20705423504133292078628634597817 862725979338887169942859774909 24 2 106 [862725979338887169942859774909] (by decide +kernel) (fun r h=>by
 simp only [List.mem_cons,List.not_mem_nil,or_false] at h
 rcases h with rfl
 ·exact pr862725979338887169942859774909)
theorem prP7:Pr 413244619895455989650825325680172591660047:=pockB 413244619895455989650825325680172591660047 20705423504133292078628634597817 19958279038 2 140 [20705423504133292078628634597817] (by decide +kernel) (fun r h=>by
 simp only [List.mem_cons,List.not_mem_nil,or_false] at h
 rcases h with rfl
 ·exact prP6)
theorem prP8:Pr 12397338596863679689524759770405177749801411:=pockB 12397338596863679689524759770405177749801411 413244619895455989650825325680172591660047 30 2 145 [413244619895455989650825325680172591660047] (by decide +kernel) (fun r h=>by
 simp only [List.mem_cons,List.not_mem_nil,or_false] at h
 rcases h with rfl
 ·exact prP7)
theorem pr21407:Pr 21407:=trial 21407 147 (by decide) (by decide) (by decide +kernel)
theorem pr246608641:Pr 246608641:=pockB 246608641 21407 11520 2 29 [21407] (by decide +kernel) (fun r h=>by
 simp only [List.mem_cons,List.not_mem_nil,or_false] at h
 rcases h with rfl
 ·exact pr21407)
theorem pr881:Pr 881:=trial 881 30 (by decide) (by decide) (by decide +kernel)
theorem pr211:Pr 211:=trial 211 15 (by decide) (by decide) (by decide +kernel)
theorem pr105957871:Pr 105957871:=pockB 105957871 185891 570 2 28 [881,211] (by decide +kernel) (fun r h=>by
 simp only [List.mem_cons,List.not_mem_nil,or_false] at h
 rcases h with rfl|rfl
 ·exact pr881
 ·exact pr211)
theorem pr529709925838459440593:Pr 529709925838459440593:=pockB 529709925838459440593 26130126570563311 20272 2 70 [246608641,105957871] (by decide +kernel) (fun r h=>by
 simp only [List.mem_cons,List.not_mem_nil,or_false] at h
 rcases h with rfl|rfl
 ·exact pr246608641
 ·exact pr105957871)
theorem prP15:Pr 19173790298027098165721053155794528970226934547887232785722672956982046098136719667167519737147526097:=pockB 19173790298027098165721053155794528970226934547887232785722672956982046098136719667167519737147526097 6566993308738930588330512200382809924575610638753396583902076723 2919721308762696059271802914099725552 2 335 [12397338596863679689524759770405177749801411,529709925838459440593] (by decide +kernel) (fun r h=>by
 simp only [List.mem_cons,List.not_mem_nil,or_false] at h
 rcases h with rfl|rfl
 ·exact prP8
 ·exact pr529709925838459440593)
theorem pr_P:Pr 39402006196394479212279040100143613805079739270465446667948293404245721771496870329047266088258938001861606973112319:=pockB 39402006196394479212279040100143613805079739270465446667948293404245721771496870329047266088258938001861606973112319 19173790298027098165721053155794528970226934547887232785722672956982046098136719667167519737147526097 2054993070433694 2 385 [19173790298027098165721053155794528970226934547887232785722672956982046098136719667167519737147526097] (by decide +kernel) (fun r h=>by
 simp only [List.mem_cons,List.not_mem_nil,or_false] at h
 rcases h with rfl
 ·exact prP15)
theorem pr421:Pr 421:=trial 421 21 (by decide) (by decide) (by decide +kernel)
theorem pr233:Pr 233:=trial 233 16 (by decide) (by decide) (by decide +kernel)
theorem pr272109983:Pr 272109983:=pockB 272109983 98093 2774 2 30 [421,233] (by decide +kernel) (fun r h=>by
 simp only [List.mem_cons,List.not_mem_nil,or_false] at h
 rcases h with rfl|rfl
 ·exact pr421
 ·exact pr233)
theorem pr228572385721:Pr 228572385721:=pockB 228572385721 272109983 840 2 39 [272109983] (by decide +kernel) (fun r h=>by
 simp only [List.mem_cons,List.not_mem_nil,or_false] at h
 rcases h with rfl
 ·exact pr272109983)
theorem pr23314383343543:Pr 23314383343543:=pockB 23314383343543 228572385721 102 2 46 [228572385721] (by decide +kernel) (fun r h=>by
 simp only [List.mem_cons,List.not_mem_nil,or_false] at h
 rcases h with rfl
 ·exact pr228572385721)
theorem pr426632512014427833817:Pr 426632512014427833817:=pockB 426632512014427833817 23314383343543 18299112 2 70 [23314383343543] (by decide +kernel) (fun r h=>by
 simp only [List.mem_cons,List.not_mem_nil,or_false] at h
 rcases h with rfl
 ·exact pr23314383343543)
theorem pr1495199339761412565498084319:Pr 1495199339761412565498084319:=pockB 1495199339761412565498084319 426632512014427833817 3504654 2 92 [426632512014427833817] (by decide +kernel) (fun r h=>by
 simp only [List.mem_cons,List.not_mem_nil,or_false] at h
 rcases h with rfl
 ·exact pr426632512014427833817)
theorem pr17942392077136950785977011829:Pr 17942392077136950785977011829:=pockB 17942392077136950785977011829 1495199339761412565498084319 12 2 95 [1495199339761412565498084319] (by decide +kernel) (fun r h=>by
 simp only [List.mem_cons,List.not_mem_nil,or_false] at h
 rcases h with rfl
 ·exact pr1495199339761412565498084319)
theorem prn881:Pr 881:=trial 881 30 (by decide) (by decide) (by decide +kernel)
theorem pr311:Pr 311:=trial 311 18 (by decide) (by decide) (by decide +kernel)
theorem pr9863677:Pr 9863677:=pockB 9863677 273991 36 2 25 [881,311] (by decide +kernel) (fun r h=>by
 simp only [List.mem_cons,List.not_mem_nil,or_false] at h
 rcases h with rfl|rfl
 ·exact prn881
 ·exact pr311)
theorem pr37344768852931:Pr 37344768852931:=pockB 37344768852931 9863677 3786090 2 47 [9863677] (by decide +kernel) (fun r h=>by
 simp only [List.mem_cons,List.not_mem_nil,or_false] at h
 rcases h with rfl
 ·exact pr9863677)
theorem pr55942463741690639:Pr 55942463741690639:=pockB 55942463741690639 37344768852931 1498 2 57 [37344768852931] (by decide +kernel) (fun r h=>by
 simp only [List.mem_cons,List.not_mem_nil,or_false] at h
 rcases h with rfl
 ·exact pr37344768852931)
theorem prN13:Pr 1059392654943455286185473617842338478315215895509773412096307:=pockB 1059392654943455286185473617842338478315215895509773412096307 1003741618214431260157582222057236969761568731 1055443587990326 2 201 [17942392077136950785977011829,55942463741690639] (by decide +kernel) (fun r h=>by
 simp only [List.mem_cons,List.not_mem_nil,or_false] at h
 rcases h with rfl|rfl
 ·exact pr17942392077136950785977011829
 ·exact pr55942463741690639)
theorem prN14:Pr 3055465788140352002733946906144561090641249606160407884365391979704929268480326390471:=pockB 3055465788140352002733946906144561090641249606160407884365391979704929268480326390471 1059392654943455286185473617842338478315215895509773412096307 2884167427329800039538210 2 282 [1059392654943455286185473617842338478315215895509773412096307] (by decide +kernel) (fun r h=>by
 simp only [List.mem_cons,List.not_mem_nil,or_false] at h
 rcases h with rfl
 ·exact prN13)
theorem pr_N:Pr 39402006196394479212279040100143613805079739270465446667946905279627659399113263569398956308152294913554433653942643:=pockB 39402006196394479212279040100143613805079739270465446667946905279627659399113263569398956308152294913554433653942643 3055465788140352002733946906144561090641249606160407884365391979704929268480326390471 12895580879789762060783039592702 2 385 [3055465788140352002733946906144561090641249606160407884365391979704929268480326390471] (by decide +kernel) (fun r h=>by
 simp only [List.mem_cons,List.not_mem_nil,or_false] at h
 rcases h with rfl
 ·exact prN14)
theorem inv_gen {p e:Nat} (hp:Pr p) (he:e + 2=p) (h0:0 < e) {x z:Int} (hx:0≤x) (hz:z=x ^ e % (p:Int)):(x % (p:Int)=0→z=0)∧(x % (p:Int)≠0→(x * z) % (p:Int)=1):=by
 obtain ⟨n,rfl⟩:=Int.eq_ofNat_of_zero_le hx
 rw [← Int.natCast_pow,← Int.natCast_emod] at hz
 subst hz
 rw [← Int.natCast_emod]
 constructor
 ·intro h
  have h1:n % p=0:=by omega
  rw [Nat.pow_mod,h1,Nat.zero_pow h0,Nat.zero_mod]
  rfl
 ·intro h
  have h1:¬ p ∣ n:=fun hd=>h (by rw [Nat.mod_eq_zero_of_dvd hd];rfl)
  have h2:=fermat hp h1
  rw [show p - 1=e + 1 by omega,Nat.pow_succ] at h2
  rw [← Int.natCast_mul,← Int.natCast_emod,Nat.mul_mod,Nat.mod_mod,← Nat.mul_mod,Nat.mul_comm,h2]
  rfl
/-- the prime -/
def PP:Int:=39402006196394479212279040100143613805079739270465446667948293404245721771496870329047266088258938001861606973112319
theorem PP_v:v64 [4294967295,18446744069414584320,18446744073709551614,18446744073709551615,18446744073709551615,18446744073709551615]=PP:=by decide
theorem PP_pos:0 < PP:=by decide
theorem PP_odd:PP % 2=1:=by decide
theorem PP_big:18446744073709551616 ^ 6≤2 * PP:=by decide
theorem fP:fits [4294967295,18446744069414584320,18446744073709551614,18446744073709551615,18446744073709551615,18446744073709551615]:=fits6 (by decide)
theorem fRR:fits [18446744065119617025,8589934592,18446744065119617024,8589934592,1,0]:=fits6 (by decide)
theorem isP:IsMod [4294967295,18446744069414584320,18446744073709551614,18446744073709551615,18446744073709551615,18446744073709551615] 4294967297 [18446744065119617025,8589934592,18446744065119617024,8589934592,1,0] :=
 ⟨rfl,fP,rfl,fRR,by decide,by decide,by decide,by rw [PP_v];exact PP_big,by rw [PP_v];exact PP_odd,by decide⟩
end Go.Proofs.YtlkljfnenonfgaaGreatDoor
