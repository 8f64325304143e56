/- Primes, in plain numbers: Fermat's little theorem, Euclid's lemma, and Pocklington's test, with a reckoning of powers that the kernel carries out. Bytes in slices: what lies where, and the number that they are. append of any bytes, also of none, to a row of one's own; rows apart. -/
import Derived.Test.YtnkipgbnnhahbaaGreatDoorNum
import Derived.Test.YtnkipgbnnhahbaaGreatDoorRows
import Derived.Lib.SlFresh
import Derived.Deep.AppendLies
import Derived.Deep.OwnRows
namespace Go.Proofs.YtnkipgbnnhahbaaGreatDoor
open Go.RowKit
/-- a prime -/
def Pr (p:Nat):Prop:=1 < p∧∀ d,d ∣ p→d=1∨d=p
theorem Pr.cop {p a:Nat} (h:Pr p) (ha:¬ p ∣ a):Nat.Coprime p a:=by
 rcases h.2 (Nat.gcd p a) (Nat.gcd_dvd_left p a) with h1|h1
 ·exact h1
 ·exact absurd (h1 ▸ Nat.gcd_dvd_right p a) ha
theorem Pr.split {p a b:Nat} (h:Pr p) (hd:p ∣ a * b):p ∣ a∨p ∣ b:=by
 by_cases ha:p ∣ a
 ·exact .inl ha
 ·exact .inr ((h.cop ha).dvd_of_dvd_mul_left hd)
/-- fewer places than things: two in one -/
theorem sub_len:∀ (l m:List Nat),l.Nodup→(∀ x,x∈l→x∈m)→l.length≤m.length
 | [],_,_,_=>by simp
 | a :: l,m,hn,hs=>by
  have ha:a∈m:=hs a (by simp)
  have hn':=List.nodup_cons.1 hn
  have:=sub_len l (m.erase a) hn'.2 (fun x hx=>(List.mem_erase_of_ne (show x≠a from fun e=>hn'.1 (by rw [← e];exact hx))).2 (hs x (by simp [hx])))
  have hl:=List.length_erase_of_mem ha
  have hp:0 < m.length:=List.length_pos_of_mem ha
  simp only [List.length_cons]
  omega
/-! ### Pocklington -/
theorem pow_one_mod {b s m k:Nat} (hs:1 < s) (h:b ^ m % s=1):b ^ (m * k) % s=1:=by
 rw [Nat.pow_mul,Nat.pow_mod,h,Nat.one_pow,Nat.mod_eq_of_lt hs]
theorem pow_gcd {b s:Nat} (hs:1 < s) (m n:Nat):b ^ m % s=1→b ^ n % s=1→b ^ Nat.gcd m n % s=1:=by
 induction m,n using Nat.gcd.induction with
 | H0 n=>intro _ h;rw [Nat.gcd_zero_left];exact h
 | H1 m n hm ih =>
  intro h1 h2
  rw [Nat.gcd_rec]
  refine ih ?_ h1
  have e:n=m * (n / m) + n % m:=(Nat.div_add_mod n m).symm
  rw [e,Nat.pow_add,Nat.mul_mod,pow_one_mod hs h1,Nat.one_mul,Nat.mod_mod] at h2
  exact h2
theorem count_pow {b s F:Nat} (hs:1 < s) (hF:b ^ F % s=1) (hk:∀ k,0 < k→k < F→b ^ k % s≠1):F≤s:=by
 have nd:((List.range F).map fun i=>b ^ i % s).Nodup:=by
  refine List.pairwise_map.2 ?_
  refine List.Pairwise.imp_of_mem ?_ List.pairwise_lt_range
  intro i j hi hj hij he
  have hj':=List.mem_range.1 hj
  refine hk (j - i) (by omega) (by omega) ?_
  have e1:(b ^ (F - i) * b ^ i) % s=1:=by rw [← Nat.pow_add,show F - i + i=F by omega];exact hF
  have e2:(b ^ (F - i) * b ^ j) % s=1:=by rw [Nat.mul_mod,← he,← Nat.mul_mod];exact e1
  rw [← Nat.pow_add,show F - i + j=F + (j - i) by omega,Nat.pow_add,Nat.mul_mod,hF,Nat.one_mul,Nat.mod_mod] at e2
  exact e2
 have:=sub_len _ (List.range s) nd (fun x hx=>by
  obtain ⟨i,_,rfl⟩:=List.mem_map.1 hx
  exact List.mem_range.2 (Nat.mod_lt _ (by omega)))
 simpa using this
theorem part_of:∀ (rs:List Nat) (t:Nat),(∀ r,r∈rs→Pr r)→t ∣ rs.prod→(∀ r,r∈rs→¬ r ∣ t)→t=1
 | [],t,_,hd,_=>by
  rw [List.prod_nil] at hd
  exact Nat.dvd_one.1 hd
 | r :: rs,t,hp,hd,hn=>by
  rw [List.prod_cons] at hd
  have hc:Nat.Coprime t r:=((hp r (by simp)).cop (hn r (by simp))).symm
  exact part_of rs t (fun x hx=>hp x (by simp [hx])) (hc.dvd_of_dvd_mul_left hd) (fun x hx=>hn x (by simp [hx]))
theorem pock (n F R a:Nat) (rs:List Nat) (h1:n=F * R + 1) (hn:1 < n) (hF:rs.prod=F) (hr:∀ r,r∈rs→Pr r) (ha:a ^ (n - 1) % n=1) (hg:∀ r,r∈rs→Nat.gcd (a ^ ((n - 1) / r) % n + (n - 1)) n=1) (hb:n < F * F):Pr n:=by
 have key:∀ s,1 < s→s ∣ n→F≤s:=by
  intro s hs hd
  have hb1:(a ^ R) ^ F % s=1:=by
   rw [← Nat.pow_mul,Nat.mul_comm,show F * R=n - 1 by omega,← Nat.mod_mod_of_dvd _ hd,ha,Nat.mod_eq_of_lt hs]
  refine count_pow (b:=a ^ R) hs hb1 ?_
  intro k k0 k1 hk
  have hg1:=pow_gcd hs k F hk hb1
  obtain ⟨g,hgg⟩:∃ g,g=Nat.gcd k F:=⟨_,rfl⟩
  rw [← hgg] at hg1
  have gF:g ∣ F:=hgg ▸ Nat.gcd_dvd_right k F
  have gk:g≤k:=Nat.le_of_dvd k0 (hgg ▸ Nat.gcd_dvd_left k F)
  obtain ⟨t,ht⟩:=gF
  have t1:t≠1:=by
   rintro rfl
   omega
  have:∃ r,r∈rs∧r ∣ t:=by
   refine Classical.byContradiction fun hno=>t1 (part_of rs t hr ⟨g,by rw [hF,ht,Nat.mul_comm]⟩ fun r hr' hd'=>hno ⟨r,hr',hd'⟩)
  obtain ⟨r,hrs,u,hu⟩:=this
  have r0:0 < r:=by have:=(hr r hrs).1;omega
  have e1:(n - 1) / r=R * (g * u):=by
   have:n - 1=r * (R * (g * u)):=by
    rw [show n - 1=F * R by omega,ht,hu]
    rw [Nat.mul_left_comm r R,Nat.mul_left_comm r g,Nat.mul_comm (g * (r * u)) R]
   rw [this,Nat.mul_div_cancel_left _ r0]
  have e2:a ^ ((n - 1) / r) % s=1:=by
   rw [e1,Nat.pow_mul]
   exact pow_one_mod hs hg1
  have e3:s ∣ a ^ ((n - 1) / r) % n + (n - 1):=by
   have e4:a ^ ((n - 1) / r) % n % s=1:=by rw [Nat.mod_mod_of_dvd _ hd];exact e2
   obtain ⟨m,hm⟩:=hd
   generalize a ^ ((n - 1) / r) % n=x at *
   have e5:x=s * (x / s) + 1:=by have:=Nat.div_add_mod x s;omega
   refine ⟨x / s + m,?_⟩
   rw [Nat.mul_add,← hm]
   omega
  have:=Nat.dvd_gcd e3 hd
  rw [hg r hrs] at this
  have:=Nat.dvd_one.1 this
  omega
 refine ⟨hn,fun d hd=>?_⟩
 obtain ⟨e,he⟩:=hd
 refine Classical.byContradiction fun hno=>?_
 have d0:d≠0:=by rintro rfl;omega
 have e0:e≠0:=by rintro rfl;omega
 have d1:1 < d:=by
  have:d≠1:=fun h=>hno (.inl h)
  omega
 have e1:1 < e:=by
  have:e≠1:=by
   rintro rfl
   exact hno (.inr (by omega))
  omega
 have k1:=key d d1 ⟨e,he⟩
 have k2:=key e e1 ⟨d,by rw [he,Nat.mul_comm]⟩
 have:=Nat.mul_le_mul k1 k2
 omega
/-! ### Reckoning -/
/-- powers by a modulus, so many bits deep -/
def pm (n:Nat):Nat→Nat→Nat→Nat
 | 0,_,_=>1 % n
 | f + 1,a,e=>bif e % 2 == 1 then a * pm n f (a * a % n) (e / 2) % n else pm n f (a * a % n) (e / 2)
def hv:Nat→Nat→Nat
 | 0,e=>e
 | f + 1,e=>hv f (e / 2)
theorem pm_is (n:Nat):∀ (f a e:Nat),hv f e=0→pm n f a e=a ^ e % n
 | 0,a,e,h=>by
  have:e=0:=h
  subst this
  rfl
 | f + 1,a,e,h=>by
  have ih:=pm_is n f (a * a % n) (e / 2) h
  have sq:(a * a % n) ^ (e / 2) % n=a ^ (2 * (e / 2)) % n:=by
   rw [← Nat.pow_mod,Nat.pow_mul,Nat.pow_two]
  rw [sq] at ih
  unfold pm
  rw [ih]
  by_cases h2:e % 2=1
  ·have:(e % 2 == 1)=true:=by simpa using h2
   rw [this,cond_true,Nat.mul_mod,Nat.mod_mod,← Nat.mul_mod,← Nat.pow_succ']
   congr 2;omega
  ·have:(e % 2 == 1)=false:=by simpa using h2
   rw [this,cond_false]
   congr 2;omega
/-- small ones, by trial -/
def noPart (n:Nat):Nat→Bool
 | 0=>true
 | k + 1=>(k < 2 || n % k != 0) && noPart n k
theorem noPart_is (n:Nat):∀ k,noPart n k=true→∀ d,1 < d→d < k→¬ d ∣ n
 | 0,_,d,_,h=>absurd h (by omega)
 | k + 1,h,d,d1,hd=>by
  simp only [noPart,Bool.and_eq_true,Bool.or_eq_true,decide_eq_true_eq,bne_iff_ne,ne_eq] at h
  by_cases e:d=k
  ·subst e
   intro hdv
   have:=Nat.mod_eq_zero_of_dvd hdv
   rcases h.1 with h1|h1<;>omega
  ·exact noPart_is n k h.2 d d1 (by omega)
theorem trial (n k:Nat) (hn:1 < n) (hk:n < k * k) (h:noPart n k=true):Pr n:=by
 refine ⟨hn,fun d hd=>?_⟩
 obtain ⟨e,he⟩:=hd
 refine Classical.byContradiction fun hno=>?_
 have d0:d≠0:=by rintro rfl;omega
 have e0:e≠0:=by rintro rfl;omega
 have d1:1 < d:=by
  have:d≠1:=fun h=>hno (.inl h)
  omega
 have e1:1 < e:=by
  have:e≠1:=by
   rintro rfl
   exact hno (.inr (by omega))
  omega
 by_cases hd:d < k
 ·exact noPart_is n k h d d1 hd ⟨e,he⟩
 ·by_cases he':e < k
  ·exact noPart_is n k h e e1 he' ⟨d,by rw [he,Nat.mul_comm]⟩
  ·have:=Nat.mul_le_mul (Nat.le_of_not_lt hd) (Nat.le_of_not_lt he')
   omega
/-- all that the kernel reckons of one prime -/
def ck (n F R a f:Nat) (rs:List Nat):Bool :=
 n == F * R + 1 && Nat.blt 1 n && rs.prod == F && Nat.blt n (F * F) && hv f (n - 1) == 0 && pm n f a (n - 1) == 1 && rs.all fun r=>hv f ((n - 1) / r) == 0 && Nat.gcd (pm n f a ((n - 1) / r) + (n - 1)) n == 1
theorem pockB (n F R a f:Nat) (rs:List Nat) (h:ck n F R a f rs=true) (hr:∀ r,r∈rs→Pr r):Pr n:=by
 simp only [ck,Bool.and_eq_true,beq_iff_eq,Nat.blt_eq,List.all_eq_true] at h
 obtain ⟨⟨⟨⟨⟨⟨h1,h2⟩,h3⟩,h4⟩,h5⟩,h6⟩,h7⟩:=h
 refine pock n F R a rs h1 h2 h3 hr ?_ ?_ h4
 ·rw [← pm_is n f a (n - 1) h5];exact h6
 ·intro r hrs
  obtain ⟨h8,h9⟩:=h7 r hrs
  rw [← pm_is n f a _ h8];exact h9
/-- the slice value v, in the world w, holds the bytes bs -/
def Bs (w:World) (v:Value) (bs:List Int):Prop :=
 ∃ ao cap,v=.slice ao bs.length cap∧cap≤maxLen∧bs.length≤cap∧(0 < bs.length→∃ b o,ao=some ⟨b,o,none⟩∧b < w.heap.size∧∀ j,j < bs.length→w.cell? ⟨b,o + j,none⟩=some (.int .u8 (bs.getD j 0)))
def byt (bs:List Int):Prop:=∀ j,0≤bs.getD j 0∧bs.getD j 0 < 256
theorem Bs.later {w w':World} {v:Value} {bs:List Int} (h:Bs w v bs) (hb:Below w.heap.size w w'):Bs w' v bs:=by
 obtain ⟨ao,cap,h1,h2,h3,h4⟩:=h
 refine ⟨ao,cap,h1,h2,h3,fun hp=>?_⟩
 obtain ⟨b,o,e1,e2,e3⟩:=h4 hp
 exact ⟨b,o,e1,Nat.lt_of_lt_of_le e2 hb.size,fun j hj=>(hb.cell e2).trans (e3 j hj)⟩
/-- the number of bytes, the highest first -/
def beN (bs:List Int):Int:=pv 256 bs.reverse
theorem byt_rev {bs:List Int} (h:byt bs) (j:Nat):0≤bs.reverse.getD j 0∧bs.reverse.getD j 0 < 256:=by
 by_cases hj:j < bs.length
 ·have:bs.reverse.getD j 0=bs.getD (bs.length - 1 - j) 0:=by
   simp [List.getD_eq_getElem?_getD,List.getElem?_reverse hj]
  rw [this];exact h _
 ·have:bs.reverse.getD j 0=0:=by rw [List.getD_eq_getElem?_getD,List.getElem?_eq_none (by simp;omega)];rfl
  rw [this];decide
theorem rev_get (bs:List Int) (j:Nat) (hj:j < bs.length):bs.reverse.getD (bs.length - 1 - j) 0=bs.getD j 0:=by
 have:bs.length - 1 - (bs.length - 1 - j)=j:=by omega
 simp [List.getD_eq_getElem?_getD,List.getElem?_reverse (show bs.length - 1 - j < bs.length by omega),this]
theorem pv256_bound:∀ (A:List Int),(∀ j,0≤A.getD j 0∧A.getD j 0 < 256)→0≤pv 256 A∧pv 256 A < 256 ^ A.length
 | [],_=>by simp [pv]
 | a :: A,h=>by
  have h0:0≤a∧a < 256:=h 0
  have ih:=pv256_bound A (fun j=>h (j + 1))
  simp only [pv,List.length_cons,Int.pow_succ] at *
  generalize (256:Int) ^ A.length=p at *
  generalize pv 256 A=v at *
  omega
abbrev u8s (A:List Int):List Value:=A.map (Value.int .u8)
theorem u8s_get (A:List Int) (j:Nat) (h:j < A.length):(u8s A)[j]?=some (.int .u8 (A.getD j 0)):=by
 simp [u8s,h]
theorem own_made (w:World) (cs:List Value) (e:TypeId) (n base:Nat) (hl:cs.length=n) (hb:base≤w.heap.size) (hm:n≤maxLen) :
  (w.alloc (.cells cs.toArray e)).ownsRow base e 1 (.slice (some ⟨w.heap.size,0,none⟩) n n) n cs :=
 ⟨by omega,.inr ⟨w.heap.size,n,cs.toArray,rfl,hb,by show (w.heap.push _)[w.heap.size]?=_;simp,Nat.le_refl _,hm,by simp;omega,by rw [List.take_of_length_le (by simp;omega)]⟩⟩
theorem Bs.of_own {w:World} {base:Nat} {e:TypeId} {v:Value} {n:Nat} {D:List Int} (h:w.ownsRow base e 1 v n (u8s D)):Bs w v D:=by
 obtain ⟨hl,h⟩:=h
 have hn:D.length=n:=by simpa using hl
 rcases h with ⟨h1,h2⟩|⟨g,cap,cur,h1,h2,h3,h4,h5,h6,h7⟩
 ·exact ⟨none,0,by rw [h1,hn,h2],Nat.zero_le _,by omega,fun h=>by omega⟩
 ·refine ⟨_,cap,by rw [hn];exact h1,h5,by omega,fun _=>⟨g,0,rfl,(Array.getElem?_eq_some_iff.1 h3).1,fun j hj=>?_⟩⟩
  have e1:(cur.toList.take (n * 1))[j]?=some (.int .u8 (D.getD j 0)):=by rw [h7];exact u8s_get D j hj
  rw [List.getElem?_take,if_pos (by omega)] at e1
  rw [Nat.zero_add]
  simp only [World.cell?,h3,Option.isSome_none,Bool.false_eq_true,if_false]
  simpa using e1
theorem byt_of (A:List Int) (h:∀ j,j < A.length→0≤A.getD j 0∧A.getD j 0 < 256):byt A:=by
 intro j
 by_cases hj:j < A.length
 ·exact h j hj
 ·rw [getD_none A j (by omega)];decide
theorem info_bA:(Tryz.prog.info? 5).map (fun i=>(i.zero,i.size,i.bytes))=some (some (.int .u8 0),1,1):=by kernel_rfl
theorem run_append_empty {w:World} {base ao:Option Addr} {n cap c:Nat} {ty:TypeId} (h:n≤cap) :
  (Builtin.append_ #[22,22] ty #[.slice base n cap,.slice ao 0 c]).run Tryz.prog w=.ok (.slice base n cap) w:=by
 have hu:∀ w:World,(underlying 22).run Tryz.prog w=.ok (.slice 5) w:=run_underlying Tryz.underlying22
 have hs:∀ w:World,(Go.sizeOf 5).run Tryz.prog w=.ok 1 w:=fun w=>by kernel_rfl
 have hl:∀ (a:Addr) (w:World),(loadCells a 0).run Tryz.prog w=.ok #[] w:=fun _ _=>rfl
 cases base<;>cases ao<;>simp [hl,Builtin.append_,hu,hs,h,Builtin.firstCells,Builtin.lenOf,Result.andThen,storeCells]
/-- a row of one's own is a slice -/
theorem own_slice {w:World} {base:Nat} {e:TypeId} {v:Value} {n:Nat} {xs:List Value} (h:w.ownsRow base e 1 v n xs):∃ ao cap,v=.slice ao n cap∧n≤cap∧cap≤maxLen:=by
 rcases h.2 with ⟨h1,h2⟩|⟨g,cap,cur,h1,h2,h3,h4,h5,h6,h7⟩
 ·subst h2;exact ⟨none,0,h1,Nat.le_refl _,Nat.zero_le _⟩
 ·exact ⟨_,cap,h1,h4,h5⟩
theorem grown_same (w:World) (row:Option Nat):w.grownBy w row:=⟨rfl,rfl,rfl,Nat.le_refl _,fun _ _ _=>rfl⟩
/-- bytes behind a row of one's own, be they none -/
theorem wpList_append_bs {ops:Array Oper} {rest:List Oper} {o:Oper} {a:Act} {w:World} {Q:Exit→Act→World→Prop} (hgd:o.guard=none) (s x:Operand)
  (ho:o.op=.call { callee:=.builtin .append,args:=#[s,x],argTypes:=#[22,22] })
  (base:Nat) (v:Value) (n:Nat) (xs:List Int) (hs:a.eval s=v) (hown:w.ownsRow base 5 1 v n (u8s xs))
  (u:Value) (B:List Int) (hx:a.eval x=u) (hB:Bs w u B) (h47:n + B.length≤140737488355328) (hbase:base≤w.heap.size)
  (h:∀ v' w',w'.ownsRow base 5 1 v' (n + B.length) (u8s (xs++B))→w.grownBy w' v.ownBlock→(v'.ownBlock=v.ownBlock∨v'.ownBlock=some w.heap.size)→wpList Tryz.prog ops Q rest (a.put o.dst v') w') :
  wpList Tryz.prog ops Q (o :: rest) a w:=by
 obtain ⟨ao,cap,rfl,c1,c2,c3⟩:=hB
 by_cases h0:B.length=0
 ·obtain rfl:B=[]:=List.eq_nil_of_length_eq_zero h0
  obtain ⟨bo,cp,rfl,k1,k2⟩:=own_slice hown
  refine Lib.wpList_append_run_sl w hgd s x 22 ho _ _ hs hx (run_append_empty k1) ?_
  exact h _ w (by simpa using hown) (grown_same _ _) (.inl rfl)
 ·obtain ⟨b,of,rfl,hb0,hc0⟩:=c3 (by omega)
  obtain ⟨i0,hi0,hz0,hz1,hz2⟩:=info_parts info_bA
  refine wpList_append_lies _ hgd s x _ ho base 5 i0 _ 1 1 Tryz.underlying22 hi0 hz0 hz1 hz2 rfl (by omega) v n (u8s xs) hs hown ⟨b,of,none⟩ B.length cap (u8s B) hx (by simp [u8s]) ?_ (by simp [u8s,Value.oneCell']) (by omega) (by unfold maxLen;omega) (by omega) hbase w.heap.size rfl ?_
  ·intro j z hz
   have hj:j < B.length:=by
    have:=(List.getElem?_eq_some_iff.1 hz).1
    simpa [u8s] using this
   have e:(⟨b,of,none⟩:Addr).add j=⟨b,of + j,none⟩:=by unfold Addr.add;split<;>simp_all
   rw [u8s_get B j hj] at hz
   rw [e,← hz]
   exact hc0 j hj
  ·intro g cap1 w' hown1 hgrow hat hlt
   refine h _ w' (by simpa [u8s] using hown1) hgrow ?_
   rcases hat with e|e
   ·exact .inl (by rw [e];rfl)
   ·exact .inr (by rw [← e];rfl)
theorem bs_one (w:World) (y:Int):Bs (w.alloc (.cells #[.int .u8 y] 5)) (.slice (some ⟨w.heap.size,0,none⟩) 1 1) [y]:=by
 have B:=Blk.new w [.int .u8 y] 5 w.heap.size rfl
 exact ⟨_,1,rfl,by decide,Nat.le_refl _,fun _=>⟨w.heap.size,0,rfl,B.lt,fun j hj=>by
  have e:j=0:=by simp at hj;exact hj
  subst e
  exact B.cell 0 _ rfl⟩⟩
theorem own_under {w:World} {base:Nat} {e:TypeId} {v:Value} {n:Nat} {xs:List Value} (h:w.ownsRow base e 1 v n xs) {g:Nat} (hg:v.ownBlock=some g):g < w.heap.size:=by
 rcases h.2 with ⟨h1,h2⟩|⟨g',cap,cur,h1,h2,h3,h4⟩
 ·rw [h1] at hg;simp [Value.ownBlock] at hg
 ·rw [h1] at hg
  simp only [Value.ownBlock,Option.some.injEq] at hg
  subst hg
  exact (Array.getElem?_eq_some_iff.1 h3).1
/-- two rows apart -/
def Apart (v u:Value):Prop:=∀ g,v.ownBlock=some g→u.ownBlock=some g→False
theorem Apart.swap {v u:Value} (h:Apart v u):Apart u v:=fun g a b=>h g b a
theorem Apart.new {w:World} {base:Nat} {e:TypeId} {v u v':Value} {n:Nat} {xs:List Value} (h:Apart v u) (ho:w.ownsRow base e 1 u n xs) (hv:v'.ownBlock=v.ownBlock∨v'.ownBlock=some w.heap.size):Apart v' u:=by
 intro g a b
 rcases hv with k|k
 ·exact h g (by rw [← k];exact a) b
 ·rw [k] at a
  have:=own_under ho b
  simp only [Option.some.injEq] at a
  omega
theorem below_own {w w':World} {base:Nat} {row:Option Nat} {B:Nat} {a:World} (hb:Below B a w) (hg:w.grownBy w' row) (hs:B≤w.heap.size) (hr:∀ g,row=some g→base≤g) (h:B≤base):Below B a w':=Below.grown hb hg hs (fun j hj=>Nat.le_trans h (hr j hj))
end Go.Proofs.YtnkipgbnnhahbaaGreatDoor
