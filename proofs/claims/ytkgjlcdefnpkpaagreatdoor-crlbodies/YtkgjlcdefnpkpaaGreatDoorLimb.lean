/- limb.Sub: the difference, and the bit that is borrowed. limb.Less: whether a number is below another one. limb.Same: 1, if the two numbers are the same, else 0. -/
import Derived.Test.YtkgjlcdefnpkpaaGreatDoorBase
import Derived.Test.YtkgjlcdefnpkpaaGreatDoorRows
import Derived.Shelf.Spec.BitsCarry
import Derived.Deep.RegionHeld3
import Derived.Deep.QuietTactic
import Derived.BigQuiet
namespace Go.Proofs.YtkgjlcdefnpkpaaGreatDoor
open Go.RowKit
theorem sub64_run (x y c:Int) (hx:0≤x∧x < 18446744073709551616) (hy:0≤y∧y < 18446744073709551616) (hc0:0≤c) (hc:c≤1) (w:World) :
    (callFunc 168 #[.int .u64 x,.int .u64 y,.int .u64 c]).run Tryz.prog w =
      .ok (.value (.tuple #[.int .u64 ((x - y - c) % 18446744073709551616),.int .u64 (-((x - y - c) / 18446744073709551616))])) w:=by
  obtain ⟨x,rfl⟩:=Int.eq_ofNat_of_zero_le hx.1
  obtain ⟨y,rfl⟩:=Int.eq_ofNat_of_zero_le hy.1
  obtain ⟨c,rfl⟩:=Int.eq_ofNat_of_zero_le hc0
  rw [run_callFunc_extern Tryz.func168 (by kernel_rfl) (by kernel_rfl) (by kernel_rfl) (e:=sub64Entry) (by kernel_rfl),run_sub64 x y c (by omega)]
  have e1:(((x + 18446744073709551616 - y - c) % 18446744073709551616:Nat):Int)=((x:Int) - y - c) % 18446744073709551616:=by omega
  have e2:((if x < y + c then 1 else 0:Nat):Int)=-(((x:Int) - y - c) / 18446744073709551616):=by
    split<;>omega
  rw [e1,e2]
  rfl
/-- a round of the difference -/
theorem sub_step (A B S:List Int) (k:Nat) (n a b:Int) (lA:A.length=6) (lB:B.length=6) (lS:S.length=6) (hk:k < 6) (ha:A.getD k 0=a) (hb:B.getD k 0=b)
  (h:v64 (S.take k) - n * 18446744073709551616 ^ k=v64 (A.take k) - v64 (B.take k)) :
  v64 ((S.set k ((a - b - n) % 18446744073709551616)).take (k + 1)) - (-((a - b - n) / 18446744073709551616)) * 18446744073709551616 ^ (k + 1)=v64 (A.take (k + 1)) - v64 (B.take (k + 1)):=by
 have e:=Int.mul_ediv_add_emod (a - b - n) 18446744073709551616
 simp only [v64] at *
 rw [pv_take _ _ k (by simp;omega),pv_take _ A k (by omega),pv_take _ B k (by omega),take_set_same,getD_set_same _ _ _ (by omega),ha,hb,Int.pow_succ]
 generalize (a - b - n) / 18446744073709551616=q at *
 generalize (a - b - n) % 18446744073709551616=r at *
 generalize (18446744073709551616:Int) ^ k=p at *
 have e':a=18446744073709551616 * q + r + b + n:=by omega
 subst e'
 grind
set_option maxRecDepth 100000 in
set_option maxHeartbeats 1000000 in
theorem sub_any (A B:List Int) (w:World) (lA:A.length=6) (lB:B.length=6) (hx:fits A) (hy:fits B) :
  Calls Tryz.prog 156 #[.agg (us A).toArray,.agg (us B).toArray] w fun e w'=>∃ (S:List Int) (n:Int),e=.returned (.tuple #[.agg (us S).toArray,.int .u64 n])∧S.length=6∧fits S∧0≤n∧n≤1 ∧
   v64 S - n * 18446744073709551616 ^ 6=v64 A - v64 B∧Below w.heap.size w w':=by
 have b0:=(((Blk.new w (us A) 28 w.heap.size rfl).alloc (.cells (us B).toArray 28)).alloc (.cells (us [0,0,0,0,0,0]).toArray 28)).alloc (.cells (us [0,0,0,0,0,0]).toArray 28)
 have b1:=((Blk.new (w.alloc (.cells (us A).toArray 28)) (us B) 28 (w.heap.size + 1) (by simp)).alloc (.cells (us [0,0,0,0,0,0]).toArray 28)).alloc (.cells (us [0,0,0,0,0,0]).toArray 28)
 have b2:=(Blk.new ((w.alloc (.cells (us A).toArray 28)).alloc (.cells (us B).toArray 28)) (us [0,0,0,0,0,0]) 28 (w.heap.size + 1 + 1) (by simp)).alloc (.cells (us [0,0,0,0,0,0]).toArray 28)
 have b3:=Blk.new (((w.alloc (.cells (us A).toArray 28)).alloc (.cells (us B).toArray 28)).alloc (.cells (us [0,0,0,0,0,0]).toArray 28)) (us [0,0,0,0,0,0]) 28 (w.heap.size + 1 + 1 + 1) (by simp)
 have hbel:Below w.heap.size w ((((w.alloc (.cells (us A).toArray 28)).alloc (.cells (us B).toArray 28)).alloc (.cells (us [0,0,0,0,0,0]).toArray 28)).alloc (.cells (us [0,0,0,0,0,0]).toArray 28)):=((((Below.refl _ _).alloc (Nat.le_refl _) _).alloc (by simp) _).alloc (by simp;omega) _).alloc (by simp;omega) _
 go_enter Tryz.func156,Tryz.ntmps156
 go_wp2
 go_loopw [7,9] (fun o i wr=>∃ (k:Nat) (n:Int) (S:List Int),k≤6∧i=.int .i64 k∧o=.int .u64 n∧0≤n∧n≤1∧S.length=6∧fits S∧v64 (S.take k) - n * 18446744073709551616 ^ k=v64 (A.take k) - v64 (B.take k) ∧
   Blk wr w.heap.size (us A)∧Blk wr (w.heap.size + 1) (us B)∧Blk wr (w.heap.size + 1 + 1) (us [0,0,0,0,0,0])∧Blk wr (w.heap.size + 1 + 1 + 1) (us S)∧Below w.heap.size w wr)
  (fun _ i _=>6 - (intOf i).toNat)
 case atStart=>exact ⟨0,0,[0,0,0,0,0,0],by omega,rfl,rfl,by omega,by omega,rfl,fits_zero 6,by simp [pv],b0,b1,b2,b3,hbel⟩
 case round =>
  obtain ⟨k,n,S,hk,rfl,rfl,hn0,hn1,lS,fS,hv,hSA,hSB,hSZ,hSS,hbel⟩:=hrel
  clear b0 b1 b2 b3
  by_cases hlt:k < 6
  ·obtain ⟨a,hA⟩:∃ a,A.getD k 0=a:=⟨_,rfl⟩
   obtain ⟨b,hB⟩:∃ b,B.getD k 0=b:=⟨_,rfl⟩
   obtain ⟨s,hS⟩:∃ s,S.getD k 0=s:=⟨_,rfl⟩
   have ha:=hSA.cell k _ (us_get A k (by omega))
   have hb:=hSB.cell k _ (us_get B k (by omega))
   have hs:=hSS.cell k _ (us_get S k (by omega))
   rw [hA] at ha
   rw [hB] at hb
   rw [hS] at hs
   have hf:=hSS.frozen k
   have hax:0≤a∧a < 18446744073709551616:=hA ▸ hx k
   have hbx:0≤b∧b < 18446744073709551616:=hB ▸ hy k
   have hadd:=sub64_run a b n hax hbx hn0 hn1
   have st:Hid _:=sub_step A B S k n a b lA lB lS hlt hA hB hv
   have q0:0≤-((a - b - n) / 18446744073709551616):=by omega
   have q1:-((a - b - n) / 18446744073709551616)≤1:=by omega
   have r0:0≤(a - b - n) % 18446744073709551616:=by omega
   have r1:(a - b - n) % 18446744073709551616 < 18446744073709551616:=by omega
   clear hA hB hS hv
   have h1:(k:Int) < 6:=by omega
   have h2:(0:Int)≤(k:Int):=by omega
   go_wp2
   go_region_held3 (fun w'=>w'.cell? ⟨w.heap.size,k,none⟩=some (.int .u64 a)∧w'.cell? ⟨w.heap.size + 1,k,none⟩=some (.int .u64 b)) (first|exact ⟨ha,hb⟩|(refine ⟨?_,?_⟩<;>(rw [World.cell?_drew,World.cell?_setCell_far _ _ _ _ (by simp<;>omega)];assumption))) (fail)
   all_goals go_wp2
   all_goals go_roundw
   case rel=>exact ⟨k + 1,_,S.set k ((a - b - n) % 18446744073709551616),by omega,by go_num,rfl,q0,q1,by simpa using lS,fits_set fS k _ r0 r1,st.out,(hSA.other _ _ (by simp<;>omega)).drew,(hSB.other _ _ (by simp<;>omega)).drew,(hSZ.other _ _ (by simp)).drew,(hSS.setu k _).drew,(hbel.setCell (by simp<;>omega) _).drew⟩
   case measure=>simp [intOf];omega
  ·have h6:(6:Int)≤(k:Int):=by omega
   obtain ⟨s0,s1,s2,s3,s4,s5,rfl⟩:=six lS
   have c0:=hSS.cell 0 _ rfl
   have z0:=hSZ.cell 0 _ rfl
   have f0:=hSZ.frozen 0
   have c1:=hSS.cell 1 _ rfl
   have z1:=hSZ.cell 1 _ rfl
   have f1:=hSZ.frozen 1
   have c2:=hSS.cell 2 _ rfl
   have z2:=hSZ.cell 2 _ rfl
   have f2:=hSZ.frozen 2
   have c3:=hSS.cell 3 _ rfl
   have z3:=hSZ.cell 3 _ rfl
   have f3:=hSZ.frozen 3
   have c4:=hSS.cell 4 _ rfl
   have z4:=hSZ.cell 4 _ rfl
   have f4:=hSZ.frozen 4
   have c5:=hSS.cell 5 _ rfl
   have z5:=hSZ.cell 5 _ rfl
   have f5:=hSZ.frozen 5
   go_wp2
   have hk6:k=6:=by omega
   subst hk6
   rw [List.take_of_length_le (by omega),List.take_of_length_le (by omega),List.take_of_length_le (by omega)] at hv
   exact bodyPost_ret (v:=.tuple #[.agg #[.int .u64 s0,.int .u64 s1,.int .u64 s2,.int .u64 s3,.int .u64 s4,.int .u64 s5],.int .u64 n]) (by simp [results,Tryz.results156,go_sem,z0,z1,z2,z3,z4,z5]) rfl
    ⟨[s0,s1,s2,s3,s4,s5],n,rfl,rfl,fS,hn0,hn1,hv,(((((hbel.setCell (by simp;omega) _).setCell (by simp;omega) _).setCell (by simp;omega) _).setCell (by simp;omega) _).setCell (by simp;omega) _).setCell (by simp;omega) _⟩
theorem sub6 {x0 x1 x2 x3 x4 x5 y0 y1 y2 y3 y4 y5:Int} {w:World} (hx:fits [x0,x1,x2,x3,x4,x5]) (hy:fits [y0,y1,y2,y3,y4,y5]) :
  Calls Tryz.prog 156 #[.agg #[.int .u64 x0,.int .u64 x1,.int .u64 x2,.int .u64 x3,.int .u64 x4,.int .u64 x5],.agg #[.int .u64 y0,.int .u64 y1,.int .u64 y2,.int .u64 y3,.int .u64 y4,.int .u64 y5]] w fun e w'=>∃ s0 s1 s2 s3 s4 s5 n:Int,e=.returned (.tuple #[.agg #[.int .u64 s0,.int .u64 s1,.int .u64 s2,.int .u64 s3,.int .u64 s4,.int .u64 s5],.int .u64 n])∧fits [s0,s1,s2,s3,s4,s5]∧0≤n∧n≤1 ∧
   v64 [s0,s1,s2,s3,s4,s5] - n * 18446744073709551616 ^ 6=v64 [x0,x1,x2,x3,x4,x5] - v64 [y0,y1,y2,y3,y4,y5]∧Below w.heap.size w w':=by
 refine (sub_any [x0,x1,x2,x3,x4,x5] [y0,y1,y2,y3,y4,y5] w rfl rfl hx hy).mono ?_
 rintro e w' ⟨S,n,rfl,lS,fS,h0,h1,hv,hb⟩
 obtain ⟨s0,s1,s2,s3,s4,s5,rfl⟩:=six lS
 exact ⟨s0,s1,s2,s3,s4,s5,n,rfl,fS,h0,h1,hv,hb⟩
def lessN (A B:List Int):Int:=if v64 A < v64 B then 1 else 0
theorem less_num (A B S:List Int) (n:Int) (lS:S.length=6) (fS:fits S) (n0:0≤n) (n1:n≤1)
  (h:v64 S - n * 18446744073709551616 ^ 6=v64 A - v64 B):n=lessN A B:=by
 have bS:=v64_bound S fS
 rw [lS] at bS
 unfold lessN
 generalize (18446744073709551616:Int) ^ 6=R at *
 have hn:n=0∨n=1:=by omega
 rcases hn with rfl|rfl
 ·rw [if_neg (by omega)]
 ·rw [if_pos (by omega)]
set_option maxRecDepth 100000 in
set_option maxHeartbeats 400000 in
theorem less6 {x0 x1 x2 x3 x4 x5 y0 y1 y2 y3 y4 y5:Int} {w:World} (hx:fits [x0,x1,x2,x3,x4,x5]) (hy:fits [y0,y1,y2,y3,y4,y5]) :
  Calls Tryz.prog 134 #[.agg #[.int .u64 x0,.int .u64 x1,.int .u64 x2,.int .u64 x3,.int .u64 x4,.int .u64 x5],.agg #[.int .u64 y0,.int .u64 y1,.int .u64 y2,.int .u64 y3,.int .u64 y4,.int .u64 y5]] w fun e w'=>e=.returned (.int .u64 (lessN [x0,x1,x2,x3,x4,x5] [y0,y1,y2,y3,y4,y5]))∧Below w.heap.size w w':=by
 have bel:Below w.heap.size w ((w.alloc (.cells #[.int .u64 x0,.int .u64 x1,.int .u64 x2,.int .u64 x3,.int .u64 x4,.int .u64 x5] 28)).alloc (.cells #[.int .u64 y0,.int .u64 y1,.int .u64 y2,.int .u64 y3,.int .u64 y4,.int .u64 y5] 28)):=((Below.refl _ _).alloc (Nat.le_refl _) _).alloc (by simp) _
 go_enter Tryz.func134,Tryz.ntmps134
 go_wp2_with fail
 refine (sub6 hx hy).mono ?_
 rintro e w1 ⟨s0,s1,s2,s3,s4,s5,n,rfl,fS,n0,n1,hv,hb⟩
 have hn:Hid _:=less_num [x0,x1,x2,x3,x4,x5] [y0,y1,y2,y3,y4,y5] [s0,s1,s2,s3,s4,s5] n rfl fS n0 n1 hv
 have bel1:=bel.trans (hb.mono (by simp;omega))
 clear bel hb hv
 have hz:=bel1.size
 go_wp2_with fail
 go_ret
 exact ⟨ret_int hn.out,bel1.alloc hz _⟩
theorem or_zero (n m:Int) (h0:0≤n) (h1:n < 18446744073709551616) (h2:0≤m) (h3:m < 18446744073709551616) :
  0≤bits .or .u64 n m∧bits .or .u64 n m < 18446744073709551616∧(bits .or .u64 n m=0↔n=0∧m=0):=by
 rw [u64_or n m h0 h1 h2 h3]
 have hn:n.toNat < 2 ^ 64:=by omega
 have hm:m.toNat < 2 ^ 64:=by omega
 have hlt:=Nat.or_lt_two_pow hn hm
 refine ⟨by omega,by omega,?_⟩
 constructor
 ·intro h
  have h':n.toNat ||| m.toNat=0:=by omega
  rw [Nat.or_eq_zero_iff] at h'
  omega
 ·rintro ⟨rfl,rfl⟩
  rfl
theorem xor_zero (n m:Int) (h0:0≤n) (h1:n < 18446744073709551616) (h2:0≤m) (h3:m < 18446744073709551616) :
  0≤bits .xor .u64 n m∧bits .xor .u64 n m < 18446744073709551616∧(bits .xor .u64 n m=0↔n=m):=by
 rw [u64_xor n m h0 h1 h2 h3]
 have hn:n.toNat < 2 ^ 64:=by omega
 have hm:m.toNat < 2 ^ 64:=by omega
 have hlt:=Nat.xor_lt_two_pow hn hm
 refine ⟨by omega,by omega,?_⟩
 constructor
 ·intro h
  have h':n.toNat ^^^ m.toNat=0:=by omega
  have h'':n.toNat=m.toNat:=by
   have:=congrArg (· ^^^ m.toNat) h'
   simpa [Nat.xor_assoc] using this
  omega
 ·rintro rfl
  simp
/-- the loop's step on what is the same so far -/
theorem same_step (n a b:Int) (h0:0≤n) (h1:n < 18446744073709551616) (ha:0≤a∧a < 18446744073709551616) (hb:0≤b∧b < 18446744073709551616) (A B:List Int) (k:Nat)
  (hiff:n=0↔∀ j,j < k→A.getD j 0=B.getD j 0) (hA:A.getD k 0=a) (hB:B.getD k 0=b) :
  0≤bits .or .u64 n (bits .xor .u64 a b)∧bits .or .u64 n (bits .xor .u64 a b) < 18446744073709551616∧(bits .or .u64 n (bits .xor .u64 a b)=0↔∀ j,j < k + 1→A.getD j 0=B.getD j 0):=by
 have hx:=xor_zero a b ha.1 ha.2 hb.1 hb.2
 have ho:=or_zero n (bits .xor .u64 a b) h0 h1 hx.1 hx.2.1
 refine ⟨ho.1,ho.2.1,?_⟩
 rw [ho.2.2,hx.2.2,hiff]
 constructor
 ·rintro ⟨h,h'⟩ j hj
  by_cases hjk:j=k
  ·subst hjk;rw [hA,hB,h']
  ·exact h j (by omega)
 ·intro h
  exact ⟨fun j hj=>h j (by omega),by rw [← hA,← hB];exact h k (by omega)⟩
/-- what the last row makes of it -/
theorem same_end (n:Int) (h0:0≤n) (h1:n < 18446744073709551616) :
  bits .xor .u64 1 (bits .or .u64 n (IntKind.u64.wrap (-n)) / 9223372036854775808)=if n=0 then 1 else 0:=by
 by_cases hz:n=0
 ·subst hz;rfl
 ·rw [if_neg hz]
  have e:IntKind.u64.wrap (-n)=18446744073709551616 - n:=by rw [IntKind.wrap_u64];omega
  rw [e,u64_or n _ h0 h1 (by omega) (by omega)]
  have hl:=Nat.left_le_or (n:=n.toNat) (m:=(18446744073709551616 - n).toNat)
  have hr:=Nat.right_le_or (n:=n.toNat) (m:=(18446744073709551616 - n).toNat)
  have hlt:=Nat.or_lt_two_pow (n:=64) (show n.toNat < 2 ^ 64 by omega) (show (18446744073709551616 - n).toNat < 2 ^ 64 by omega)
  generalize n.toNat ||| (18446744073709551616 - n).toNat=m at *
  have:(m:Int) / 9223372036854775808=1:=by omega
  rw [this]
  rfl
def sameN (A B:List Int):Int:=if A=B then 1 else 0
theorem same_all (A B:List Int) (lA:A.length=6) (lB:B.length=6) (n:Int) (h0:0≤n) (h1:n < 18446744073709551616) (k:Nat) (hk:k=6) (hiff:n=0↔∀ j,j < k→A.getD j 0=B.getD j 0) :
  bits .xor .u64 1 (bits .or .u64 n (IntKind.u64.wrap (-n)) / 9223372036854775808)=sameN A B:=by
 rw [same_end n h0 h1,sameN]
 have:n=0↔A=B:=by
  rw [hiff]
  constructor
  ·intro h
   apply List.ext_getElem (by omega)
   intro i h1 h2
   have:=h i (by omega)
   simpa [List.getD_eq_getElem?_getD,h1,h2] using this
  ·rintro rfl _ _;rfl
 simp only [this]
set_option maxRecDepth 100000 in
set_option maxHeartbeats 400000 in
theorem same_any (A B:List Int) (w:World) (lA:A.length=6) (lB:B.length=6) (hx:fits A) (hy:fits B) :
  Calls Tryz.prog 133 #[.agg (us A).toArray,.agg (us B).toArray] w fun e w'=>e=.returned (.int .u64 (sameN A B))∧Below w.heap.size w w':=by
 have b0:=(Blk.new w (us A) 28 w.heap.size rfl).alloc (.cells (us B).toArray 28)
 have b1:=Blk.new (w.alloc (.cells (us A).toArray 28)) (us B) 28 (w.heap.size + 1) (by simp)
 have hbel:Below w.heap.size w ((w.alloc (.cells (us A).toArray 28)).alloc (.cells (us B).toArray 28)):=((Below.refl _ _).alloc (Nat.le_refl _) _).alloc (by simp) _
 go_enter Tryz.func133,Tryz.ntmps133
 go_wp2
 go_loopw [5,7] (fun o i wr=>∃ (k:Nat) (n:Int),k≤6∧i=.int .i64 k∧o=.int .u64 n∧0≤n∧n < 18446744073709551616∧(n=0↔∀ j,j < k→A.getD j 0=B.getD j 0)∧Blk wr w.heap.size (us A)∧Blk wr (w.heap.size + 1) (us B)∧Below w.heap.size w wr)
  (fun _ i _=>6 - (intOf i).toNat)
 case atStart=>exact ⟨0,0,by omega,rfl,rfl,by omega,by omega,by simp,b0,b1,hbel⟩
 case round =>
  obtain ⟨k,n,hk,rfl,rfl,hn0,hn1,hiff,hSA,hSB,hbel⟩:=hrel
  clear b0 b1
  by_cases hlt:k < 6
  ·obtain ⟨a,hA⟩:∃ a,A.getD k 0=a:=⟨_,rfl⟩
   obtain ⟨b,hB⟩:∃ b,B.getD k 0=b:=⟨_,rfl⟩
   have ha:=hSA.cell k _ (us_get A k (by omega))
   have hb:=hSB.cell k _ (us_get B k (by omega))
   rw [hA] at ha
   rw [hB] at hb
   have hs:Hid _:=same_step n a b hn0 hn1 (hA ▸ hx k) (hB ▸ hy k) A B k hiff hA hB
   clear hiff hA hB
   have h1:(k:Int) < 6:=by omega
   go_wp2
   go_quiet (fail)
   go_wp2
   go_roundw
   case rel=>exact ⟨k + 1,_,by omega,by go_num,rfl,hs.out.1,hs.out.2.1,hs.out.2.2,hSA.drewN _,hSB.drewN _,below_dN hbel _⟩
   case measure=>simp [intOf];omega
  ·have h6:(6:Int)≤(k:Int):=by omega
   go_wp2
   go_ret
   exact ⟨ret_int (same_all A B lA lB n hn0 hn1 k (by omega) hiff),hbel⟩
def sameI (A B:Int):Int:=if A=B then 1 else 0
theorem same_is {x0 x1 x2 x3 x4 x5 y0 y1 y2 y3 y4 y5 A B:Int} {w:World} (fX:fits [x0,x1,x2,x3,x4,x5]) (fY:fits [y0,y1,y2,y3,y4,y5]) (hx:v64 [x0,x1,x2,x3,x4,x5]=A) (hy:v64 [y0,y1,y2,y3,y4,y5]=B) :
  Calls Tryz.prog 133 #[.agg #[.int .u64 x0,.int .u64 x1,.int .u64 x2,.int .u64 x3,.int .u64 x4,.int .u64 x5],.agg #[.int .u64 y0,.int .u64 y1,.int .u64 y2,.int .u64 y3,.int .u64 y4,.int .u64 y5]] w fun e w'=>e=.returned (.int .u64 (sameI A B))∧Below w.heap.size w w':=by
 refine (same_any [x0,x1,x2,x3,x4,x5] [y0,y1,y2,y3,y4,y5] w rfl rfl fX fY).mono ?_
 rintro e w' ⟨rfl,hb⟩
 refine ⟨ret_int ?_,hb⟩
 subst hx hy
 unfold sameN sameI
 by_cases h:[x0,x1,x2,x3,x4,x5]=[y0,y1,y2,y3,y4,y5]
 ·rw [if_pos h,if_pos (by rw [h])]
 ·rw [if_neg h,if_neg (fun k=>h (v64_inj _ _ rfl fX fY k))]
end Go.Proofs.YtkgjlcdefnpkpaaGreatDoor
