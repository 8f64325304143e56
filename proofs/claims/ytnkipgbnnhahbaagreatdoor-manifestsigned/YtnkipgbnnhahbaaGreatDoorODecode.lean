/- limb.From: the number of 48 bytes. limb.Same: 1, if the two numbers are the same, else 0. The two tables of the field as they lie in memory. order.N: the order. limb.From told by six letters; errors held against nil. order.Decode: the number of 48 bytes, below the order; or what is amiss. -/
import Derived.Test.YtnkipgbnnhahbaaGreatDoorApBs
import Derived.Test.YtnkipgbnnhahbaaGreatDoorNum
import Derived.Test.YtnkipgbnnhahbaaGreatDoorEdFact
import Derived.Test.YtnkipgbnnhahbaaGreatDoorHeld3
import Derived.Test.YtnkipgbnnhahbaaGreatDoorDrPar
import Derived.Test.YtnkipgbnnhahbaaGreatDoorRows
import Derived.Deep.RegionHeld3
import Derived.Deep.QuietTactic
import Derived.BigQuiet
namespace Go.Proofs.YtnkipgbnnhahbaaGreatDoor
open Go.RowKit
/-- what limb j holds behind k bytes, the lowest byte first -/
def segF (R:List Int) (k j:Nat):List Int:=(R.take (8 * j + 8)).drop (max (8 * j) (48 - k))
def segs (R:List Int) (k:Nat) (S:List Int):Prop:=∀ j,j < 6→S.getD j 0=pv 256 (segF R k j)
theorem segs_zero (R:List Int) (lR:R.length=48):segs R 0 [0,0,0,0,0,0]:=by
 intro j hj
 have e:segF R 0 j=[]:=by
  unfold segF
  apply List.drop_eq_nil_of_le
  simp;omega
 rw [e]
 match j,hj with
 | 0,_=>rfl
 | 1,_=>rfl
 | 2,_=>rfl
 | 3,_=>rfl
 | 4,_=>rfl
 | 5,_=>rfl
theorem segF_here (R:List Int) (k:Nat) (lR:R.length=48) (hk:k < 48):segF R (k + 1) ((47 - k) / 8)=R.getD (47 - k) 0 :: segF R k ((47 - k) / 8):=by
 unfold segF
 have e1:max (8 * ((47 - k) / 8)) (48 - (k + 1))=47 - k:=by omega
 have e2:max (8 * ((47 - k) / 8)) (48 - k)=47 - k + 1:=by omega
 have hl:47 - k < (R.take (8 * ((47 - k) / 8) + 8)).length:=by simp;omega
 rw [e1,e2,List.drop_eq_getElem_cons hl]
 congr 1
 rw [List.getElem_take,List.getD_eq_getElem?_getD,List.getElem?_eq_getElem (by omega)]
 rfl
theorem segF_else (R:List Int) (k j:Nat) (lR:R.length=48) (hk:k < 48) (hj:j < 6) (hne:(47 - k) / 8≠j):segF R (k + 1) j=segF R k j:=by
 unfold segF
 by_cases h:48 - k≤8 * j
 ·have e1:max (8 * j) (48 - (k + 1))=8 * j:=by omega
  have e2:max (8 * j) (48 - k)=8 * j:=by omega
  rw [e1,e2]
 ·rw [List.drop_eq_nil_of_le (by simp;omega),List.drop_eq_nil_of_le (by simp;omega)]
theorem segF_bound (R:List Int) (k:Nat) (lR:R.length=48) (hR:∀ j,0≤R.getD j 0∧R.getD j 0 < 256) (hk:k < 48):0≤pv 256 (segF R k ((47 - k) / 8))∧pv 256 (segF R k ((47 - k) / 8)) < 72057594037927936:=by
 have hg:∀ j,0≤(segF R k ((47 - k) / 8)).getD j 0∧(segF R k ((47 - k) / 8)).getD j 0 < 256:=by
  intro j
  unfold segF
  by_cases h:max (8 * ((47 - k) / 8)) (48 - k) + j < 8 * ((47 - k) / 8) + 8
  ·have:((R.take (8 * ((47 - k) / 8) + 8)).drop (max (8 * ((47 - k) / 8)) (48 - k))).getD j 0=R.getD (max (8 * ((47 - k) / 8)) (48 - k) + j) 0:=by
    simp only [List.getD_eq_getElem?_getD,List.getElem?_drop,List.getElem?_take,h,if_true]
   rw [this];exact hR _
  ·have:((R.take (8 * ((47 - k) / 8) + 8)).drop (max (8 * ((47 - k) / 8)) (48 - k))).getD j 0=0:=by
    simp only [List.getD_eq_getElem?_getD,List.getElem?_drop,List.getElem?_take,h,if_false]
    rfl
   rw [this];decide
 have b:=pv256_bound _ hg
 have hl:(segF R k ((47 - k) / 8)).length≤7:=by
  unfold segF;simp;omega
 have p:(256:Int) ^ (segF R k ((47 - k) / 8)).length≤256 ^ 7:=by
  generalize (segF R k ((47 - k) / 8)).length=n at *
  match n,hl with
  | 0,_=>decide
  | 1,_=>decide
  | 2,_=>decide
  | 3,_=>decide
  | 4,_=>decide
  | 5,_=>decide
  | 6,_=>decide
  | 7,_=>decide
 have e:(256:Int) ^ 7=72057594037927936:=by decide
 omega
theorem segs_step (R S:List Int) (k:Nat) (x s:Int) (lR:R.length=48) (lS:S.length=6) (hk:k < 48) (hx:R.getD (47 - k) 0=x) (hs:S.getD ((47 - k) / 8) 0=s) (h:segs R k S):segs R (k + 1) (S.set ((47 - k) / 8) (s * 256 + x)):=by
 intro j hj
 by_cases hjk:(47 - k) / 8=j
 ·have h0:=h _ (show (47 - k) / 8 < 6 by omega)
  rw [← hjk,getD_set_same _ _ _ (by omega),segF_here R k lR hk,pv,hx,← h0,hs]
  omega
 ·have:(S.set ((47 - k) / 8) (s * 256 + x)).getD j 0=S.getD j 0:=by simp [List.getD_eq_getElem?_getD,hjk]
  rw [this,segF_else R k j lR hk hj hjk]
  exact h j hj
theorem segs_end (R S:List Int) (lR:R.length=48) (lS:S.length=6) (h:segs R 48 S):v64 S=pv 256 R:=by
 obtain ⟨s0,s1,s2,s3,s4,s5,rfl⟩:=six lS
 have key:∀ n,n≤6→pv 256 (R.take (8 * n))=pv 18446744073709551616 ([s0,s1,s2,s3,s4,s5].take n):=by
  intro n
  induction n with
  | zero=>intro _;simp [pv]
  | succ n ih =>
   intro hn
   have h1:=h n (by omega)
   have e0:segF R 48 n=(R.take (8 * n + 8)).drop (8 * n):=by unfold segF;congr 1;omega
   have e1:R.take (8 * (n + 1))=R.take (8 * n)++segF R 48 n:=by
    rw [e0,show 8 * (n + 1)=8 * n + 8 by omega]
    have:=List.take_append_drop (8 * n) (R.take (8 * n + 8))
    rw [List.take_take,show min (8 * n) (8 * n + 8)=8 * n by omega] at this
    exact this.symm
   rw [e1,pv_append,ih (by omega),pv_take _ _ n (by simp;omega),h1]
   have e2:(R.take (8 * n)).length=8 * n:=by simp;omega
   rw [e2,Int.pow_mul]
   have e3:(256:Int) ^ 8=18446744073709551616:=by decide
   rw [e3]
 have:=key 6 (by omega)
 rw [List.take_of_length_le (by omega),List.take_of_length_le (by simp)] at this
 exact this.symm
theorem or_join (s x:Int) (hs:0≤s∧s < 72057594037927936) (hx:0≤x∧x < 256):bits .or .u64 (s * 256) x=s * 256 + x:=by
 rw [u64_or _ _ (by omega) (by omega) hx.1 (by omega)]
 have e:=nat_join 8 (s * 256).toNat x.toNat (by omega) (by omega)
 rw [e]
 omega
set_option maxRecDepth 100000 in
set_option maxHeartbeats 1000000 in
theorem from_right (v:Value) (bs:List Int) (w:World) (h:Bs w v bs) (hl:bs.length=48) (hB:byt bs) :
  Calls Tryz.prog 103 #[v] w fun e w'=>∃ S:List Int,e=.returned (.tuple #[.agg (us S).toArray,.nilIface])∧S.length=6∧fits S∧v64 S=beN bs∧Below w.heap.size w w':=by
 obtain ⟨ao,cap,rfl,h2,h3,h4⟩:=h
 unfold maxLen at h2
 obtain ⟨b,o,rfl,hb,hc⟩:=h4 (by omega)
 rw [hl] at h3 hc ⊢
 have b2:=(Blk.new w (us [0,0,0,0,0,0]) 25 w.heap.size rfl).alloc (.cells (us [0,0,0,0,0,0]).toArray 25)
 have b3:=Blk.new (w.alloc (.cells (us [0,0,0,0,0,0]).toArray 25)) (us [0,0,0,0,0,0]) 25 (w.heap.size + 1) (by simp)
 have hbel:Below w.heap.size w ((w.alloc (.cells (us [0,0,0,0,0,0]).toArray 25)).alloc (.cells (us [0,0,0,0,0,0]).toArray 25)):=((Below.refl _ _).alloc (Nat.le_refl _) _).alloc (by simp) _
 obtain ⟨R,hR⟩:∃ R,bs.reverse=R:=⟨_,rfl⟩
 have lR:R.length=48:=by rw [← hR];simpa using hl
 have bR:Hid (∀ j,0≤R.getD j 0∧R.getD j 0 < 256):=fun j=>hR ▸ byt_rev hB j
 have gR:Hid (∀ j,j < 48→R.getD (47 - j) 0=bs.getD j 0):=fun j hj=>by
  have:=rev_get bs j (by omega)
  rw [hl,hR] at this
  exact this
 have HN:Hid (pv 256 R=beN bs):=by unfold beN;rw [hR];rfl
 obtain ⟨N,hN⟩:∃ N,beN bs=N:=⟨_,rfl⟩
 rw [hN] at HN ⊢
 have sz:=segs_zero R lR
 clear hN hR h4
 go_enter Tryz.func103,Tryz.ntmps103
 go_wp2
 go_loopw [17] (fun i wr=>∃ (k:Nat) (S:List Int),k≤48∧i=.int .i64 k∧S.length=6∧fits S∧Hid (segs R k S)∧Blk wr w.heap.size (us [0,0,0,0,0,0])∧Blk wr (w.heap.size + 1) (us S)∧Below w.heap.size w wr)
  (fun i _=>48 - (intOf i).toNat)
 case atStart=>exact ⟨0,[0,0,0,0,0,0],by omega,rfl,rfl,fits_zero 6,sz,b2,b3,hbel⟩
 case round =>
  obtain ⟨k,S,hk,rfl,lS,fS,hJ,hZ,hS,hbel⟩:=hrel
  clear b2 b3
  by_cases hlt:k < 48
  ·obtain ⟨x,hx⟩:∃ x,bs.getD k 0=x:=⟨_,rfl⟩
   obtain ⟨s,hs⟩:∃ s,S.getD ((47 - k) / 8) 0=s:=⟨_,rfl⟩
   have xr:R.getD (47 - k) 0=x:=by rw [gR.out k hlt,hx]
   have bx:0≤x∧x < 256:=hx ▸ hB k
   have bs':0≤s∧s < 72057594037927936:=by
    have e:=hJ.out _ (show (47 - k) / 8 < 6 by omega)
    rw [hs] at e
    rw [e];exact segF_bound R k lR bR.out hlt
   have J:Hid (segs R (k + 1) (S.set ((47 - k) / 8) (s * 256 + x))):=segs_step R S k x s lR lS hlt xr hs hJ.out
   have x1:=(hbel.cell (p:=⟨b,o + k,none⟩) hb).trans (hc k hlt)
   rw [hx] at x1
   have x2:=hS.cell ((47 - k) / 8) _ (us_get S _ (by omega))
   rw [hs] at x2
   have fz:=hS.frozen ((47 - k) / 8)
   have hor:=or_join s x bs' bx
   have bs0:=bs'.1
   have bs1:=bs'.2
   have bx0:=bx.1
   have bx1:=bx.2
   have g1:(k:Int) < 48:=by omega
   have g2:(0:Int)≤(k:Int):=by omega
   have g3:(0:Int)≤(47 - (k:Int)) / 8:=by omega
   have g4:(47 - (k:Int)) / 8 < 6:=by omega
   have g5:((47 - (k:Int)) / 8).toNat=(47 - k) / 8:=by omega
   clear hx hs xr bx bs'
   go_wp2
   go_region
   all_goals go_wp2
   all_goals go_roundw
   case rel=>exact ⟨k + 1,S.set ((47 - k) / 8) (s * 256 + x),by omega,by go_num,by simpa using lS,fits_set fS _ _ (by omega) (by omega),J,(hZ.other _ _ (by simp)).drew,(hS.setu _ _).drew,(hbel.setCell (by simp) _).drew⟩
   case measure=>simp [intOf];omega
  ·have h6:(48:Int)≤(k:Int):=by omega
   have HQ:Hid (v64 S=N):=by
    have hk48:k=48:=by omega
    have e:=hJ.out
    rw [hk48] at e
    show _=_
    rw [segs_end R S lR lS e];exact HN.out
   obtain ⟨s0,s1,s2,s3,s4,s5,rfl⟩:=six lS
   obtain ⟨c0,c1,c2,c3,c4,c5⟩:=hS.cells6
   obtain ⟨z0,z1,z2,z3,z4,z5⟩:=hZ.cells6
   have f0:=hZ.frozen 0
   have f1:=hZ.frozen 1
   have f2:=hZ.frozen 2
   have f3:=hZ.frozen 3
   have f4:=hZ.frozen 4
   have f5:=hZ.frozen 5
   clear hJ
   go_wp2
   exact bodyPost_ret (v:=.tuple #[.agg #[.int .u64 s0,.int .u64 s1,.int .u64 s2,.int .u64 s3,.int .u64 s4,.int .u64 s5],.nilIface]) (by simp [results,Tryz.results103,go_sem,z0,z1,z2,z3,z4,z5]) rfl
    ⟨[s0,s1,s2,s3,s4,s5],rfl,rfl,fS,HQ.out,(((((hbel.setCell (by simp) _).setCell (by simp) _).setCell (by simp) _).setCell (by simp) _).setCell (by simp) _).setCell (by simp) _⟩
theorem or_zero (n m:Int) (h0:0≤n) (h1:n < 18446744073709551616) (h2:0≤m) (h3:m < 18446744073709551616) :
  0≤bits .or .u64 n m∧bits .or .u64 n m < 18446744073709551616∧(bits .or .u64 n m=0↔n=0∧m=0):=by
 rw [u64_or n m h0 h1 h2 h3]
 have hn:n.toNat < 2 ^ 64:=by omega
 have hm:m.toNat < 2 ^ 64:=by omega
 have hlt:=Nat.or_lt_two_pow hn hm
 refine ⟨by omega,by omega,?_⟩
 constructor
 ·intro h
  have h':n.toNat ||| m.toNat=0:=by omega
  rw [Nat.or_eq_zero_iff] at h'
  omega
 ·rintro ⟨rfl,rfl⟩
  rfl
theorem xor_zero (n m:Int) (h0:0≤n) (h1:n < 18446744073709551616) (h2:0≤m) (h3:m < 18446744073709551616) :
  0≤bits .xor .u64 n m∧bits .xor .u64 n m < 18446744073709551616∧(bits .xor .u64 n m=0↔n=m):=by
 rw [u64_xor n m h0 h1 h2 h3]
 have hn:n.toNat < 2 ^ 64:=by omega
 have hm:m.toNat < 2 ^ 64:=by omega
 have hlt:=Nat.xor_lt_two_pow hn hm
 refine ⟨by omega,by omega,?_⟩
 constructor
 ·intro h
  have h':n.toNat ^^^ m.toNat=0:=by omega
  have h'':n.toNat=m.toNat:=by
   have:=congrArg (· ^^^ m.toNat) h'
   simpa [Nat.xor_assoc] using this
  omega
 ·rintro rfl
  simp
/-- the loop's step on what is the same so far -/
theorem same_step (n a b:Int) (h0:0≤n) (h1:n < 18446744073709551616) (ha:0≤a∧a < 18446744073709551616) (hb:0≤b∧b < 18446744073709551616) (A B:List Int) (k:Nat)
  (hiff:n=0↔∀ j,j < k→A.getD j 0=B.getD j 0) (hA:A.getD k 0=a) (hB:B.getD k 0=b) :
  0≤bits .or .u64 n (bits .xor .u64 a b)∧bits .or .u64 n (bits .xor .u64 a b) < 18446744073709551616∧(bits .or .u64 n (bits .xor .u64 a b)=0↔∀ j,j < k + 1→A.getD j 0=B.getD j 0):=by
 have hx:=xor_zero a b ha.1 ha.2 hb.1 hb.2
 have ho:=or_zero n (bits .xor .u64 a b) h0 h1 hx.1 hx.2.1
 refine ⟨ho.1,ho.2.1,?_⟩
 rw [ho.2.2,hx.2.2,hiff]
 constructor
 ·rintro ⟨h,h'⟩ j hj
  by_cases hjk:j=k
  ·subst hjk;rw [hA,hB,h']
  ·exact h j (by omega)
 ·intro h
  exact ⟨fun j hj=>h j (by omega),by rw [← hA,← hB];exact h k (by omega)⟩
/-- what the last row makes of it -/
theorem same_end (n:Int) (h0:0≤n) (h1:n < 18446744073709551616) :
  bits .xor .u64 1 (bits .or .u64 n (IntKind.u64.wrap (-n)) / 9223372036854775808)=if n=0 then 1 else 0:=by
 by_cases hz:n=0
 ·subst hz;rfl
 ·rw [if_neg hz]
  have e:IntKind.u64.wrap (-n)=18446744073709551616 - n:=by rw [IntKind.wrap_u64];omega
  rw [e,u64_or n _ h0 h1 (by omega) (by omega)]
  have hl:=Nat.left_le_or (n:=n.toNat) (m:=(18446744073709551616 - n).toNat)
  have hr:=Nat.right_le_or (n:=n.toNat) (m:=(18446744073709551616 - n).toNat)
  have hlt:=Nat.or_lt_two_pow (n:=64) (show n.toNat < 2 ^ 64 by omega) (show (18446744073709551616 - n).toNat < 2 ^ 64 by omega)
  generalize n.toNat ||| (18446744073709551616 - n).toNat=m at *
  have:(m:Int) / 9223372036854775808=1:=by omega
  rw [this]
  rfl
def sameN (A B:List Int):Int:=if A=B then 1 else 0
theorem same_all (A B:List Int) (lA:A.length=6) (lB:B.length=6) (n:Int) (h0:0≤n) (h1:n < 18446744073709551616) (k:Nat) (hk:k=6) (hiff:n=0↔∀ j,j < k→A.getD j 0=B.getD j 0) :
  bits .xor .u64 1 (bits .or .u64 n (IntKind.u64.wrap (-n)) / 9223372036854775808)=sameN A B:=by
 rw [same_end n h0 h1,sameN]
 have:n=0↔A=B:=by
  rw [hiff]
  constructor
  ·intro h
   apply List.ext_getElem (by omega)
   intro i h1 h2
   have:=h i (by omega)
   simpa [List.getD_eq_getElem?_getD,h1,h2] using this
  ·rintro rfl _ _;rfl
 simp only [this]
set_option maxRecDepth 100000 in
set_option maxHeartbeats 400000 in
theorem same_any (A B:List Int) (w:World) (lA:A.length=6) (lB:B.length=6) (hx:fits A) (hy:fits B) :
  Calls Tryz.prog 87 #[.agg (us A).toArray,.agg (us B).toArray] w fun e w'=>e=.returned (.int .u64 (sameN A B))∧Below w.heap.size w w':=by
 have b0:=(Blk.new w (us A) 25 w.heap.size rfl).alloc (.cells (us B).toArray 25)
 have b1:=Blk.new (w.alloc (.cells (us A).toArray 25)) (us B) 25 (w.heap.size + 1) (by simp)
 have hbel:Below w.heap.size w ((w.alloc (.cells (us A).toArray 25)).alloc (.cells (us B).toArray 25)):=((Below.refl _ _).alloc (Nat.le_refl _) _).alloc (by simp) _
 go_enter Tryz.func87,Tryz.ntmps87
 go_wp2
 go_loopw [5,7] (fun o i wr=>∃ (k:Nat) (n:Int),k≤6∧i=.int .i64 k∧o=.int .u64 n∧0≤n∧n < 18446744073709551616∧(n=0↔∀ j,j < k→A.getD j 0=B.getD j 0)∧Blk wr w.heap.size (us A)∧Blk wr (w.heap.size + 1) (us B)∧Below w.heap.size w wr)
  (fun _ i _=>6 - (intOf i).toNat)
 case atStart=>exact ⟨0,0,by omega,rfl,rfl,by omega,by omega,by simp,b0,b1,hbel⟩
 case round =>
  obtain ⟨k,n,hk,rfl,rfl,hn0,hn1,hiff,hSA,hSB,hbel⟩:=hrel
  clear b0 b1
  by_cases hlt:k < 6
  ·obtain ⟨a,hA⟩:∃ a,A.getD k 0=a:=⟨_,rfl⟩
   obtain ⟨b,hB⟩:∃ b,B.getD k 0=b:=⟨_,rfl⟩
   have ha:=hSA.cell k _ (us_get A k (by omega))
   have hb:=hSB.cell k _ (us_get B k (by omega))
   rw [hA] at ha
   rw [hB] at hb
   have hs:Hid _:=same_step n a b hn0 hn1 (hA ▸ hx k) (hB ▸ hy k) A B k hiff hA hB
   clear hiff hA hB
   have h1:(k:Int) < 6:=by omega
   go_wp2
   go_quiet (fail)
   go_wp2
   go_roundw
   case rel=>exact ⟨k + 1,_,by omega,by go_num,rfl,hs.out.1,hs.out.2.1,hs.out.2.2,hSA.drewN _,hSB.drewN _,below_dN hbel _⟩
   case measure=>simp [intOf];omega
  ·have h6:(6:Int)≤(k:Int):=by omega
   go_wp2
   go_ret
   exact ⟨ret_int (same_all A B lA lB n hn0 hn1 k (by omega) hiff),hbel⟩
def sameI (A B:Int):Int:=if A=B then 1 else 0
theorem same_is {x0 x1 x2 x3 x4 x5 y0 y1 y2 y3 y4 y5 A B:Int} {w:World} (fX:fits [x0,x1,x2,x3,x4,x5]) (fY:fits [y0,y1,y2,y3,y4,y5]) (hx:v64 [x0,x1,x2,x3,x4,x5]=A) (hy:v64 [y0,y1,y2,y3,y4,y5]=B) :
  Calls Tryz.prog 87 #[.agg #[.int .u64 x0,.int .u64 x1,.int .u64 x2,.int .u64 x3,.int .u64 x4,.int .u64 x5],.agg #[.int .u64 y0,.int .u64 y1,.int .u64 y2,.int .u64 y3,.int .u64 y4,.int .u64 y5]] w fun e w'=>e=.returned (.int .u64 (sameI A B))∧Below w.heap.size w w':=by
 refine (same_any [x0,x1,x2,x3,x4,x5] [y0,y1,y2,y3,y4,y5] w rfl rfl fX fY).mono ?_
 rintro e w' ⟨rfl,hb⟩
 refine ⟨ret_int ?_,hb⟩
 subst hx hy
 unfold sameN sameI
 by_cases h:[x0,x1,x2,x3,x4,x5]=[y0,y1,y2,y3,y4,y5]
 ·rw [if_pos h,if_pos (by rw [h])]
 ·rw [if_neg h,if_neg (fun k=>h (v64_inj _ _ rfl fX fY k))]
theorem QQ_v:v64 [17072048233947408755,6348401684107011962,14367412456785391071,18446744073709551615,18446744073709551615,18446744073709551615]=QQ:=by decide
theorem fQ:fits [17072048233947408755,6348401684107011962,14367412456785391071,18446744073709551615,18446744073709551615,18446744073709551615]:=fits6 (by decide)
/-- the two tables lie where they lay -/
def GlsO (w:World):Prop:=(w.cell? ⟨1,0,none⟩=some (.int .u64 17072048233947408755)∧w.cell? ⟨1,1,none⟩=some (.int .u64 6348401684107011962)∧w.cell? ⟨1,2,none⟩=some (.int .u64 14367412456785391071)∧w.cell? ⟨1,3,none⟩=some (.int .u64 18446744073709551615)∧w.cell? ⟨1,4,none⟩=some (.int .u64 18446744073709551615)∧w.cell? ⟨1,5,none⟩=some (.int .u64 18446744073709551615))∧True
theorem GlsO.below {w w':World} (G:GlsO w) (hb:Below w.heap.size w w'):GlsO w':=by
 obtain ⟨⟨a0,a1,a2,a3,a4,a5⟩,_⟩:=G
 exact ⟨⟨cell_later a0 hb,cell_later a1 hb,cell_later a2 hb,cell_later a3 hb,cell_later a4 hb,cell_later a5 hb⟩,trivial⟩
theorem GlsO.lts {w:World} (G:GlsO w):1 < w.heap.size∧True :=
 ⟨World.block_lt_of_cell? w _ G.1.1,trivial⟩
theorem on_any {m0 m1 m2 m3 m4 m5:Int} {w:World} (l0:1 < w.heap.size) (a0:w.cell? ⟨1,0,none⟩=some (.int .u64 m0)) (a1:w.cell? ⟨1,1,none⟩=some (.int .u64 m1)) (a2:w.cell? ⟨1,2,none⟩=some (.int .u64 m2)) (a3:w.cell? ⟨1,3,none⟩=some (.int .u64 m3)) (a4:w.cell? ⟨1,4,none⟩=some (.int .u64 m4)) (a5:w.cell? ⟨1,5,none⟩=some (.int .u64 m5)) :
  Calls Tryz.prog 89 #[] w fun e w'=>e=.returned (.agg #[.int .u64 m0,.int .u64 m1,.int .u64 m2,.int .u64 m3,.int .u64 m4,.int .u64 m5])∧Below w.heap.size w w':=by
 go_enter Tryz.func89,Tryz.ntmps89
 go_wp2
 exact bodyPost_ret (v:=.agg #[.int .u64 m0,.int .u64 m1,.int .u64 m2,.int .u64 m3,.int .u64 m4,.int .u64 m5]) (by simp [results,Tryz.results89,go_sem]) rfl ⟨rfl,(Below.refl _ _).alloc (Nat.le_refl _) _⟩
theorem on6 {w:World} (G:GlsO w) :
  Calls Tryz.prog 89 #[] w fun e w'=>e=.returned (.agg #[.int .u64 17072048233947408755,.int .u64 6348401684107011962,.int .u64 14367412456785391071,.int .u64 18446744073709551615,.int .u64 18446744073709551615,.int .u64 18446744073709551615])∧Below w.heap.size w w' :=
 on_any G.lts.1 G.1.1 G.1.2.1 G.1.2.2.1 G.1.2.2.2.1 G.1.2.2.2.2.1 G.1.2.2.2.2.2
theorem iface_nilnot:∀ w:World,(binOp .neq 30 .nilIface .nilIface).run Tryz.prog w=.ok (.bool false) w:=fun _=>by kernel_rfl
theorem from6 {v:Value} {bs:List Int} {w:World} (h:Bs w v bs) (hl:bs.length=48) (hB:byt bs) :
  Calls Tryz.prog 103 #[v] w fun e w'=>∃ s0 s1 s2 s3 s4 s5:Int,e=.returned (.tuple #[.agg #[.int .u64 s0,.int .u64 s1,.int .u64 s2,.int .u64 s3,.int .u64 s4,.int .u64 s5],.nilIface])∧fits [s0,s1,s2,s3,s4,s5]∧v64 [s0,s1,s2,s3,s4,s5]=beN bs∧Below w.heap.size w w':=by
 refine (from_right v bs w h hl hB).mono ?_
 rintro e w' ⟨S,rfl,lS,fS,hS,hb⟩
 obtain ⟨s0,s1,s2,s3,s4,s5,rfl⟩:=six lS
 exact ⟨s0,s1,s2,s3,s4,s5,rfl,fS,hS,hb⟩
theorem lessN_no {A B:List Int} (h:v64 B≤v64 A):lessN A B=0:=by
 unfold lessN;rw [if_neg (by omega)]
theorem lessN_yes {A B:List Int} (h:v64 A < v64 B):lessN A B=1:=by
 unfold lessN;rw [if_pos h]
theorem same_no {A:Int} (h:A≠0):sameI A 0=0:=by unfold sameI;rw [if_neg h]
theorem same_yes {A:Int} (h:A=0):sameI A 0=1:=by unfold sameI;rw [if_pos h]
set_option maxRecDepth 100000 in
set_option maxHeartbeats 1000000 in
theorem odecode_zero {v:Value} {bs:List Int} {w:World} (h:Bs w v bs) (hl:bs.length=48) (hB:byt bs) (hr:beN bs=0) :
  Calls Tryz.prog 99 #[v] w fun e w'=>e=.returned (.tuple #[.agg #[.int .u64 0,.int .u64 0,.int .u64 0,.int .u64 0,.int .u64 0,.int .u64 0],.iface 46 (.int .i64 3)])∧Below w.heap.size w w':=by
 have HR:Hid _:=hr
 clear hr
 have B0:=Blk.new w (us [0,0,0,0,0,0]) 25 w.heap.size rfl
 have bel:Below w.heap.size w (w.alloc (.cells (us [0,0,0,0,0,0]).toArray 25)):=(Below.refl _ _).alloc (Nat.le_refl _) _
 have q1:=iface_nilnot
 go_enter Tryz.func99,Tryz.ntmps99
 go_wp2_with fail
 simp only [us,List.map_cons,List.map_nil] at B0 bel
 generalize w.alloc (Obj.cells #[.int .u64 0,.int .u64 0,.int .u64 0,.int .u64 0,.int .u64 0,.int .u64 0] 25)=W at *
 refine (from6 (h.later (bel.mono (Nat.le_refl _))) hl hB).mono ?_
 rintro e w1 ⟨s0,s1,s2,s3,s4,s5,rfl,fS,hs,hb⟩
 have HS:Hid _:=hs
 replace B0:=B0.later hb
 replace bel:=below_step bel hb
 clear hb hs
 have lt0:=B0.lt
 have HQ:Hid _:=same_yes (A:=v64 [s0,s1,s2,s3,s4,s5]) (by rw [HS.out];exact HR.out)
 go_wp2_with fail
 refine (same_is fS (fits_zero 6) rfl rfl).mono ?_
 rintro e w2 ⟨rfl,hb⟩
 rw [show v64 [0,0,0,0,0,0]=0 from rfl,HQ.out]
 have B1:=(Blk.new w1 (us [s0,s1,s2,s3,s4,s5]) 25 w1.heap.size rfl).later hb
 replace B0:=(B0.alloc (.cells (us [s0,s1,s2,s3,s4,s5]).toArray 25)).later hb
 replace bel:=below_step (below_alloc bel) hb
 clear hb HQ
 obtain ⟨bi,hbi⟩:∃ b,b=w1.heap.size:=⟨_,rfl⟩
 rw [← hbi] at B1 lt0 ⊢
 clear hbi
 have lt2:=B0.lt
 have lt3:=B1.lt
 have c0:=B0.cell 0 _ rfl;have q0:=B0.frozen 0;have c1:=B0.cell 1 _ rfl;have q1:=B0.frozen 1;have c2:=B0.cell 2 _ rfl;have q2:=B0.frozen 2;have c3:=B0.cell 3 _ rfl;have q3:=B0.frozen 3;have c4:=B0.cell 4 _ rfl;have q4:=B0.frozen 4;have c5:=B0.cell 5 _ rfl;have q5:=B0.frozen 5
 go_wp2_with fail
 exact bodyPost_ret (v:=.tuple #[.agg #[.int .u64 0,.int .u64 0,.int .u64 0,.int .u64 0,.int .u64 0,.int .u64 0],.iface 46 (.int .i64 3)]) (by simp [results,Tryz.results99,go_sem,c0,c1,c2,c3,c4,c5]) rfl ⟨rfl,below_put6 bel (Nat.le_refl _)⟩
set_option maxRecDepth 100000 in
set_option maxHeartbeats 1000000 in
theorem odecode_range {v:Value} {bs:List Int} {w:World} (G:GlsO w) (h:Bs w v bs) (hl:bs.length=48) (hB:byt bs) (hr:QQ≤beN bs) :
  Calls Tryz.prog 99 #[v] w fun e w'=>e=.returned (.tuple #[.agg #[.int .u64 0,.int .u64 0,.int .u64 0,.int .u64 0,.int .u64 0,.int .u64 0],.iface 46 (.int .i64 3)])∧Below w.heap.size w w':=by
 have HR:Hid _:=hr
 clear hr
 have B0:=Blk.new w (us [0,0,0,0,0,0]) 25 w.heap.size rfl
 have bel:Below w.heap.size w (w.alloc (.cells (us [0,0,0,0,0,0]).toArray 25)):=(Below.refl _ _).alloc (Nat.le_refl _) _
 have q1:=iface_nilnot
 go_enter Tryz.func99,Tryz.ntmps99
 go_wp2_with fail
 simp only [us,List.map_cons,List.map_nil] at B0 bel
 generalize w.alloc (Obj.cells #[.int .u64 0,.int .u64 0,.int .u64 0,.int .u64 0,.int .u64 0,.int .u64 0] 25)=W at *
 refine (from6 (h.later (bel.mono (Nat.le_refl _))) hl hB).mono ?_
 rintro e w1 ⟨s0,s1,s2,s3,s4,s5,rfl,fS,hs,hb⟩
 have HS:Hid _:=hs
 replace B0:=B0.later hb
 replace bel:=below_step bel hb
 clear hb hs
 have lt0:=B0.lt
 have HQ:Hid _:=same_no (A:=v64 [s0,s1,s2,s3,s4,s5]) (by rw [HS.out];have:=HR.out;have:=QQ_pos;omega)
 go_wp2_with fail
 refine (same_is fS (fits_zero 6) rfl rfl).mono ?_
 rintro e w2 ⟨rfl,hb⟩
 rw [show v64 [0,0,0,0,0,0]=0 from rfl,HQ.out]
 have B1:=(Blk.new w1 (us [s0,s1,s2,s3,s4,s5]) 25 w1.heap.size rfl).later hb
 replace B0:=(B0.alloc (.cells (us [s0,s1,s2,s3,s4,s5]).toArray 25)).later hb
 replace bel:=below_step (below_alloc bel) hb
 clear hb HQ
 obtain ⟨bi,hbi⟩:∃ b,b=w1.heap.size:=⟨_,rfl⟩
 rw [← hbi] at B1 lt0 ⊢
 clear hbi
 have lt2:=B0.lt
 have lt3:=B1.lt
 have HL:Hid _:=lessN_no (A:=[s0,s1,s2,s3,s4,s5]) (B:=[17072048233947408755,6348401684107011962,14367412456785391071,18446744073709551615,18446744073709551615,18446744073709551615]) (by rw [HS.out,QQ_v];exact HR.out)
 have GW:=G.below bel
 obtain ⟨l0,l1⟩:=GW.lts
 obtain ⟨⟨a0,a1,a2,a3,a4,a5⟩,GW1⟩:=GW
 clear GW1
 have d0:=B1.cell 0 _ rfl;have f0:=B1.frozen 0;have d1:=B1.cell 1 _ rfl;have f1:=B1.frozen 1;have d2:=B1.cell 2 _ rfl;have f2:=B1.frozen 2;have d3:=B1.cell 3 _ rfl;have f3:=B1.frozen 3;have d4:=B1.cell 4 _ rfl;have f4:=B1.frozen 4;have d5:=B1.cell 5 _ rfl;have f5:=B1.frozen 5
 go_wp2_with fail
 refine (less6 fS fQ).mono ?_
 rintro e w3 ⟨rfl,hb⟩
 rw [HL.out]
 replace B1:=B1.later hb
 replace B0:=B0.later hb
 replace bel:=below_step bel hb
 clear hb HL a0 a1 a2 a3 a4 a5 l0 l1 lt2 lt3 d0 d1 d2 d3 d4 d5 f0 f1 f2 f3 f4 f5
 have lt2:=B0.lt
 have lt3:=B1.lt
 have c0:=B0.cell 0 _ rfl;have q0:=B0.frozen 0;have c1:=B0.cell 1 _ rfl;have q1:=B0.frozen 1;have c2:=B0.cell 2 _ rfl;have q2:=B0.frozen 2;have c3:=B0.cell 3 _ rfl;have q3:=B0.frozen 3;have c4:=B0.cell 4 _ rfl;have q4:=B0.frozen 4;have c5:=B0.cell 5 _ rfl;have q5:=B0.frozen 5
 go_wp2_with fail
 exact bodyPost_ret (v:=.tuple #[.agg #[.int .u64 0,.int .u64 0,.int .u64 0,.int .u64 0,.int .u64 0,.int .u64 0],.iface 46 (.int .i64 3)]) (by simp [results,Tryz.results99,go_sem,c0,c1,c2,c3,c4,c5]) rfl ⟨rfl,below_put6 bel (Nat.le_refl _)⟩
set_option maxRecDepth 100000 in
set_option maxHeartbeats 1000000 in
theorem odecode_ok {v:Value} {bs:List Int} {w:World} (G:GlsO w) (h:Bs w v bs) (hl:bs.length=48) (hB:byt bs) (h0:0 < beN bs) (hr:beN bs < QQ) :
  Calls Tryz.prog 99 #[v] w fun e w'=>∃ s0 s1 s2 s3 s4 s5:Int,e=.returned (.tuple #[.agg #[.int .u64 s0,.int .u64 s1,.int .u64 s2,.int .u64 s3,.int .u64 s4,.int .u64 s5],.nilIface])∧fits [s0,s1,s2,s3,s4,s5]∧v64 [s0,s1,s2,s3,s4,s5]=beN bs∧Below w.heap.size w w':=by
 have HR:Hid _:=hr
 clear hr
 have H0:Hid _:=h0
 clear h0
 have B0:=Blk.new w (us [0,0,0,0,0,0]) 25 w.heap.size rfl
 have bel:Below w.heap.size w (w.alloc (.cells (us [0,0,0,0,0,0]).toArray 25)):=(Below.refl _ _).alloc (Nat.le_refl _) _
 have q1:=iface_nilnot
 go_enter Tryz.func99,Tryz.ntmps99
 go_wp2_with fail
 simp only [us,List.map_cons,List.map_nil] at B0 bel
 generalize w.alloc (Obj.cells #[.int .u64 0,.int .u64 0,.int .u64 0,.int .u64 0,.int .u64 0,.int .u64 0] 25)=W at *
 refine (from6 (h.later (bel.mono (Nat.le_refl _))) hl hB).mono ?_
 rintro e w1 ⟨s0,s1,s2,s3,s4,s5,rfl,fS,hs,hb⟩
 have HS:Hid _:=hs
 replace B0:=B0.later hb
 replace bel:=below_step bel hb
 clear hb hs
 have lt0:=B0.lt
 have HQ:Hid _:=same_no (A:=v64 [s0,s1,s2,s3,s4,s5]) (by rw [HS.out];have:=H0.out;omega)
 go_wp2_with fail
 refine (same_is fS (fits_zero 6) rfl rfl).mono ?_
 rintro e w2 ⟨rfl,hb⟩
 rw [show v64 [0,0,0,0,0,0]=0 from rfl,HQ.out]
 have B1:=(Blk.new w1 (us [s0,s1,s2,s3,s4,s5]) 25 w1.heap.size rfl).later hb
 replace B0:=(B0.alloc (.cells (us [s0,s1,s2,s3,s4,s5]).toArray 25)).later hb
 replace bel:=below_step (below_alloc bel) hb
 clear hb HQ
 obtain ⟨bi,hbi⟩:∃ b,b=w1.heap.size:=⟨_,rfl⟩
 rw [← hbi] at B1 lt0 ⊢
 clear hbi
 have lt2:=B0.lt
 have lt3:=B1.lt
 have HL:Hid _:=lessN_yes (A:=[s0,s1,s2,s3,s4,s5]) (B:=[17072048233947408755,6348401684107011962,14367412456785391071,18446744073709551615,18446744073709551615,18446744073709551615]) (by rw [HS.out,QQ_v];exact HR.out)
 have GW:=G.below bel
 obtain ⟨l0,l1⟩:=GW.lts
 obtain ⟨⟨a0,a1,a2,a3,a4,a5⟩,GW1⟩:=GW
 clear GW1
 have d0:=B1.cell 0 _ rfl;have f0:=B1.frozen 0;have d1:=B1.cell 1 _ rfl;have f1:=B1.frozen 1;have d2:=B1.cell 2 _ rfl;have f2:=B1.frozen 2;have d3:=B1.cell 3 _ rfl;have f3:=B1.frozen 3;have d4:=B1.cell 4 _ rfl;have f4:=B1.frozen 4;have d5:=B1.cell 5 _ rfl;have f5:=B1.frozen 5
 go_wp2_with fail
 refine (less6 fS fQ).mono ?_
 rintro e w3 ⟨rfl,hb⟩
 rw [HL.out]
 replace B1:=B1.later hb
 replace B0:=B0.later hb
 replace bel:=below_step bel hb
 clear hb HL a0 a1 a2 a3 a4 a5 l0 l1 lt2 lt3 d0 d1 d2 d3 d4 d5 f0 f1 f2 f3 f4 f5
 have lt2:=B0.lt
 have lt3:=B1.lt
 have c0:=B0.cell 0 _ rfl;have q0:=B0.frozen 0;have c1:=B0.cell 1 _ rfl;have q1:=B0.frozen 1;have c2:=B0.cell 2 _ rfl;have q2:=B0.frozen 2;have c3:=B0.cell 3 _ rfl;have q3:=B0.frozen 3;have c4:=B0.cell 4 _ rfl;have q4:=B0.frozen 4;have c5:=B0.cell 5 _ rfl;have q5:=B0.frozen 5
 have d0:=B1.cell 0 _ rfl;have f0:=B1.frozen 0;have d1:=B1.cell 1 _ rfl;have f1:=B1.frozen 1;have d2:=B1.cell 2 _ rfl;have f2:=B1.frozen 2;have d3:=B1.cell 3 _ rfl;have f3:=B1.frozen 3;have d4:=B1.cell 4 _ rfl;have f4:=B1.frozen 4;have d5:=B1.cell 5 _ rfl;have f5:=B1.frozen 5
 go_wp2_with fail
 exact bodyPost_ret (v:=.tuple #[.agg #[.int .u64 s0,.int .u64 s1,.int .u64 s2,.int .u64 s3,.int .u64 s4,.int .u64 s5],.nilIface]) (by simp [results,Tryz.results99,go_sem,c0,c1,c2,c3,c4,c5]) rfl ⟨s0,s1,s2,s3,s4,s5,rfl,fS,HS.out,below_put6 bel (Nat.le_refl _)⟩
end Go.Proofs.YtnkipgbnnhahbaaGreatDoor
