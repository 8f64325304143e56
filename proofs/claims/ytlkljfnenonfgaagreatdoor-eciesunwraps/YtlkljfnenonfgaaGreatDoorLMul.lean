/- limb.Mul: the product. -/
import Derived.Test.YtlkljfnenonfgaaGreatDoorLimb
import Derived.Test.YtlkljfnenonfgaaGreatDoorRows
import Derived.Deep.RegionHeld3
namespace Go.Proofs.YtlkljfnenonfgaaGreatDoor
open Go.RowKit
theorem pv_set (b:Int):∀ (P:List Int) (k:Nat) (s:Int),k < P.length→pv b (P.set k s)=pv b P + (s - P.getD k 0) * b ^ k
 | [],k,s,h=>absurd h (by simp)
 | p :: P,0,s,_=>by simp [pv];omega
 | p :: P,k + 1,s,h=>by
  have ih:=pv_set b P k s (by simpa using h)
  rw [List.set_cons_succ,pv,pv,ih,List.getD_cons_succ,Int.pow_succ]
  grind
theorem getD_set_ne (S:List Int) (k j:Nat) (s:Int) (h:k≠j):(S.set k s).getD j 0=S.getD j 0:=by simp [List.getD_eq_getElem?_getD,h]
/-- a round of the inner loop -/
theorem mul_step (P B:List Int) (k m:Nat) (V a b s c:Int) (lP:P.length=12) (lB:B.length=6) (hk:k < 6) (hm:m < 6) (hs:P.getD (k + m) 0=s) (hb:B.getD m 0=b)
  (h:v64 P + c * 18446744073709551616 ^ (k + m)=V + a * 18446744073709551616 ^ k * v64 (B.take m)) :
  v64 (P.set (k + m) ((a * b + s + c) % 18446744073709551616)) + (a * b + s + c) / 18446744073709551616 * 18446744073709551616 ^ (k + (m + 1))=V + a * 18446744073709551616 ^ k * v64 (B.take (m + 1)):=by
 have e:=Int.mul_ediv_add_emod (a * b + s + c) 18446744073709551616
 simp only [v64] at *
 rw [pv_set _ P _ _ (by omega),hs,pv_take _ B m (by omega),hb,← Nat.add_assoc,Int.pow_succ]
 rw [Int.pow_add] at *
 generalize (a * b + s + c) / 18446744073709551616=q at *
 generalize (a * b + s + c) % 18446744073709551616=r at *
 generalize (18446744073709551616:Int) ^ k=p at *
 generalize (18446744073709551616:Int) ^ m=z at *
 generalize pv 18446744073709551616 P=X at *
 generalize pv 18446744073709551616 (B.take m)=Y at *
 have e2:r=a * b + s + c - 18446744073709551616 * q:=by omega
 subst e2
 have e3:X=V + a * p * Y - c * (p * z):=by omega
 subst e3
 grind
theorem mul_row (P A B:List Int) (k:Nat) (V a c:Int) (lP:P.length=12) (lA:A.length=6) (lB:B.length=6) (hk:k < 6) (ha:A.getD k 0=a) (hz:P.getD (k + 6) 0=0) (hV:V=v64 (A.take k) * v64 B)
  (h:v64 P + c * 18446744073709551616 ^ (k + 6)=V + a * 18446744073709551616 ^ k * v64 (B.take 6)):v64 (P.set (k + 6) c)=v64 (A.take (k + 1)) * v64 B:=by
 rw [List.take_of_length_le (by omega)] at h
 simp only [v64] at *
 rw [pv_set _ P _ _ (by omega),hz,pv_take _ A k (by omega),ha]
 subst hV
 generalize (18446744073709551616:Int) ^ (k + 6)=p at *
 generalize (18446744073709551616:Int) ^ k=z at *
 grind
theorem twelve {A:List Int} (h:A.length=12):∃ x0 x1 x2 x3 x4 x5 x6 x7 x8 x9 x10 x11,A=[x0,x1,x2,x3,x4,x5,x6,x7,x8,x9,x10,x11]:=by
 match A,h with
 | [x0,x1,x2,x3,x4,x5,x6,x7,x8,x9,x10,x11],_=>exact ⟨x0,x1,x2,x3,x4,x5,x6,x7,x8,x9,x10,x11,rfl⟩
theorem quo_bd (a b s c:Int) (ha0:0≤a) (ha:a < 18446744073709551616) (hb0:0≤b) (hb:b < 18446744073709551616) (hs0:0≤s) (hs:s < 18446744073709551616) (hc0:0≤c) (hc:c < 18446744073709551616) :
  0≤(a * b + s + c) / 18446744073709551616∧(a * b + s + c) / 18446744073709551616 < 18446744073709551616:=by
 have:=prod_bd a b ha0 ha hb0 hb
 generalize a * b=p at *
 omega
set_option maxRecDepth 100000 in
set_option maxHeartbeats 2000000 in
theorem mul_any (A B:List Int) (w:World) (lA:A.length=6) (lB:B.length=6) (hx:fits A) (hy:fits B) :
  Calls Tryz.prog 113 #[.agg (us A).toArray,.agg (us B).toArray] w fun e w'=>∃ P:List Int,e=.returned (.agg (us P).toArray)∧P.length=12∧fits P∧v64 P=v64 A * v64 B∧Below w.heap.size w w':=by
 have b0:=(((Blk.new w (us A) 24 w.heap.size rfl).alloc (.cells (us B).toArray 24)).alloc (.cells (us [0,0,0,0,0,0,0,0,0,0,0,0]).toArray 162)).alloc (.cells (us [0,0,0,0,0,0,0,0,0,0,0,0]).toArray 162)
 have b1:=((Blk.new (w.alloc (.cells (us A).toArray 24)) (us B) 24 (w.heap.size + 1) (by simp)).alloc (.cells (us [0,0,0,0,0,0,0,0,0,0,0,0]).toArray 162)).alloc (.cells (us [0,0,0,0,0,0,0,0,0,0,0,0]).toArray 162)
 have b2:=(Blk.new ((w.alloc (.cells (us A).toArray 24)).alloc (.cells (us B).toArray 24)) (us [0,0,0,0,0,0,0,0,0,0,0,0]) 162 (w.heap.size + 1 + 1) (by simp)).alloc (.cells (us [0,0,0,0,0,0,0,0,0,0,0,0]).toArray 162)
 have b3:=Blk.new (((w.alloc (.cells (us A).toArray 24)).alloc (.cells (us B).toArray 24)).alloc (.cells (us [0,0,0,0,0,0,0,0,0,0,0,0]).toArray 162)) (us [0,0,0,0,0,0,0,0,0,0,0,0]) 162 (w.heap.size + 1 + 1 + 1) (by simp)
 have hbel:Below w.heap.size w ((((w.alloc (.cells (us A).toArray 24)).alloc (.cells (us B).toArray 24)).alloc (.cells (us [0,0,0,0,0,0,0,0,0,0,0,0]).toArray 162)).alloc (.cells (us [0,0,0,0,0,0,0,0,0,0,0,0]).toArray 162)):=((((Below.refl _ _).alloc (Nat.le_refl _) _).alloc (by simp) _).alloc (by simp;omega) _).alloc (by simp;omega) _
 go_enter Tryz.func113,Tryz.ntmps113
 go_wp2
 go_loopw [9] (fun i wr=>∃ (k:Nat) (P:List Int),k≤6∧i=.int .i64 k∧P.length=12∧fits P∧Hid (v64 P=v64 (A.take k) * v64 B)∧Hid (∀ j,k + 6≤j→P.getD j 0=0) ∧
   Blk wr w.heap.size (us A)∧Blk wr (w.heap.size + 1) (us B)∧Blk wr (w.heap.size + 1 + 1) (us [0,0,0,0,0,0,0,0,0,0,0,0])∧Blk wr (w.heap.size + 1 + 1 + 1) (us P)∧Below w.heap.size w wr)
  (fun i _=>6 - (intOf i).toNat)
 case atStart=>exact ⟨0,[0,0,0,0,0,0,0,0,0,0,0,0],by omega,rfl,rfl,fits_zero 12,by show _=_;simp [v64,pv],fun j hj=>(by
  have:=getD_rep 12 j
  exact this),b0,b1,b2,b3,hbel⟩
 case round =>
  obtain ⟨k,P,hk,rfl,lP,fP,hv,hz,hSA,hSB,hSZ,hSP,hbel⟩:=hrel
  clear b0 b1 b2 b3
  by_cases hlt:k < 6
  ·obtain ⟨a,hA⟩:∃ a,A.getD k 0=a:=⟨_,rfl⟩
   have hax:0≤a∧a < 18446744073709551616:=hA ▸ hx k
   obtain ⟨V,hV⟩:∃ V,V=v64 (A.take k) * v64 B:=⟨_,rfl⟩
   have HV:Hid _:=hV
   have HA:Hid _:=hA
   rw [← hV] at hv
   clear hV hA
   have h1:(k:Int) < 6:=by omega
   go_wp2
   obtain ⟨wo,hwo⟩:∃ wo:World,wo=wr:=⟨_,rfl⟩
   go_loopw [7,12] (fun cv j wq=>∃ (m:Nat) (c:Int) (R:List Int),m≤6∧j=.int .i64 m∧cv=.int .u64 c∧0≤c∧c < 18446744073709551616∧R.length=12∧fits R∧Hid (v64 R + c * 18446744073709551616 ^ (k + m)=V + a * 18446744073709551616 ^ k * v64 (B.take m))∧Hid (∀ j,k + 6≤j→R.getD j 0=0) ∧
     Blk wq w.heap.size (us A)∧Blk wq (w.heap.size + 1) (us B)∧Blk wq (w.heap.size + 1 + 1) (us [0,0,0,0,0,0,0,0,0,0,0,0])∧Blk wq (w.heap.size + 1 + 1 + 1) (us R)∧Below w.heap.size w wq)
    (fun _ j _=>6 - (intOf j).toNat)
   case atStart=>exact ⟨0,0,P,by omega,rfl,rfl,by omega,by omega,lP,fP,by show _=_;rw [hv.out];simp [v64,pv],hz,hSA,hSB,hSZ,hSP,hbel⟩
   case round =>
    obtain ⟨m,c,R,hm,rfl,rfl,hc0,hc1,lR,fR,hr,hzr,hTA,hTB,hTZ,hTP,hbelr⟩:=hrel
    clear hSA hSB hSZ hSP hbel hwo hv
    by_cases hlm:m < 6
    ·obtain ⟨b,hB⟩:∃ b,B.getD m 0=b:=⟨_,rfl⟩
     obtain ⟨s,hS⟩:∃ s,R.getD (k + m) 0=s:=⟨_,rfl⟩
     have xa:=hTA.cell k _ (us_get A k (by omega))
     have xb:=hTB.cell m _ (us_get B m (by omega))
     have xs:=hTP.cell (k + m) _ (us_get R (k + m) (by omega))
     rw [HA.out] at xa
     rw [hB] at xb
     rw [hS] at xs
     have hf:=hTP.frozen (k + m)
     have hbx:0≤b∧b < 18446744073709551616:=hB ▸ hy m
     have hsx:0≤s∧s < 18446744073709551616:=hS ▸ fR (k + m)
     have st:Hid _:=mul_step R B k m V a b s c lR lB hlt hlm hS hB hr.out
     have qb:Hid _:=quo_bd a b s c hax.1 hax.2 hbx.1 hbx.2 hsx.1 hsx.2 hc0 hc1
     have M:=fun w=>mulAdd_any a b s c w hax.1 hax.2 hbx.1 hbx.2 hsx.1 hsx.2 hc0 hc1
     have r0:0≤(a * b + s + c) % 18446744073709551616:=Int.emod_nonneg _ (by decide)
     have r1:(a * b + s + c) % 18446744073709551616 < 18446744073709551616:=Int.emod_lt_of_pos _ (by decide)
     obtain ⟨lo,hlo⟩:∃ z,(a * b + s + c) % 18446744073709551616=z:=⟨_,rfl⟩
     obtain ⟨hi,hhi⟩:∃ z,(a * b + s + c) / 18446744073709551616=z:=⟨_,rfl⟩
     rw [hlo] at r0 r1
     rw [hlo,hhi] at M st
     rw [hhi] at qb
     clear hlo hhi hB hS hr
     have g1:(m:Int) < 6:=by omega
     have g2:(0:Int)≤(m:Int):=by omega
     have g3:(0:Int)≤(k:Int):=by omega
     have g4:IntKind.i64.wrap ((k:Int) + (m:Int))=(k:Int) + (m:Int):=by rw [IntKind.wrap_i64];omega
     have g5:(0:Int)≤(k:Int) + (m:Int):=by omega
     have g6:(k:Int) + (m:Int) < 12:=by omega
     have g7:((k:Int) + (m:Int)).toNat=k + m:=by omega
     go_wp2
     go_region_with ((go_at_call 125;refine (M _).mono ?_;rintro e w' ⟨rfl,hw⟩;obtain rfl:=hw.symm))
     all_goals
      go_wp2
      go_roundw
      case rel=>exact ⟨m + 1,hi,R.set (k + m) lo,by omega,by go_num,rfl,qb.out.1,qb.out.2,by simpa using lR,fits_set fR _ _ r0 r1,st,fun j hj=>(by rw [getD_set_ne _ _ _ _ (by omega)];exact hzr.out j hj),(hTA.other _ _ (by simp<;>omega)).drew,(hTB.other _ _ (by simp<;>omega)).drew,(hTZ.other _ _ (by simp)).drew,(hTP.setu _ _).drew,(hbelr.setCell (by simp<;>omega) _).drew⟩
      case measure=>simp [intOf];omega
    ·have g1:(6:Int)≤(m:Int):=by omega
     have hm6:m=6:=by omega
     have hf:=hTP.frozen (k + 6)
     have xs:=hTP.cell (k + 6) _ (us_get R (k + 6) (by omega))
     rw [hzr.out (k + 6) (by omega)] at xs
     have st:Hid (v64 (R.set (k + 6) c)=v64 (A.take (k + 1)) * v64 B):=by
      have:=hr.out
      rw [hm6] at this
      exact mul_row R A B k V a c lR lA lB hlt HA.out (hzr.out (k + 6) (by omega)) HV.out this
     clear hr
     have g2:(0:Int)≤(k:Int) + 6:=by omega
     have g3:(k:Int) + 6 < 12:=by omega
     have g4:((k:Int) + 6).toNat=k + 6:=by omega
     go_wp2
     go_roundw
     case rel=>exact ⟨k + 1,R.set (k + 6) c,by omega,by go_num,by simpa using lR,fits_set fR _ _ hc0 hc1,st,fun j hj=>(by rw [getD_set_ne _ _ _ _ (by omega)];exact hzr.out j (by omega)),hTA.other _ _ (by simp<;>omega),hTB.other _ _ (by simp<;>omega),hTZ.other _ _ (by simp),hTP.setu _ _,hbelr.setCell (by simp<;>omega) _⟩
     case measure=>simp [intOf];omega
  ·have h6:(6:Int)≤(k:Int):=by omega
   have hk6:k=6:=by omega
   have HQ:Hid (v64 P=v64 A * v64 B):=by
    have:=hv.out
    rw [List.take_of_length_le (by omega)] at this
    exact this
   clear hv
   obtain ⟨s0,s1,s2,s3,s4,s5,s6,s7,s8,s9,s10,s11,rfl⟩:=twelve lP
   have c0:=hSP.cell 0 _ rfl
   have z0:=hSZ.cell 0 _ rfl
   have f0:=hSZ.frozen 0
   have c1:=hSP.cell 1 _ rfl
   have z1:=hSZ.cell 1 _ rfl
   have f1:=hSZ.frozen 1
   have c2:=hSP.cell 2 _ rfl
   have z2:=hSZ.cell 2 _ rfl
   have f2:=hSZ.frozen 2
   have c3:=hSP.cell 3 _ rfl
   have z3:=hSZ.cell 3 _ rfl
   have f3:=hSZ.frozen 3
   have c4:=hSP.cell 4 _ rfl
   have z4:=hSZ.cell 4 _ rfl
   have f4:=hSZ.frozen 4
   have c5:=hSP.cell 5 _ rfl
   have z5:=hSZ.cell 5 _ rfl
   have f5:=hSZ.frozen 5
   have c6:=hSP.cell 6 _ rfl
   have z6:=hSZ.cell 6 _ rfl
   have f6:=hSZ.frozen 6
   have c7:=hSP.cell 7 _ rfl
   have z7:=hSZ.cell 7 _ rfl
   have f7:=hSZ.frozen 7
   have c8:=hSP.cell 8 _ rfl
   have z8:=hSZ.cell 8 _ rfl
   have f8:=hSZ.frozen 8
   have c9:=hSP.cell 9 _ rfl
   have z9:=hSZ.cell 9 _ rfl
   have f9:=hSZ.frozen 9
   have c10:=hSP.cell 10 _ rfl
   have z10:=hSZ.cell 10 _ rfl
   have f10:=hSZ.frozen 10
   have c11:=hSP.cell 11 _ rfl
   have z11:=hSZ.cell 11 _ rfl
   have f11:=hSZ.frozen 11
   go_wp2
   exact bodyPost_ret (v:=.agg #[.int .u64 s0,.int .u64 s1,.int .u64 s2,.int .u64 s3,.int .u64 s4,.int .u64 s5,.int .u64 s6,.int .u64 s7,.int .u64 s8,.int .u64 s9,.int .u64 s10,.int .u64 s11]) (by simp [results,Tryz.results113,go_sem,z0,z1,z2,z3,z4,z5,z6,z7,z8,z9,z10,z11]) rfl
    ⟨[s0,s1,s2,s3,s4,s5,s6,s7,s8,s9,s10,s11],rfl,rfl,fP,HQ.out,((((((((((((hbel.setCell (by simp;omega) _).setCell (by simp;omega) _).setCell (by simp;omega) _).setCell (by simp;omega) _).setCell (by simp;omega) _).setCell (by simp;omega) _).setCell (by simp;omega) _).setCell (by simp;omega) _).setCell (by simp;omega) _).setCell (by simp;omega) _).setCell (by simp;omega) _).setCell (by simp;omega) _)⟩
end Go.Proofs.YtlkljfnenonfgaaGreatDoor
