import Derived.Test.YtdfmoghjimghhaaGreatDoorLimb
import Derived.Test.YtdfmoghjimghhaaGreatDoorMOff
import Derived.Test.YtdfmoghjimghhaaGreatDoorRows
import Derived.Deep.RegionHeld3
namespace Go.Proofs.YtdfmoghjimghhaaGreatDoor
open Go.RowKit
theorem Zk6 (b:Int):∀ (P:List Int) (k:Nat) (s:Int),k<P.length→pv b (P.set k s)=pv b P+(s-P.getD k 0)*b ^ k
 | [],k,s,h=>absurd h (by simp)
 | p::P,0,s,_=>by simp[pv];omega
 | p::P,k+1,s,h=>by
  have ih:=Zk6 b P k s (by simpa using h);rw[List.set_cons_succ,pv,pv,ih,List.getD_cons_succ,Int.pow_succ]
  grind
theorem Ze0 (S:List Int) (k j:Nat) (s:Int) (h:k≠j):(S.set k s).getD j 0=S.getD j 0:=by simp[List.getD_eq_getElem?_getD,h]
theorem ZmY (P B:List Int) (k m:Nat) (V a b s c:Int) (lP:P.length=12) (lB:B.length=6) (hk:k<6) (hm:m<6) (hs:P.getD (k+m) 0=s) (hb:B.getD m 0=b)
  (h:v64 P+c*18446744073709551616 ^ (k+m)=V+a*18446744073709551616 ^ k*v64 (B.take m)) :
  v64 (P.set (k+m) ((a*b+s+c)%18446744073709551616))+(a*b+s+c)/18446744073709551616*18446744073709551616 ^ (k+(m+1))=V+a*18446744073709551616 ^ k*v64 (B.take (m+1)):=by
 have e:=Int.mul_ediv_add_emod (a*b+s+c) 18446744073709551616;simp only[v64] at *;rw[Zk6 _ P _ _ (by omega),hs,ZbC _ B m (by omega),hb,← Nat.add_assoc,Int.pow_succ];rw[Int.pow_add] at *;generalize (a*b+s+c)/18446744073709551616=q at *;generalize (a*b+s+c)%18446744073709551616=r at *;generalize (18446744073709551616:Int) ^ k=p at *;generalize (18446744073709551616:Int) ^ m=z at *;generalize pv 18446744073709551616 P=X at *;generalize pv 18446744073709551616 (B.take m)=Y at *;have e2:r=a*b+s+c-18446744073709551616*q:=by omega
 subst e2;have e3:X=V+a*p*Y-c*(p*z):=by omega
 subst e3
 grind
theorem ZoD (P A B:List Int) (k:Nat) (V a c:Int) (lP:P.length=12) (lA:A.length=6) (lB:B.length=6) (hk:k<6) (ha:A.getD k 0=a) (hz:P.getD (k+6) 0=0) (hV:V=v64 (A.take k)*v64 B)
  (h:v64 P+c*18446744073709551616 ^ (k+6)=V+a*18446744073709551616 ^ k*v64 (B.take 6)):v64 (P.set (k+6) c)=v64 (A.take (k+1))*v64 B:=by
 rw[List.take_of_length_le (by omega)] at h;simp only[v64] at *;rw[Zk6 _ P _ _ (by omega),hz,ZbC _ A k (by omega),ha];subst hV;generalize (18446744073709551616:Int) ^ (k+6)=p at *;generalize (18446744073709551616:Int) ^ k=z at *
 grind
theorem ZlN {A:List Int} (h:A.length=12):∃ x0 x1 x2 x3 x4 x5 x6 x7 x8 x9 x10 x11,A=[x0,x1,x2,x3,x4,x5,x6,x7,x8,x9,x10,x11]:=by
 match A,h with
 | [x0,x1,x2,x3,x4,x5,x6,x7,x8,x9,x10,x11],_=>exact ⟨x0,x1,x2,x3,x4,x5,x6,x7,x8,x9,x10,x11,rfl⟩
theorem Zn1 (a b s c:Int) (ha0:0≤a) (ha:a<18446744073709551616) (hb0:0≤b) (hb:b<18446744073709551616) (hs0:0≤s) (hs:s<18446744073709551616) (hc0:0≤c) (hc:c<18446744073709551616) :
  0≤(a*b+s+c)/18446744073709551616∧(a*b+s+c)/18446744073709551616<18446744073709551616:=by
 have:=Zga a b ha0 ha hb0 hb;generalize a*b=p at *;omega
set_option maxRecDepth 100000 in
set_option maxHeartbeats 2000000 in
theorem ZoB (A B:List Int) (w:World) (lA:A.length=6) (lB:B.length=6) (hx:Zaz A) (hy:Zaz B) :
  Calls Tryz.prog 271 #[.agg (us A).toArray,.agg (us B).toArray] w fun e w'=>∃ P:List Int,e=.returned (.agg (us P).toArray)∧P.length=12∧Zaz P∧v64 P=v64 A*v64 B∧Below w.heap.size w w':=by
 have b0:=(((Blk.new w (us A) 27 w.heap.size rfl).alloc (.cells (us B).toArray 27)).alloc (.cells (us [0,0,0,0,0,0,0,0,0,0,0,0]).toArray 332)).alloc (.cells (us [0,0,0,0,0,0,0,0,0,0,0,0]).toArray 332);have b1:=((Blk.new (w.alloc (.cells (us A).toArray 27)) (us B) 27 (w.heap.size+1) (by simp)).alloc (.cells (us [0,0,0,0,0,0,0,0,0,0,0,0]).toArray 332)).alloc (.cells (us [0,0,0,0,0,0,0,0,0,0,0,0]).toArray 332);have b2:=(Blk.new ((w.alloc (.cells (us A).toArray 27)).alloc (.cells (us B).toArray 27)) (us [0,0,0,0,0,0,0,0,0,0,0,0]) 332 (w.heap.size+1+1) (by simp)).alloc (.cells (us [0,0,0,0,0,0,0,0,0,0,0,0]).toArray 332);have b3:=Blk.new (((w.alloc (.cells (us A).toArray 27)).alloc (.cells (us B).toArray 27)).alloc (.cells (us [0,0,0,0,0,0,0,0,0,0,0,0]).toArray 332)) (us [0,0,0,0,0,0,0,0,0,0,0,0]) 332 (w.heap.size+1+1+1) (by simp);have hbel:Below w.heap.size w ((((w.alloc (.cells (us A).toArray 27)).alloc (.cells (us B).toArray 27)).alloc (.cells (us [0,0,0,0,0,0,0,0,0,0,0,0]).toArray 332)).alloc (.cells (us [0,0,0,0,0,0,0,0,0,0,0,0]).toArray 332)):=((((Below.refl _ _).alloc (Nat.le_refl _) _).alloc (by simp) _).alloc (by simp;omega) _).alloc (by simp;omega) _;go_enter Tryz.func271,Tryz.ntmps271;go_wp2;go_loopw [9] (fun i wr=>∃ (k:Nat) (P:List Int),k≤6∧i=.int .i64 k∧P.length=12∧Zaz P∧Hid (v64 P=v64 (A.take k)*v64 B)∧Hid (∀ j,k+6≤j→P.getD j 0=0) ∧
   Blk wr w.heap.size (us A)∧Blk wr (w.heap.size+1) (us B)∧Blk wr (w.heap.size+1+1) (us [0,0,0,0,0,0,0,0,0,0,0,0])∧Blk wr (w.heap.size+1+1+1) (us P)∧Below w.heap.size w wr)
  (fun i _=>6-(intOf i).toNat)
 case atStart=>exact ⟨0,[0,0,0,0,0,0,0,0,0,0,0,0],by omega,rfl,rfl,ZcC 12,by show _=_;simp[v64,pv],fun j hj=>(by
  have:=ZeC 12 j;exact this),b0,b1,b2,b3,hbel⟩
 case round =>
  obtain⟨k,P,hk,rfl,lP,fP,hv,hz,hSA,hSB,hSZ,hSP,hbel⟩:=hrel;clear b0 b1 b2 b3
  by_cases hlt:k<6
  ·obtain ⟨a,hA⟩:∃ a,A.getD k 0=a:=⟨_,rfl⟩
   have hax:0≤a∧a<18446744073709551616:=hA ▸ hx k;obtain ⟨V,hV⟩:∃ V,V=v64 (A.take k)*v64 B:=⟨_,rfl⟩;have HV:Hid _:=hV;have HA:Hid _:=hA;rw[← hV] at hv;clear hV hA;have h1:(k:Int)<6:=by omega
   go_wp2;obtain ⟨wo,hwo⟩:∃ wo:World,wo=wr:=⟨_,rfl⟩;go_loopw [7,12] (fun cv j wq=>∃ (m:Nat) (c:Int) (R:List Int),m≤6∧j=.int .i64 m∧cv=.int .u64 c∧0≤c∧c<18446744073709551616∧R.length=12∧Zaz R∧Hid (v64 R+c*18446744073709551616 ^ (k+m)=V+a*18446744073709551616 ^ k*v64 (B.take m))∧Hid (∀ j,k+6≤j→R.getD j 0=0) ∧
     Blk wq w.heap.size (us A)∧Blk wq (w.heap.size+1) (us B)∧Blk wq (w.heap.size+1+1) (us [0,0,0,0,0,0,0,0,0,0,0,0])∧Blk wq (w.heap.size+1+1+1) (us R)∧Below w.heap.size w wq)
    (fun _ j _=>6-(intOf j).toNat)
   case atStart=>exact ⟨0,0,P,by omega,rfl,rfl,by omega,by omega,lP,fP,by show _=_;rw[hv.out];simp[v64,pv],hz,hSA,hSB,hSZ,hSP,hbel⟩
   case round =>
    obtain⟨m,c,R,hm,rfl,rfl,hc0,hc1,lR,fR,hr,hzr,hTA,hTB,hTZ,hTP,hbelr⟩:=hrel;clear hSA hSB hSZ hSP hbel hwo hv
    by_cases hlm:m<6
    ·obtain ⟨b,hB⟩:∃ b,B.getD m 0=b:=⟨_,rfl⟩
     obtain⟨s,hS⟩:∃ s,R.getD (k+m) 0=s:=⟨_,rfl⟩;have xa:=hTA.cell k _ (ZaO A k (by omega));have xb:=hTB.cell m _ (ZaO B m (by omega));have xs:=hTP.cell (k+m) _ (ZaO R (k+m) (by omega));rw[HA.out] at xa;rw[hB] at xb;rw[hS] at xs;have hf:=hTP.frozen (k+m);have hbx:0≤b∧b<18446744073709551616:=hB ▸ hy m;have hsx:0≤s∧s<18446744073709551616:=hS ▸ fR (k+m);have st:Hid _:=ZmY R B k m V a b s c lR lB hlt hlm hS hB hr.out;have qb:Hid _:=Zn1 a b s c hax.1 hax.2 hbx.1 hbx.2 hsx.1 hsx.2 hc0 hc1;have M:=fun w=>Zjn a b s c w hax.1 hax.2 hbx.1 hbx.2 hsx.1 hsx.2 hc0 hc1;have r0:0≤(a*b+s+c)%18446744073709551616:=Int.emod_nonneg _ (by decide);have r1:(a*b+s+c)%18446744073709551616<18446744073709551616:=Int.emod_lt_of_pos _ (by decide);obtain ⟨lo,hlo⟩:∃ z,(a*b+s+c)%18446744073709551616=z:=⟨_,rfl⟩;obtain ⟨hi,hhi⟩:∃ z,(a*b+s+c)/18446744073709551616=z:=⟨_,rfl⟩;rw[hlo] at r0 r1;rw[hlo,hhi] at M st;rw[hhi] at qb;clear hlo hhi hB hS hr;have g1:(m:Int)<6:=by omega
     have g2:(0:Int)≤(m:Int):=by omega
     have g3:(0:Int)≤(k:Int):=by omega
     have g4:IntKind.i64.wrap ((k:Int)+(m:Int))=(k:Int)+(m:Int):=by rw[IntKind.wrap_i64];omega
     have g5:(0:Int)≤(k:Int)+(m:Int):=by omega
     have g6:(k:Int)+(m:Int)<12:=by omega
     have g7:((k:Int)+(m:Int)).toNat=k+m:=by omega
     go_wp2;go_region_with ((go_at_call 274;refine (M _).mono ?_;rintro e w' ⟨rfl,hw⟩;obtain rfl:=hw.symm))
     all_goals
      go_wp2;go_roundw
      case rel=>exact ⟨m+1,hi,R.set (k+m) lo,by omega,by go_num,rfl,qb.out.1,qb.out.2,by simpa using lR,Zdm fR _ _ r0 r1,st,fun j hj=>(by rw[Ze0 _ _ _ _ (by omega)];exact hzr.out j hj),(hTA.other _ _ (by simp<;>omega)).drew,(hTB.other _ _ (by simp<;>omega)).drew,(hTZ.other _ _ (by simp)).drew,(hTP.setu _ _).drew,(hbelr.setCell (by simp<;>omega) _).drew⟩
      case measure=>simp[intOf];omega
    ·have g1:(6:Int)≤(m:Int):=by omega
     have hm6:m=6:=by omega
     have hf:=hTP.frozen (k+6);have xs:=hTP.cell (k+6) _ (ZaO R (k+6) (by omega));rw[hzr.out (k+6) (by omega)] at xs;have st:Hid (v64 (R.set (k+6) c)=v64 (A.take (k+1))*v64 B):=by
      have:=hr.out;rw[hm6] at this;exact ZoD R A B k V a c lR lA lB hlt HA.out (hzr.out (k+6) (by omega)) HV.out this
     clear hr;have g2:(0:Int)≤(k:Int)+6:=by omega
     have g3:(k:Int)+6<12:=by omega
     have g4:((k:Int)+6).toNat=k+6:=by omega
     go_wp2;go_roundw
     case rel=>exact ⟨k+1,R.set (k+6) c,by omega,by go_num,by simpa using lR,Zdm fR _ _ hc0 hc1,st,fun j hj=>(by rw[Ze0 _ _ _ _ (by omega)];exact hzr.out j (by omega)),hTA.other _ _ (by simp<;>omega),hTB.other _ _ (by simp<;>omega),hTZ.other _ _ (by simp),hTP.setu _ _,hbelr.setCell (by simp<;>omega) _⟩
     case measure=>simp[intOf];omega
  ·have h6:(6:Int)≤(k:Int):=by omega
   have hk6:k=6:=by omega
   have HQ:Hid (v64 P=v64 A*v64 B):=by
    have:=hv.out;rw[List.take_of_length_le (by omega)] at this;exact this
   clear hv;obtain ⟨s0,s1,s2,s3,s4,s5,s6,s7,s8,s9,s10,s11,rfl⟩:=ZlN lP;have c0:=hSP.cell 0 _ rfl;have z0:=hSZ.cell 0 _ rfl;have f0:=hSZ.frozen 0;have c1:=hSP.cell 1 _ rfl;have z1:=hSZ.cell 1 _ rfl;have f1:=hSZ.frozen 1;have c2:=hSP.cell 2 _ rfl;have z2:=hSZ.cell 2 _ rfl;have f2:=hSZ.frozen 2;have c3:=hSP.cell 3 _ rfl;have z3:=hSZ.cell 3 _ rfl;have f3:=hSZ.frozen 3;have c4:=hSP.cell 4 _ rfl;have z4:=hSZ.cell 4 _ rfl;have f4:=hSZ.frozen 4;have c5:=hSP.cell 5 _ rfl;have z5:=hSZ.cell 5 _ rfl;have f5:=hSZ.frozen 5;have c6:=hSP.cell 6 _ rfl;have z6:=hSZ.cell 6 _ rfl;have f6:=hSZ.frozen 6;have c7:=hSP.cell 7 _ rfl;have z7:=hSZ.cell 7 _ rfl;have f7:=hSZ.frozen 7;have c8:=hSP.cell 8 _ rfl;have z8:=hSZ.cell 8 _ rfl;have f8:=hSZ.frozen 8;have c9:=hSP.cell 9 _ rfl;have z9:=hSZ.cell 9 _ rfl;have f9:=hSZ.frozen 9;have c10:=hSP.cell 10 _ rfl;have z10:=hSZ.cell 10 _ rfl;have f10:=hSZ.frozen 10;have c11:=hSP.cell 11 _ rfl;have z11:=hSZ.cell 11 _ rfl;have f11:=hSZ.frozen 11;go_wp2;exact bodyPost_ret (v:=.agg #[.int .u64 s0,.int .u64 s1,.int .u64 s2,.int .u64 s3,.int .u64 s4,.int .u64 s5,.int .u64 s6,.int .u64 s7,.int .u64 s8,.int .u64 s9,.int .u64 s10,.int .u64 s11]) (by simp[results,Tryz.results271,go_sem,z0,z1,z2,z3,z4,z5,z6,z7,z8,z9,z10,z11]) rfl
    ⟨[s0,s1,s2,s3,s4,s5,s6,s7,s8,s9,s10,s11],rfl,rfl,fP,HQ.out,((((((((((((hbel.setCell (by simp;omega) _).setCell (by simp;omega) _).setCell (by simp;omega) _).setCell (by simp;omega) _).setCell (by simp;omega) _).setCell (by simp;omega) _).setCell (by simp;omega) _).setCell (by simp;omega) _).setCell (by simp;omega) _).setCell (by simp;omega) _).setCell (by simp;omega) _).setCell (by simp;omega) _)⟩
theorem Zky (q b s c:Int) (hq0:0≤q) (hq:q<18446744073709551616) (hb0:0≤b) (hb:b<18446744073709551616) :
  q*b/18446744073709551616+(q*b%18446744073709551616+s+0)/18446744073709551616+((q*b%18446744073709551616+s+0)%18446744073709551616+c+0)/18446744073709551616=(q*b+s+c)/18446744073709551616 ∧
  ((q*b%18446744073709551616+s+0)%18446744073709551616+c+0)%18446744073709551616=(q*b+s+c)%18446744073709551616:=by
 have:=Zga q b hq0 hq hb0 hb;generalize q*b=p at *;omega
theorem ZlU (R:List Int) (k m:Nat) (v:Int) (h:∀ j,j<k∨(j=k∧0<m)→R.getD j 0=0) (hv:m=0→v=0) (hl:k+m<R.length):∀ j,j<k∨(j=k∧0<m+1)→(R.set (k+m) v).getD j 0=0:=by
 intro j hj
 by_cases e:j=k+m
 ·subst e
  rw[Za7 _ _ _ hl];exact hv (by omega)
 ·rw[ZeZ _ _ _ _ (by omega)]
  exact h j (by omega)
theorem Zpa {p0 p1 p2 p3 p4 p5 p6 p7 p8 p9 p10 p11:Int} {w:World} :
  Calls Tryz.prog 273 #[.agg #[.int .u64 p0,.int .u64 p1,.int .u64 p2,.int .u64 p3,.int .u64 p4,.int .u64 p5,.int .u64 p6,.int .u64 p7,.int .u64 p8,.int .u64 p9,.int .u64 p10,.int .u64 p11]] w fun e w'=>e=.returned (.agg #[.int .u64 p6,.int .u64 p7,.int .u64 p8,.int .u64 p9,.int .u64 p10,.int .u64 p11])∧Below w.heap.size w w' :=
 ZlR [p0,p1,p2,p3,p4,p5,p6,p7,p8,p9,p10,p11] w rfl
theorem Zny:(Tryz.prog.info? 332).map (·.size)=some 12:=by kernel_rfl
theorem ZoR (T P M:List Int) (A Z:List Int) (o:Int) (i:Int) (t:List Int) (hm:Zfh M i t) (lT:T.length=12) (fT:Zaz T) (lP:P.length=12) (hz:∀ j,j<6→P.getD j 0=0) (hQ:∃ Q,0≤Q∧Q<18446744073709551616 ^ 6∧v64 P+o*18446744073709551616 ^ (6+6)=v64 T+Q*v64 M) :
  v64 (P.drop 6)+o*18446744073709551616 ^ 6<18446744073709551616 ^ 6+v64 M∧(v64 A=Zm4 (v64 (P.drop 6)+o*18446744073709551616 ^ 6) (v64 M)→v64 Z=v64 A%v64 M→v64 Z<v64 M∧(18446744073709551616 ^ 6*v64 Z)%v64 M=v64 T%v64 M):=by
 obtain⟨Q,Q0,Q1,h⟩:=hQ;obtain ⟨e1,e2⟩:=ZoS P M T Q o lP lT fT hm.fM hz Q1 h;refine ⟨e2,fun hA hZ=>?_⟩;rw[hA,Zm5] at hZ;have pos:0<v64 M:=by
  have:=(ZaN M hm.lM hm.fM).1;have:=hm.odd;omega
 exact⟨by rw[hZ];exact Int.emod_lt_of_pos _ pos,Znm e1 hZ⟩
set_option maxRecDepth 100000 in
set_option maxHeartbeats 4000000 in
theorem Zjw (T:List Int) (m0 m1 m2 m3 m4 m5 i t0 t1 t2 t3 t4 t5:Int) (w:World) (lT:T.length=12) (fT:Zaz T) (hm:Zfh [m0,m1,m2,m3,m4,m5] i [t0,t1,t2,t3,t4,t5]) :
    Calls Tryz.prog 270 #[.agg (us T).toArray,.agg #[.int .u64 m0,.int .u64 m1,.int .u64 m2,.int .u64 m3,.int .u64 m4,.int .u64 m5,.int .u64 i,.int .u64 t0,.int .u64 t1,.int .u64 t2,.int .u64 t3,.int .u64 t4,.int .u64 t5]] w fun e w'=>∃ z0 z1 z2 z3 z4 z5:Int,e=.returned (.agg #[.int .u64 z0,.int .u64 z1,.int .u64 z2,.int .u64 z3,.int .u64 z4,.int .u64 z5])∧Zaz [z0,z1,z2,z3,z4,z5]∧v64 [z0,z1,z2,z3,z4,z5]<v64 [m0,m1,m2,m3,m4,m5]∧(18446744073709551616 ^ 6*v64 [z0,z1,z2,z3,z4,z5])%v64 [m0,m1,m2,m3,m4,m5]=v64 T%v64 [m0,m1,m2,m3,m4,m5]∧Below w.heap.size w w':=by
  have HM:Hid _:=hm;have i0:=hm.i0;have i1:=hm.i1;have fM:=hm.fM;have hinv:Hid ((i*m0)%18446744073709551616=18446744073709551615):=hm.inv;clear hm;obtain ⟨X,hX⟩:∃ X:List Int,X=[m0,m1,m2,m3,m4,m5,i,t0,t1,t2,t3,t4,t5]:=⟨_,rfl⟩;have lX:X.length=13:=by rw[hX];rfl
  have HX:Hid (∀ j,j<6→X.getD j 0=([m0,m1,m2,m3,m4,m5]:List Int).getD j 0):=fun j hj=>by
    rw[hX]
    match j,hj with
    | 0,_=>rfl
    | 1,_=>rfl
    | 2,_=>rfl
    | 3,_=>rfl
    | 4,_=>rfl
    | 5,_=>rfl
  have HX6:Hid (X.getD 6 0=i):=by show _=_;rw[hX];rfl
  have HE:Hid _:=hX;have eA:(#[.int .u64 m0,.int .u64 m1,.int .u64 m2,.int .u64 m3,.int .u64 m4,.int .u64 m5,.int .u64 i,.int .u64 t0,.int .u64 t1,.int .u64 t2,.int .u64 t3,.int .u64 t4,.int .u64 t5]:Array Value)=(us X).toArray:=by rw[hX];rfl
  rw[eA];clear hX eA;have b0:=((Blk.new w (us T) 332 w.heap.size rfl).alloc (.cells (us X).toArray 319)).alloc (.cells (us [0,0,0,0,0,0]).toArray 27);have b1:=(Blk.new (w.alloc (.cells (us T).toArray 332)) (us X) 319 (w.heap.size+1) (by simp)).alloc (.cells (us [0,0,0,0,0,0]).toArray 27);have b2:=Blk.new ((w.alloc (.cells (us T).toArray 332)).alloc (.cells (us X).toArray 319)) (us [0,0,0,0,0,0]) 27 (w.heap.size+1+1) (by simp);have hbel0:Below w.heap.size w (((w.alloc (.cells (us T).toArray 332)).alloc (.cells (us X).toArray 319)).alloc (.cells (us [0,0,0,0,0,0]).toArray 27)):=(((Below.refl _ _).alloc (Nat.le_refl _) _).alloc (by simp) _).alloc (by simp;omega) _;obtain ⟨M,hMM⟩:∃ M:List Int,M=[m0,m1,m2,m3,m4,m5]:=⟨_,rfl⟩;have lM:M.length=6:=by rw[hMM];rfl
  have gM:Zaz M:=by rw[hMM];exact fM
  rw[← hMM] at HX;have hinv':Hid ((i*M.getD 0 0)%18446744073709551616=18446744073709551615):=by show _=_;rw[hMM];exact hinv.out
  have HMM:Hid _:=hMM;clear hMM hinv;go_enter Tryz.func270,Tryz.ntmps270;go_wp2;go_loopw [5,13] (fun ab iv wr=>∃ (k:Nat) (o:Int) (P:List Int),k≤6∧iv=.int .i64 k∧ab=.int .u64 o∧0≤o∧o≤1∧P.length=12∧Zaz P∧Hid (∃ Q,0≤Q∧Q<18446744073709551616 ^ k∧v64 P+o*18446744073709551616 ^ (k+6)=v64 T+Q*v64 M)∧Hid (∀ j,j<k→P.getD j 0=0) ∧
      Blk wr w.heap.size (us P)∧Blk wr (w.heap.size+1) (us X)∧Blk wr (w.heap.size+1+1) (us [0,0,0,0,0,0])∧Below w.heap.size w wr)
    (fun _ iv _=>6-(intOf iv).toNat)
  case atStart=>exact ⟨0,0,T,by omega,rfl,rfl,by omega,by omega,lT,fT,⟨0,by omega,by decide,by simp⟩,fun j hj=>absurd hj (by omega),b0,b1,b2,hbel0⟩
  case round =>
    obtain⟨k,o,P,hk,rfl,rfl,ho0,ho1,lP,fP,HQ,HZ,hSP,hSX,hSZ,hbel⟩:=hrel;clear b0 b1 b2 hbel0
    by_cases hlt:k<6
    · obtain ⟨p,hp⟩:∃ p,P.getD k 0=p:=⟨_,rfl⟩
      have xp:=hSP.cell k _ (ZaO P k (by omega));rw[hp] at xp;have xi:=hSX.cell 6 _ (ZaO X 6 (by omega));rw[HX6.out] at xi;have hpx:0≤p∧p<18446744073709551616:=hp ▸ fP k;have HP:Hid _:=hp;clear hp;obtain ⟨V,hV⟩:∃ V,V=v64 P:=⟨_,rfl⟩;have HV:Hid _:=hV;clear hV;have h1:(k:Int)<6:=by omega
      have h2:(0:Int)≤(k:Int):=by omega
      go_wp2;go_region
      all_goals go_wp2
      obtain⟨q,hq⟩:∃ q,IntKind.u64.wrap (p*i)=q:=⟨_,rfl⟩;rw[hq];rw[IntKind.wrap_u64] at hq;have q0:0≤q:=by rw[← hq];exact Int.emod_nonneg _ (by decide)
      have q1:q<18446744073709551616:=by rw[← hq];exact Int.emod_lt_of_pos _ (by decide)
      have HC:Hid ((q*M.getD 0 0+p+0)%18446744073709551616=0):=by
        show _=_;rw[← hq,Int.add_zero];exact Zle p i _ hinv'.out
      clear hq xp xi;obtain ⟨wo,hwo⟩:∃ wo:World,wo=wr.drew:=⟨_,rfl⟩;rw[← hwo];replace hSP:Blk wo w.heap.size (us P):=by rw[hwo];exact hSP.drew
      replace hSX:Blk wo (w.heap.size+1) (us X):=by rw[hwo];exact hSX.drew
      replace hSZ:Blk wo (w.heap.size+1+1) (us [0,0,0,0,0,0]):=by rw[hwo];exact hSZ.drew
      replace hbel:Below w.heap.size w wo:=by rw[hwo];exact hbel.drew
      clear hwo;obtain ⟨w9,hw9⟩:∃ w9:World,w9=wo:=⟨_,rfl⟩;go_loopw [8,22] (fun cv jv wq=>∃ (m:Nat) (c:Int) (R:List Int),m≤6∧jv=.int .i64 m∧cv=.int .u64 c∧0≤c∧c<18446744073709551616∧R.length=12∧Zaz R∧Hid (v64 R+c*18446744073709551616 ^ (k+m)=V+q*18446744073709551616 ^ k*v64 (M.take m))∧Hid (∀ j,j<k∨(j=k∧0<m)→R.getD j 0=0)∧Hid (m=0→c=0∧R.getD k 0=p) ∧
          Blk wq w.heap.size (us R)∧Blk wq (w.heap.size+1) (us X)∧Blk wq (w.heap.size+1+1) (us [0,0,0,0,0,0])∧Below w.heap.size w wq)
        (fun _ jv _=>6-(intOf jv).toNat)
      case atStart=>exact ⟨0,0,P,by omega,rfl,rfl,by omega,by omega,lP,fP,by show _=_;rw[HV.out];simp[v64,pv],fun j hj=>HZ.out j (by omega),fun _=>⟨rfl,HP.out⟩,hSP,hSX,hSZ,hbel⟩
      case round =>
        obtain⟨m,c,R,hm,rfl,rfl,hc0,hc1,lR,fR,HR,HZR,HST,hTP,hTX,hTZ,hbelr⟩:=hrel;clear hSP hSX hSZ hbel hw9
        by_cases hlm:m<6
        · obtain ⟨b,hB⟩:∃ b,M.getD m 0=b:=⟨_,rfl⟩
          obtain⟨s,hS⟩:∃ s,R.getD (k+m) 0=s:=⟨_,rfl⟩;have xb:=hTX.cell m _ (ZaO X m (by omega));rw[HX.out m hlm,hB] at xb;have xs:=hTP.cell (k+m) _ (ZaO R (k+m) (by omega));rw[hS] at xs;have hf:=hTP.frozen (k+m);have hbx:0≤b∧b<18446744073709551616:=hB ▸ gM m;have hsx:0≤s∧s<18446744073709551616:=hS ▸ fR (k+m);have st:Hid _:=Znn R M k m V q b s c lR lM hlt hlm hS hB HR.out;have qb:Hid _:=Zn1 q b s c q0 q1 hbx.1 hbx.2 hsx.1 hsx.2 hc0 hc1;have MU:=fun w=>ZgT q b w q0 q1 hbx.1 hbx.2;have IN:=Zky q b s c q0 q1 hbx.1 hbx.2;have zn:Hid (m=0→(q*b+s+c)%18446744073709551616=0):=fun h0=>by
            subst h0;obtain ⟨e1,e2⟩:=HST.out rfl;rw[Nat.add_zero,e2] at hS;rw[← hB,← hS,e1];exact HC.out
          have pb:=Zga q b q0 q1 hbx.1 hbx.2;obtain ⟨y,hy⟩:∃ y,q*b=y:=⟨_,rfl⟩;rw[hy] at st qb MU IN zn pb;obtain ⟨hi,hhi⟩:∃ z,y/18446744073709551616=z:=⟨_,rfl⟩;obtain ⟨lo,hlo⟩:∃ z,y%18446744073709551616=z:=⟨_,rfl⟩;rw[hhi,hlo] at MU IN;have A1:=Zcy lo s 0 (by omega) hsx.1 (by omega) (by omega);obtain ⟨l1,hl1⟩:∃ z,(lo+s+0)%18446744073709551616=z:=⟨_,rfl⟩;obtain ⟨k1,hk1⟩:∃ z,(lo+s+0)/18446744073709551616=z:=⟨_,rfl⟩;rw[hl1,hk1] at A1 IN;have A2:=Zcy l1 c 0 (by omega) hc0 (by omega) (by omega);obtain ⟨l2,hl2⟩:∃ z,(l1+c+0)%18446744073709551616=z:=⟨_,rfl⟩;obtain ⟨k2,hk2⟩:∃ z,(l1+c+0)/18446744073709551616=z:=⟨_,rfl⟩;rw[hl2,hk2] at A2 IN;rw[← IN.1] at st qb;rw[← IN.2] at st zn;have n1:IntKind.u64.wrap (hi+k1)=hi+k1:=by rw[IntKind.wrap_u64];omega
          have n2:IntKind.u64.wrap (hi+k1+k2)=hi+k1+k2:=by rw[IntKind.wrap_u64];have:=qb.out;omega
          have r0:0≤l2:=by omega
          have r1:l2<18446744073709551616:=by omega
          clear hy hhi hlo hl1 hk1 hl2 hk2 IN pb hB hS HR HST;have g1:(m:Int)<6:=by omega
          have g2:(0:Int)≤(m:Int):=by omega
          have g4:IntKind.i64.wrap ((k:Int)+(m:Int))=(k:Int)+(m:Int):=by rw[IntKind.wrap_i64];omega
          have g5:(0:Int)≤(k:Int)+(m:Int):=by omega
          have g6:(k:Int)+(m:Int)<12:=by omega
          have g7:((k:Int)+(m:Int)).toNat=k+m:=by omega
          go_wp2_with fail;refine (MU _).mono ?_;rintro e w' ⟨rfl,hw⟩;obtain rfl:=hw.symm;go_wp2_with fail;go_roundw
          case rel=>exact ⟨m+1,_,R.set (k+m) l2,by omega,by go_num,rfl,qb.out.1,qb.out.2,by simpa using lR,Zdm fR _ _ r0 r1,st,ZlU R k m l2 HZR.out zn.out (by omega),fun h=>absurd h (by omega),hTP.setu _ _,hTX.other _ _ (by simp<;>omega),hTZ.other _ _ (by simp<;>omega),hbelr.setCell (by simp<;>omega) _⟩
          case measure=>simp[intOf];omega
        · have g1:(6:Int)≤(m:Int):=by omega
          have hm6:m=6:=by omega
          obtain⟨s,hS⟩:∃ s,R.getD (k+6) 0=s:=⟨_,rfl⟩;have xs:=hTP.cell (k+6) _ (ZaO R (k+6) (by omega));rw[hS] at xs;have hf:=hTP.frozen (k+6);have hsx:0≤s∧s<18446744073709551616:=hS ▸ fR (k+6);have st:Hid (∃ Q',0≤Q'∧Q'<18446744073709551616 ^ (k+1)∧v64 (R.set (k+6) ((s+c+o)%18446744073709551616))+(s+c+o)/18446744073709551616*18446744073709551616 ^ (k+1+6)=v64 T+Q'*v64 M):=by
            have hr:=HR.out;rw[hm6] at hr;obtain ⟨Q,Q0,Q1,hQ⟩:=HQ.out;rw[← HV.out] at hQ;exact ZoT R M T k V Q q c s o lR lM hlt hS q0 q1 Q0 Q1 hQ hr
          have HZ':Hid (∀ j,j<k+1→(R.set (k+6) ((s+c+o)%18446744073709551616)).getD j 0=0):=fun j hj=>by
            rw[ZeZ _ _ _ _ (by omega)];exact HZR.out j (by omega)
          have A1:=Zcy s c o hsx.1 hc0 ho0 ho1;obtain ⟨l1,hl1⟩:∃ z,(s+c+o)%18446744073709551616=z:=⟨_,rfl⟩;obtain ⟨k1,hk1⟩:∃ z,(s+c+o)/18446744073709551616=z:=⟨_,rfl⟩;rw[hl1,hk1] at A1 st;rw[hl1] at HZ';have r0:0≤l1:=by omega
          have r1:l1<18446744073709551616:=by omega
          have r2:0≤k1:=by omega
          have r3:k1≤1:=by omega
          clear hS HR HST HZR hl1 hk1 HQ;have g2:(0:Int)≤(k:Int)+6:=by omega
          have g3:(k:Int)+6<12:=by omega
          have g4:((k:Int)+6).toNat=k+6:=by omega
          go_wp2;go_roundw
          case rel=>exact ⟨k+1,_,R.set (k+6) l1,by omega,by go_num,rfl,r2,r3,by simpa using lR,Zdm fR _ _ r0 r1,st,HZ',hTP.setu _ _,hTX.other _ _ (by simp<;>omega),hTZ.other _ _ (by simp<;>omega),hbelr.setCell (by simp<;>omega) _⟩
          case measure=>simp[intOf];omega
    · have h6:(6:Int)≤(k:Int):=by omega
      have hk6:k=6:=by omega
      have HA:Hid _:=fun A Z=>ZoR T P [m0,m1,m2,m3,m4,m5] A Z o i [t0,t1,t2,t3,t4,t5] HM.out lT fT lP (fun j hj=>HZ.out j (by omega)) (by
        have:=HQ.out;rw[hk6,HMM.out] at this;exact this)
      have hX:=HE.out;subst hX;have big:=HM.out.big;have HB:Hid _:=big;clear big HZ HQ HE HX HX6 lX HMM gM lM hinv' i0 i1 hk6 lT fT;obtain ⟨p0,p1,p2,p3,p4,p5,p6,p7,p8,p9,p10,p11,rfl⟩:=ZlN lP;have fU:Zaz [p6,p7,p8,p9,p10,p11]:=Zku fP 6;have ho:o=0∨o=1:=by omega
      have R0:wr.rangeAt w.heap.size 0 [.int .u64 p0,.int .u64 p1,.int .u64 p2,.int .u64 p3,.int .u64 p4,.int .u64 p5,.int .u64 p6,.int .u64 p7,.int .u64 p8,.int .u64 p9,.int .u64 p10,.int .u64 p11]:=Zld hSP;obtain ⟨c0,c1,c2,c3,c4,c5⟩:=hSX.cellsM;have hWr:Wr6 wr (w.heap.size+1+1):=Wr6.of hSZ;have hu:=Tryz.underlying332;have hi:=Zny;go_wp2;clear hSP hSX hSZ;go_region_held3 (fun wx=>wx.rangeAt w.heap.size 0 [.int .u64 p0,.int .u64 p1,.int .u64 p2,.int .u64 p3,.int .u64 p4,.int .u64 p5,.int .u64 p6,.int .u64 p7,.int .u64 p8,.int .u64 p9,.int .u64 p10,.int .u64 p11]∧(wx.cell? ⟨w.heap.size+1,0,none⟩=some (.int .u64 m0)∧wx.cell? ⟨w.heap.size+1,1,none⟩=some (.int .u64 m1)∧wx.cell? ⟨w.heap.size+1,2,none⟩=some (.int .u64 m2)∧wx.cell? ⟨w.heap.size+1,3,none⟩=some (.int .u64 m3)∧wx.cell? ⟨w.heap.size+1,4,none⟩=some (.int .u64 m4)∧wx.cell? ⟨w.heap.size+1,5,none⟩=some (.int .u64 m5))∧Wr6 wx (w.heap.size+1+1)∧Below w.heap.size w wx)
        (first
          | (go_split_ands;with_reducible exact ⟨Zjv (by assumption) (by omega),⟨Zaj (by assumption) (by omega),Zaj (by assumption) (by omega),Zaj (by assumption) (by omega),Zaj (by assumption) (by omega),Zaj (by assumption) (by omega),Zaj (by assumption) (by omega)⟩,Wr6.put (by assumption),Zba (by assumption) (by omega)⟩)
          | (go_split_ands;with_reducible exact ⟨ZhP (by assumption) hb,⟨Zah (by assumption) hb,Zah (by assumption) hb,Zah (by assumption) hb,Zah (by assumption) hb,Zah (by assumption) hb,Zah (by assumption) hb⟩,Wr6.later (by assumption) hb,Zaa (by assumption) hb⟩)
          | (exact ⟨Zju R0,⟨c0,c1,c2,c3,c4,c5⟩,hWr.drew,hbel.drew⟩))
        (first
          | (go_at_call 273;refine Zpa.mono ?_;rintro e w' ⟨rfl,hb⟩)
          | (go_at_call 268;refine (Zgk fU fM ho (HA.out [] []).1).mono ?_;rintro e w' ⟨a0,a1,a2,a3,a4,a5,rfl,fA,hA,hb⟩;have HA2:Hid _:=hA;clear hA)
          | (go_at_call 262;refine (Zlf fA fM HB.out).mono ?_;rintro e w' ⟨z0,z1,z2,z3,z4,z5,rfl,fZ,hZ,hb⟩;have HZ2:Hid _:=hZ;clear hZ;obtain ⟨y0,y1,y2,y3,y4,y5,⟨d0,d1,d2,d3,d4,d5⟩,⟨f0,f1,f2,f3,f4,f5⟩⟩:=(Wr6.later (b:=w.heap.size+1+1) (by go_split_ands;assumption) hb).cells))
      all_goals go_split_ands
      all_goals go_wp2
      all_goals exact bodyPost_ret (v:=.agg #[.int .u64 z0,.int .u64 z1,.int .u64 z2,.int .u64 z3,.int .u64 z4,.int .u64 z5]) (by simp[results,Tryz.results270,go_sem,d0,d1,d2,d3,d4,d5]) rfl ⟨z0,z1,z2,z3,z4,z5,rfl,fZ,((HA.out _ _).2 HA2.out HZ2.out).1,((HA.out _ _).2 HA2.out HZ2.out).2,by assumption⟩
end Go.Proofs.YtdfmoghjimghhaaGreatDoor
