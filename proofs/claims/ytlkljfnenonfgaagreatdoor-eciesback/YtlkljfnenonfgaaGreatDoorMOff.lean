/- modp's takeOff, rest and addRests: the modulus taken off where it can be. modp's upper: a number's upper half. -/
import Derived.Test.YtlkljfnenonfgaaGreatDoorMath
import Derived.Test.YtlkljfnenonfgaaGreatDoorLimb
import Derived.Test.YtlkljfnenonfgaaGreatDoorBase
import Derived.Test.YtlkljfnenonfgaaGreatDoorRows
namespace Go.Proofs.YtlkljfnenonfgaaGreatDoor
open Go.RowKit
theorem pick_bit (n k:Int) (hn:n=0∨n=1) (k0:0≤k) (k1:k≤1):(0≤bits .or .u64 n (bits .xor .u64 k 1)∧bits .or .u64 n (bits .xor .u64 k 1) < 18446744073709551616)∧oddB (bits .or .u64 n (bits .xor .u64 k 1))=decide (n=1∨k=0):=by
 have hk:k=0∨k=1:=by omega
 rcases hn with rfl|rfl<;>rcases hk with rfl|rfl<;>decide
theorem pick6 {n x0 x1 x2 x3 x4 x5 y0 y1 y2 y3 y4 y5:Int} {w:World} (hn:0≤n∧n < 18446744073709551616) (hx:fits [x0,x1,x2,x3,x4,x5]) (hy:fits [y0,y1,y2,y3,y4,y5]) :
  Calls Tryz.prog 77 #[.int .u64 n,.agg #[.int .u64 x0,.int .u64 x1,.int .u64 x2,.int .u64 x3,.int .u64 x4,.int .u64 x5],.agg #[.int .u64 y0,.int .u64 y1,.int .u64 y2,.int .u64 y3,.int .u64 y4,.int .u64 y5]] w fun e w'=>∃ z0 z1 z2 z3 z4 z5:Int,e=.returned (.agg #[.int .u64 z0,.int .u64 z1,.int .u64 z2,.int .u64 z3,.int .u64 z4,.int .u64 z5])∧pk n [x0,x1,x2,x3,x4,x5] [y0,y1,y2,y3,y4,y5]=[z0,z1,z2,z3,z4,z5]∧fits [z0,z1,z2,z3,z4,z5]∧Below w.heap.size w w':=by
 refine (pick_any n [x0,x1,x2,x3,x4,x5] [y0,y1,y2,y3,y4,y5] w hn.1 hn.2 rfl rfl hx hy).mono ?_
 rintro e w' ⟨rfl,hb⟩
 have l:=pk_len n [x0,x1,x2,x3,x4,x5] [y0,y1,y2,y3,y4,y5] rfl rfl
 have f:=pk_fits n [x0,x1,x2,x3,x4,x5] [y0,y1,y2,y3,y4,y5] hx hy
 obtain ⟨z0,z1,z2,z3,z4,z5,h⟩:=six l
 rw [h] at f ⊢
 exact ⟨z0,z1,z2,z3,z4,z5,rfl,rfl,f,hb⟩
theorem pick_val (n k:Int) (A S Z:List Int) (o:Int) (hp:pk (bits .or .u64 n (bits .xor .u64 k 1)) A S=Z) (ho:oddB (bits .or .u64 n (bits .xor .u64 k 1))=decide (n=1∨k=0)) (hv:(if n=1∨k=0 then v64 S else v64 A)=o):v64 Z=o:=by
 rw [← hv,← hp]
 unfold pk
 rw [ho]
 by_cases h:n=1∨k=0
 ·rw [if_pos h,if_pos (by simpa using h)]
 ·rw [if_neg h,if_neg (by simpa using h)]
set_option maxRecDepth 100000 in
set_option maxHeartbeats 400000 in
theorem takeOff6 {n x0 x1 x2 x3 x4 x5 m0 m1 m2 m3 m4 m5:Int} {w:World} (fA:fits [x0,x1,x2,x3,x4,x5]) (fM:fits [m0,m1,m2,m3,m4,m5]) (hn:n=0∨n=1) (hb:v64 [x0,x1,x2,x3,x4,x5] + n * 18446744073709551616 ^ 6 < 18446744073709551616 ^ 6 + v64 [m0,m1,m2,m3,m4,m5]) :
  Calls Tryz.prog 114 #[.agg #[.int .u64 x0,.int .u64 x1,.int .u64 x2,.int .u64 x3,.int .u64 x4,.int .u64 x5],.int .u64 n,.agg #[.int .u64 m0,.int .u64 m1,.int .u64 m2,.int .u64 m3,.int .u64 m4,.int .u64 m5]] w fun e w'=>∃ z0 z1 z2 z3 z4 z5:Int,e=.returned (.agg #[.int .u64 z0,.int .u64 z1,.int .u64 z2,.int .u64 z3,.int .u64 z4,.int .u64 z5])∧fits [z0,z1,z2,z3,z4,z5]∧v64 [z0,z1,z2,z3,z4,z5]=offN (v64 [x0,x1,x2,x3,x4,x5] + n * 18446744073709551616 ^ 6) (v64 [m0,m1,m2,m3,m4,m5])∧Below w.heap.size w w':=by
 have HB:Hid _:=hb
 clear hb
 have B0:=((Blk.new w (us [x0,x1,x2,x3,x4,x5]) 24 w.heap.size rfl).alloc (.cells (us [m0,m1,m2,m3,m4,m5]).toArray 24)).alloc (.cells (us [0,0,0,0,0,0]).toArray 24)
 have B1:=(Blk.new (w.alloc (.cells (us [x0,x1,x2,x3,x4,x5]).toArray 24)) (us [m0,m1,m2,m3,m4,m5]) 24 (w.heap.size + 1) (by simp)).alloc (.cells (us [0,0,0,0,0,0]).toArray 24)
 have B2:=Blk.new ((w.alloc (.cells (us [x0,x1,x2,x3,x4,x5]).toArray 24)).alloc (.cells (us [m0,m1,m2,m3,m4,m5]).toArray 24)) (us [0,0,0,0,0,0]) 24 (w.heap.size + 1 + 1) (by simp)
 have bel:Below w.heap.size w (((w.alloc (.cells (us [x0,x1,x2,x3,x4,x5]).toArray 24)).alloc (.cells (us [m0,m1,m2,m3,m4,m5]).toArray 24)).alloc (.cells (us [0,0,0,0,0,0]).toArray 24)):=(((Below.refl _ _).alloc (Nat.le_refl _) _).alloc (by simp) _).alloc (by simp;omega) _
 go_enter Tryz.func114,Tryz.ntmps114
 go_wp2_with fail
 simp only [us,List.map_cons,List.map_nil] at B0 B1 B2 bel
 generalize ((w.alloc (Obj.cells #[.int .u64 x0,.int .u64 x1,.int .u64 x2,.int .u64 x3,.int .u64 x4,.int .u64 x5] 24)).alloc (Obj.cells #[.int .u64 m0,.int .u64 m1,.int .u64 m2,.int .u64 m3,.int .u64 m4,.int .u64 m5] 24)).alloc (Obj.cells #[.int .u64 0,.int .u64 0,.int .u64 0,.int .u64 0,.int .u64 0,.int .u64 0] 24)=W at *
 have lt2:=B2.lt
 refine (sub6 fA fM).mono ?_
 rintro e w1 ⟨s0,s1,s2,s3,s4,s5,k,rfl,fS,k0,k1,hs,hb⟩
 have O:Hid _:=off_num [x0,x1,x2,x3,x4,x5] [s0,s1,s2,s3,s4,s5] [m0,m1,m2,m3,m4,m5] n k rfl rfl rfl fA fM fS hn k0 k1 hs HB.out
 obtain ⟨hr,ho⟩:=pick_bit n k hn k0 k1
 have HO:Hid _:=ho
 replace B0:=B0.later hb
 replace B2:=B2.later hb
 replace bel:=bel.trans (hb.mono (by omega))
 clear hs ho hn hb lt2 B1
 have lt2:=B2.lt
 have lt0:=B0.lt
 obtain ⟨c0,c1,c2,c3,c4,c5⟩:=B0.cells6
 go_wp2_with fail
 replace B2:=B2.alloc (.cells (us [s0,s1,s2,s3,s4,s5]).toArray 24)
 replace bel:=bel.alloc (by omega) (.cells (us [s0,s1,s2,s3,s4,s5]).toArray 24)
 refine (pick6 hr fA fS).mono ?_
 rintro e w2 ⟨z0,z1,z2,z3,z4,z5,rfl,hp,fZ,hb⟩
 have hv:Hid _:=pick_val n k _ _ _ _ hp HO.out O.out
 replace B2:=B2.later hb
 replace bel:=bel.trans (hb.mono (by simp<;>omega))
 clear hp hb B0 c0 c1 c2 c3 c4 c5 lt2 lt0
 have lt2:=B2.lt
 have c0:=B2.cell 0 _ rfl;have f0:=B2.frozen 0;have c1:=B2.cell 1 _ rfl;have f1:=B2.frozen 1;have c2:=B2.cell 2 _ rfl;have f2:=B2.frozen 2;have c3:=B2.cell 3 _ rfl;have f3:=B2.frozen 3;have c4:=B2.cell 4 _ rfl;have f4:=B2.frozen 4;have c5:=B2.cell 5 _ rfl;have f5:=B2.frozen 5
 go_wp2_with fail
 exact bodyPost_ret (v:=.agg #[.int .u64 z0,.int .u64 z1,.int .u64 z2,.int .u64 z3,.int .u64 z4,.int .u64 z5]) (by simp [results,Tryz.results114,go_sem,c0,c1,c2,c3,c4,c5]) rfl ⟨z0,z1,z2,z3,z4,z5,rfl,fZ,hv.out,below_put6 bel (by omega)⟩
set_option maxRecDepth 100000 in
set_option maxHeartbeats 400000 in
theorem rest6 {x0 x1 x2 x3 x4 x5 m0 m1 m2 m3 m4 m5:Int} {w:World} (fA:fits [x0,x1,x2,x3,x4,x5]) (fM:fits [m0,m1,m2,m3,m4,m5]) (hM:18446744073709551616 ^ 6≤2 * v64 [m0,m1,m2,m3,m4,m5]) :
  Calls Tryz.prog 93 #[.agg #[.int .u64 x0,.int .u64 x1,.int .u64 x2,.int .u64 x3,.int .u64 x4,.int .u64 x5],.agg #[.int .u64 m0,.int .u64 m1,.int .u64 m2,.int .u64 m3,.int .u64 m4,.int .u64 m5]] w fun e w'=>∃ z0 z1 z2 z3 z4 z5:Int,e=.returned (.agg #[.int .u64 z0,.int .u64 z1,.int .u64 z2,.int .u64 z3,.int .u64 z4,.int .u64 z5])∧fits [z0,z1,z2,z3,z4,z5]∧v64 [z0,z1,z2,z3,z4,z5]=v64 [x0,x1,x2,x3,x4,x5] % v64 [m0,m1,m2,m3,m4,m5]∧Below w.heap.size w w':=by
 have bA:=v6_bound [x0,x1,x2,x3,x4,x5] rfl fA
 have HB:Hid (v64 [x0,x1,x2,x3,x4,x5] + 0 * 18446744073709551616 ^ 6 < 18446744073709551616 ^ 6 + v64 [m0,m1,m2,m3,m4,m5]):=by
  have bM:=v6_bound [m0,m1,m2,m3,m4,m5] rfl fM
  show _ < _
  generalize (18446744073709551616:Int) ^ 6=R at *
  generalize v64 [x0,x1,x2,x3,x4,x5]=X at *
  generalize v64 [m0,m1,m2,m3,m4,m5]=Y at *
  omega
 have HR:Hid (offN (v64 [x0,x1,x2,x3,x4,x5] + 0 * 18446744073709551616 ^ 6) (v64 [m0,m1,m2,m3,m4,m5])=v64 [x0,x1,x2,x3,x4,x5] % v64 [m0,m1,m2,m3,m4,m5]):=by
  show _=_
  rw [Int.zero_mul,Int.add_zero]
  exact offN_rest bA.1 (Int.lt_of_lt_of_le bA.2 hM)
 clear hM bA
 have B2:=Blk.new ((w.alloc (.cells (us [x0,x1,x2,x3,x4,x5]).toArray 24)).alloc (.cells (us [m0,m1,m2,m3,m4,m5]).toArray 24)) (us [0,0,0,0,0,0]) 24 (w.heap.size + 1 + 1) (by simp)
 have bel:Below w.heap.size w (((w.alloc (.cells (us [x0,x1,x2,x3,x4,x5]).toArray 24)).alloc (.cells (us [m0,m1,m2,m3,m4,m5]).toArray 24)).alloc (.cells (us [0,0,0,0,0,0]).toArray 24)):=(((Below.refl _ _).alloc (Nat.le_refl _) _).alloc (by simp) _).alloc (by simp;omega) _
 go_enter Tryz.func93,Tryz.ntmps93
 go_wp2_with fail
 simp only [us,List.map_cons,List.map_nil] at B2 bel
 generalize ((w.alloc (Obj.cells #[.int .u64 x0,.int .u64 x1,.int .u64 x2,.int .u64 x3,.int .u64 x4,.int .u64 x5] 24)).alloc (Obj.cells #[.int .u64 m0,.int .u64 m1,.int .u64 m2,.int .u64 m3,.int .u64 m4,.int .u64 m5] 24)).alloc (Obj.cells #[.int .u64 0,.int .u64 0,.int .u64 0,.int .u64 0,.int .u64 0,.int .u64 0] 24)=W at *
 have lt2:=B2.lt
 refine (takeOff6 fA fM (.inl rfl) HB.out).mono ?_
 rintro e w1 ⟨z0,z1,z2,z3,z4,z5,rfl,fZ,hz,hb⟩
 rw [HR.out] at hz
 have HZ:Hid _:=hz
 replace B2:=B2.later hb
 replace bel:=bel.trans (hb.mono (by omega))
 clear hz lt2 hb
 have lt2:=B2.lt
 have c0:=B2.cell 0 _ rfl;have f0:=B2.frozen 0;have c1:=B2.cell 1 _ rfl;have f1:=B2.frozen 1;have c2:=B2.cell 2 _ rfl;have f2:=B2.frozen 2;have c3:=B2.cell 3 _ rfl;have f3:=B2.frozen 3;have c4:=B2.cell 4 _ rfl;have f4:=B2.frozen 4;have c5:=B2.cell 5 _ rfl;have f5:=B2.frozen 5
 go_wp2_with fail
 exact bodyPost_ret (v:=.agg #[.int .u64 z0,.int .u64 z1,.int .u64 z2,.int .u64 z3,.int .u64 z4,.int .u64 z5]) (by simp [results,Tryz.results93,go_sem,c0,c1,c2,c3,c4,c5]) rfl ⟨z0,z1,z2,z3,z4,z5,rfl,fZ,HZ.out,below_put6 bel (by omega)⟩
set_option maxRecDepth 100000 in
set_option maxHeartbeats 400000 in
theorem addRests6 {x0 x1 x2 x3 x4 x5 y0 y1 y2 y3 y4 y5 m0 m1 m2 m3 m4 m5:Int} {w:World} (fA:fits [x0,x1,x2,x3,x4,x5]) (fB:fits [y0,y1,y2,y3,y4,y5]) (fM:fits [m0,m1,m2,m3,m4,m5]) (hA:v64 [x0,x1,x2,x3,x4,x5] < v64 [m0,m1,m2,m3,m4,m5]) (hB:v64 [y0,y1,y2,y3,y4,y5] < v64 [m0,m1,m2,m3,m4,m5]) :
  Calls Tryz.prog 95 #[.agg #[.int .u64 x0,.int .u64 x1,.int .u64 x2,.int .u64 x3,.int .u64 x4,.int .u64 x5],.agg #[.int .u64 y0,.int .u64 y1,.int .u64 y2,.int .u64 y3,.int .u64 y4,.int .u64 y5],.agg #[.int .u64 m0,.int .u64 m1,.int .u64 m2,.int .u64 m3,.int .u64 m4,.int .u64 m5]] w fun e w'=>∃ z0 z1 z2 z3 z4 z5:Int,e=.returned (.agg #[.int .u64 z0,.int .u64 z1,.int .u64 z2,.int .u64 z3,.int .u64 z4,.int .u64 z5])∧fits [z0,z1,z2,z3,z4,z5]∧v64 [z0,z1,z2,z3,z4,z5]=(v64 [x0,x1,x2,x3,x4,x5] + v64 [y0,y1,y2,y3,y4,y5]) % v64 [m0,m1,m2,m3,m4,m5]∧Below w.heap.size w w':=by
 have HA:Hid _:=hA
 have HB:Hid _:=hB
 clear hA hB
 have B2:=(Blk.new ((w.alloc (.cells (us [x0,x1,x2,x3,x4,x5]).toArray 24)).alloc (.cells (us [y0,y1,y2,y3,y4,y5]).toArray 24)) (us [m0,m1,m2,m3,m4,m5]) 24 (w.heap.size + 1 + 1) (by simp)).alloc (.cells (us [0,0,0,0,0,0]).toArray 24)
 have B3:=Blk.new (((w.alloc (.cells (us [x0,x1,x2,x3,x4,x5]).toArray 24)).alloc (.cells (us [y0,y1,y2,y3,y4,y5]).toArray 24)).alloc (.cells (us [m0,m1,m2,m3,m4,m5]).toArray 24)) (us [0,0,0,0,0,0]) 24 (w.heap.size + 1 + 1 + 1) (by simp)
 have bel:Below w.heap.size w ((((w.alloc (.cells (us [x0,x1,x2,x3,x4,x5]).toArray 24)).alloc (.cells (us [y0,y1,y2,y3,y4,y5]).toArray 24)).alloc (.cells (us [m0,m1,m2,m3,m4,m5]).toArray 24)).alloc (.cells (us [0,0,0,0,0,0]).toArray 24)):=((((Below.refl _ _).alloc (Nat.le_refl _) _).alloc (by simp) _).alloc (by simp;omega) _).alloc (by simp;omega) _
 go_enter Tryz.func95,Tryz.ntmps95
 go_wp2_with fail
 simp only [us,List.map_cons,List.map_nil] at B2 B3 bel
 generalize (((w.alloc (Obj.cells #[.int .u64 x0,.int .u64 x1,.int .u64 x2,.int .u64 x3,.int .u64 x4,.int .u64 x5] 24)).alloc (Obj.cells #[.int .u64 y0,.int .u64 y1,.int .u64 y2,.int .u64 y3,.int .u64 y4,.int .u64 y5] 24)).alloc (Obj.cells #[.int .u64 m0,.int .u64 m1,.int .u64 m2,.int .u64 m3,.int .u64 m4,.int .u64 m5] 24)).alloc (Obj.cells #[.int .u64 0,.int .u64 0,.int .u64 0,.int .u64 0,.int .u64 0,.int .u64 0] 24)=W at *
 have lt3:=B3.lt
 refine (add6 fA fB).mono ?_
 rintro e w1 ⟨s0,s1,s2,s3,s4,s5,n,rfl,fS,n0,n1,hs,hb⟩
 have HS:Hid _:=hs
 replace B2:=B2.later hb
 replace B3:=B3.later hb
 replace bel:=bel.trans (hb.mono (by omega))
 clear hs hb lt3
 have HP:Hid (v64 [s0,s1,s2,s3,s4,s5] + n * 18446744073709551616 ^ 6 < 18446744073709551616 ^ 6 + v64 [m0,m1,m2,m3,m4,m5]):=by
  have h1:=HA.out
  have h2:=HB.out
  have bM:=v6_bound [m0,m1,m2,m3,m4,m5] rfl fM
  show _ < _
  rw [HS.out]
  generalize (18446744073709551616:Int) ^ 6=R at *
  generalize v64 [x0,x1,x2,x3,x4,x5]=X at *
  generalize v64 [y0,y1,y2,y3,y4,y5]=Y at *
  generalize v64 [m0,m1,m2,m3,m4,m5]=Z at *
  omega
 have HR:Hid (offN (v64 [s0,s1,s2,s3,s4,s5] + n * 18446744073709551616 ^ 6) (v64 [m0,m1,m2,m3,m4,m5])=(v64 [x0,x1,x2,x3,x4,x5] + v64 [y0,y1,y2,y3,y4,y5]) % v64 [m0,m1,m2,m3,m4,m5]):=by
  show _=_
  have h1:=HA.out
  have h2:=HB.out
  have b1:=(v6_bound [x0,x1,x2,x3,x4,x5] rfl fA).1
  have b2:=(v6_bound [y0,y1,y2,y3,y4,y5] rfl fB).1
  rw [HS.out]
  generalize v64 [x0,x1,x2,x3,x4,x5]=X at *
  generalize v64 [y0,y1,y2,y3,y4,y5]=Y at *
  generalize v64 [m0,m1,m2,m3,m4,m5]=Z at *
  exact offN_rest (by omega) (by omega)
 have lt2:=B2.lt
 have lt3:=B3.lt
 obtain ⟨c0,c1,c2,c3,c4,c5⟩:=B2.cells6
 go_wp2_with fail
 replace B3:=B3.alloc (.cells (us [s0,s1,s2,s3,s4,s5]).toArray 24)
 replace bel:=bel.alloc (by omega) (.cells (us [s0,s1,s2,s3,s4,s5]).toArray 24)
 refine (takeOff6 fS fM (by omega) HP.out).mono ?_
 rintro e w2 ⟨z0,z1,z2,z3,z4,z5,rfl,fZ,hz,hb⟩
 rw [HR.out] at hz
 have HZ:Hid _:=hz
 replace B3:=B3.later hb
 replace bel:=bel.trans (hb.mono (by simp<;>omega))
 clear hz hb B2 c0 c1 c2 c3 c4 c5 lt2 lt3
 have lt3:=B3.lt
 have c0:=B3.cell 0 _ rfl;have f0:=B3.frozen 0;have c1:=B3.cell 1 _ rfl;have f1:=B3.frozen 1;have c2:=B3.cell 2 _ rfl;have f2:=B3.frozen 2;have c3:=B3.cell 3 _ rfl;have f3:=B3.frozen 3;have c4:=B3.cell 4 _ rfl;have f4:=B3.frozen 4;have c5:=B3.cell 5 _ rfl;have f5:=B3.frozen 5
 go_wp2_with fail
 exact bodyPost_ret (v:=.agg #[.int .u64 z0,.int .u64 z1,.int .u64 z2,.int .u64 z3,.int .u64 z4,.int .u64 z5]) (by simp [results,Tryz.results95,go_sem,c0,c1,c2,c3,c4,c5]) rfl ⟨z0,z1,z2,z3,z4,z5,rfl,fZ,HZ.out,below_put6 bel (by omega)⟩
set_option maxRecDepth 100000 in
set_option maxHeartbeats 1000000 in
theorem upper_any (P:List Int) (w:World) (lP:P.length=12) :
  Calls Tryz.prog 124 #[.agg (us P).toArray] w fun e w'=>e=.returned (.agg (us (P.drop 6)).toArray)∧Below w.heap.size w w':=by
 have b0:=((Blk.new w (us P) 162 w.heap.size rfl).alloc (.cells (us [0,0,0,0,0,0]).toArray 24)).alloc (.cells (us [0,0,0,0,0,0]).toArray 24)
 have b1:=(Blk.new (w.alloc (.cells (us P).toArray 162)) (us [0,0,0,0,0,0]) 24 (w.heap.size + 1) (by simp)).alloc (.cells (us [0,0,0,0,0,0]).toArray 24)
 have b2:=Blk.new ((w.alloc (.cells (us P).toArray 162)).alloc (.cells (us [0,0,0,0,0,0]).toArray 24)) (us [0,0,0,0,0,0]) 24 (w.heap.size + 1 + 1) (by simp)
 have hbel:Below w.heap.size w (((w.alloc (.cells (us P).toArray 162)).alloc (.cells (us [0,0,0,0,0,0]).toArray 24)).alloc (.cells (us [0,0,0,0,0,0]).toArray 24)):=(((Below.refl _ _).alloc (Nat.le_refl _) _).alloc (by simp) _).alloc (by simp;omega) _
 have lU:(P.drop 6).length=6:=by simp [lP]
 obtain ⟨U,hU⟩:∃ U,P.drop 6=U:=⟨_,rfl⟩
 have HU:Hid (∀ k,k < 6→P.getD (k + 6) 0=U.getD k 0):=fun k _=>by rw [← hU];simp [List.getD_eq_getElem?_getD,Nat.add_comm]
 rw [hU] at lU ⊢
 clear hU
 go_enter Tryz.func124,Tryz.ntmps124
 go_wp2
 go_loopw [5] (fun i wr=>∃ (k:Nat) (S:List Int),k≤6∧i=.int .i64 k∧S.length=6∧Hid (S.take k=U.take k)∧Blk wr w.heap.size (us P)∧Blk wr (w.heap.size + 1) (us [0,0,0,0,0,0])∧Blk wr (w.heap.size + 1 + 1) (us S)∧Below w.heap.size w wr)
  (fun i _=>6 - (intOf i).toNat)
 case atStart=>exact ⟨0,[0,0,0,0,0,0],by omega,rfl,rfl,by show _=_;simp,b0,b1,b2,hbel⟩
 case round =>
  obtain ⟨k,S,hk,rfl,lS,HT,hSP,hSZ,hSS,hbel⟩:=hrel
  clear b0 b1 b2
  by_cases hlt:k < 6
  ·obtain ⟨p,hp⟩:∃ p,P.getD (k + 6) 0=p:=⟨_,rfl⟩
   obtain ⟨s,hs⟩:∃ s,S.getD k 0=s:=⟨_,rfl⟩
   have xp:=hSP.cell (k + 6) _ (us_get P (k + 6) (by omega))
   have xs:=hSS.cell k _ (us_get S k (by omega))
   rw [hp] at xp
   rw [hs] at xs
   have hf:=hSS.frozen k
   have st:Hid _:=take_set_next S U k p lS lU hlt ((HU.out k hlt).symm.trans hp) HT.out
   clear hp hs HT
   have g1:(k:Int) < 6:=by omega
   have g2:(0:Int)≤(k:Int) + 6:=by omega
   have g3:(k:Int) + 6 < 12:=by omega
   have g4:((k:Int) + 6).toNat=k + 6:=by omega
   have g5:(0:Int)≤(k:Int):=by omega
   go_wp2
   go_roundw
   case rel=>exact ⟨k + 1,S.set k p,by omega,by go_num,by simpa using lS,st,hSP.other _ _ (by simp<;>omega),hSZ.other _ _ (by simp<;>omega),hSS.setu k _,hbel.setCell (by simp<;>omega) _⟩
   case measure=>simp [intOf];omega
  ·have h6:(6:Int)≤(k:Int):=by omega
   have hk6:k=6:=by omega
   have hE:S=U:=by
    have:=HT.out
    rw [List.take_of_length_le (by omega),List.take_of_length_le (by omega)] at this
    exact this
   subst hE
   obtain ⟨s0,s1,s2,s3,s4,s5,rfl⟩:=six lS
   have c0:=hSS.cell 0 _ rfl;have g0:=hSS.frozen 0;have c1:=hSS.cell 1 _ rfl;have g1:=hSS.frozen 1;have c2:=hSS.cell 2 _ rfl;have g2:=hSS.frozen 2;have c3:=hSS.cell 3 _ rfl;have g3:=hSS.frozen 3;have c4:=hSS.cell 4 _ rfl;have g4:=hSS.frozen 4;have c5:=hSS.cell 5 _ rfl;have g5:=hSS.frozen 5
   have z0:=hSZ.cell 0 _ rfl;have f0:=hSZ.frozen 0;have z1:=hSZ.cell 1 _ rfl;have f1:=hSZ.frozen 1;have z2:=hSZ.cell 2 _ rfl;have f2:=hSZ.frozen 2;have z3:=hSZ.cell 3 _ rfl;have f3:=hSZ.frozen 3;have z4:=hSZ.cell 4 _ rfl;have f4:=hSZ.frozen 4;have z5:=hSZ.cell 5 _ rfl;have f5:=hSZ.frozen 5
   clear HU HT
   go_wp2
   exact bodyPost_ret (v:=.agg #[.int .u64 s0,.int .u64 s1,.int .u64 s2,.int .u64 s3,.int .u64 s4,.int .u64 s5]) (by simp [results,Tryz.results124,go_sem,z0,z1,z2,z3,z4,z5]) rfl ⟨rfl,below_put6 hbel (by omega)⟩
end Go.Proofs.YtlkljfnenonfgaaGreatDoor
