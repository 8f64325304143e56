/- field.mulR: a product divided by R, modulo the prime. field.squares: a power squared n times. field.behind: a power's exponent with n bits more. field.outOfR: the rest of what is kept times R. -/
import Derived.Test.YtlkljfnenonfgaaGreatDoorFAdd
import Derived.Test.YtlkljfnenonfgaaGreatDoorMMul
import Derived.Test.YtlkljfnenonfgaaGreatDoorRows
import Derived.Deep.RegionHeld3
import Derived.Deep.DeepCutAuto
import Derived.Deep.DeepFit
namespace Go.Proofs.YtlkljfnenonfgaaGreatDoor
open Go.RowKit
set_option maxRecDepth 100000 in
set_option maxHeartbeats 2000000 in
theorem fmulR6 {x0 x1 x2 x3 x4 x5 y0 y1 y2 y3 y4 y5:Int} {w:World} (G:Gls w) (fX:fits [x0,x1,x2,x3,x4,x5]) (fY:fits [y0,y1,y2,y3,y4,y5]) :
  Calls Tryz.prog 138 #[.agg #[.int .u64 x0,.int .u64 x1,.int .u64 x2,.int .u64 x3,.int .u64 x4,.int .u64 x5],.agg #[.int .u64 y0,.int .u64 y1,.int .u64 y2,.int .u64 y3,.int .u64 y4,.int .u64 y5]] w fun e w'=>∃ z0 z1 z2 z3 z4 z5:Int,e=.returned (.agg #[.int .u64 z0,.int .u64 z1,.int .u64 z2,.int .u64 z3,.int .u64 z4,.int .u64 z5])∧fits [z0,z1,z2,z3,z4,z5]∧v64 [z0,z1,z2,z3,z4,z5] < PP∧(18446744073709551616 ^ 6 * v64 [z0,z1,z2,z3,z4,z5]) % PP=(v64 [x0,x1,x2,x3,x4,x5] * v64 [y0,y1,y2,y3,y4,y5]) % PP∧Below w.heap.size w w':=by
 have B0:=((Blk.new w (us [x0,x1,x2,x3,x4,x5]) 24 (w.heap.size) rfl).alloc (.cells (us [y0,y1,y2,y3,y4,y5]).toArray 24)).alloc (.cells (us [0,0,0,0,0,0]).toArray 24)
 have B1:=(Blk.new (w.alloc (.cells (us [x0,x1,x2,x3,x4,x5]).toArray 24)) (us [y0,y1,y2,y3,y4,y5]) 24 (w.heap.size + 1) (by simp)).alloc (.cells (us [0,0,0,0,0,0]).toArray 24)
 have B2:=Blk.new ((w.alloc (.cells (us [x0,x1,x2,x3,x4,x5]).toArray 24)).alloc (.cells (us [y0,y1,y2,y3,y4,y5]).toArray 24)) (us [0,0,0,0,0,0]) 24 (w.heap.size + 1 + 1) (by simp)
 have bel:Below w.heap.size w (((w.alloc (.cells (us [x0,x1,x2,x3,x4,x5]).toArray 24)).alloc (.cells (us [y0,y1,y2,y3,y4,y5]).toArray 24)).alloc (.cells (us [0,0,0,0,0,0]).toArray 24)):=(((Below.refl _ _).alloc (Nat.le_refl _) _).alloc (by simp) _).alloc (by simp;omega) _
 have WR:Wr6 _ (w.heap.size + 1 + 1):=Wr6.of B2
 go_enter Tryz.func138,Tryz.ntmps138
 go_wp2_with fail
 simp only [us,List.map_cons,List.map_nil] at B0 B1 WR bel
 generalize ((w.alloc (Obj.cells #[.int .u64 x0,.int .u64 x1,.int .u64 x2,.int .u64 x3,.int .u64 x4,.int .u64 x5] 24)).alloc (Obj.cells #[.int .u64 y0,.int .u64 y1,.int .u64 y2,.int .u64 y3,.int .u64 y4,.int .u64 y5] 24)).alloc (Obj.cells #[.int .u64 0,.int .u64 0,.int .u64 0,.int .u64 0,.int .u64 0,.int .u64 0] 24)=W at *
 obtain ⟨S1,hS1,KL1,KA1,KD1,KS1,KP1,KN1,KB1,KM1,KW1⟩:=held_mk (w0:=w) (W:=W) [(w.heap.size,[x0,x1,x2,x3,x4,x5]),(w.heap.size + 1,[y0,y1,y2,y3,y4,y5])] [w.heap.size + 1 + 1] (by
  intro b X h
  simp only [List.mem_cons,List.not_mem_nil,or_false,Prod.mk.injEq] at h
  rcases h with ⟨rfl,rfl⟩|⟨rfl,rfl⟩
  ·exact B0
  ·exact B1) (by
  intro b h
  simp only [List.mem_cons,List.not_mem_nil,or_false] at h
  rcases h with rfl
  ·exact WR) (by
  intro b X h
  simp only [List.mem_cons,List.not_mem_nil,or_false,Prod.mk.injEq] at h ⊢
  omega) bel
 obtain ⟨c1a0,c1a1,c1a2,c1a3,c1a4,c1a5,c1a6⟩:=rule6 (S:=Hd S1) (b:=w.heap.size) (x0:=x0) (x1:=x1) (x2:=x2) (x3:=x3) (x4:=x4) (x5:=x5) (fun wx h=>KM1.out wx _ _ h (by simp))
 obtain ⟨c1b0,c1b1,c1b2,c1b3,c1b4,c1b5,c1b6⟩:=rule6 (S:=Hd S1) (b:=w.heap.size + 1) (x0:=y0) (x1:=y1) (x2:=y2) (x3:=y3) (x4:=y4) (x5:=y5) (fun wx h=>KM1.out wx _ _ h (by simp))
 obtain ⟨⟨d1a0,d1a1,d1a2,d1a3,d1a4,d1a5⟩,⟨d1af0,d1af1,d1af2,d1af3,d1af4,d1af5⟩,d1alt⟩:=ruleW (S:=Hd S1) (b:=w.heap.size + 1 + 1) (fun wx h=>KW1.out wx _ h (by simp))
 have hN1:=bel.size
 clear B0 B1 B2 bel
 go_wp2_with fail
 refine (mulz66 fX fY).mono ?_
 rintro e w1 ⟨p0,p1,p2,p3,p4,p5,p6,p7,p8,p9,p10,p11,rfl,fP,hP,hb⟩
 have hS2:=KL1.out _ _ hS1 hb
 clear hb hS1
 go_wp2_with fail
 refine (fmod (G.below (KB1.out _ hS2))).mono ?_
 rintro e w2 ⟨rfl,hb⟩
 have hS3:=KL1.out _ _ hS2 hb
 clear hb hS2
 go_wp2_with fail
 refine (reduce12 fP isP).mono ?_
 rintro e w' ⟨z0,z1,z2,z3,z4,z5,rfl,fZ,hz,he,hb⟩
 rw [PP_v] at hz he
 rw [hP] at he
 have HZ:Hid _:=hz
 have HE:Hid _:=he
 have hS4:=KL1.out _ _ hS3 hb
 clear hb hS3 hP hz he
 obtain ⟨g0,g1,g2,g3,g4,g5,⟨h0,h1,h2,h3,h4,h5⟩,⟨f0,f1,f2,f3,f4,f5⟩⟩:=(KW1.out _ _ hS4 (by simp):Wr6 w' (w.heap.size + 1 + 1)).cells
 go_wp2_with fail
 exact bodyPost_ret (v:=.agg #[.int .u64 z0,.int .u64 z1,.int .u64 z2,.int .u64 z3,.int .u64 z4,.int .u64 z5]) (by simp [results,Tryz.results138,go_sem,h0,h1,h2,h3,h4,h5]) rfl ⟨z0,z1,z2,z3,z4,z5,rfl,fZ,HZ.out,HE.out,below_put6 (KB1.out _ hS4) (by omega)⟩
set_option maxRecDepth 100000 in
set_option maxHeartbeats 2000000 in
theorem fsquares6 {x0 x1 x2 x3 x4 x5:Int} {w:World} (G:Gls w) {a n:Int} {ex:Nat} (n0:0≤n) (n1:n < 1048576) (fX:fits [x0,x1,x2,x3,x4,x5]) (hm:Mo a (ex) (v64 [x0,x1,x2,x3,x4,x5])) :
  Calls Tryz.prog 139 #[.agg #[.int .u64 x0,.int .u64 x1,.int .u64 x2,.int .u64 x3,.int .u64 x4,.int .u64 x5],.int .i64 n] w fun e w'=>∃ z0 z1 z2 z3 z4 z5:Int,e=.returned (.agg #[.int .u64 z0,.int .u64 z1,.int .u64 z2,.int .u64 z3,.int .u64 z4,.int .u64 z5])∧fits [z0,z1,z2,z3,z4,z5]∧Mo a (ex * 2 ^ n.toNat) (v64 [z0,z1,z2,z3,z4,z5])∧Below w.heap.size w w':=by
 have B0:=(Blk.new w (us [x0,x1,x2,x3,x4,x5]) 24 (w.heap.size) rfl).alloc (.cells (us [0,0,0,0,0,0]).toArray 24)
 have B1:=Blk.new (w.alloc (.cells (us [x0,x1,x2,x3,x4,x5]).toArray 24)) (us [0,0,0,0,0,0]) 24 (w.heap.size + 1) (by simp)
 have bel:Below w.heap.size w ((w.alloc (.cells (us [x0,x1,x2,x3,x4,x5]).toArray 24)).alloc (.cells (us [0,0,0,0,0,0]).toArray 24)):=((Below.refl _ _).alloc (Nat.le_refl _) _).alloc (by simp) _
 go_enter Tryz.func139,Tryz.ntmps139
 go_wp2_with fail
 simp only [us,List.map_cons,List.map_nil] at B0 B1 bel
 generalize (w.alloc (Obj.cells #[.int .u64 x0,.int .u64 x1,.int .u64 x2,.int .u64 x3,.int .u64 x4,.int .u64 x5] 24)).alloc (Obj.cells #[.int .u64 0,.int .u64 0,.int .u64 0,.int .u64 0,.int .u64 0,.int .u64 0] 24)=W at *
 have HM:Hid (Mo a (ex) (v64 [x0,x1,x2,x3,x4,x5])):=hm
 clear hm
 go_loopw [6] (fun t wx=>∃ (k:Nat) (y0 y1 y2 y3 y4 y5:Int),(k:Int)≤n∧t=.int .i64 k∧fits [y0,y1,y2,y3,y4,y5]∧Hid (Mo a (ex * 2 ^ k) (v64 [y0,y1,y2,y3,y4,y5]))∧Blk wx (w.heap.size) (us [y0,y1,y2,y3,y4,y5])∧Wr6 wx (w.heap.size + 1)∧Below w.heap.size w wx) (fun t _=>(n - intOf t).toNat)
 case atStart=>exact ⟨0,x0,x1,x2,x3,x4,x5,by omega,rfl,fX,(show Mo a (ex * 2 ^ 0) _ by simpa using HM.out),B0,Wr6.of B1,bel⟩
 case round =>
  obtain ⟨k,y0,y1,y2,y3,y4,y5,hk,rfl,fY,HY,BY,WY,bel2⟩:=hrel
  clear B0 B1 bel HM
  have lt0:=BY.lt
  have lt1:=WY.lt
  by_cases hlt:(k:Int) < n
  ·have c0:=BY.cell 0 _ rfl;have q0:=BY.frozen 0;have c1:=BY.cell 1 _ rfl;have q1:=BY.frozen 1;have c2:=BY.cell 2 _ rfl;have q2:=BY.frozen 2;have c3:=BY.cell 3 _ rfl;have q3:=BY.frozen 3;have c4:=BY.cell 4 _ rfl;have q4:=BY.frozen 4;have c5:=BY.cell 5 _ rfl;have q5:=BY.frozen 5
   go_wp2_with fail
   refine (fmulR6 (G.below bel2) fY fY).mono ?_
   rintro e w' ⟨z0,z1,z2,z3,z4,z5,rfl,fZ,hz,he,hb⟩
   have HZ:Hid (Mo a (ex * 2 ^ (k + 1)) (v64 [z0,z1,z2,z3,z4,z5])):=mo_sq (mo_mul HY.out HY.out (v6_bound _ rfl fZ).1 hz he)
   clear hz he HY c0 q0 c1 q1 c2 q2 c3 q3 c4 q4 c5 q5
   replace BY:=BY.later hb
   replace WY:=WY.later hb
   replace bel2:=below_step bel2 hb
   clear hb
   have c0:=BY.cell 0 _ rfl;have q0:=BY.frozen 0;have c1:=BY.cell 1 _ rfl;have q1:=BY.frozen 1;have c2:=BY.cell 2 _ rfl;have q2:=BY.frozen 2;have c3:=BY.cell 3 _ rfl;have q3:=BY.frozen 3;have c4:=BY.cell 4 _ rfl;have q4:=BY.frozen 4;have c5:=BY.cell 5 _ rfl;have q5:=BY.frozen 5
   go_wp2_with fail
   go_roundw
   case rel=>exact ⟨k + 1,z0,z1,z2,z3,z4,z5,by omega,by go_num,fZ,HZ,blk_put6 BY,WY.far6 (by omega),below_put6 bel2 (by omega)⟩
   case measure=>simp [intOf];omega
  ·have hkn:(k:Int)=n:=by omega
   subst hkn
   have c0:=BY.cell 0 _ rfl;have q0:=BY.frozen 0;have c1:=BY.cell 1 _ rfl;have q1:=BY.frozen 1;have c2:=BY.cell 2 _ rfl;have q2:=BY.frozen 2;have c3:=BY.cell 3 _ rfl;have q3:=BY.frozen 3;have c4:=BY.cell 4 _ rfl;have q4:=BY.frozen 4;have c5:=BY.cell 5 _ rfl;have q5:=BY.frozen 5
   obtain ⟨g0,g1,g2,g3,g4,g5,⟨h0,h1,h2,h3,h4,h5⟩,⟨f0,f1,f2,f3,f4,f5⟩⟩:=WY.cells
   go_wp2_with fail
   exact bodyPost_ret (v:=.agg #[.int .u64 y0,.int .u64 y1,.int .u64 y2,.int .u64 y3,.int .u64 y4,.int .u64 y5]) (by simp [results,Tryz.results139,go_sem,h0,h1,h2,h3,h4,h5]) rfl ⟨y0,y1,y2,y3,y4,y5,rfl,fY,by simpa using HY.out,below_put6 bel2 (by omega)⟩
set_option maxRecDepth 100000 in
set_option maxHeartbeats 2000000 in
theorem fbehind6 {x0 x1 x2 x3 x4 x5 y0 y1 y2 y3 y4 y5:Int} {w:World} (G:Gls w) {a n:Int} {eh el:Nat} (n0:0≤n) (n1:n < 1048576) (fX:fits [x0,x1,x2,x3,x4,x5]) (fY:fits [y0,y1,y2,y3,y4,y5]) (hx:Mo a (eh) (v64 [x0,x1,x2,x3,x4,x5])) (hy:Mo a (el) (v64 [y0,y1,y2,y3,y4,y5])) :
    Calls Tryz.prog 133 #[.agg #[.int .u64 x0,.int .u64 x1,.int .u64 x2,.int .u64 x3,.int .u64 x4,.int .u64 x5],.int .i64 n,.agg #[.int .u64 y0,.int .u64 y1,.int .u64 y2,.int .u64 y3,.int .u64 y4,.int .u64 y5]] w fun e w'=>∃ z0 z1 z2 z3 z4 z5:Int,e=.returned (.agg #[.int .u64 z0,.int .u64 z1,.int .u64 z2,.int .u64 z3,.int .u64 z4,.int .u64 z5])∧fits [z0,z1,z2,z3,z4,z5]∧Mo a (eh * 2 ^ n.toNat + el) (v64 [z0,z1,z2,z3,z4,z5])∧Below w.heap.size w w':=by
  have B0:=((Blk.new w (us [x0,x1,x2,x3,x4,x5]) 24 (w.heap.size) rfl).alloc (.cells (us [y0,y1,y2,y3,y4,y5]).toArray 24)).alloc (.cells (us [0,0,0,0,0,0]).toArray 24)
  have B1:=(Blk.new (w.alloc (.cells (us [x0,x1,x2,x3,x4,x5]).toArray 24)) (us [y0,y1,y2,y3,y4,y5]) 24 (w.heap.size + 1) (by simp)).alloc (.cells (us [0,0,0,0,0,0]).toArray 24)
  have B2:=Blk.new ((w.alloc (.cells (us [x0,x1,x2,x3,x4,x5]).toArray 24)).alloc (.cells (us [y0,y1,y2,y3,y4,y5]).toArray 24)) (us [0,0,0,0,0,0]) 24 (w.heap.size + 1 + 1) (by simp)
  have bel:Below w.heap.size w (((w.alloc (.cells (us [x0,x1,x2,x3,x4,x5]).toArray 24)).alloc (.cells (us [y0,y1,y2,y3,y4,y5]).toArray 24)).alloc (.cells (us [0,0,0,0,0,0]).toArray 24)):=(((Below.refl _ _).alloc (Nat.le_refl _) _).alloc (by simp) _).alloc (by simp;omega) _
  have WR:Wr6 _ (w.heap.size + 1 + 1):=Wr6.of B2
  go_enter Tryz.func133,Tryz.ntmps133
  go_wp2_with fail
  simp only [us,List.map_cons,List.map_nil] at B0 B1 WR bel
  generalize ((w.alloc (Obj.cells #[.int .u64 x0,.int .u64 x1,.int .u64 x2,.int .u64 x3,.int .u64 x4,.int .u64 x5] 24)).alloc (Obj.cells #[.int .u64 y0,.int .u64 y1,.int .u64 y2,.int .u64 y3,.int .u64 y4,.int .u64 y5] 24)).alloc (Obj.cells #[.int .u64 0,.int .u64 0,.int .u64 0,.int .u64 0,.int .u64 0,.int .u64 0] 24)=W at *
  obtain ⟨S1,hS1,KL1,KA1,KD1,KS1,KP1,KN1,KB1,KM1,KW1⟩:=held_mk (w0:=w) (W:=W) [(w.heap.size,[x0,x1,x2,x3,x4,x5]),(w.heap.size + 1,[y0,y1,y2,y3,y4,y5])] [w.heap.size + 1 + 1] (by
    intro b X h
    simp only [List.mem_cons,List.not_mem_nil,or_false,Prod.mk.injEq] at h
    rcases h with ⟨rfl,rfl⟩|⟨rfl,rfl⟩
    · exact B0
    · exact B1) (by
    intro b h
    simp only [List.mem_cons,List.not_mem_nil,or_false] at h
    rcases h with rfl
    · exact WR) (by
    intro b X h
    simp only [List.mem_cons,List.not_mem_nil,or_false,Prod.mk.injEq] at h ⊢
    omega) bel
  obtain ⟨c1a0,c1a1,c1a2,c1a3,c1a4,c1a5,c1a6⟩:=rule6 (S:=Hd S1) (b:=w.heap.size) (x0:=x0) (x1:=x1) (x2:=x2) (x3:=x3) (x4:=x4) (x5:=x5) (fun wx h=>KM1.out wx _ _ h (by simp))
  obtain ⟨c1b0,c1b1,c1b2,c1b3,c1b4,c1b5,c1b6⟩:=rule6 (S:=Hd S1) (b:=w.heap.size + 1) (x0:=y0) (x1:=y1) (x2:=y2) (x3:=y3) (x4:=y4) (x5:=y5) (fun wx h=>KM1.out wx _ _ h (by simp))
  obtain ⟨⟨d1a0,d1a1,d1a2,d1a3,d1a4,d1a5⟩,⟨d1af0,d1af1,d1af2,d1af3,d1af4,d1af5⟩,d1alt⟩:=ruleW (S:=Hd S1) (b:=w.heap.size + 1 + 1) (fun wx h=>KW1.out wx _ h (by simp))
  have hN1:=bel.size
  clear B0 B1 B2 bel
  have HX:Hid (Mo a (eh) (v64 [x0,x1,x2,x3,x4,x5])):=hx
  have HY:Hid (Mo a (el) (v64 [y0,y1,y2,y3,y4,y5])):=hy
  clear hx hy
  go_region_held3 (Hd S1)
    (first
      | with_reducible exact KP1.out _ _ _ _ _ _ _ _ (by assumption) (by first|(right;simp;done)|(left;omega)) (by omega)
      | with_reducible exact KL1.out _ _ (by assumption) hb
      | with_reducible exact KA1.out _ _ (by assumption)
      | with_reducible exact KS1.out _ _ _ (by omega) (by assumption)
      | with_reducible exact KD1.out _ hS1
      | with_reducible exact KD1.out _ (KA1.out _ _ hS1)
      | with_reducible assumption)
    (first
      | (go_at_call 139;go_fit (fsquares6 (G.below (KB1.out _ (by first|with_reducible assumption|with_reducible exact KA1.out _ _ (by assumption)|with_reducible exact KD1.out _ (by assumption)))) n0 n1 fX HX.out);rintro e w' ⟨s0,s1,s2,s3,s4,s5,rfl,fS,hv,hb⟩;have HS:Hid _:=hv;clear hv)
      | (go_at_call 138;go_fit (fmulR6 (G.below (KB1.out _ (by first|with_reducible assumption|with_reducible exact KA1.out _ _ (by assumption)|with_reducible exact KD1.out _ (by assumption)))) fS fY);rintro e w' ⟨z0,z1,z2,z3,z4,z5,rfl,fZ,hz,he,hb⟩;have HZ:Hid (Mo a (eh * 2 ^ n.toNat + el) (v64 [z0,z1,z2,z3,z4,z5])):=mo_mul HS.out HY.out (v6_bound _ rfl fZ).1 hz he;clear hz he;obtain ⟨g0,g1,g2,g3,g4,g5,⟨h0,h1,h2,h3,h4,h5⟩,⟨f0,f1,f2,f3,f4,f5⟩⟩:=(KW1.out _ _ (KL1.out _ _ (by assumption) hb) (by simp):Wr6 w' (w.heap.size + 1 + 1)).cells))
  all_goals go_wp2
  all_goals exact bodyPost_ret (v:=.agg #[.int .u64 z0,.int .u64 z1,.int .u64 z2,.int .u64 z3,.int .u64 z4,.int .u64 z5]) (by simp [results,Tryz.results133,go_sem,h0,h1,h2,h3,h4,h5]) rfl ⟨z0,z1,z2,z3,z4,z5,rfl,fZ,HZ.out,KB1.out _ (by assumption)⟩
set_option maxRecDepth 100000 in
set_option maxHeartbeats 2000000 in
theorem fout6 {x0 x1 x2 x3 x4 x5:Int} {w:World} (G:Gls w) {a:Int} {ex:Nat} (fX:fits [x0,x1,x2,x3,x4,x5]) (hx:Mo a (ex) (v64 [x0,x1,x2,x3,x4,x5])) :
  Calls Tryz.prog 132 #[.agg #[.int .u64 x0,.int .u64 x1,.int .u64 x2,.int .u64 x3,.int .u64 x4,.int .u64 x5]] w fun e w'=>∃ z0 z1 z2 z3 z4 z5:Int,e=.returned (.agg #[.int .u64 z0,.int .u64 z1,.int .u64 z2,.int .u64 z3,.int .u64 z4,.int .u64 z5])∧fits [z0,z1,z2,z3,z4,z5]∧Out a ex (v64 [z0,z1,z2,z3,z4,z5])∧Below w.heap.size w w':=by
 have B0:=(Blk.new w (us [x0,x1,x2,x3,x4,x5]) 24 (w.heap.size) rfl).alloc (.cells (us [0,0,0,0,0,0]).toArray 24)
 have B1:=Blk.new (w.alloc (.cells (us [x0,x1,x2,x3,x4,x5]).toArray 24)) (us [0,0,0,0,0,0]) 24 (w.heap.size + 1) (by simp)
 have bel:Below w.heap.size w ((w.alloc (.cells (us [x0,x1,x2,x3,x4,x5]).toArray 24)).alloc (.cells (us [0,0,0,0,0,0]).toArray 24)):=((Below.refl _ _).alloc (Nat.le_refl _) _).alloc (by simp) _
 have WR:Wr6 _ (w.heap.size + 1):=Wr6.of B1
 go_enter Tryz.func132,Tryz.ntmps132
 go_wp2_with fail
 simp only [us,List.map_cons,List.map_nil] at B0 WR bel
 generalize (w.alloc (Obj.cells #[.int .u64 x0,.int .u64 x1,.int .u64 x2,.int .u64 x3,.int .u64 x4,.int .u64 x5] 24)).alloc (Obj.cells #[.int .u64 0,.int .u64 0,.int .u64 0,.int .u64 0,.int .u64 0,.int .u64 0] 24)=W at *
 obtain ⟨S1,hS1,KL1,KA1,KD1,KS1,KP1,KN1,KB1,KM1,KW1⟩:=held_mk (w0:=w) (W:=W) [(w.heap.size,[x0,x1,x2,x3,x4,x5])] [w.heap.size + 1] (by
  intro b X h
  simp only [List.mem_cons,List.not_mem_nil,or_false,Prod.mk.injEq] at h
  rcases h with ⟨rfl,rfl⟩
  ·exact B0) (by
  intro b h
  simp only [List.mem_cons,List.not_mem_nil,or_false] at h
  rcases h with rfl
  ·exact WR) (by
  intro b X h
  simp only [List.mem_cons,List.not_mem_nil,or_false,Prod.mk.injEq] at h ⊢
  omega) bel
 obtain ⟨c1a0,c1a1,c1a2,c1a3,c1a4,c1a5,c1a6⟩:=rule6 (S:=Hd S1) (b:=w.heap.size) (x0:=x0) (x1:=x1) (x2:=x2) (x3:=x3) (x4:=x4) (x5:=x5) (fun wx h=>KM1.out wx _ _ h (by simp))
 obtain ⟨⟨d1a0,d1a1,d1a2,d1a3,d1a4,d1a5⟩,⟨d1af0,d1af1,d1af2,d1af3,d1af4,d1af5⟩,d1alt⟩:=ruleW (S:=Hd S1) (b:=w.heap.size + 1) (fun wx h=>KW1.out wx _ h (by simp))
 have hN1:=bel.size
 clear B0 B1 bel
 go_wp2_with fail
 refine (fmulR6 (G.below (KB1.out _ hS1)) fX fits_one).mono ?_
 rintro e w' ⟨z0,z1,z2,z3,z4,z5,rfl,fZ,hz,he,hb⟩
 have HV:Hid (Out a ex (v64 [z0,z1,z2,z3,z4,z5])):=mo_out hx (v6_bound _ rfl fZ).1 hz he
 clear hz he
 have hS2:=KL1.out _ _ hS1 hb
 obtain ⟨g0,g1,g2,g3,g4,g5,⟨h0,h1,h2,h3,h4,h5⟩,⟨f0,f1,f2,f3,f4,f5⟩⟩:=(KW1.out _ _ hS2 (by simp):Wr6 w' (w.heap.size + 1)).cells
 clear hb hS1
 go_wp2_with fail
 exact bodyPost_ret (v:=.agg #[.int .u64 z0,.int .u64 z1,.int .u64 z2,.int .u64 z3,.int .u64 z4,.int .u64 z5]) (by simp [results,Tryz.results132,go_sem,h0,h1,h2,h3,h4,h5]) rfl ⟨z0,z1,z2,z3,z4,z5,rfl,fZ,HV.out,below_put6 (KB1.out _ hS2) (by omega)⟩
end Go.Proofs.YtlkljfnenonfgaaGreatDoor
