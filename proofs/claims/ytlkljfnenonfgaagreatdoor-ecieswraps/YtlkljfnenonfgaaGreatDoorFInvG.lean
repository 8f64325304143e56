/- field.powersOf: the powers that exponents are put together from. field.Inv: the power P - 2. -/
import Derived.Test.YtlkljfnenonfgaaGreatDoorFMulR
import Derived.Test.YtlkljfnenonfgaaGreatDoorBase
import Derived.Test.YtlkljfnenonfgaaGreatDoorRows
import Derived.Deep.WholeRow
import Derived.Deep.RegionHeld3
import Derived.Deep.DeepCutAuto
import Derived.Deep.DeepFit
namespace Go.Proofs.YtlkljfnenonfgaaGreatDoor
open Go.RowKit
theorem pow_size:(Tryz.prog.info? 177).map (·.size)=some 18:=by kernel_rfl
theorem isRR:v64 [18446744065119617025,8589934592,18446744065119617024,8589934592,1,0]=(18446744073709551616 ^ 6 * 18446744073709551616 ^ 6) % PP:=isP.two
set_option linter.unusedSimpArgs false in
set_option maxRecDepth 100000 in
set_option maxHeartbeats 2000000 in
theorem fpowers6 {x0 x1 x2 x3 x4 x5:Int} {w:World} (G:Gls w) (fX:fits [x0,x1,x2,x3,x4,x5]) :
  Calls Tryz.prog 131 #[.agg #[.int .u64 x0,.int .u64 x1,.int .u64 x2,.int .u64 x3,.int .u64 x4,.int .u64 x5]] w fun e w'=>∃ p0 p1 p2 p3 p4 p5 q0 q1 q2 q3 q4 q5 r0 r1 r2 r3 r4 r5:Int,e=.returned (.agg #[.int .u64 p0,.int .u64 p1,.int .u64 p2,.int .u64 p3,.int .u64 p4,.int .u64 p5,.int .u64 q0,.int .u64 q1,.int .u64 q2,.int .u64 q3,.int .u64 q4,.int .u64 q5,.int .u64 r0,.int .u64 r1,.int .u64 r2,.int .u64 r3,.int .u64 r4,.int .u64 r5])∧fits [p0,p1,p2,p3,p4,p5]∧fits [q0,q1,q2,q3,q4,q5]∧fits [r0,r1,r2,r3,r4,r5]∧Mo (v64 [x0,x1,x2,x3,x4,x5]) (1) (v64 [p0,p1,p2,p3,p4,p5])∧Mo (v64 [x0,x1,x2,x3,x4,x5]) (1073741823) (v64 [q0,q1,q2,q3,q4,q5])∧Mo (v64 [x0,x1,x2,x3,x4,x5]) (497323236409786642155382248146820840100456150797347717440463976893159497012529080565759) (v64 [r0,r1,r2,r3,r4,r5])∧Below w.heap.size w w':=by
 have B0:=(Blk.new w (us [x0,x1,x2,x3,x4,x5]) 24 w.heap.size rfl).alloc (.cells (us [0,0,0,0,0,0,0,0,0,0,0,0,0,0,0,0,0,0]).toArray 177)
 have BR:=Wrn.mk (n:=18) (Blk.new (w.alloc (.cells (us [x0,x1,x2,x3,x4,x5]).toArray 24)) (us [0,0,0,0,0,0,0,0,0,0,0,0,0,0,0,0,0,0]) 177 (w.heap.size + 1) (by simp)) rfl
 have bel:Below w.heap.size w ((w.alloc (.cells (us [x0,x1,x2,x3,x4,x5]).toArray 24)).alloc (.cells (us [0,0,0,0,0,0,0,0,0,0,0,0,0,0,0,0,0,0]).toArray 177)):=((Below.refl _ _).alloc (Nat.le_refl _) _).alloc (by simp) _
 go_enter Tryz.func131,Tryz.ntmps131
 go_upto_region 1 with fail
 simp only [us,List.map_cons,List.map_nil] at B0 BR bel
 generalize (w.alloc (Obj.cells #[.int .u64 x0,.int .u64 x1,.int .u64 x2,.int .u64 x3,.int .u64 x4,.int .u64 x5] 24)).alloc (Obj.cells #[.int .u64 0,.int .u64 0,.int .u64 0,.int .u64 0,.int .u64 0,.int .u64 0,.int .u64 0,.int .u64 0,.int .u64 0,.int .u64 0,.int .u64 0,.int .u64 0,.int .u64 0,.int .u64 0,.int .u64 0,.int .u64 0,.int .u64 0,.int .u64 0] 177)=W at *
 have GW:=G.below bel
 obtain ⟨l0,l1⟩:=GW.lts
 obtain ⟨GW0,⟨a0,a1,a2,a3,a4,a5⟩⟩:=GW
 clear GW0
 obtain ⟨c0,c1,c2,c3,c4,c5⟩:=B0.cells6
 go_wp2_with fail
 refine (fmulR6 (G.below bel) fX fRR).mono ?_
 rintro e w1 ⟨z0,z1,z2,z3,z4,z5,rfl,fone,hz,he,hb⟩
 have Hone:Hid (Mo (v64 [x0,x1,x2,x3,x4,x5]) (1) (v64 [z0,z1,z2,z3,z4,z5])):=mo_one isRR (v6_bound _ rfl fone).1 hz he
 clear hz he a0 a1 a2 a3 a4 a5 c0 c1 c2 c3 c4 c5 l0 l1 B0
 replace BR:=BR.later hb
 replace bel:=below_step bel hb
 clear hb
 go_wp2_with fail
 have Bone:=Blk.new w1 (us [z0,z1,z2,z3,z4,z5]) 24 w1.heap.size rfl
 have ltb1:=BR.lt
 replace BR:=BR.alloc (.cells (us [z0,z1,z2,z3,z4,z5]).toArray 24)
 replace bel:=below_alloc (o:=.cells (us [z0,z1,z2,z3,z4,z5]).toArray 24) bel
 simp only [us,List.map_cons,List.map_nil] at Bone BR bel
 obtain ⟨b1,hb1⟩:∃ b,b=w1.heap.size:=⟨_,rfl⟩
 generalize w1.alloc (Obj.cells #[.int .u64 z0,.int .u64 z1,.int .u64 z2,.int .u64 z3,.int .u64 z4,.int .u64 z5] 24)=W1 at *
 rw [← hb1] at Bone ltb1 ⊢
 clear hb1
 refine (fbehind6 (G.below bel) (by decide) (by decide) fone fone Hone.out Hone.out).mono ?_
 rintro e w2 ⟨o0,o1,o2,o3,o4,o5,rfl,fones2,hv,hb⟩
 have Hones2:Hid (Mo (v64 [x0,x1,x2,x3,x4,x5]) (3) (v64 [o0,o1,o2,o3,o4,o5])):=hv
 clear hv
 replace Bone:=Bone.later hb
 replace BR:=BR.later hb
 replace bel:=below_step bel hb
 clear hb
 obtain ⟨ca0,ca1,ca2,ca3,ca4,ca5⟩:=Bone.cells6
 have lt0:=Bone.lt
 go_wp2_with fail
 clear ca0 ca1 ca2 ca3 ca4 ca5 lt0
 replace Bone:=Bone.alloc (.cells (us [o0,o1,o2,o3,o4,o5]).toArray 24)
 have Bones2:=Blk.new w2 (us [o0,o1,o2,o3,o4,o5]) 24 w2.heap.size rfl
 have ltb2:=BR.lt
 replace BR:=BR.alloc (.cells (us [o0,o1,o2,o3,o4,o5]).toArray 24)
 replace bel:=below_alloc (o:=.cells (us [o0,o1,o2,o3,o4,o5]).toArray 24) bel
 simp only [us,List.map_cons,List.map_nil] at Bone Bones2 BR bel
 obtain ⟨b2,hb2⟩:∃ b,b=w2.heap.size:=⟨_,rfl⟩
 generalize w2.alloc (Obj.cells #[.int .u64 o0,.int .u64 o1,.int .u64 o2,.int .u64 o3,.int .u64 o4,.int .u64 o5] 24)=W2 at *
 rw [← hb2] at Bones2 ltb2 ⊢
 clear hb2
 refine (fbehind6 (G.below bel) (by decide) (by decide) fones2 fone Hones2.out Hone.out).mono ?_
 rintro e w3 ⟨y0,y1,y2,y3,y4,y5,rfl,fones3,hv,hb⟩
 have Hones3:Hid (Mo (v64 [x0,x1,x2,x3,x4,x5]) (7) (v64 [y0,y1,y2,y3,y4,y5])):=hv
 clear hv
 replace Bone:=Bone.later hb
 replace Bones2:=Bones2.later hb
 replace BR:=BR.later hb
 replace bel:=below_step bel hb
 clear hb
 go_wp2_with fail
 replace Bone:=Bone.alloc (.cells (us [y0,y1,y2,y3,y4,y5]).toArray 24)
 replace Bones2:=Bones2.alloc (.cells (us [y0,y1,y2,y3,y4,y5]).toArray 24)
 have Bones3:=Blk.new w3 (us [y0,y1,y2,y3,y4,y5]) 24 w3.heap.size rfl
 have ltb3:=BR.lt
 replace BR:=BR.alloc (.cells (us [y0,y1,y2,y3,y4,y5]).toArray 24)
 replace bel:=below_alloc (o:=.cells (us [y0,y1,y2,y3,y4,y5]).toArray 24) bel
 simp only [us,List.map_cons,List.map_nil] at Bone Bones2 Bones3 BR bel
 obtain ⟨b3,hb3⟩:∃ b,b=w3.heap.size:=⟨_,rfl⟩
 generalize w3.alloc (Obj.cells #[.int .u64 y0,.int .u64 y1,.int .u64 y2,.int .u64 y3,.int .u64 y4,.int .u64 y5] 24)=W3 at *
 rw [← hb3] at Bones3 ltb3 ⊢
 clear hb3
 refine (fbehind6 (G.below bel) (by decide) (by decide) fones3 fones3 Hones3.out Hones3.out).mono ?_
 rintro e w4 ⟨q0,q1,q2,q3,q4,q5,rfl,fones6,hv,hb⟩
 have Hones6:Hid (Mo (v64 [x0,x1,x2,x3,x4,x5]) (63) (v64 [q0,q1,q2,q3,q4,q5])):=hv
 clear hv
 replace Bone:=Bone.later hb
 replace Bones2:=Bones2.later hb
 replace Bones3:=Bones3.later hb
 replace BR:=BR.later hb
 replace bel:=below_step bel hb
 clear hb
 go_wp2_with fail
 replace Bone:=Bone.alloc (.cells (us [q0,q1,q2,q3,q4,q5]).toArray 24)
 replace Bones2:=Bones2.alloc (.cells (us [q0,q1,q2,q3,q4,q5]).toArray 24)
 replace Bones3:=Bones3.alloc (.cells (us [q0,q1,q2,q3,q4,q5]).toArray 24)
 have Bones6:=Blk.new w4 (us [q0,q1,q2,q3,q4,q5]) 24 w4.heap.size rfl
 have ltb4:=BR.lt
 replace BR:=BR.alloc (.cells (us [q0,q1,q2,q3,q4,q5]).toArray 24)
 replace bel:=below_alloc (o:=.cells (us [q0,q1,q2,q3,q4,q5]).toArray 24) bel
 simp only [us,List.map_cons,List.map_nil] at Bone Bones2 Bones3 Bones6 BR bel
 obtain ⟨b4,hb4⟩:∃ b,b=w4.heap.size:=⟨_,rfl⟩
 generalize w4.alloc (Obj.cells #[.int .u64 q0,.int .u64 q1,.int .u64 q2,.int .u64 q3,.int .u64 q4,.int .u64 q5] 24)=W4 at *
 rw [← hb4] at Bones6 ltb4 ⊢
 clear hb4
 refine (fbehind6 (G.below bel) (by decide) (by decide) fones6 fones6 Hones6.out Hones6.out).mono ?_
 rintro e w5 ⟨r0,r1,r2,r3,r4,r5,rfl,fones12,hv,hb⟩
 have Hones12:Hid (Mo (v64 [x0,x1,x2,x3,x4,x5]) (4095) (v64 [r0,r1,r2,r3,r4,r5])):=hv
 clear hv
 clear Bones6
 replace Bone:=Bone.later hb
 replace Bones2:=Bones2.later hb
 replace Bones3:=Bones3.later hb
 replace BR:=BR.later hb
 replace bel:=below_step bel hb
 clear hb
 obtain ⟨ca0,ca1,ca2,ca3,ca4,ca5⟩:=Bones3.cells6
 have lt0:=Bones3.lt
 go_wp2_with fail
 clear ca0 ca1 ca2 ca3 ca4 ca5 lt0
 replace Bone:=Bone.alloc (.cells (us [r0,r1,r2,r3,r4,r5]).toArray 24)
 replace Bones2:=Bones2.alloc (.cells (us [r0,r1,r2,r3,r4,r5]).toArray 24)
 replace Bones3:=Bones3.alloc (.cells (us [r0,r1,r2,r3,r4,r5]).toArray 24)
 have Bones12:=Blk.new w5 (us [r0,r1,r2,r3,r4,r5]) 24 w5.heap.size rfl
 have ltb5:=BR.lt
 replace BR:=BR.alloc (.cells (us [r0,r1,r2,r3,r4,r5]).toArray 24)
 replace bel:=below_alloc (o:=.cells (us [r0,r1,r2,r3,r4,r5]).toArray 24) bel
 simp only [us,List.map_cons,List.map_nil] at Bone Bones2 Bones3 Bones12 BR bel
 obtain ⟨b5,hb5⟩:∃ b,b=w5.heap.size:=⟨_,rfl⟩
 generalize w5.alloc (Obj.cells #[.int .u64 r0,.int .u64 r1,.int .u64 r2,.int .u64 r3,.int .u64 r4,.int .u64 r5] 24)=W5 at *
 rw [← hb5] at Bones12 ltb5 ⊢
 clear hb5
 refine (fbehind6 (G.below bel) (by decide) (by decide) fones12 fones3 Hones12.out Hones3.out).mono ?_
 rintro e w6 ⟨s0,s1,s2,s3,s4,s5,rfl,fones15,hv,hb⟩
 have Hones15:Hid (Mo (v64 [x0,x1,x2,x3,x4,x5]) (32767) (v64 [s0,s1,s2,s3,s4,s5])):=hv
 clear hv
 clear Bones3
 clear Bones12
 replace Bone:=Bone.later hb
 replace Bones2:=Bones2.later hb
 replace BR:=BR.later hb
 replace bel:=below_step bel hb
 clear hb
 go_wp2_with fail
 replace Bone:=Bone.alloc (.cells (us [s0,s1,s2,s3,s4,s5]).toArray 24)
 replace Bones2:=Bones2.alloc (.cells (us [s0,s1,s2,s3,s4,s5]).toArray 24)
 have Bones15:=Blk.new w6 (us [s0,s1,s2,s3,s4,s5]) 24 w6.heap.size rfl
 have ltb6:=BR.lt
 replace BR:=BR.alloc (.cells (us [s0,s1,s2,s3,s4,s5]).toArray 24)
 replace bel:=below_alloc (o:=.cells (us [s0,s1,s2,s3,s4,s5]).toArray 24) bel
 simp only [us,List.map_cons,List.map_nil] at Bone Bones2 Bones15 BR bel
 obtain ⟨b6,hb6⟩:∃ b,b=w6.heap.size:=⟨_,rfl⟩
 generalize w6.alloc (Obj.cells #[.int .u64 s0,.int .u64 s1,.int .u64 s2,.int .u64 s3,.int .u64 s4,.int .u64 s5] 24)=W6 at *
 rw [← hb6] at Bones15 ltb6 ⊢
 clear hb6
 refine (fbehind6 (G.below bel) (by decide) (by decide) fones15 fones15 Hones15.out Hones15.out).mono ?_
 rintro e w7 ⟨t0,t1,t2,t3,t4,t5,rfl,fones30,hv,hb⟩
 have Hones30:Hid (Mo (v64 [x0,x1,x2,x3,x4,x5]) (1073741823) (v64 [t0,t1,t2,t3,t4,t5])):=hv
 clear hv
 replace Bone:=Bone.later hb
 replace Bones2:=Bones2.later hb
 replace Bones15:=Bones15.later hb
 replace BR:=BR.later hb
 replace bel:=below_step bel hb
 clear hb
 obtain ⟨ca0,ca1,ca2,ca3,ca4,ca5⟩:=Bones2.cells6
 have lt0:=Bones2.lt
 go_wp2_with fail
 clear ca0 ca1 ca2 ca3 ca4 ca5 lt0
 replace Bone:=Bone.alloc (.cells (us [t0,t1,t2,t3,t4,t5]).toArray 24)
 replace Bones2:=Bones2.alloc (.cells (us [t0,t1,t2,t3,t4,t5]).toArray 24)
 replace Bones15:=Bones15.alloc (.cells (us [t0,t1,t2,t3,t4,t5]).toArray 24)
 have Bones30:=Blk.new w7 (us [t0,t1,t2,t3,t4,t5]) 24 w7.heap.size rfl
 have ltb7:=BR.lt
 replace BR:=BR.alloc (.cells (us [t0,t1,t2,t3,t4,t5]).toArray 24)
 replace bel:=below_alloc (o:=.cells (us [t0,t1,t2,t3,t4,t5]).toArray 24) bel
 simp only [us,List.map_cons,List.map_nil] at Bone Bones2 Bones15 Bones30 BR bel
 obtain ⟨b7,hb7⟩:∃ b,b=w7.heap.size:=⟨_,rfl⟩
 generalize w7.alloc (Obj.cells #[.int .u64 t0,.int .u64 t1,.int .u64 t2,.int .u64 t3,.int .u64 t4,.int .u64 t5] 24)=W7 at *
 rw [← hb7] at Bones30 ltb7 ⊢
 clear hb7
 refine (fbehind6 (G.below bel) (by decide) (by decide) fones30 fones2 Hones30.out Hones2.out).mono ?_
 rintro e w8 ⟨u0,u1,u2,u3,u4,u5,rfl,fones32,hv,hb⟩
 have Hones32:Hid (Mo (v64 [x0,x1,x2,x3,x4,x5]) (4294967295) (v64 [u0,u1,u2,u3,u4,u5])):=hv
 clear hv
 clear Bones2
 replace Bone:=Bone.later hb
 replace Bones15:=Bones15.later hb
 replace Bones30:=Bones30.later hb
 replace BR:=BR.later hb
 replace bel:=below_step bel hb
 clear hb
 obtain ⟨ca0,ca1,ca2,ca3,ca4,ca5⟩:=Bones30.cells6
 have lt0:=Bones30.lt
 go_wp2_with fail
 clear ca0 ca1 ca2 ca3 ca4 ca5 lt0
 replace Bone:=Bone.alloc (.cells (us [u0,u1,u2,u3,u4,u5]).toArray 24)
 replace Bones15:=Bones15.alloc (.cells (us [u0,u1,u2,u3,u4,u5]).toArray 24)
 replace Bones30:=Bones30.alloc (.cells (us [u0,u1,u2,u3,u4,u5]).toArray 24)
 have Bones32:=Blk.new w8 (us [u0,u1,u2,u3,u4,u5]) 24 w8.heap.size rfl
 have ltb8:=BR.lt
 replace BR:=BR.alloc (.cells (us [u0,u1,u2,u3,u4,u5]).toArray 24)
 replace bel:=below_alloc (o:=.cells (us [u0,u1,u2,u3,u4,u5]).toArray 24) bel
 simp only [us,List.map_cons,List.map_nil] at Bone Bones15 Bones30 Bones32 BR bel
 obtain ⟨b8,hb8⟩:∃ b,b=w8.heap.size:=⟨_,rfl⟩
 generalize w8.alloc (Obj.cells #[.int .u64 u0,.int .u64 u1,.int .u64 u2,.int .u64 u3,.int .u64 u4,.int .u64 u5] 24)=W8 at *
 rw [← hb8] at Bones32 ltb8 ⊢
 clear hb8
 refine (fbehind6 (G.below bel) (by decide) (by decide) fones30 fones30 Hones30.out Hones30.out).mono ?_
 rintro e w9 ⟨i0,i1,i2,i3,i4,i5,rfl,fones60,hv,hb⟩
 have Hones60:Hid (Mo (v64 [x0,x1,x2,x3,x4,x5]) (1152921504606846975) (v64 [i0,i1,i2,i3,i4,i5])):=hv
 clear hv
 replace Bone:=Bone.later hb
 replace Bones15:=Bones15.later hb
 replace Bones30:=Bones30.later hb
 replace Bones32:=Bones32.later hb
 replace BR:=BR.later hb
 replace bel:=below_step bel hb
 clear hb
 go_wp2_with fail
 replace Bone:=Bone.alloc (.cells (us [i0,i1,i2,i3,i4,i5]).toArray 24)
 replace Bones15:=Bones15.alloc (.cells (us [i0,i1,i2,i3,i4,i5]).toArray 24)
 replace Bones30:=Bones30.alloc (.cells (us [i0,i1,i2,i3,i4,i5]).toArray 24)
 replace Bones32:=Bones32.alloc (.cells (us [i0,i1,i2,i3,i4,i5]).toArray 24)
 have Bones60:=Blk.new w9 (us [i0,i1,i2,i3,i4,i5]) 24 w9.heap.size rfl
 have ltb9:=BR.lt
 replace BR:=BR.alloc (.cells (us [i0,i1,i2,i3,i4,i5]).toArray 24)
 replace bel:=below_alloc (o:=.cells (us [i0,i1,i2,i3,i4,i5]).toArray 24) bel
 simp only [us,List.map_cons,List.map_nil] at Bone Bones15 Bones30 Bones32 Bones60 BR bel
 obtain ⟨b9,hb9⟩:∃ b,b=w9.heap.size:=⟨_,rfl⟩
 generalize w9.alloc (Obj.cells #[.int .u64 i0,.int .u64 i1,.int .u64 i2,.int .u64 i3,.int .u64 i4,.int .u64 i5] 24)=W9 at *
 rw [← hb9] at Bones60 ltb9 ⊢
 clear hb9
 refine (fbehind6 (G.below bel) (by decide) (by decide) fones60 fones60 Hones60.out Hones60.out).mono ?_
 rintro e w10 ⟨m0,m1,m2,m3,m4,m5,rfl,fones120,hv,hb⟩
 have Hones120:Hid (Mo (v64 [x0,x1,x2,x3,x4,x5]) (1329227995784915872903807060280344575) (v64 [m0,m1,m2,m3,m4,m5])):=hv
 clear hv
 clear Bones60
 replace Bone:=Bone.later hb
 replace Bones15:=Bones15.later hb
 replace Bones30:=Bones30.later hb
 replace Bones32:=Bones32.later hb
 replace BR:=BR.later hb
 replace bel:=below_step bel hb
 clear hb
 go_wp2_with fail
 replace Bone:=Bone.alloc (.cells (us [m0,m1,m2,m3,m4,m5]).toArray 24)
 replace Bones15:=Bones15.alloc (.cells (us [m0,m1,m2,m3,m4,m5]).toArray 24)
 replace Bones30:=Bones30.alloc (.cells (us [m0,m1,m2,m3,m4,m5]).toArray 24)
 replace Bones32:=Bones32.alloc (.cells (us [m0,m1,m2,m3,m4,m5]).toArray 24)
 have Bones120:=Blk.new w10 (us [m0,m1,m2,m3,m4,m5]) 24 w10.heap.size rfl
 have ltb10:=BR.lt
 replace BR:=BR.alloc (.cells (us [m0,m1,m2,m3,m4,m5]).toArray 24)
 replace bel:=below_alloc (o:=.cells (us [m0,m1,m2,m3,m4,m5]).toArray 24) bel
 simp only [us,List.map_cons,List.map_nil] at Bone Bones15 Bones30 Bones32 Bones120 BR bel
 obtain ⟨b10,hb10⟩:∃ b,b=w10.heap.size:=⟨_,rfl⟩
 generalize w10.alloc (Obj.cells #[.int .u64 m0,.int .u64 m1,.int .u64 m2,.int .u64 m3,.int .u64 m4,.int .u64 m5] 24)=W10 at *
 rw [← hb10] at Bones120 ltb10 ⊢
 clear hb10
 refine (fbehind6 (G.below bel) (by decide) (by decide) fones120 fones120 Hones120.out Hones120.out).mono ?_
 rintro e w11 ⟨g0,g1,g2,g3,g4,g5,rfl,fones240,hv,hb⟩
 have Hones240:Hid (Mo (v64 [x0,x1,x2,x3,x4,x5]) (1766847064778384329583297500742918515827483896875618958121606201292619775) (v64 [g0,g1,g2,g3,g4,g5])):=hv
 clear hv
 clear Bones120
 replace Bone:=Bone.later hb
 replace Bones15:=Bones15.later hb
 replace Bones30:=Bones30.later hb
 replace Bones32:=Bones32.later hb
 replace BR:=BR.later hb
 replace bel:=below_step bel hb
 clear hb
 obtain ⟨ca0,ca1,ca2,ca3,ca4,ca5⟩:=Bones15.cells6
 have lt0:=Bones15.lt
 go_wp2_with fail
 clear ca0 ca1 ca2 ca3 ca4 ca5 lt0
 replace Bone:=Bone.alloc (.cells (us [g0,g1,g2,g3,g4,g5]).toArray 24)
 replace Bones15:=Bones15.alloc (.cells (us [g0,g1,g2,g3,g4,g5]).toArray 24)
 replace Bones30:=Bones30.alloc (.cells (us [g0,g1,g2,g3,g4,g5]).toArray 24)
 replace Bones32:=Bones32.alloc (.cells (us [g0,g1,g2,g3,g4,g5]).toArray 24)
 have Bones240:=Blk.new w11 (us [g0,g1,g2,g3,g4,g5]) 24 w11.heap.size rfl
 have ltb11:=BR.lt
 replace BR:=BR.alloc (.cells (us [g0,g1,g2,g3,g4,g5]).toArray 24)
 replace bel:=below_alloc (o:=.cells (us [g0,g1,g2,g3,g4,g5]).toArray 24) bel
 simp only [us,List.map_cons,List.map_nil] at Bone Bones15 Bones30 Bones32 Bones240 BR bel
 obtain ⟨b11,hb11⟩:∃ b,b=w11.heap.size:=⟨_,rfl⟩
 generalize w11.alloc (Obj.cells #[.int .u64 g0,.int .u64 g1,.int .u64 g2,.int .u64 g3,.int .u64 g4,.int .u64 g5] 24)=W11 at *
 rw [← hb11] at Bones240 ltb11 ⊢
 clear hb11
 refine (fbehind6 (G.below bel) (by decide) (by decide) fones240 fones15 Hones240.out Hones15.out).mono ?_
 rintro e w12 ⟨k0,k1,k2,k3,k4,k5,rfl,fones255,hv,hb⟩
 have Hones255:Hid (Mo (v64 [x0,x1,x2,x3,x4,x5]) (57896044618658097711785492504343953926634992332820282019728792003956564819967) (v64 [k0,k1,k2,k3,k4,k5])):=hv
 clear hv
 clear Bones15
 clear Bones240
 replace Bone:=Bone.later hb
 replace Bones30:=Bones30.later hb
 replace Bones32:=Bones32.later hb
 replace BR:=BR.later hb
 replace bel:=below_step bel hb
 clear hb
 go_upto_region 13 with fail
 replace Bone:=Bone.alloc (.cells (us [k0,k1,k2,k3,k4,k5]).toArray 24)
 replace Bones30:=Bones30.alloc (.cells (us [k0,k1,k2,k3,k4,k5]).toArray 24)
 replace Bones32:=Bones32.alloc (.cells (us [k0,k1,k2,k3,k4,k5]).toArray 24)
 have Bones255:=Blk.new w12 (us [k0,k1,k2,k3,k4,k5]) 24 w12.heap.size rfl
 have ltb12:=BR.lt
 replace BR:=BR.alloc (.cells (us [k0,k1,k2,k3,k4,k5]).toArray 24)
 replace bel:=below_alloc (o:=.cells (us [k0,k1,k2,k3,k4,k5]).toArray 24) bel
 simp only [us,List.map_cons,List.map_nil] at Bone Bones30 Bones32 Bones255 BR bel
 obtain ⟨b12,hb12⟩:∃ b,b=w12.heap.size:=⟨_,rfl⟩
 generalize w12.alloc (Obj.cells #[.int .u64 k0,.int .u64 k1,.int .u64 k2,.int .u64 k3,.int .u64 k4,.int .u64 k5] 24)=W12 at *
 rw [← hb12] at Bones255 ltb12 ⊢
 clear hb12
 obtain ⟨S1,hS1,KL1,KA1,KD1,KS1,KP1,KN1,KB1,KM1,KW1,KR1⟩:=held2 (w0:=w) (W:=W12) [(b1,[Value.int .u64 z0,Value.int .u64 z1,Value.int .u64 z2,Value.int .u64 z3,Value.int .u64 z4,Value.int .u64 z5]),(b7,[Value.int .u64 t0,Value.int .u64 t1,Value.int .u64 t2,Value.int .u64 t3,Value.int .u64 t4,Value.int .u64 t5]),(b12,[Value.int .u64 k0,Value.int .u64 k1,Value.int .u64 k2,Value.int .u64 k3,Value.int .u64 k4,Value.int .u64 k5]),(b8,[Value.int .u64 u0,Value.int .u64 u1,Value.int .u64 u2,Value.int .u64 u3,Value.int .u64 u4,Value.int .u64 u5])] [(w.heap.size + 1,18)] (by
  intro b X h
  simp only [List.mem_cons,List.not_mem_nil,or_false,Prod.mk.injEq] at h
  rcases h with ⟨rfl,rfl⟩|⟨rfl,rfl⟩|⟨rfl,rfl⟩|⟨rfl,rfl⟩
  ·exact Bone
  ·exact Bones30
  ·exact Bones255
  ·exact Bones32) (by
  intro b n h
  simp only [List.mem_cons,List.not_mem_nil,or_false,Prod.mk.injEq] at h
  rcases h with ⟨rfl,rfl⟩
  ·exact BR) (by
  intro b X n h
  simp only [List.mem_cons,List.not_mem_nil,or_false,Prod.mk.injEq] at h ⊢
  omega) bel
 have kb1a:∀ wx,Hd S1 wx→Blk wx (b1) [Value.int .u64 z0,Value.int .u64 z1,Value.int .u64 z2,Value.int .u64 z3,Value.int .u64 z4,Value.int .u64 z5]:=fun wx h=>KM1.out wx _ _ h (by simp)
 have c1a0:=rulec kb1a 0 _ rfl
 have c1a1:=rulec kb1a 1 _ rfl
 have c1a2:=rulec kb1a 2 _ rfl
 have c1a3:=rulec kb1a 3 _ rfl
 have c1a4:=rulec kb1a 4 _ rfl
 have c1a5:=rulec kb1a 5 _ rfl
 have c1al:=ruleb kb1a
 clear kb1a
 have kb1b:∀ wx,Hd S1 wx→Blk wx (b7) [Value.int .u64 t0,Value.int .u64 t1,Value.int .u64 t2,Value.int .u64 t3,Value.int .u64 t4,Value.int .u64 t5]:=fun wx h=>KM1.out wx _ _ h (by simp)
 have c1b0:=rulec kb1b 0 _ rfl
 have c1b1:=rulec kb1b 1 _ rfl
 have c1b2:=rulec kb1b 2 _ rfl
 have c1b3:=rulec kb1b 3 _ rfl
 have c1b4:=rulec kb1b 4 _ rfl
 have c1b5:=rulec kb1b 5 _ rfl
 have c1bl:=ruleb kb1b
 clear kb1b
 have kb1c:∀ wx,Hd S1 wx→Blk wx (b12) [Value.int .u64 k0,Value.int .u64 k1,Value.int .u64 k2,Value.int .u64 k3,Value.int .u64 k4,Value.int .u64 k5]:=fun wx h=>KM1.out wx _ _ h (by simp)
 have c1c0:=rulec kb1c 0 _ rfl
 have c1c1:=rulec kb1c 1 _ rfl
 have c1c2:=rulec kb1c 2 _ rfl
 have c1c3:=rulec kb1c 3 _ rfl
 have c1c4:=rulec kb1c 4 _ rfl
 have c1c5:=rulec kb1c 5 _ rfl
 have c1cl:=ruleb kb1c
 clear kb1c
 have kb1d:∀ wx,Hd S1 wx→Blk wx (b8) [Value.int .u64 u0,Value.int .u64 u1,Value.int .u64 u2,Value.int .u64 u3,Value.int .u64 u4,Value.int .u64 u5]:=fun wx h=>KM1.out wx _ _ h (by simp)
 have c1d0:=rulec kb1d 0 _ rfl
 have c1d1:=rulec kb1d 1 _ rfl
 have c1d2:=rulec kb1d 2 _ rfl
 have c1d3:=rulec kb1d 3 _ rfl
 have c1d4:=rulec kb1d 4 _ rfl
 have c1d5:=rulec kb1d 5 _ rfl
 have c1dl:=ruleb kb1d
 clear kb1d
 have mw1a:∃ n,(w.heap.size + 1,n)∈[(w.heap.size + 1,18)]:=⟨18,by simp⟩
 have hN1:=bel.size
 clear Bone Bones30 Bones32 Bones255 BR bel
 refine wp_region_noPanic ?_
 refine wp_region_held_drew (S:=Hd S1) (by kernel_rfl) (KD1.out _ hS1) (fun hHeld=>?_)
 clear hS1
 refine wpAnyH_take (i:=0) (v:=?_) rfl (by kernel_rfl) (by kernel_rfl) (by kernel_rfl) (fun _ _ _ h=>h) (Or.inl ⟨by rfl,?_⟩) (by assumption) ?_
 rotate_left
 ·intro w hSw
  go_simp
  with_reducible rfl
 try simp only [Act.put,List.setIfInBounds_toArray,List.set_cons_zero,List.set_cons_succ]
 refine wpAnyH_take (i:=1) (v:=?_) rfl (by kernel_rfl) (by kernel_rfl) (by kernel_rfl) (fun _ _ _ h=>h) (Or.inl ⟨by rfl,?_⟩) (by assumption) ?_
 rotate_left
 ·intro w hSw
  go_simp
  with_reducible rfl
 try simp only [Act.put,List.setIfInBounds_toArray,List.set_cons_zero,List.set_cons_succ]
 refine wpAnyH_take (i:=2) (v:=?_) rfl (by kernel_rfl) (by kernel_rfl) (by kernel_rfl) (fun _ _ _ h=>h) (Or.inl ⟨by rfl,?_⟩) (by assumption) ?_
 rotate_left
 ·intro w hSw
  go_simp
  with_reducible rfl
 try simp only [Act.put,List.setIfInBounds_toArray,List.set_cons_zero,List.set_cons_succ]
 refine wpAnyH_take (i:=3) (v:=?_) rfl (by kernel_rfl) (by kernel_rfl) (by kernel_rfl) (fun _ _ _ h=>h) (Or.inl ⟨by rfl,?_⟩) (by assumption) ?_
 rotate_left
 ·intro w hSw
  go_simp
  with_reducible rfl
 try simp only [Act.put,List.setIfInBounds_toArray,List.set_cons_zero,List.set_cons_succ]
 refine wpAnyH_ready (rs:=[4]) (by kernel_rfl) (by simp) ?_
 refine AllReadyH.cons rfl (fun K hK=>?_) AllReadyH.nil
 go_simp
 go_fit (fbehind6 (G.below (KB1.out _ hHeld)) (by decide) (by decide) fones255 fones32 Hones255.out Hones32.out)
 rintro e w' ⟨n0,n1,n2,n3,n4,n5,rfl,fZ,hv,hb⟩
 have HZ:Hid (Mo (v64 [x0,x1,x2,x3,x4,x5]) (497323236409786642155382248146820840100456150797347717440463976893159497012529080565759) (v64 [n0,n1,n2,n3,n4,n5])):=hv
 clear hv
 try simp only []
 refine hK.out _ _ (KL1.out _ _ hHeld hb) (fun hHeld2=>?_)
 clear hK K hHeld hb
 try simp only [Act.put,List.setIfInBounds_toArray,List.set_cons_zero,List.set_cons_succ]
 refine wpAnyH_take (i:=5) (v:=?_) rfl (by kernel_rfl) (by kernel_rfl) (by kernel_rfl) (fun _ _ _ h=>h) (Or.inl ⟨by rfl,?_⟩) (by assumption) ?_
 rotate_left
 ·intro w hSw
  go_simp
  with_reducible rfl
 try simp only [Act.put,List.setIfInBounds_toArray,List.set_cons_zero,List.set_cons_succ]
 refine wpAnyH_ready (rs:=[6]) (by kernel_rfl) (by simp) ?_
 refine AllReadyH.cons rfl (fun K hK=>?_) AllReadyH.nil
 obtain ⟨old,lo,ty,ho⟩:=KW1.out _ _ _ hHeld2 (show (w.heap.size + 1,18)∈[(w.heap.size + 1,18)] by simp)
 rw [if_pos (by rfl)]
 refine wp_store_row 177 _ _ rfl (w.heap.size + 1) #[.int .u64 z0,.int .u64 z1,.int .u64 z2,.int .u64 z3,.int .u64 z4,.int .u64 z5,.int .u64 t0,.int .u64 t1,.int .u64 t2,.int .u64 t3,.int .u64 t4,.int .u64 t5,.int .u64 n0,.int .u64 n1,.int .u64 n2,.int .u64 n3,.int .u64 n4,.int .u64 n5] rfl rfl ty _ ho pow_size (by simpa using lo) (us_one [z0,z1,z2,z3,z4,z5,t0,t1,t2,t3,t4,t5,n0,n1,n2,n3,n4,n5]) ?_
 refine hK.out _ _ (KR1.out _ _ [z0,z1,z2,z3,z4,z5,t0,t1,t2,t3,t4,t5,n0,n1,n2,n3,n4,n5] hHeld2 (by simp) (by simp) (by omega)) (fun hHeld3=>?_)
 obtain ⟨tz,hz3⟩:=(KW1.out _ _ _ hHeld2 (show (w.heap.size + 1,18)∈[(w.heap.size + 1,18)] by simp)).row (cs:=#[.int .u64 z0,.int .u64 z1,.int .u64 z2,.int .u64 z3,.int .u64 z4,.int .u64 z5,.int .u64 t0,.int .u64 t1,.int .u64 t2,.int .u64 t3,.int .u64 t4,.int .u64 t5,.int .u64 n0,.int .u64 n1,.int .u64 n2,.int .u64 n3,.int .u64 n4,.int .u64 n5])
 clear hK K hHeld2
 try simp only [Act.put,List.setIfInBounds_toArray,List.set_cons_zero,List.set_cons_succ]
 refine wpAnyH_done (by kernel_rfl) ?_ _
 refine NoPanic.normal ?_
 go_wp2_with fail
 exact bodyPost_ret (v:=.agg #[.int .u64 z0,.int .u64 z1,.int .u64 z2,.int .u64 z3,.int .u64 z4,.int .u64 z5,.int .u64 t0,.int .u64 t1,.int .u64 t2,.int .u64 t3,.int .u64 t4,.int .u64 t5,.int .u64 n0,.int .u64 n1,.int .u64 n2,.int .u64 n3,.int .u64 n4,.int .u64 n5]) (results_cell_row Tryz.results131 _ _ (w.heap.size + 1) tz _ _ _ rfl hz3 Tryz.underlying177 rfl pow_size) rfl ⟨z0,z1,z2,z3,z4,z5,t0,t1,t2,t3,t4,t5,n0,n1,n2,n3,n4,n5,rfl,fone,fones30,fZ,Hone.out,Hones30.out,HZ.out,KB1.out _ hHeld3⟩
theorem inv_exp {a z:Int} {e1 e2 e3:Nat} (h:e1=1∧e2=1073741823∧e3=497323236409786642155382248146820840100456150797347717440463976893159497012529080565759) (k:Out a ((e3 * 2 ^ Int.toNat 94 + e2) * 2 ^ Int.toNat 2 + e1) z):Out a 39402006196394479212279040100143613805079739270465446667948293404245721771496870329047266088258938001861606973112317 z:=by
 obtain ⟨rfl,rfl,rfl⟩:=h
 have e:(497323236409786642155382248146820840100456150797347717440463976893159497012529080565759 * 2 ^ Int.toNat 94 + 1073741823) * 2 ^ Int.toNat 2 + 1=39402006196394479212279040100143613805079739270465446667948293404245721771496870329047266088258938001861606973112317:=by decide +kernel
 rw [e] at k
 exact k
set_option maxRecDepth 100000 in
set_option maxHeartbeats 2000000 in
theorem finv6 {x0 x1 x2 x3 x4 x5:Int} {w:World} (G:Gls w) (fX:fits [x0,x1,x2,x3,x4,x5]) :
    Calls Tryz.prog 126 #[.agg #[.int .u64 x0,.int .u64 x1,.int .u64 x2,.int .u64 x3,.int .u64 x4,.int .u64 x5]] w fun e w'=>∃ z0 z1 z2 z3 z4 z5:Int,e=.returned (.agg #[.int .u64 z0,.int .u64 z1,.int .u64 z2,.int .u64 z3,.int .u64 z4,.int .u64 z5])∧fits [z0,z1,z2,z3,z4,z5]∧Out (v64 [x0,x1,x2,x3,x4,x5]) 39402006196394479212279040100143613805079739270465446667948293404245721771496870329047266088258938001861606973112317 (v64 [z0,z1,z2,z3,z4,z5])∧Below w.heap.size w w':=by
  have B0:=(Blk.new w (us [x0,x1,x2,x3,x4,x5]) 24 (w.heap.size) rfl).alloc (.cells (us [0,0,0,0,0,0]).toArray 24)
  have B1:=Blk.new (w.alloc (.cells (us [x0,x1,x2,x3,x4,x5]).toArray 24)) (us [0,0,0,0,0,0]) 24 (w.heap.size + 1) (by simp)
  have bel:Below w.heap.size w ((w.alloc (.cells (us [x0,x1,x2,x3,x4,x5]).toArray 24)).alloc (.cells (us [0,0,0,0,0,0]).toArray 24)):=((Below.refl _ _).alloc (Nat.le_refl _) _).alloc (by simp) _
  have WR:Wrn _ (w.heap.size + 1) 6:=Wrn.mk B1 rfl
  go_enter Tryz.func126,Tryz.ntmps126
  go_upto_region 1 with fail
  simp only [us,List.map_cons,List.map_nil] at B0 WR bel
  generalize (w.alloc (Obj.cells #[.int .u64 x0,.int .u64 x1,.int .u64 x2,.int .u64 x3,.int .u64 x4,.int .u64 x5] 24)).alloc (Obj.cells #[.int .u64 0,.int .u64 0,.int .u64 0,.int .u64 0,.int .u64 0,.int .u64 0] 24)=W at *
  clear B1
  obtain ⟨c0,c1,c2,c3,c4,c5⟩:=B0.cells6
  go_wp2_with fail
  refine (fpowers6 (G.below bel) fX).mono ?_
  rintro e w1 ⟨p0,p1,p2,p3,p4,p5,q0,q1,q2,q3,q4,q5,r0,r1,r2,r3,r4,r5,rfl,f1,f2,f3,h1,h2,h3,hb⟩
  obtain ⟨e1,e2,e3,h1,h2,h3,HE⟩:∃ e1 e2 e3:Nat,Mo (v64 [x0,x1,x2,x3,x4,x5]) (e1) (v64 [p0,p1,p2,p3,p4,p5])∧Mo (v64 [x0,x1,x2,x3,x4,x5]) (e2) (v64 [q0,q1,q2,q3,q4,q5])∧Mo (v64 [x0,x1,x2,x3,x4,x5]) (e3) (v64 [r0,r1,r2,r3,r4,r5])∧Hid (e1=1∧e2=1073741823∧e3=497323236409786642155382248146820840100456150797347717440463976893159497012529080565759):=⟨1,1073741823,497323236409786642155382248146820840100456150797347717440463976893159497012529080565759,h1,h2,h3,rfl,rfl,rfl⟩
  have H1:Hid (Mo (v64 [x0,x1,x2,x3,x4,x5]) (e1) (v64 [p0,p1,p2,p3,p4,p5])):=h1
  have H2:Hid (Mo (v64 [x0,x1,x2,x3,x4,x5]) (e2) (v64 [q0,q1,q2,q3,q4,q5])):=h2
  have H3:Hid (Mo (v64 [x0,x1,x2,x3,x4,x5]) (e3) (v64 [r0,r1,r2,r3,r4,r5])):=h3
  clear h1 h2 h3 c0 c1 c2 c3 c4 c5 B0
  have ltr:=(WR.later hb).lt
  replace WR:=(WR.later hb).alloc (.cells (us [p0,p1,p2,p3,p4,p5,q0,q1,q2,q3,q4,q5,r0,r1,r2,r3,r4,r5]).toArray 177)
  have BP:=Blk.new w1 (us [p0,p1,p2,p3,p4,p5,q0,q1,q2,q3,q4,q5,r0,r1,r2,r3,r4,r5]) 177 w1.heap.size rfl
  replace bel:=below_alloc (o:=.cells (us [p0,p1,p2,p3,p4,p5,q0,q1,q2,q3,q4,q5,r0,r1,r2,r3,r4,r5]).toArray 177) (below_step bel hb)
  clear hb
  go_upto_region 2 with (refine wpList_store_row rfl 177 _ _ rfl w1.heap.size #[.int .u64 p0,.int .u64 p1,.int .u64 p2,.int .u64 p3,.int .u64 p4,.int .u64 p5,.int .u64 q0,.int .u64 q1,.int .u64 q2,.int .u64 q3,.int .u64 q4,.int .u64 q5,.int .u64 r0,.int .u64 r1,.int .u64 r2,.int .u64 r3,.int .u64 r4,.int .u64 r5] rfl rfl 177 _ (heap_alloc_last _ _) pow_size rfl (us_one [p0,p1,p2,p3,p4,p5,q0,q1,q2,q3,q4,q5,r0,r1,r2,r3,r4,r5]) ?_;rw [World.setRow_alloc_new])
  simp only [us,List.map_cons,List.map_nil] at WR BP bel
  generalize w1.alloc (Obj.cells #[.int .u64 p0,.int .u64 p1,.int .u64 p2,.int .u64 p3,.int .u64 p4,.int .u64 p5,.int .u64 q0,.int .u64 q1,.int .u64 q2,.int .u64 q3,.int .u64 q4,.int .u64 q5,.int .u64 r0,.int .u64 r1,.int .u64 r2,.int .u64 r3,.int .u64 r4,.int .u64 r5] 177)=W1 at *
  obtain ⟨bp,hbp⟩:∃ b,b=w1.heap.size:=⟨_,rfl⟩
  rw [← hbp] at BP ltr ⊢
  clear hbp
  obtain ⟨S1,hS1,KL1,KA1,KD1,KS1,KP1,KN1,KB1,KM1,KW1,KR1⟩:=held2 (w0:=w) (W:=W1) [(bp,[Value.int .u64 p0,Value.int .u64 p1,Value.int .u64 p2,Value.int .u64 p3,Value.int .u64 p4,Value.int .u64 p5,Value.int .u64 q0,Value.int .u64 q1,Value.int .u64 q2,Value.int .u64 q3,Value.int .u64 q4,Value.int .u64 q5,Value.int .u64 r0,Value.int .u64 r1,Value.int .u64 r2,Value.int .u64 r3,Value.int .u64 r4,Value.int .u64 r5])] [(w.heap.size + 1,6)] (by
    intro b X h
    simp only [List.mem_cons,List.not_mem_nil,or_false,Prod.mk.injEq] at h
    rcases h with ⟨rfl,rfl⟩
    · exact BP) (by
    intro b n h
    simp only [List.mem_cons,List.not_mem_nil,or_false,Prod.mk.injEq] at h
    rcases h with ⟨rfl,rfl⟩
    · exact WR) (by
    intro b X n h
    simp only [List.mem_cons,List.not_mem_nil,or_false,Prod.mk.injEq] at h ⊢
    omega) bel
  have kb1a:∀ wx,Hd S1 wx→Blk wx (bp) [Value.int .u64 p0,Value.int .u64 p1,Value.int .u64 p2,Value.int .u64 p3,Value.int .u64 p4,Value.int .u64 p5,Value.int .u64 q0,Value.int .u64 q1,Value.int .u64 q2,Value.int .u64 q3,Value.int .u64 q4,Value.int .u64 q5,Value.int .u64 r0,Value.int .u64 r1,Value.int .u64 r2,Value.int .u64 r3,Value.int .u64 r4,Value.int .u64 r5]:=fun wx h=>KM1.out wx _ _ h (by simp)
  have c1a0:=rulec kb1a 0 _ rfl
  have c1a1:=rulec kb1a 1 _ rfl
  have c1a2:=rulec kb1a 2 _ rfl
  have c1a3:=rulec kb1a 3 _ rfl
  have c1a4:=rulec kb1a 4 _ rfl
  have c1a5:=rulec kb1a 5 _ rfl
  have c1a6:=rulec kb1a 6 _ rfl
  have c1a7:=rulec kb1a 7 _ rfl
  have c1a8:=rulec kb1a 8 _ rfl
  have c1a9:=rulec kb1a 9 _ rfl
  have c1a10:=rulec kb1a 10 _ rfl
  have c1a11:=rulec kb1a 11 _ rfl
  have c1a12:=rulec kb1a 12 _ rfl
  have c1a13:=rulec kb1a 13 _ rfl
  have c1a14:=rulec kb1a 14 _ rfl
  have c1a15:=rulec kb1a 15 _ rfl
  have c1a16:=rulec kb1a 16 _ rfl
  have c1a17:=rulec kb1a 17 _ rfl
  have c1al:=ruleb kb1a
  clear kb1a
  have mw1a:∃ n,(w.heap.size + 1,n)∈[(w.heap.size + 1,6)]:=⟨6,by simp⟩
  have hN1:=bel.size
  clear WR BP bel
  go_region_held3 (Hd S1)
    (first
      | with_reducible exact (KP1.out _ _ _ _ (KP1.out _ _ _ _ (KP1.out _ _ _ _ (KP1.out _ _ _ _ (KP1.out _ _ _ _ (KP1.out _ _ _ _ (by assumption) (Or.inr mw1a) (by omega)) (Or.inr mw1a) (by omega)) (Or.inr mw1a) (by omega)) (Or.inr mw1a) (by omega)) (Or.inr mw1a) (by omega)) (Or.inr mw1a) (by omega))
      | with_reducible exact KL1.out _ _ (by assumption) hb
      | with_reducible exact KA1.out _ _ (by assumption)
      | with_reducible exact KS1.out _ _ _ (by omega) (by assumption)
      | with_reducible exact KD1.out _ hS1
      | with_reducible exact KD1.out _ (KA1.out _ _ hS1)
      | with_reducible assumption)
    (first
      | (go_at_call 133;go_fit (fbehind6 (G.below (KB1.out _ (by first|with_reducible assumption|with_reducible exact KA1.out _ _ (by assumption)|with_reducible exact KD1.out _ (by assumption)))) (by decide) (by decide) f3 f2 H3.out H2.out);rintro e w' ⟨t0,t1,t2,t3,t4,t5,rfl,fT,hv,hb⟩;have HT:Hid (Mo (v64 [x0,x1,x2,x3,x4,x5]) (e3 * 2 ^ Int.toNat 94 + e2) (v64 [t0,t1,t2,t3,t4,t5])):=hv;clear hv)
      | (go_at_call 133;go_fit (fbehind6 (G.below (KB1.out _ (by first|with_reducible assumption|with_reducible exact KA1.out _ _ (by assumption)|with_reducible exact KD1.out _ (by assumption)))) (by decide) (by decide) fT f1 HT.out H1.out);rintro e w' ⟨y0,y1,y2,y3,y4,y5,rfl,fU,hv,hb⟩;have HU:Hid (Mo (v64 [x0,x1,x2,x3,x4,x5]) ((e3 * 2 ^ Int.toNat 94 + e2) * 2 ^ Int.toNat 2 + e1) (v64 [y0,y1,y2,y3,y4,y5])):=hv;clear hv)
      | (go_at_call 132;go_fit (fout6 (G.below (KB1.out _ (by first|with_reducible assumption|with_reducible exact KA1.out _ _ (by assumption)|with_reducible exact KD1.out _ (by assumption)))) fU HU.out);rintro e w' ⟨z0,z1,z2,z3,z4,z5,rfl,fZ,hv,hb⟩;have HZ:Hid (Out (v64 [x0,x1,x2,x3,x4,x5]) ((e3 * 2 ^ Int.toNat 94 + e2) * 2 ^ Int.toNat 2 + e1) (v64 [z0,z1,z2,z3,z4,z5])):=hv;clear hv;have hW:=(KW1.out _ _ _ (KL1.out _ _ (by assumption) hb) (by simp):Wrn w' (w.heap.size + 1) 6);have hWl:=hW.lt;obtain ⟨v0,v1,v2,v3,v4,v5,⟨h0,h1,h2,h3,h4,h5⟩,⟨f0,f1,f2,f3,f4,f5⟩⟩:=hW.parts6))
  all_goals go_wp2
  all_goals exact bodyPost_ret (v:=.agg #[.int .u64 z0,.int .u64 z1,.int .u64 z2,.int .u64 z3,.int .u64 z4,.int .u64 z5]) (by simp [results,Tryz.results126,go_sem,h0,h1,h2,h3,h4,h5]) rfl ⟨z0,z1,z2,z3,z4,z5,rfl,fZ,inv_exp HE.out HZ.out,KB1.out _ (by assumption)⟩
end Go.Proofs.YtlkljfnenonfgaaGreatDoor
