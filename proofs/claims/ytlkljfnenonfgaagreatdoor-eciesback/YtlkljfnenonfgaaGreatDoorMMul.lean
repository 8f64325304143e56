/- modp's mulR and Mul: products by a modulus. modp.Mul: a product's rest. modp.Add: a sum's rest. modp.Sub: a difference's rest. -/
import Derived.Test.YtlkljfnenonfgaaGreatDoorMReduce
import Derived.Test.YtlkljfnenonfgaaGreatDoorMOff
import Derived.Test.YtlkljfnenonfgaaGreatDoorBase
import Derived.Test.YtlkljfnenonfgaaGreatDoorRows
import Derived.Deep.RegionHeld3
import Derived.Deep.DeepCutAuto
namespace Go.Proofs.YtlkljfnenonfgaaGreatDoor
open Go.RowKit
theorem mulz66 {x0 x1 x2 x3 x4 x5 y0 y1 y2 y3 y4 y5:Int} {w:World} (hx:fits [x0,x1,x2,x3,x4,x5]) (hy:fits [y0,y1,y2,y3,y4,y5]) :
  Calls Tryz.prog 113 #[.agg #[.int .u64 x0,.int .u64 x1,.int .u64 x2,.int .u64 x3,.int .u64 x4,.int .u64 x5],.agg #[.int .u64 y0,.int .u64 y1,.int .u64 y2,.int .u64 y3,.int .u64 y4,.int .u64 y5]] w fun e w'=>∃ p0 p1 p2 p3 p4 p5 p6 p7 p8 p9 p10 p11:Int,e=.returned (.agg #[.int .u64 p0,.int .u64 p1,.int .u64 p2,.int .u64 p3,.int .u64 p4,.int .u64 p5,.int .u64 p6,.int .u64 p7,.int .u64 p8,.int .u64 p9,.int .u64 p10,.int .u64 p11])∧fits [p0,p1,p2,p3,p4,p5,p6,p7,p8,p9,p10,p11]∧v64 [p0,p1,p2,p3,p4,p5,p6,p7,p8,p9,p10,p11]=v64 [x0,x1,x2,x3,x4,x5] * v64 [y0,y1,y2,y3,y4,y5]∧Below w.heap.size w w':=by
 refine (mul_any [x0,x1,x2,x3,x4,x5] [y0,y1,y2,y3,y4,y5] w rfl rfl hx hy).mono ?_
 rintro e w' ⟨P,rfl,lP,fP,hP,hb⟩
 obtain ⟨p0,p1,p2,p3,p4,p5,p6,p7,p8,p9,p10,p11,rfl⟩:=twelve lP
 exact ⟨p0,p1,p2,p3,p4,p5,p6,p7,p8,p9,p10,p11,rfl,fP,hP,hb⟩
theorem reduce12 {p0 p1 p2 p3 p4 p5 p6 p7 p8 p9 p10 p11 m0 m1 m2 m3 m4 m5 i t0 t1 t2 t3 t4 t5:Int} {w:World} (fP:fits [p0,p1,p2,p3,p4,p5,p6,p7,p8,p9,p10,p11]) (hm:IsMod [m0,m1,m2,m3,m4,m5] i [t0,t1,t2,t3,t4,t5]) :
  Calls Tryz.prog 112 #[.agg #[.int .u64 p0,.int .u64 p1,.int .u64 p2,.int .u64 p3,.int .u64 p4,.int .u64 p5,.int .u64 p6,.int .u64 p7,.int .u64 p8,.int .u64 p9,.int .u64 p10,.int .u64 p11],.agg #[.int .u64 m0,.int .u64 m1,.int .u64 m2,.int .u64 m3,.int .u64 m4,.int .u64 m5,.int .u64 i,.int .u64 t0,.int .u64 t1,.int .u64 t2,.int .u64 t3,.int .u64 t4,.int .u64 t5]] w fun e w'=>∃ z0 z1 z2 z3 z4 z5:Int,e=.returned (.agg #[.int .u64 z0,.int .u64 z1,.int .u64 z2,.int .u64 z3,.int .u64 z4,.int .u64 z5])∧fits [z0,z1,z2,z3,z4,z5]∧v64 [z0,z1,z2,z3,z4,z5] < v64 [m0,m1,m2,m3,m4,m5]∧(18446744073709551616 ^ 6 * v64 [z0,z1,z2,z3,z4,z5]) % v64 [m0,m1,m2,m3,m4,m5]=v64 [p0,p1,p2,p3,p4,p5,p6,p7,p8,p9,p10,p11] % v64 [m0,m1,m2,m3,m4,m5]∧Below w.heap.size w w' :=
 reduce_any [p0,p1,p2,p3,p4,p5,p6,p7,p8,p9,p10,p11] m0 m1 m2 m3 m4 m5 i t0 t1 t2 t3 t4 t5 w rfl fP hm
set_option maxRecDepth 100000 in
set_option maxHeartbeats 2000000 in
theorem mulR6 {x0 x1 x2 x3 x4 x5 y0 y1 y2 y3 y4 y5 m0 m1 m2 m3 m4 m5 i t0 t1 t2 t3 t4 t5:Int} {w:World} (fX:fits [x0,x1,x2,x3,x4,x5]) (fY:fits [y0,y1,y2,y3,y4,y5]) (hm:IsMod [m0,m1,m2,m3,m4,m5] i [t0,t1,t2,t3,t4,t5]) :
    Calls Tryz.prog 92 #[.agg #[.int .u64 x0,.int .u64 x1,.int .u64 x2,.int .u64 x3,.int .u64 x4,.int .u64 x5],.agg #[.int .u64 y0,.int .u64 y1,.int .u64 y2,.int .u64 y3,.int .u64 y4,.int .u64 y5],.agg #[.int .u64 m0,.int .u64 m1,.int .u64 m2,.int .u64 m3,.int .u64 m4,.int .u64 m5,.int .u64 i,.int .u64 t0,.int .u64 t1,.int .u64 t2,.int .u64 t3,.int .u64 t4,.int .u64 t5]] w fun e w'=>∃ z0 z1 z2 z3 z4 z5:Int,e=.returned (.agg #[.int .u64 z0,.int .u64 z1,.int .u64 z2,.int .u64 z3,.int .u64 z4,.int .u64 z5])∧fits [z0,z1,z2,z3,z4,z5]∧v64 [z0,z1,z2,z3,z4,z5] < v64 [m0,m1,m2,m3,m4,m5]∧(18446744073709551616 ^ 6 * v64 [z0,z1,z2,z3,z4,z5]) % v64 [m0,m1,m2,m3,m4,m5]=(v64 [x0,x1,x2,x3,x4,x5] * v64 [y0,y1,y2,y3,y4,y5]) % v64 [m0,m1,m2,m3,m4,m5]∧Below w.heap.size w w':=by
  have HM:Hid _:=hm
  clear hm
  have B0:=(((Blk.new w (us [x0,x1,x2,x3,x4,x5]) 24 w.heap.size rfl).alloc (.cells (us [y0,y1,y2,y3,y4,y5]).toArray 24)).alloc (.cells (us [m0,m1,m2,m3,m4,m5,i,t0,t1,t2,t3,t4,t5]).toArray 113)).alloc (.cells (us [0,0,0,0,0,0]).toArray 24)
  have B1:=((Blk.new (w.alloc (.cells (us [x0,x1,x2,x3,x4,x5]).toArray 24)) (us [y0,y1,y2,y3,y4,y5]) 24 (w.heap.size + 1) (by simp)).alloc (.cells (us [m0,m1,m2,m3,m4,m5,i,t0,t1,t2,t3,t4,t5]).toArray 113)).alloc (.cells (us [0,0,0,0,0,0]).toArray 24)
  have B2:=(Blk.new ((w.alloc (.cells (us [x0,x1,x2,x3,x4,x5]).toArray 24)).alloc (.cells (us [y0,y1,y2,y3,y4,y5]).toArray 24)) (us [m0,m1,m2,m3,m4,m5,i,t0,t1,t2,t3,t4,t5]) 113 (w.heap.size + 1 + 1) (by simp)).alloc (.cells (us [0,0,0,0,0,0]).toArray 24)
  have B3:=Blk.new (((w.alloc (.cells (us [x0,x1,x2,x3,x4,x5]).toArray 24)).alloc (.cells (us [y0,y1,y2,y3,y4,y5]).toArray 24)).alloc (.cells (us [m0,m1,m2,m3,m4,m5,i,t0,t1,t2,t3,t4,t5]).toArray 113)) (us [0,0,0,0,0,0]) 24 (w.heap.size + 1 + 1 + 1) (by simp)
  have bel:Below w.heap.size w ((((w.alloc (.cells (us [x0,x1,x2,x3,x4,x5]).toArray 24)).alloc (.cells (us [y0,y1,y2,y3,y4,y5]).toArray 24)).alloc (.cells (us [m0,m1,m2,m3,m4,m5,i,t0,t1,t2,t3,t4,t5]).toArray 113)).alloc (.cells (us [0,0,0,0,0,0]).toArray 24)):=((((Below.refl _ _).alloc (Nat.le_refl _) _).alloc (by simp) _).alloc (by simp;omega) _).alloc (by simp;omega) _
  go_enter Tryz.func92,Tryz.ntmps92
  go_wp2_with fail
  simp only [us,List.map_cons,List.map_nil] at B0 B1 B2 B3 bel
  generalize (((w.alloc (Obj.cells #[.int .u64 x0,.int .u64 x1,.int .u64 x2,.int .u64 x3,.int .u64 x4,.int .u64 x5] 24)).alloc (Obj.cells #[.int .u64 y0,.int .u64 y1,.int .u64 y2,.int .u64 y3,.int .u64 y4,.int .u64 y5] 24)).alloc (Obj.cells #[.int .u64 m0,.int .u64 m1,.int .u64 m2,.int .u64 m3,.int .u64 m4,.int .u64 m5,.int .u64 i,.int .u64 t0,.int .u64 t1,.int .u64 t2,.int .u64 t3,.int .u64 t4,.int .u64 t5] 113)).alloc (Obj.cells #[.int .u64 0,.int .u64 0,.int .u64 0,.int .u64 0,.int .u64 0,.int .u64 0] 24)=W at *
  obtain ⟨a0,a1,a2,a3,a4,a5⟩:=B2.cellsM
  obtain ⟨b0,b1,b2,b3,b4,b5,b6⟩:=B2.cellsT
  have hWr:Wr6 W (w.heap.size + 1 + 1 + 1):=Wr6.of B3
  obtain ⟨c0,c1,c2,c3,c4,c5⟩:=B0.cells6
  obtain ⟨d0,d1,d2,d3,d4,d5⟩:=B1.cells6
  clear B0 B1 B2 B3
  go_region_held3 (fun wx=>(wx.cell? ⟨w.heap.size + 1 + 1,0,none⟩=some (.int .u64 m0)∧wx.cell? ⟨w.heap.size + 1 + 1,1,none⟩=some (.int .u64 m1)∧wx.cell? ⟨w.heap.size + 1 + 1,2,none⟩=some (.int .u64 m2)∧wx.cell? ⟨w.heap.size + 1 + 1,3,none⟩=some (.int .u64 m3)∧wx.cell? ⟨w.heap.size + 1 + 1,4,none⟩=some (.int .u64 m4)∧wx.cell? ⟨w.heap.size + 1 + 1,5,none⟩=some (.int .u64 m5)∧wx.cell? ⟨w.heap.size + 1 + 1,6,none⟩=some (.int .u64 i)∧wx.cell? ⟨w.heap.size + 1 + 1,7,none⟩=some (.int .u64 t0)∧wx.cell? ⟨w.heap.size + 1 + 1,8,none⟩=some (.int .u64 t1)∧wx.cell? ⟨w.heap.size + 1 + 1,9,none⟩=some (.int .u64 t2)∧wx.cell? ⟨w.heap.size + 1 + 1,10,none⟩=some (.int .u64 t3)∧wx.cell? ⟨w.heap.size + 1 + 1,11,none⟩=some (.int .u64 t4)∧wx.cell? ⟨w.heap.size + 1 + 1,12,none⟩=some (.int .u64 t5))∧(wx.cell? ⟨w.heap.size,0,none⟩=some (.int .u64 x0)∧wx.cell? ⟨w.heap.size,1,none⟩=some (.int .u64 x1)∧wx.cell? ⟨w.heap.size,2,none⟩=some (.int .u64 x2)∧wx.cell? ⟨w.heap.size,3,none⟩=some (.int .u64 x3)∧wx.cell? ⟨w.heap.size,4,none⟩=some (.int .u64 x4)∧wx.cell? ⟨w.heap.size,5,none⟩=some (.int .u64 x5))∧(wx.cell? ⟨w.heap.size + 1,0,none⟩=some (.int .u64 y0)∧wx.cell? ⟨w.heap.size + 1,1,none⟩=some (.int .u64 y1)∧wx.cell? ⟨w.heap.size + 1,2,none⟩=some (.int .u64 y2)∧wx.cell? ⟨w.heap.size + 1,3,none⟩=some (.int .u64 y3)∧wx.cell? ⟨w.heap.size + 1,4,none⟩=some (.int .u64 y4)∧wx.cell? ⟨w.heap.size + 1,5,none⟩=some (.int .u64 y5))∧Wr6 wx (w.heap.size + 1 + 1 + 1)∧Below w.heap.size w wx)
    (first
      | (go_split_ands;with_reducible exact ⟨⟨cell_far6 (by assumption) (by omega),cell_far6 (by assumption) (by omega),cell_far6 (by assumption) (by omega),cell_far6 (by assumption) (by omega),cell_far6 (by assumption) (by omega),cell_far6 (by assumption) (by omega),cell_far6 (by assumption) (by omega),cell_far6 (by assumption) (by omega),cell_far6 (by assumption) (by omega),cell_far6 (by assumption) (by omega),cell_far6 (by assumption) (by omega),cell_far6 (by assumption) (by omega),cell_far6 (by assumption) (by omega)⟩,⟨cell_far6 (by assumption) (by omega),cell_far6 (by assumption) (by omega),cell_far6 (by assumption) (by omega),cell_far6 (by assumption) (by omega),cell_far6 (by assumption) (by omega),cell_far6 (by assumption) (by omega)⟩,⟨cell_far6 (by assumption) (by omega),cell_far6 (by assumption) (by omega),cell_far6 (by assumption) (by omega),cell_far6 (by assumption) (by omega),cell_far6 (by assumption) (by omega),cell_far6 (by assumption) (by omega)⟩,Wr6.put (by assumption),below_put6 (by assumption) (by omega)⟩)
      | (go_split_ands;with_reducible exact ⟨⟨cell_later (by assumption) hb,cell_later (by assumption) hb,cell_later (by assumption) hb,cell_later (by assumption) hb,cell_later (by assumption) hb,cell_later (by assumption) hb,cell_later (by assumption) hb,cell_later (by assumption) hb,cell_later (by assumption) hb,cell_later (by assumption) hb,cell_later (by assumption) hb,cell_later (by assumption) hb,cell_later (by assumption) hb⟩,⟨cell_later (by assumption) hb,cell_later (by assumption) hb,cell_later (by assumption) hb,cell_later (by assumption) hb,cell_later (by assumption) hb,cell_later (by assumption) hb⟩,⟨cell_later (by assumption) hb,cell_later (by assumption) hb,cell_later (by assumption) hb,cell_later (by assumption) hb,cell_later (by assumption) hb,cell_later (by assumption) hb⟩,Wr6.later (by assumption) hb,below_step (by assumption) hb⟩)
      | (exact ⟨⟨a0,a1,a2,a3,a4,a5,b0,b1,b2,b3,b4,b5,b6⟩,⟨c0,c1,c2,c3,c4,c5⟩,⟨d0,d1,d2,d3,d4,d5⟩,hWr.drew,bel.drew⟩))
    (first
      | (go_at_call 113;refine (mulz66 fX fY).mono ?_;rintro e w' ⟨p0,p1,p2,p3,p4,p5,p6,p7,p8,p9,p10,p11,rfl,fP,hP,hb⟩;have HP:Hid _:=hP;clear hP)
      | (go_at_call 112;refine (reduce12 fP HM.out).mono ?_;rintro e w' ⟨z0,z1,z2,z3,z4,z5,rfl,fZ,hZ,hE,hb⟩;rw [HP.out] at hE;have HZ2:Hid _:=hZ;have HE2:Hid _:=hE;clear hZ hE;obtain ⟨g0,g1,g2,g3,g4,g5,⟨h0,h1,h2,h3,h4,h5⟩,⟨f0,f1,f2,f3,f4,f5⟩⟩:=(Wr6.later (b:=w.heap.size + 1 + 1 + 1) (by go_split_ands;assumption) hb).cells))
  all_goals go_split_ands
  all_goals go_wp2
  all_goals exact bodyPost_ret (v:=.agg #[.int .u64 z0,.int .u64 z1,.int .u64 z2,.int .u64 z3,.int .u64 z4,.int .u64 z5]) (by simp [results,Tryz.results92,go_sem,h0,h1,h2,h3,h4,h5]) rfl ⟨z0,z1,z2,z3,z4,z5,rfl,fZ,HZ2.out,HE2.out,by assumption⟩
theorem mul_end {M i x r1 r2:Int} {L T:List Int} (hm:IsMod L i T) (hM:v64 L=M) (h1:(18446744073709551616 ^ 6 * r1) % M=x % M) (h0:0≤r2) (h2:r2 < M) (h3:(18446744073709551616 ^ 6 * r2) % M=(r1 * v64 T) % M):r2=x % M:=by
 subst hM
 rw [← mont_mul hm.odd h1 hm.two h3,Int.emod_eq_of_lt h0 h2]
set_option maxRecDepth 100000 in
set_option maxHeartbeats 2000000 in
theorem mul6 {x0 x1 x2 x3 x4 x5 y0 y1 y2 y3 y4 y5 m0 m1 m2 m3 m4 m5 i t0 t1 t2 t3 t4 t5:Int} {w:World} (fX:fits [x0,x1,x2,x3,x4,x5]) (fY:fits [y0,y1,y2,y3,y4,y5]) (hm:IsMod [m0,m1,m2,m3,m4,m5] i [t0,t1,t2,t3,t4,t5]) :
    Calls Tryz.prog 72 #[.agg #[.int .u64 x0,.int .u64 x1,.int .u64 x2,.int .u64 x3,.int .u64 x4,.int .u64 x5],.agg #[.int .u64 y0,.int .u64 y1,.int .u64 y2,.int .u64 y3,.int .u64 y4,.int .u64 y5],.agg #[.int .u64 m0,.int .u64 m1,.int .u64 m2,.int .u64 m3,.int .u64 m4,.int .u64 m5,.int .u64 i,.int .u64 t0,.int .u64 t1,.int .u64 t2,.int .u64 t3,.int .u64 t4,.int .u64 t5]] w fun e w'=>∃ z0 z1 z2 z3 z4 z5:Int,e=.returned (.agg #[.int .u64 z0,.int .u64 z1,.int .u64 z2,.int .u64 z3,.int .u64 z4,.int .u64 z5])∧fits [z0,z1,z2,z3,z4,z5]∧v64 [z0,z1,z2,z3,z4,z5]=(v64 [x0,x1,x2,x3,x4,x5] * v64 [y0,y1,y2,y3,y4,y5]) % v64 [m0,m1,m2,m3,m4,m5]∧Below w.heap.size w w':=by
  have HM:Hid _:=hm
  have fT:=hm.fT
  clear hm
  have B0:=(((Blk.new w (us [x0,x1,x2,x3,x4,x5]) 24 w.heap.size rfl).alloc (.cells (us [y0,y1,y2,y3,y4,y5]).toArray 24)).alloc (.cells (us [m0,m1,m2,m3,m4,m5,i,t0,t1,t2,t3,t4,t5]).toArray 113)).alloc (.cells (us [0,0,0,0,0,0]).toArray 24)
  have B1:=((Blk.new (w.alloc (.cells (us [x0,x1,x2,x3,x4,x5]).toArray 24)) (us [y0,y1,y2,y3,y4,y5]) 24 (w.heap.size + 1) (by simp)).alloc (.cells (us [m0,m1,m2,m3,m4,m5,i,t0,t1,t2,t3,t4,t5]).toArray 113)).alloc (.cells (us [0,0,0,0,0,0]).toArray 24)
  have B2:=(Blk.new ((w.alloc (.cells (us [x0,x1,x2,x3,x4,x5]).toArray 24)).alloc (.cells (us [y0,y1,y2,y3,y4,y5]).toArray 24)) (us [m0,m1,m2,m3,m4,m5,i,t0,t1,t2,t3,t4,t5]) 113 (w.heap.size + 1 + 1) (by simp)).alloc (.cells (us [0,0,0,0,0,0]).toArray 24)
  have B3:=Blk.new (((w.alloc (.cells (us [x0,x1,x2,x3,x4,x5]).toArray 24)).alloc (.cells (us [y0,y1,y2,y3,y4,y5]).toArray 24)).alloc (.cells (us [m0,m1,m2,m3,m4,m5,i,t0,t1,t2,t3,t4,t5]).toArray 113)) (us [0,0,0,0,0,0]) 24 (w.heap.size + 1 + 1 + 1) (by simp)
  have bel:Below w.heap.size w ((((w.alloc (.cells (us [x0,x1,x2,x3,x4,x5]).toArray 24)).alloc (.cells (us [y0,y1,y2,y3,y4,y5]).toArray 24)).alloc (.cells (us [m0,m1,m2,m3,m4,m5,i,t0,t1,t2,t3,t4,t5]).toArray 113)).alloc (.cells (us [0,0,0,0,0,0]).toArray 24)):=((((Below.refl _ _).alloc (Nat.le_refl _) _).alloc (by simp) _).alloc (by simp;omega) _).alloc (by simp;omega) _
  go_enter Tryz.func72,Tryz.ntmps72
  go_wp2_with fail
  simp only [us,List.map_cons,List.map_nil] at B0 B1 B2 B3 bel
  generalize (((w.alloc (Obj.cells #[.int .u64 x0,.int .u64 x1,.int .u64 x2,.int .u64 x3,.int .u64 x4,.int .u64 x5] 24)).alloc (Obj.cells #[.int .u64 y0,.int .u64 y1,.int .u64 y2,.int .u64 y3,.int .u64 y4,.int .u64 y5] 24)).alloc (Obj.cells #[.int .u64 m0,.int .u64 m1,.int .u64 m2,.int .u64 m3,.int .u64 m4,.int .u64 m5,.int .u64 i,.int .u64 t0,.int .u64 t1,.int .u64 t2,.int .u64 t3,.int .u64 t4,.int .u64 t5] 113)).alloc (Obj.cells #[.int .u64 0,.int .u64 0,.int .u64 0,.int .u64 0,.int .u64 0,.int .u64 0] 24)=W at *
  obtain ⟨a0,a1,a2,a3,a4,a5⟩:=B2.cellsM
  obtain ⟨b0,b1,b2,b3,b4,b5,b6⟩:=B2.cellsT
  have hWr:Wr6 W (w.heap.size + 1 + 1 + 1):=Wr6.of B3
  obtain ⟨c0,c1,c2,c3,c4,c5⟩:=B0.cells6
  obtain ⟨d0,d1,d2,d3,d4,d5⟩:=B1.cells6
  clear B0 B1 B2 B3
  go_region_held3 (fun wx=>(wx.cell? ⟨w.heap.size + 1 + 1,0,none⟩=some (.int .u64 m0)∧wx.cell? ⟨w.heap.size + 1 + 1,1,none⟩=some (.int .u64 m1)∧wx.cell? ⟨w.heap.size + 1 + 1,2,none⟩=some (.int .u64 m2)∧wx.cell? ⟨w.heap.size + 1 + 1,3,none⟩=some (.int .u64 m3)∧wx.cell? ⟨w.heap.size + 1 + 1,4,none⟩=some (.int .u64 m4)∧wx.cell? ⟨w.heap.size + 1 + 1,5,none⟩=some (.int .u64 m5)∧wx.cell? ⟨w.heap.size + 1 + 1,6,none⟩=some (.int .u64 i)∧wx.cell? ⟨w.heap.size + 1 + 1,7,none⟩=some (.int .u64 t0)∧wx.cell? ⟨w.heap.size + 1 + 1,8,none⟩=some (.int .u64 t1)∧wx.cell? ⟨w.heap.size + 1 + 1,9,none⟩=some (.int .u64 t2)∧wx.cell? ⟨w.heap.size + 1 + 1,10,none⟩=some (.int .u64 t3)∧wx.cell? ⟨w.heap.size + 1 + 1,11,none⟩=some (.int .u64 t4)∧wx.cell? ⟨w.heap.size + 1 + 1,12,none⟩=some (.int .u64 t5))∧(wx.cell? ⟨w.heap.size,0,none⟩=some (.int .u64 x0)∧wx.cell? ⟨w.heap.size,1,none⟩=some (.int .u64 x1)∧wx.cell? ⟨w.heap.size,2,none⟩=some (.int .u64 x2)∧wx.cell? ⟨w.heap.size,3,none⟩=some (.int .u64 x3)∧wx.cell? ⟨w.heap.size,4,none⟩=some (.int .u64 x4)∧wx.cell? ⟨w.heap.size,5,none⟩=some (.int .u64 x5))∧(wx.cell? ⟨w.heap.size + 1,0,none⟩=some (.int .u64 y0)∧wx.cell? ⟨w.heap.size + 1,1,none⟩=some (.int .u64 y1)∧wx.cell? ⟨w.heap.size + 1,2,none⟩=some (.int .u64 y2)∧wx.cell? ⟨w.heap.size + 1,3,none⟩=some (.int .u64 y3)∧wx.cell? ⟨w.heap.size + 1,4,none⟩=some (.int .u64 y4)∧wx.cell? ⟨w.heap.size + 1,5,none⟩=some (.int .u64 y5))∧Wr6 wx (w.heap.size + 1 + 1 + 1)∧Below w.heap.size w wx)
    (first
      | (go_split_ands;with_reducible exact ⟨⟨cell_far6 (by assumption) (by omega),cell_far6 (by assumption) (by omega),cell_far6 (by assumption) (by omega),cell_far6 (by assumption) (by omega),cell_far6 (by assumption) (by omega),cell_far6 (by assumption) (by omega),cell_far6 (by assumption) (by omega),cell_far6 (by assumption) (by omega),cell_far6 (by assumption) (by omega),cell_far6 (by assumption) (by omega),cell_far6 (by assumption) (by omega),cell_far6 (by assumption) (by omega),cell_far6 (by assumption) (by omega)⟩,⟨cell_far6 (by assumption) (by omega),cell_far6 (by assumption) (by omega),cell_far6 (by assumption) (by omega),cell_far6 (by assumption) (by omega),cell_far6 (by assumption) (by omega),cell_far6 (by assumption) (by omega)⟩,⟨cell_far6 (by assumption) (by omega),cell_far6 (by assumption) (by omega),cell_far6 (by assumption) (by omega),cell_far6 (by assumption) (by omega),cell_far6 (by assumption) (by omega),cell_far6 (by assumption) (by omega)⟩,Wr6.put (by assumption),below_put6 (by assumption) (by omega)⟩)
      | (go_split_ands;with_reducible exact ⟨⟨cell_later (by assumption) hb,cell_later (by assumption) hb,cell_later (by assumption) hb,cell_later (by assumption) hb,cell_later (by assumption) hb,cell_later (by assumption) hb,cell_later (by assumption) hb,cell_later (by assumption) hb,cell_later (by assumption) hb,cell_later (by assumption) hb,cell_later (by assumption) hb,cell_later (by assumption) hb,cell_later (by assumption) hb⟩,⟨cell_later (by assumption) hb,cell_later (by assumption) hb,cell_later (by assumption) hb,cell_later (by assumption) hb,cell_later (by assumption) hb,cell_later (by assumption) hb⟩,⟨cell_later (by assumption) hb,cell_later (by assumption) hb,cell_later (by assumption) hb,cell_later (by assumption) hb,cell_later (by assumption) hb,cell_later (by assumption) hb⟩,Wr6.later (by assumption) hb,below_step (by assumption) hb⟩)
      | (exact ⟨⟨a0,a1,a2,a3,a4,a5,b0,b1,b2,b3,b4,b5,b6⟩,⟨c0,c1,c2,c3,c4,c5⟩,⟨d0,d1,d2,d3,d4,d5⟩,hWr.drew,bel.drew⟩))
    (first
      | (go_at_call 92;refine (mulR6 fR fT HM.out).mono ?_;rintro e w' ⟨z0,z1,z2,z3,z4,z5,rfl,fZ,hZ,hE,hb⟩;have hv:=mul_end HM.out rfl HR.out (v6_bound _ rfl fZ).1 hZ hE;have HV:Hid _:=hv;clear hZ hE hv;obtain ⟨g0,g1,g2,g3,g4,g5,⟨h0,h1,h2,h3,h4,h5⟩,⟨f0,f1,f2,f3,f4,f5⟩⟩:=(Wr6.later (b:=w.heap.size + 1 + 1 + 1) (by go_split_ands;assumption) hb).cells)
      | (go_at_call 92;refine (mulR6 fX fY HM.out).mono ?_;rintro e w' ⟨r0,r1,r2,r3,r4,r5,rfl,fR,hR,hE,hb⟩;have HR:Hid _:=hE;clear hE hR))
  all_goals go_split_ands
  all_goals go_wp2
  all_goals exact bodyPost_ret (v:=.agg #[.int .u64 z0,.int .u64 z1,.int .u64 z2,.int .u64 z3,.int .u64 z4,.int .u64 z5]) (by simp [results,Tryz.results72,go_sem,h0,h1,h2,h3,h4,h5]) rfl ⟨z0,z1,z2,z3,z4,z5,rfl,fZ,HV.out,by assumption⟩
theorem rest_lt {M i x r:Int} {L T:List Int} (hm:IsMod L i T) (hM:v64 L=M) (h:r=x % M):r < M:=by
 subst hM
 have h0:=(v6_bound L hm.lM hm.fM).1
 have h1:=hm.odd
 rw [h];exact Int.emod_lt_of_pos _ (by omega)
theorem add_rest {M x y r s z:Int} (hr:r=x % M) (hs:s=y % M) (hz:z=(r + s) % M):z=(x + y) % M:=by
 rw [hz,hr,hs,← Int.add_emod]
set_option maxRecDepth 100000 in
set_option maxHeartbeats 2000000 in
theorem addm6 {x0 x1 x2 x3 x4 x5 y0 y1 y2 y3 y4 y5 m0 m1 m2 m3 m4 m5 i t0 t1 t2 t3 t4 t5:Int} {w:World} (fX:fits [x0,x1,x2,x3,x4,x5]) (fY:fits [y0,y1,y2,y3,y4,y5]) (hm:IsMod [m0,m1,m2,m3,m4,m5] i [t0,t1,t2,t3,t4,t5]) :
    Calls Tryz.prog 75 #[.agg #[.int .u64 x0,.int .u64 x1,.int .u64 x2,.int .u64 x3,.int .u64 x4,.int .u64 x5],.agg #[.int .u64 y0,.int .u64 y1,.int .u64 y2,.int .u64 y3,.int .u64 y4,.int .u64 y5],.agg #[.int .u64 m0,.int .u64 m1,.int .u64 m2,.int .u64 m3,.int .u64 m4,.int .u64 m5,.int .u64 i,.int .u64 t0,.int .u64 t1,.int .u64 t2,.int .u64 t3,.int .u64 t4,.int .u64 t5]] w fun e w'=>∃ z0 z1 z2 z3 z4 z5:Int,e=.returned (.agg #[.int .u64 z0,.int .u64 z1,.int .u64 z2,.int .u64 z3,.int .u64 z4,.int .u64 z5])∧fits [z0,z1,z2,z3,z4,z5]∧v64 [z0,z1,z2,z3,z4,z5]=(v64 [x0,x1,x2,x3,x4,x5] + v64 [y0,y1,y2,y3,y4,y5]) % v64 [m0,m1,m2,m3,m4,m5]∧Below w.heap.size w w':=by
  have HM:Hid _:=hm
  have fM:=hm.fM
  have HB:Hid _:=hm.big
  clear hm
  have B0:=(((Blk.new w (us [x0,x1,x2,x3,x4,x5]) 24 w.heap.size rfl).alloc (.cells (us [y0,y1,y2,y3,y4,y5]).toArray 24)).alloc (.cells (us [m0,m1,m2,m3,m4,m5,i,t0,t1,t2,t3,t4,t5]).toArray 113)).alloc (.cells (us [0,0,0,0,0,0]).toArray 24)
  have B1:=((Blk.new (w.alloc (.cells (us [x0,x1,x2,x3,x4,x5]).toArray 24)) (us [y0,y1,y2,y3,y4,y5]) 24 (w.heap.size + 1) (by simp)).alloc (.cells (us [m0,m1,m2,m3,m4,m5,i,t0,t1,t2,t3,t4,t5]).toArray 113)).alloc (.cells (us [0,0,0,0,0,0]).toArray 24)
  have B2:=(Blk.new ((w.alloc (.cells (us [x0,x1,x2,x3,x4,x5]).toArray 24)).alloc (.cells (us [y0,y1,y2,y3,y4,y5]).toArray 24)) (us [m0,m1,m2,m3,m4,m5,i,t0,t1,t2,t3,t4,t5]) 113 (w.heap.size + 1 + 1) (by simp)).alloc (.cells (us [0,0,0,0,0,0]).toArray 24)
  have B3:=Blk.new (((w.alloc (.cells (us [x0,x1,x2,x3,x4,x5]).toArray 24)).alloc (.cells (us [y0,y1,y2,y3,y4,y5]).toArray 24)).alloc (.cells (us [m0,m1,m2,m3,m4,m5,i,t0,t1,t2,t3,t4,t5]).toArray 113)) (us [0,0,0,0,0,0]) 24 (w.heap.size + 1 + 1 + 1) (by simp)
  have bel:Below w.heap.size w ((((w.alloc (.cells (us [x0,x1,x2,x3,x4,x5]).toArray 24)).alloc (.cells (us [y0,y1,y2,y3,y4,y5]).toArray 24)).alloc (.cells (us [m0,m1,m2,m3,m4,m5,i,t0,t1,t2,t3,t4,t5]).toArray 113)).alloc (.cells (us [0,0,0,0,0,0]).toArray 24)):=((((Below.refl _ _).alloc (Nat.le_refl _) _).alloc (by simp) _).alloc (by simp;omega) _).alloc (by simp;omega) _
  go_enter Tryz.func75,Tryz.ntmps75
  go_wp2_with fail
  simp only [us,List.map_cons,List.map_nil] at B0 B1 B2 B3 bel
  generalize (((w.alloc (Obj.cells #[.int .u64 x0,.int .u64 x1,.int .u64 x2,.int .u64 x3,.int .u64 x4,.int .u64 x5] 24)).alloc (Obj.cells #[.int .u64 y0,.int .u64 y1,.int .u64 y2,.int .u64 y3,.int .u64 y4,.int .u64 y5] 24)).alloc (Obj.cells #[.int .u64 m0,.int .u64 m1,.int .u64 m2,.int .u64 m3,.int .u64 m4,.int .u64 m5,.int .u64 i,.int .u64 t0,.int .u64 t1,.int .u64 t2,.int .u64 t3,.int .u64 t4,.int .u64 t5] 113)).alloc (Obj.cells #[.int .u64 0,.int .u64 0,.int .u64 0,.int .u64 0,.int .u64 0,.int .u64 0] 24)=W at *
  obtain ⟨a0,a1,a2,a3,a4,a5⟩:=B2.cellsM
  have hWr:Wr6 W (w.heap.size + 1 + 1 + 1):=Wr6.of B3
  obtain ⟨c0,c1,c2,c3,c4,c5⟩:=B0.cells6
  obtain ⟨d0,d1,d2,d3,d4,d5⟩:=B1.cells6
  clear B0 B1 B2 B3
  go_region_held3 (fun wx=>(wx.cell? ⟨w.heap.size + 1 + 1,0,none⟩=some (.int .u64 m0)∧wx.cell? ⟨w.heap.size + 1 + 1,1,none⟩=some (.int .u64 m1)∧wx.cell? ⟨w.heap.size + 1 + 1,2,none⟩=some (.int .u64 m2)∧wx.cell? ⟨w.heap.size + 1 + 1,3,none⟩=some (.int .u64 m3)∧wx.cell? ⟨w.heap.size + 1 + 1,4,none⟩=some (.int .u64 m4)∧wx.cell? ⟨w.heap.size + 1 + 1,5,none⟩=some (.int .u64 m5))∧(wx.cell? ⟨w.heap.size,0,none⟩=some (.int .u64 x0)∧wx.cell? ⟨w.heap.size,1,none⟩=some (.int .u64 x1)∧wx.cell? ⟨w.heap.size,2,none⟩=some (.int .u64 x2)∧wx.cell? ⟨w.heap.size,3,none⟩=some (.int .u64 x3)∧wx.cell? ⟨w.heap.size,4,none⟩=some (.int .u64 x4)∧wx.cell? ⟨w.heap.size,5,none⟩=some (.int .u64 x5))∧(wx.cell? ⟨w.heap.size + 1,0,none⟩=some (.int .u64 y0)∧wx.cell? ⟨w.heap.size + 1,1,none⟩=some (.int .u64 y1)∧wx.cell? ⟨w.heap.size + 1,2,none⟩=some (.int .u64 y2)∧wx.cell? ⟨w.heap.size + 1,3,none⟩=some (.int .u64 y3)∧wx.cell? ⟨w.heap.size + 1,4,none⟩=some (.int .u64 y4)∧wx.cell? ⟨w.heap.size + 1,5,none⟩=some (.int .u64 y5))∧Wr6 wx (w.heap.size + 1 + 1 + 1)∧Below w.heap.size w wx)
    (first
      | (go_split_ands;with_reducible exact ⟨⟨cell_far6 (by assumption) (by omega),cell_far6 (by assumption) (by omega),cell_far6 (by assumption) (by omega),cell_far6 (by assumption) (by omega),cell_far6 (by assumption) (by omega),cell_far6 (by assumption) (by omega)⟩,⟨cell_far6 (by assumption) (by omega),cell_far6 (by assumption) (by omega),cell_far6 (by assumption) (by omega),cell_far6 (by assumption) (by omega),cell_far6 (by assumption) (by omega),cell_far6 (by assumption) (by omega)⟩,⟨cell_far6 (by assumption) (by omega),cell_far6 (by assumption) (by omega),cell_far6 (by assumption) (by omega),cell_far6 (by assumption) (by omega),cell_far6 (by assumption) (by omega),cell_far6 (by assumption) (by omega)⟩,Wr6.put (by assumption),below_put6 (by assumption) (by omega)⟩)
      | (go_split_ands;with_reducible exact ⟨⟨cell_later (by assumption) hb,cell_later (by assumption) hb,cell_later (by assumption) hb,cell_later (by assumption) hb,cell_later (by assumption) hb,cell_later (by assumption) hb⟩,⟨cell_later (by assumption) hb,cell_later (by assumption) hb,cell_later (by assumption) hb,cell_later (by assumption) hb,cell_later (by assumption) hb,cell_later (by assumption) hb⟩,⟨cell_later (by assumption) hb,cell_later (by assumption) hb,cell_later (by assumption) hb,cell_later (by assumption) hb,cell_later (by assumption) hb,cell_later (by assumption) hb⟩,Wr6.later (by assumption) hb,below_step (by assumption) hb⟩)
      | (exact ⟨⟨a0,a1,a2,a3,a4,a5⟩,⟨c0,c1,c2,c3,c4,c5⟩,⟨d0,d1,d2,d3,d4,d5⟩,hWr.drew,bel.drew⟩))
    (first
      | (go_at_call 93;refine (rest6 fX fM HB.out).mono ?_;rintro e w' ⟨r0,r1,r2,r3,r4,r5,rfl,fR,hR,hb⟩;have HR:Hid _:=hR;clear hR)
      | (go_at_call 93;refine (rest6 fY fM HB.out).mono ?_;rintro e w' ⟨s0,s1,s2,s3,s4,s5,rfl,fS,hS,hb⟩;have HS:Hid _:=hS;clear hS)
      | (go_at_call 95;refine (addRests6 fR fS fM (rest_lt HM.out rfl HR.out) (rest_lt HM.out rfl HS.out)).mono ?_;rintro e w' ⟨z0,z1,z2,z3,z4,z5,rfl,fZ,hZ,hb⟩;have HV:Hid _:=add_rest HR.out HS.out hZ;clear hZ;obtain ⟨g0,g1,g2,g3,g4,g5,⟨h0,h1,h2,h3,h4,h5⟩,⟨f0,f1,f2,f3,f4,f5⟩⟩:=(Wr6.later (b:=w.heap.size + 1 + 1 + 1) (by go_split_ands;assumption) hb).cells))
  all_goals go_split_ands
  all_goals go_wp2
  all_goals exact bodyPost_ret (v:=.agg #[.int .u64 z0,.int .u64 z1,.int .u64 z2,.int .u64 z3,.int .u64 z4,.int .u64 z5]) (by simp [results,Tryz.results75,go_sem,h0,h1,h2,h3,h4,h5]) rfl ⟨z0,z1,z2,z3,z4,z5,rfl,fZ,HV.out,by assumption⟩
theorem sub_rest {R M x y r s l a k n:Int} (hM:0 < M) (hr:r=x % M) (hs:s=y % M) (k0:0≤k) (k1:k≤1) (n0:0≤n) (n1:n≤1) (hl:l - k * R=r - s) (ha:a + n * R=l + M) (bl:0≤l∧l < R) (ba:0≤a∧a < R) :
  (if k=1 then a else l)=(x - y) % M:=by
 have e:(x - y) % M=(r - s) % M:=by rw [hr,hs,← Int.sub_emod]
 have r0:0≤r:=by rw [hr];exact Int.emod_nonneg _ (by omega)
 have r1:r < M:=by rw [hr];exact Int.emod_lt_of_pos _ hM
 have s0:0≤s:=by rw [hs];exact Int.emod_nonneg _ (by omega)
 have s1:s < M:=by rw [hs];exact Int.emod_lt_of_pos _ hM
 rw [e]
 clear e hr hs
 have hk:k=0∨k=1:=by omega
 have hn:n=0∨n=1:=by omega
 rcases hk with rfl|rfl
 ·rw [if_neg (by omega),Int.emod_eq_of_lt (by omega) (by omega)];omega
 ·rw [if_pos rfl,show r - s=r - s + M - M by omega,Int.sub_emod_right,Int.emod_eq_of_lt (by rcases hn with rfl|rfl<;>omega) (by omega)]
  rcases hn with rfl|rfl<;>omega
theorem sub_pick {A L Z:List Int} {k o:Int} (k0:0≤k) (k1:k≤1) (hp:pk k L A=Z) (h:(if k=1 then v64 A else v64 L)=o):v64 Z=o:=by
 rw [← hp,← h]
 unfold pk oddB
 have hk:k=0∨k=1:=by omega
 rcases hk with rfl|rfl<;>simp
set_option maxRecDepth 100000 in
set_option maxHeartbeats 4000000 in
theorem subm6 {x0 x1 x2 x3 x4 x5 y0 y1 y2 y3 y4 y5 m0 m1 m2 m3 m4 m5 i t0 t1 t2 t3 t4 t5:Int} {w:World} (fX:fits [x0,x1,x2,x3,x4,x5]) (fY:fits [y0,y1,y2,y3,y4,y5]) (hm:IsMod [m0,m1,m2,m3,m4,m5] i [t0,t1,t2,t3,t4,t5]) :
    Calls Tryz.prog 74 #[.agg #[.int .u64 x0,.int .u64 x1,.int .u64 x2,.int .u64 x3,.int .u64 x4,.int .u64 x5],.agg #[.int .u64 y0,.int .u64 y1,.int .u64 y2,.int .u64 y3,.int .u64 y4,.int .u64 y5],.agg #[.int .u64 m0,.int .u64 m1,.int .u64 m2,.int .u64 m3,.int .u64 m4,.int .u64 m5,.int .u64 i,.int .u64 t0,.int .u64 t1,.int .u64 t2,.int .u64 t3,.int .u64 t4,.int .u64 t5]] w fun e w'=>∃ z0 z1 z2 z3 z4 z5:Int,e=.returned (.agg #[.int .u64 z0,.int .u64 z1,.int .u64 z2,.int .u64 z3,.int .u64 z4,.int .u64 z5])∧fits [z0,z1,z2,z3,z4,z5]∧v64 [z0,z1,z2,z3,z4,z5]=(v64 [x0,x1,x2,x3,x4,x5] - v64 [y0,y1,y2,y3,y4,y5]) % v64 [m0,m1,m2,m3,m4,m5]∧Below w.heap.size w w':=by
  have HM:Hid _:=hm
  have fM:=hm.fM
  have HB:Hid _:=hm.big
  clear hm
  have B0:=(((Blk.new w (us [x0,x1,x2,x3,x4,x5]) 24 w.heap.size rfl).alloc (.cells (us [y0,y1,y2,y3,y4,y5]).toArray 24)).alloc (.cells (us [m0,m1,m2,m3,m4,m5,i,t0,t1,t2,t3,t4,t5]).toArray 113)).alloc (.cells (us [0,0,0,0,0,0]).toArray 24)
  have B1:=((Blk.new (w.alloc (.cells (us [x0,x1,x2,x3,x4,x5]).toArray 24)) (us [y0,y1,y2,y3,y4,y5]) 24 (w.heap.size + 1) (by simp)).alloc (.cells (us [m0,m1,m2,m3,m4,m5,i,t0,t1,t2,t3,t4,t5]).toArray 113)).alloc (.cells (us [0,0,0,0,0,0]).toArray 24)
  have B2:=(Blk.new ((w.alloc (.cells (us [x0,x1,x2,x3,x4,x5]).toArray 24)).alloc (.cells (us [y0,y1,y2,y3,y4,y5]).toArray 24)) (us [m0,m1,m2,m3,m4,m5,i,t0,t1,t2,t3,t4,t5]) 113 (w.heap.size + 1 + 1) (by simp)).alloc (.cells (us [0,0,0,0,0,0]).toArray 24)
  have B3:=Blk.new (((w.alloc (.cells (us [x0,x1,x2,x3,x4,x5]).toArray 24)).alloc (.cells (us [y0,y1,y2,y3,y4,y5]).toArray 24)).alloc (.cells (us [m0,m1,m2,m3,m4,m5,i,t0,t1,t2,t3,t4,t5]).toArray 113)) (us [0,0,0,0,0,0]) 24 (w.heap.size + 1 + 1 + 1) (by simp)
  have bel:Below w.heap.size w ((((w.alloc (.cells (us [x0,x1,x2,x3,x4,x5]).toArray 24)).alloc (.cells (us [y0,y1,y2,y3,y4,y5]).toArray 24)).alloc (.cells (us [m0,m1,m2,m3,m4,m5,i,t0,t1,t2,t3,t4,t5]).toArray 113)).alloc (.cells (us [0,0,0,0,0,0]).toArray 24)):=((((Below.refl _ _).alloc (Nat.le_refl _) _).alloc (by simp) _).alloc (by simp;omega) _).alloc (by simp;omega) _
  go_enter Tryz.func74,Tryz.ntmps74
  go_wp2_with fail
  simp only [us,List.map_cons,List.map_nil] at B0 B1 B2 B3 bel
  generalize (((w.alloc (Obj.cells #[.int .u64 x0,.int .u64 x1,.int .u64 x2,.int .u64 x3,.int .u64 x4,.int .u64 x5] 24)).alloc (Obj.cells #[.int .u64 y0,.int .u64 y1,.int .u64 y2,.int .u64 y3,.int .u64 y4,.int .u64 y5] 24)).alloc (Obj.cells #[.int .u64 m0,.int .u64 m1,.int .u64 m2,.int .u64 m3,.int .u64 m4,.int .u64 m5,.int .u64 i,.int .u64 t0,.int .u64 t1,.int .u64 t2,.int .u64 t3,.int .u64 t4,.int .u64 t5] 113)).alloc (Obj.cells #[.int .u64 0,.int .u64 0,.int .u64 0,.int .u64 0,.int .u64 0,.int .u64 0] 24)=W at *
  have W3:Wr6 W (w.heap.size + 1 + 1 + 1):=Wr6.of B3
  obtain ⟨S,hS,KL,KA,KD,KS,KP,KN,KB,KM,KW⟩:=held_mk (w0:=w) (W:=W) [(w.heap.size,[x0,x1,x2,x3,x4,x5]),(w.heap.size + 1,[y0,y1,y2,y3,y4,y5]),(w.heap.size + 1 + 1,[m0,m1,m2,m3,m4,m5,i,t0,t1,t2,t3,t4,t5])] [w.heap.size + 1 + 1 + 1] (by
    intro b X h
    simp only [List.mem_cons,List.not_mem_nil,or_false,Prod.mk.injEq] at h
    rcases h with ⟨rfl,rfl⟩|⟨rfl,rfl⟩|⟨rfl,rfl⟩
    · exact B0
    · exact B1
    · exact B2) (by
    intro b h
    simp only [List.mem_cons,List.not_mem_nil,or_false] at h
    subst h
    exact W3) (by
    intro b X h
    simp only [List.mem_cons,List.not_mem_nil,or_false,Prod.mk.injEq] at h ⊢
    omega) bel
  obtain ⟨a0,a1,a2,a3,a4,a5,a6⟩:=rule6 (S:=Hd S) (b:=w.heap.size) (x0:=x0) (x1:=x1) (x2:=x2) (x3:=x3) (x4:=x4) (x5:=x5) (fun wx h=>KM.out wx _ _ h (by simp))
  obtain ⟨b0,b1,b2,b3,b4,b5,b6⟩:=rule6 (S:=Hd S) (b:=w.heap.size + 1) (x0:=y0) (x1:=y1) (x2:=y2) (x3:=y3) (x4:=y4) (x5:=y5) (fun wx h=>KM.out wx _ _ h (by simp))
  obtain ⟨c0,c1,c2,c3,c4,c5,c6,c7,c8,c9,c10,c11,c12,c13⟩:=rule13 (S:=Hd S) (b:=w.heap.size + 1 + 1) (m0:=m0) (m1:=m1) (m2:=m2) (m3:=m3) (m4:=m4) (m5:=m5) (i:=i) (t0:=t0) (t1:=t1) (t2:=t2) (t3:=t3) (t4:=t4) (t5:=t5) (fun wx h=>KM.out wx _ _ h (by simp))
  obtain ⟨⟨d0,d1,d2,d3,d4,d5⟩,⟨f0,f1,f2,f3,f4,f5⟩,dlt⟩:=ruleW (S:=Hd S) (b:=w.heap.size + 1 + 1 + 1) (fun wx h=>KW.out wx _ h (by simp))
  have hlt0:w.heap.size + 1 + 1 + 1 < W.heap.size:=W3.lt
  clear B0 B1 B2 B3 W3 bel
  go_upto_region 1 with fail
  go_cut [7,8] (fun less bor wx=>∃ (b:Nat) (l0 l1 l2 l3 l4 l5 k:Int),less=.pointer (some ⟨b,0,none⟩)∧bor=.int .u64 k∧W.heap.size≤b∧0≤k∧k≤1∧fits [l0,l1,l2,l3,l4,l5]∧Hid (v64 [l0,l1,l2,l3,l4,l5] - k * 18446744073709551616 ^ 6=v64 [x0,x1,x2,x3,x4,x5] % v64 [m0,m1,m2,m3,m4,m5] - v64 [y0,y1,y2,y3,y4,y5] % v64 [m0,m1,m2,m3,m4,m5])∧Blk wx b (us [l0,l1,l2,l3,l4,l5])∧Hd S wx)
  case first =>
    go_region_held3 (Hd S)
      (first
          | with_reducible exact KP.out _ _ _ _ _ _ _ _ (by assumption) (by first|(right;simp;done)|(left;omega)) (by omega)
          | with_reducible exact KL.out _ _ (by assumption) hb
          | with_reducible exact KA.out _ _ (by assumption)
          | with_reducible exact KS.out _ _ _ (by omega) (by assumption)
          | with_reducible exact KD.out _ hS
          | with_reducible exact KD.out _ (KA.out _ _ hS))
      (first
        | (go_at_call 93;refine (rest6 fX fM HB.out).mono ?_;rintro e w' ⟨r0,r1,r2,r3,r4,r5,rfl,fR,hR,hb⟩;have HR:Hid _:=hR;clear hR;(first|replace BN:=BN.later hb|with_reducible have BN:=Wr6.later Wr6.new hb|with_reducible have BN:=Wr6.later (Wr6.drew Wr6.new) hb|skip);have hlt:=KN.out _ (KL.out _ _ (by assumption) hb))
        | (go_at_call 93;refine (rest6 fY fM HB.out).mono ?_;rintro e w' ⟨s0,s1,s2,s3,s4,s5,rfl,fS,hQ,hb⟩;have HS:Hid _:=hQ;clear hQ;(first|replace BN:=BN.later hb|with_reducible have BN:=Wr6.later Wr6.new hb|with_reducible have BN:=Wr6.later (Wr6.drew Wr6.new) hb|skip);have hlt:=KN.out _ (KL.out _ _ (by assumption) hb))
        | (go_at_call 71;refine (sub6 fR fS).mono ?_;rintro e w' ⟨l0,l1,l2,l3,l4,l5,k,rfl,fL,k0,k1,hl,hb⟩;rw [HR.out,HS.out] at hl;have HL:Hid _:=hl;clear hl;(first|replace BN:=BN.later hb|with_reducible have BN:=Wr6.later Wr6.new hb|with_reducible have BN:=Wr6.later (Wr6.drew Wr6.new) hb|skip);have hlt:=KN.out _ (KL.out _ _ (by assumption) hb);(first|(obtain ⟨q0,q1,q2,q3,q4,q5,⟨j0,j1,j2,j3,j4,j5⟩,⟨n0,n1,n2,n3,n4,n5⟩⟩:=BN.cells)|skip)))
    all_goals
      go_wp2_with fail
      go_meet
      refine ⟨_,l0,l1,l2,l3,l4,l5,k,rfl,rfl,by omega,k0,k1,fL,HL,?_,by with_reducible assumption⟩
      first
        | with_reducible exact Wr6.is BN
        | exact Blk.new w' (us [l0,l1,l2,l3,l4,l5]) 24 w'.heap.size rfl
  case rest =>
    obtain ⟨b,l0,l1,l2,l3,l4,l5,k,rfl,rfl,hNb,k0,k1,fL,HL,BL,hc⟩:=hcut
    obtain ⟨e0,e1,e2,e3,e4,e5⟩:=BL.cells6
    go_wp2_with fail
    refine (add6 fL fM).mono ?_
    rintro e w2 ⟨o0,o1,o2,o3,o4,o5,n,rfl,fO,n0,n1,ho,hb⟩
    have BL2:=BL.later hb
    have hc2:=KL.out _ _ hc hb
    have bM:=v6_bound _ rfl fM
    have hv:=sub_rest (by
      have:=HM.out.odd
      generalize v64 [m0,m1,m2,m3,m4,m5]=X at *
      omega) rfl rfl k0 k1 n0 n1 HL.out ho (v6_bound _ rfl fL) (v6_bound _ rfl fO)
    have HV:Hid _:=hv
    clear hv ho bM hb e0 e1 e2 e3 e4 e5 BL hc
    have ltL:=BL2.lt
    obtain ⟨e0,e1,e2,e3,e4,e5⟩:=BL2.cells6
    go_wp2_with fail
    refine (pick6 ⟨k0,by omega⟩ fL fO).mono ?_
    rintro e w3 ⟨z0,z1,z2,z3,z4,z5,rfl,hp,fZ,hb⟩
    have HZ:Hid _:=sub_pick k0 k1 hp HV.out
    have hc3:=KL.out _ _ (KA.out _ _ hc2) hb
    clear hp hb e0 e1 e2 e3 e4 e5 BL2 ltL
    go_wp2_with fail
    exact bodyPost_ret (v:=.agg #[.int .u64 z0,.int .u64 z1,.int .u64 z2,.int .u64 z3,.int .u64 z4,.int .u64 z5]) (by simp [results,Tryz.results74,go_sem,d0 _ hc3,d1 _ hc3,d2 _ hc3,d3 _ hc3,d4 _ hc3,d5 _ hc3]) rfl ⟨z0,z1,z2,z3,z4,z5,rfl,fZ,HZ.out,below_put6 (KB.out _ hc3) (by omega)⟩
end Go.Proofs.YtlkljfnenonfgaaGreatDoor
