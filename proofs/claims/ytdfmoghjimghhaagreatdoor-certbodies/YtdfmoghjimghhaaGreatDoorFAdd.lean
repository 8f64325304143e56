import Derived.Test.YtdfmoghjimghhaaGreatDoorBase
import Derived.Test.YtdfmoghjimghhaaGreatDoorCRef
import Derived.Test.YtdfmoghjimghhaaGreatDoorMMul
import Derived.Test.YtdfmoghjimghhaaGreatDoorRows
import Derived.Deep.RegionHeld3
import Derived.Deep.DeepCutAuto
import Derived.Deep.DeepFit
namespace Go.Proofs.YtdfmoghjimghhaaGreatDoor
open Go.RowKit
set_option linter.unusedSimpArgs false
set_option maxRecDepth 100000
set_option maxHeartbeats 2000000
def Gls (w:World):Prop:=(w.cell? ⟨4,0,none⟩=some (.int .u64 4294967295)∧w.cell? ⟨4,1,none⟩=some (.int .u64 18446744069414584320)∧w.cell? ⟨4,2,none⟩=some (.int .u64 18446744073709551614)∧w.cell? ⟨4,3,none⟩=some (.int .u64 18446744073709551615)∧w.cell? ⟨4,4,none⟩=some (.int .u64 18446744073709551615)∧w.cell? ⟨4,5,none⟩=some (.int .u64 18446744073709551615))∧(w.cell? ⟨5,0,none⟩=some (.int .u64 18446744065119617025)∧w.cell? ⟨5,1,none⟩=some (.int .u64 8589934592)∧w.cell? ⟨5,2,none⟩=some (.int .u64 18446744065119617024)∧w.cell? ⟨5,3,none⟩=some (.int .u64 8589934592)∧w.cell? ⟨5,4,none⟩=some (.int .u64 1)∧w.cell? ⟨5,5,none⟩=some (.int .u64 0))
theorem Gls.below {w w':World} (G:Gls w) (hb:Below w.heap.size w w'):Gls w':=by
 obtain⟨⟨a0,a1,a2,a3,a4,a5⟩,⟨b0,b1,b2,b3,b4,b5⟩⟩:=G;exact ⟨⟨Zah a0 hb,Zah a1 hb,Zah a2 hb,Zah a3 hb,Zah a4 hb,Zah a5 hb⟩,⟨Zah b0 hb,Zah b1 hb,Zah b2 hb,Zah b3 hb,Zah b4 hb,Zah b5 hb⟩⟩
theorem Gls.lts {w:World} (G:Gls w):4<w.heap.size∧5<w.heap.size :=
 ⟨World.block_lt_of_cell? w _ G.1.1,World.block_lt_of_cell? w _ G.2.1⟩
theorem ZmA {m0 m1 m2 m3 m4 m5 t0 t1 t2 t3 t4 t5:Int} {w:World} (l0:4<w.heap.size) (l1:5<w.heap.size) (a0:w.cell? ⟨4,0,none⟩=some (.int .u64 m0)) (a1:w.cell? ⟨4,1,none⟩=some (.int .u64 m1)) (a2:w.cell? ⟨4,2,none⟩=some (.int .u64 m2)) (a3:w.cell? ⟨4,3,none⟩=some (.int .u64 m3)) (a4:w.cell? ⟨4,4,none⟩=some (.int .u64 m4)) (a5:w.cell? ⟨4,5,none⟩=some (.int .u64 m5)) (b0:w.cell? ⟨5,0,none⟩=some (.int .u64 t0)) (b1:w.cell? ⟨5,1,none⟩=some (.int .u64 t1)) (b2:w.cell? ⟨5,2,none⟩=some (.int .u64 t2)) (b3:w.cell? ⟨5,3,none⟩=some (.int .u64 t3)) (b4:w.cell? ⟨5,4,none⟩=some (.int .u64 t4)) (b5:w.cell? ⟨5,5,none⟩=some (.int .u64 t5)) :
  Calls Tryz.prog 254 #[] w fun e w'=>e=.returned (.agg #[.int .u64 m0,.int .u64 m1,.int .u64 m2,.int .u64 m3,.int .u64 m4,.int .u64 m5,.int .u64 4294967297,.int .u64 t0,.int .u64 t1,.int .u64 t2,.int .u64 t3,.int .u64 t4,.int .u64 t5])∧Below w.heap.size w w':=by
 go_enter Tryz.func254,Tryz.ntmps254;go_wp2;exact bodyPost_ret (v:=.agg #[.int .u64 m0,.int .u64 m1,.int .u64 m2,.int .u64 m3,.int .u64 m4,.int .u64 m5,.int .u64 4294967297,.int .u64 t0,.int .u64 t1,.int .u64 t2,.int .u64 t3,.int .u64 t4,.int .u64 t5]) (by simp[results,Tryz.results254,go_sem]) rfl ⟨rfl,(Below.refl _ _).alloc (Nat.le_refl _) _⟩
theorem fmod {w:World} (G:Gls w) :
  Calls Tryz.prog 254 #[] w fun e w'=>e=.returned (.agg #[.int .u64 4294967295,.int .u64 18446744069414584320,.int .u64 18446744073709551614,.int .u64 18446744073709551615,.int .u64 18446744073709551615,.int .u64 18446744073709551615,.int .u64 4294967297,.int .u64 18446744065119617025,.int .u64 8589934592,.int .u64 18446744065119617024,.int .u64 8589934592,.int .u64 1,.int .u64 0])∧Below w.heap.size w w' :=
 ZmA G.lts.1 G.lts.2 G.1.1 G.1.2.1 G.1.2.2.1 G.1.2.2.2.1 G.1.2.2.2.2.1 G.1.2.2.2.2.2 G.2.1 G.2.2.1 G.2.2.2.1 G.2.2.2.2.1 G.2.2.2.2.2.1 G.2.2.2.2.2.2
theorem fp_any {m0 m1 m2 m3 m4 m5:Int} {w:World} (l0:4<w.heap.size) (a0:w.cell? ⟨4,0,none⟩=some (.int .u64 m0)) (a1:w.cell? ⟨4,1,none⟩=some (.int .u64 m1)) (a2:w.cell? ⟨4,2,none⟩=some (.int .u64 m2)) (a3:w.cell? ⟨4,3,none⟩=some (.int .u64 m3)) (a4:w.cell? ⟨4,4,none⟩=some (.int .u64 m4)) (a5:w.cell? ⟨4,5,none⟩=some (.int .u64 m5)) :
  Calls Tryz.prog 235 #[] w fun e w'=>e=.returned (.agg #[.int .u64 m0,.int .u64 m1,.int .u64 m2,.int .u64 m3,.int .u64 m4,.int .u64 m5])∧Below w.heap.size w w':=by
 go_enter Tryz.func235,Tryz.ntmps235;go_wp2;exact bodyPost_ret (v:=.agg #[.int .u64 m0,.int .u64 m1,.int .u64 m2,.int .u64 m3,.int .u64 m4,.int .u64 m5]) (by simp[results,Tryz.results235,go_sem]) rfl ⟨rfl,(Below.refl _ _).alloc (Nat.le_refl _) _⟩
theorem fp {w:World} (G:Gls w) :
  Calls Tryz.prog 235 #[] w fun e w'=>e=.returned (.agg #[.int .u64 4294967295,.int .u64 18446744069414584320,.int .u64 18446744073709551614,.int .u64 18446744073709551615,.int .u64 18446744073709551615,.int .u64 18446744073709551615])∧Below w.heap.size w w' :=
 fp_any G.lts.1 G.1.1 G.1.2.1 G.1.2.2.1 G.1.2.2.2.1 G.1.2.2.2.2.1 G.1.2.2.2.2.2
theorem fadd6 {x0 x1 x2 x3 x4 x5 y0 y1 y2 y3 y4 y5:Int} {w:World} (G:Gls w) (fX:Zaz [x0,x1,x2,x3,x4,x5]) (fY:Zaz [y0,y1,y2,y3,y4,y5]) :
    Calls Tryz.prog 236 #[.agg #[.int .u64 x0,.int .u64 x1,.int .u64 x2,.int .u64 x3,.int .u64 x4,.int .u64 x5],.agg #[.int .u64 y0,.int .u64 y1,.int .u64 y2,.int .u64 y3,.int .u64 y4,.int .u64 y5]] w fun e w'=>∃ z0 z1 z2 z3 z4 z5:Int,e=.returned (.agg #[.int .u64 z0,.int .u64 z1,.int .u64 z2,.int .u64 z3,.int .u64 z4,.int .u64 z5])∧Zaz [z0,z1,z2,z3,z4,z5]∧v64 [z0,z1,z2,z3,z4,z5]=(v64 [x0,x1,x2,x3,x4,x5]+v64 [y0,y1,y2,y3,y4,y5])%PP∧Below w.heap.size w w':=by
  have B0:=((Blk.new w (us [x0,x1,x2,x3,x4,x5]) 27 (w.heap.size) rfl).alloc (.cells (us [y0,y1,y2,y3,y4,y5]).toArray 27)).alloc (.cells (us [0,0,0,0,0,0]).toArray 27);have B1:=(Blk.new (w.alloc (.cells (us [x0,x1,x2,x3,x4,x5]).toArray 27)) (us [y0,y1,y2,y3,y4,y5]) 27 (w.heap.size+1) (by simp)).alloc (.cells (us [0,0,0,0,0,0]).toArray 27);have B2:=Blk.new ((w.alloc (.cells (us [x0,x1,x2,x3,x4,x5]).toArray 27)).alloc (.cells (us [y0,y1,y2,y3,y4,y5]).toArray 27)) (us [0,0,0,0,0,0]) 27 (w.heap.size+1+1) (by simp);have bel:Below w.heap.size w (((w.alloc (.cells (us [x0,x1,x2,x3,x4,x5]).toArray 27)).alloc (.cells (us [y0,y1,y2,y3,y4,y5]).toArray 27)).alloc (.cells (us [0,0,0,0,0,0]).toArray 27)):=(((Below.refl _ _).alloc (Nat.le_refl _) _).alloc (by simp) _).alloc (by simp;omega) _;have WR:Wr6 _ (w.heap.size+1+1):=Wr6.of B2;go_enter Tryz.func236,Tryz.ntmps236;go_wp2_with fail;simp only[us,List.map_cons,List.map_nil] at B0 B1 WR bel;generalize ((w.alloc (Obj.cells #[.int .u64 x0,.int .u64 x1,.int .u64 x2,.int .u64 x3,.int .u64 x4,.int .u64 x5] 27)).alloc (Obj.cells #[.int .u64 y0,.int .u64 y1,.int .u64 y2,.int .u64 y3,.int .u64 y4,.int .u64 y5] 27)).alloc (Obj.cells #[.int .u64 0,.int .u64 0,.int .u64 0,.int .u64 0,.int .u64 0,.int .u64 0] 27)=W at *;obtain ⟨S1,hS1,KL1,KA1,KD1,KS1,KP1,KN1,KB1,KM1,KW1⟩:=ZfZ (w0:=w) (W:=W) [(w.heap.size,[x0,x1,x2,x3,x4,x5]),(w.heap.size+1,[y0,y1,y2,y3,y4,y5])] [w.heap.size+1+1] (by
    intro b X h;simp only[List.mem_cons,List.not_mem_nil,or_false,Prod.mk.injEq] at h;rcases h with ⟨rfl,rfl⟩|⟨rfl,rfl⟩
    · exact B0
    · exact B1) (by
    intro b h;simp only[List.mem_cons,List.not_mem_nil,or_false] at h;rcases h with rfl
    · exact WR) (by
    intro b X h;simp only[List.mem_cons,List.not_mem_nil,or_false,Prod.mk.injEq] at h ⊢;omega) bel
  obtain⟨c1a0,c1a1,c1a2,c1a3,c1a4,c1a5,c1a6⟩:=Zg4 (S:=Hd S1) (b:=w.heap.size) (x0:=x0) (x1:=x1) (x2:=x2) (x3:=x3) (x4:=x4) (x5:=x5) (fun wx h=>KM1.out wx _ _ h (by simp));obtain ⟨c1b0,c1b1,c1b2,c1b3,c1b4,c1b5,c1b6⟩:=Zg4 (S:=Hd S1) (b:=w.heap.size+1) (x0:=y0) (x1:=y1) (x2:=y2) (x3:=y3) (x4:=y4) (x5:=y5) (fun wx h=>KM1.out wx _ _ h (by simp));obtain ⟨⟨d1a0,d1a1,d1a2,d1a3,d1a4,d1a5⟩,⟨d1af0,d1af1,d1af2,d1af3,d1af4,d1af5⟩,d1alt⟩:=Znr (S:=Hd S1) (b:=w.heap.size+1+1) (fun wx h=>KW1.out wx _ h (by simp));have hN1:=bel.size;clear B0 B1 B2 bel;go_region_held3 (Hd S1)
    (first
      | with_reducible exact KP1.out _ _ _ _ _ _ _ _ (by assumption) (by first|(right;simp;done)|(left;omega)) (by omega)
      | with_reducible exact KL1.out _ _ (by assumption) hb
      | with_reducible exact KA1.out _ _ (by assumption)
      | with_reducible exact KS1.out _ _ _ (by omega) (by assumption)
      | with_reducible exact KD1.out _ hS1
      | with_reducible exact KD1.out _ (KA1.out _ _ hS1)
      | with_reducible assumption)
    (first
      | (go_at_call 254;go_fit (fmod (G.below (KB1.out _ (by first|with_reducible assumption|with_reducible exact KA1.out _ _ (by assumption)|with_reducible exact KD1.out _ (by assumption)))));rintro e w' ⟨rfl,hb⟩)
      | (go_at_call 257;go_fit (addm6 fX fY isP);rintro e w' ⟨z0,z1,z2,z3,z4,z5,rfl,fZ,hv,hb⟩;rw[PP_v] at hv;have HV:Hid _:=hv;clear hv;obtain ⟨g0,g1,g2,g3,g4,g5,⟨h0,h1,h2,h3,h4,h5⟩,⟨f0,f1,f2,f3,f4,f5⟩⟩:=(KW1.out _ _ (KL1.out _ _ (by assumption) hb) (by simp):Wr6 w' (w.heap.size+1+1)).cells))
  all_goals go_wp2
  all_goals exact bodyPost_ret (v:=.agg #[.int .u64 z0,.int .u64 z1,.int .u64 z2,.int .u64 z3,.int .u64 z4,.int .u64 z5]) (by simp[results,Tryz.results236,go_sem,h0,h1,h2,h3,h4,h5]) rfl ⟨z0,z1,z2,z3,z4,z5,rfl,fZ,HV.out,KB1.out _ (by assumption)⟩
theorem fsub6 {x0 x1 x2 x3 x4 x5 y0 y1 y2 y3 y4 y5:Int} {w:World} (G:Gls w) (fX:Zaz [x0,x1,x2,x3,x4,x5]) (fY:Zaz [y0,y1,y2,y3,y4,y5]) :
    Calls Tryz.prog 231 #[.agg #[.int .u64 x0,.int .u64 x1,.int .u64 x2,.int .u64 x3,.int .u64 x4,.int .u64 x5],.agg #[.int .u64 y0,.int .u64 y1,.int .u64 y2,.int .u64 y3,.int .u64 y4,.int .u64 y5]] w fun e w'=>∃ z0 z1 z2 z3 z4 z5:Int,e=.returned (.agg #[.int .u64 z0,.int .u64 z1,.int .u64 z2,.int .u64 z3,.int .u64 z4,.int .u64 z5])∧Zaz [z0,z1,z2,z3,z4,z5]∧v64 [z0,z1,z2,z3,z4,z5]=(v64 [x0,x1,x2,x3,x4,x5]-v64 [y0,y1,y2,y3,y4,y5])%PP∧Below w.heap.size w w':=by
  have B0:=((Blk.new w (us [x0,x1,x2,x3,x4,x5]) 27 (w.heap.size) rfl).alloc (.cells (us [y0,y1,y2,y3,y4,y5]).toArray 27)).alloc (.cells (us [0,0,0,0,0,0]).toArray 27);have B1:=(Blk.new (w.alloc (.cells (us [x0,x1,x2,x3,x4,x5]).toArray 27)) (us [y0,y1,y2,y3,y4,y5]) 27 (w.heap.size+1) (by simp)).alloc (.cells (us [0,0,0,0,0,0]).toArray 27);have B2:=Blk.new ((w.alloc (.cells (us [x0,x1,x2,x3,x4,x5]).toArray 27)).alloc (.cells (us [y0,y1,y2,y3,y4,y5]).toArray 27)) (us [0,0,0,0,0,0]) 27 (w.heap.size+1+1) (by simp);have bel:Below w.heap.size w (((w.alloc (.cells (us [x0,x1,x2,x3,x4,x5]).toArray 27)).alloc (.cells (us [y0,y1,y2,y3,y4,y5]).toArray 27)).alloc (.cells (us [0,0,0,0,0,0]).toArray 27)):=(((Below.refl _ _).alloc (Nat.le_refl _) _).alloc (by simp) _).alloc (by simp;omega) _;have WR:Wr6 _ (w.heap.size+1+1):=Wr6.of B2;go_enter Tryz.func231,Tryz.ntmps231;go_wp2_with fail;simp only[us,List.map_cons,List.map_nil] at B0 B1 WR bel;generalize ((w.alloc (Obj.cells #[.int .u64 x0,.int .u64 x1,.int .u64 x2,.int .u64 x3,.int .u64 x4,.int .u64 x5] 27)).alloc (Obj.cells #[.int .u64 y0,.int .u64 y1,.int .u64 y2,.int .u64 y3,.int .u64 y4,.int .u64 y5] 27)).alloc (Obj.cells #[.int .u64 0,.int .u64 0,.int .u64 0,.int .u64 0,.int .u64 0,.int .u64 0] 27)=W at *;obtain ⟨S1,hS1,KL1,KA1,KD1,KS1,KP1,KN1,KB1,KM1,KW1⟩:=ZfZ (w0:=w) (W:=W) [(w.heap.size,[x0,x1,x2,x3,x4,x5]),(w.heap.size+1,[y0,y1,y2,y3,y4,y5])] [w.heap.size+1+1] (by
    intro b X h;simp only[List.mem_cons,List.not_mem_nil,or_false,Prod.mk.injEq] at h;rcases h with ⟨rfl,rfl⟩|⟨rfl,rfl⟩
    · exact B0
    · exact B1) (by
    intro b h;simp only[List.mem_cons,List.not_mem_nil,or_false] at h;rcases h with rfl
    · exact WR) (by
    intro b X h;simp only[List.mem_cons,List.not_mem_nil,or_false,Prod.mk.injEq] at h ⊢;omega) bel
  obtain⟨c1a0,c1a1,c1a2,c1a3,c1a4,c1a5,c1a6⟩:=Zg4 (S:=Hd S1) (b:=w.heap.size) (x0:=x0) (x1:=x1) (x2:=x2) (x3:=x3) (x4:=x4) (x5:=x5) (fun wx h=>KM1.out wx _ _ h (by simp));obtain ⟨c1b0,c1b1,c1b2,c1b3,c1b4,c1b5,c1b6⟩:=Zg4 (S:=Hd S1) (b:=w.heap.size+1) (x0:=y0) (x1:=y1) (x2:=y2) (x3:=y3) (x4:=y4) (x5:=y5) (fun wx h=>KM1.out wx _ _ h (by simp));obtain ⟨⟨d1a0,d1a1,d1a2,d1a3,d1a4,d1a5⟩,⟨d1af0,d1af1,d1af2,d1af3,d1af4,d1af5⟩,d1alt⟩:=Znr (S:=Hd S1) (b:=w.heap.size+1+1) (fun wx h=>KW1.out wx _ h (by simp));have hN1:=bel.size;clear B0 B1 B2 bel;go_region_held3 (Hd S1)
    (first
      | with_reducible exact KP1.out _ _ _ _ _ _ _ _ (by assumption) (by first|(right;simp;done)|(left;omega)) (by omega)
      | with_reducible exact KL1.out _ _ (by assumption) hb
      | with_reducible exact KA1.out _ _ (by assumption)
      | with_reducible exact KS1.out _ _ _ (by omega) (by assumption)
      | with_reducible exact KD1.out _ hS1
      | with_reducible exact KD1.out _ (KA1.out _ _ hS1)
      | with_reducible assumption)
    (first
      | (go_at_call 254;go_fit (fmod (G.below (KB1.out _ (by first|with_reducible assumption|with_reducible exact KA1.out _ _ (by assumption)|with_reducible exact KD1.out _ (by assumption)))));rintro e w' ⟨rfl,hb⟩)
      | (go_at_call 253;go_fit (subm6 fX fY isP);rintro e w' ⟨z0,z1,z2,z3,z4,z5,rfl,fZ,hv,hb⟩;rw[PP_v] at hv;have HV:Hid _:=hv;clear hv;obtain ⟨g0,g1,g2,g3,g4,g5,⟨h0,h1,h2,h3,h4,h5⟩,⟨f0,f1,f2,f3,f4,f5⟩⟩:=(KW1.out _ _ (KL1.out _ _ (by assumption) hb) (by simp):Wr6 w' (w.heap.size+1+1)).cells))
  all_goals go_wp2
  all_goals exact bodyPost_ret (v:=.agg #[.int .u64 z0,.int .u64 z1,.int .u64 z2,.int .u64 z3,.int .u64 z4,.int .u64 z5]) (by simp[results,Tryz.results231,go_sem,h0,h1,h2,h3,h4,h5]) rfl ⟨z0,z1,z2,z3,z4,z5,rfl,fZ,HV.out,KB1.out _ (by assumption)⟩
theorem Zot {x0 x1 x2 x3 x4 x5 y0 y1 y2 y3 y4 y5:Int} {w:World} (G:Gls w) (fX:Zaz [x0,x1,x2,x3,x4,x5]) (fY:Zaz [y0,y1,y2,y3,y4,y5]) :
    Calls Tryz.prog 232 #[.agg #[.int .u64 x0,.int .u64 x1,.int .u64 x2,.int .u64 x3,.int .u64 x4,.int .u64 x5],.agg #[.int .u64 y0,.int .u64 y1,.int .u64 y2,.int .u64 y3,.int .u64 y4,.int .u64 y5]] w fun e w'=>∃ z0 z1 z2 z3 z4 z5:Int,e=.returned (.agg #[.int .u64 z0,.int .u64 z1,.int .u64 z2,.int .u64 z3,.int .u64 z4,.int .u64 z5])∧Zaz [z0,z1,z2,z3,z4,z5]∧v64 [z0,z1,z2,z3,z4,z5]=(v64 [x0,x1,x2,x3,x4,x5]*v64 [y0,y1,y2,y3,y4,y5])%PP∧Below w.heap.size w w':=by
  have B0:=((Blk.new w (us [x0,x1,x2,x3,x4,x5]) 27 (w.heap.size) rfl).alloc (.cells (us [y0,y1,y2,y3,y4,y5]).toArray 27)).alloc (.cells (us [0,0,0,0,0,0]).toArray 27);have B1:=(Blk.new (w.alloc (.cells (us [x0,x1,x2,x3,x4,x5]).toArray 27)) (us [y0,y1,y2,y3,y4,y5]) 27 (w.heap.size+1) (by simp)).alloc (.cells (us [0,0,0,0,0,0]).toArray 27);have B2:=Blk.new ((w.alloc (.cells (us [x0,x1,x2,x3,x4,x5]).toArray 27)).alloc (.cells (us [y0,y1,y2,y3,y4,y5]).toArray 27)) (us [0,0,0,0,0,0]) 27 (w.heap.size+1+1) (by simp);have bel:Below w.heap.size w (((w.alloc (.cells (us [x0,x1,x2,x3,x4,x5]).toArray 27)).alloc (.cells (us [y0,y1,y2,y3,y4,y5]).toArray 27)).alloc (.cells (us [0,0,0,0,0,0]).toArray 27)):=(((Below.refl _ _).alloc (Nat.le_refl _) _).alloc (by simp) _).alloc (by simp;omega) _;have WR:Wr6 _ (w.heap.size+1+1):=Wr6.of B2;go_enter Tryz.func232,Tryz.ntmps232;go_wp2_with fail;simp only[us,List.map_cons,List.map_nil] at B0 B1 WR bel;generalize ((w.alloc (Obj.cells #[.int .u64 x0,.int .u64 x1,.int .u64 x2,.int .u64 x3,.int .u64 x4,.int .u64 x5] 27)).alloc (Obj.cells #[.int .u64 y0,.int .u64 y1,.int .u64 y2,.int .u64 y3,.int .u64 y4,.int .u64 y5] 27)).alloc (Obj.cells #[.int .u64 0,.int .u64 0,.int .u64 0,.int .u64 0,.int .u64 0,.int .u64 0] 27)=W at *;obtain ⟨S1,hS1,KL1,KA1,KD1,KS1,KP1,KN1,KB1,KM1,KW1⟩:=ZfZ (w0:=w) (W:=W) [(w.heap.size,[x0,x1,x2,x3,x4,x5]),(w.heap.size+1,[y0,y1,y2,y3,y4,y5])] [w.heap.size+1+1] (by
    intro b X h;simp only[List.mem_cons,List.not_mem_nil,or_false,Prod.mk.injEq] at h;rcases h with ⟨rfl,rfl⟩|⟨rfl,rfl⟩
    · exact B0
    · exact B1) (by
    intro b h;simp only[List.mem_cons,List.not_mem_nil,or_false] at h;rcases h with rfl
    · exact WR) (by
    intro b X h;simp only[List.mem_cons,List.not_mem_nil,or_false,Prod.mk.injEq] at h ⊢;omega) bel
  obtain⟨c1a0,c1a1,c1a2,c1a3,c1a4,c1a5,c1a6⟩:=Zg4 (S:=Hd S1) (b:=w.heap.size) (x0:=x0) (x1:=x1) (x2:=x2) (x3:=x3) (x4:=x4) (x5:=x5) (fun wx h=>KM1.out wx _ _ h (by simp));obtain ⟨c1b0,c1b1,c1b2,c1b3,c1b4,c1b5,c1b6⟩:=Zg4 (S:=Hd S1) (b:=w.heap.size+1) (x0:=y0) (x1:=y1) (x2:=y2) (x3:=y3) (x4:=y4) (x5:=y5) (fun wx h=>KM1.out wx _ _ h (by simp));obtain ⟨⟨d1a0,d1a1,d1a2,d1a3,d1a4,d1a5⟩,⟨d1af0,d1af1,d1af2,d1af3,d1af4,d1af5⟩,d1alt⟩:=Znr (S:=Hd S1) (b:=w.heap.size+1+1) (fun wx h=>KW1.out wx _ h (by simp));have hN1:=bel.size;clear B0 B1 B2 bel;go_region_held3 (Hd S1)
    (first
      | with_reducible exact KP1.out _ _ _ _ _ _ _ _ (by assumption) (by first|(right;simp;done)|(left;omega)) (by omega)
      | with_reducible exact KL1.out _ _ (by assumption) hb
      | with_reducible exact KA1.out _ _ (by assumption)
      | with_reducible exact KS1.out _ _ _ (by omega) (by assumption)
      | with_reducible exact KD1.out _ hS1
      | with_reducible exact KD1.out _ (KA1.out _ _ hS1)
      | with_reducible assumption)
    (first
      | (go_at_call 254;go_fit (fmod (G.below (KB1.out _ (by first|with_reducible assumption|with_reducible exact KA1.out _ _ (by assumption)|with_reducible exact KD1.out _ (by assumption)))));rintro e w' ⟨rfl,hb⟩)
      | (go_at_call 255;go_fit (mul6 fX fY isP);rintro e w' ⟨z0,z1,z2,z3,z4,z5,rfl,fZ,hv,hb⟩;rw[PP_v] at hv;have HV:Hid _:=hv;clear hv;obtain ⟨g0,g1,g2,g3,g4,g5,⟨h0,h1,h2,h3,h4,h5⟩,⟨f0,f1,f2,f3,f4,f5⟩⟩:=(KW1.out _ _ (KL1.out _ _ (by assumption) hb) (by simp):Wr6 w' (w.heap.size+1+1)).cells))
  all_goals go_wp2
  all_goals exact bodyPost_ret (v:=.agg #[.int .u64 z0,.int .u64 z1,.int .u64 z2,.int .u64 z3,.int .u64 z4,.int .u64 z5]) (by simp[results,Tryz.results232,go_sem,h0,h1,h2,h3,h4,h5]) rfl ⟨z0,z1,z2,z3,z4,z5,rfl,fZ,HV.out,KB1.out _ (by assumption)⟩
end Go.Proofs.YtdfmoghjimghhaaGreatDoor
