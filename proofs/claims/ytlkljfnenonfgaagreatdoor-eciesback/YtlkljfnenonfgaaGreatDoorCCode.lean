/- Points, as the document's and as limbs: plain facts; the curve's number. Layer 5's tables as they lie in memory; the base point; its small helpers. curve.holds and curve.On. curve.pick: one of two points. Told points: plain facts. -/
import Derived.Test.YtlkljfnenonfgaaGreatDoorAeNumG
import Derived.Test.YtlkljfnenonfgaaGreatDoorBase
import Derived.Test.YtlkljfnenonfgaaGreatDoorMath
import Derived.Test.YtlkljfnenonfgaaGreatDoorCNum
import Derived.Test.YtlkljfnenonfgaaGreatDoorFAdd
import Derived.Test.YtlkljfnenonfgaaGreatDoorLimb
import Derived.Test.YtlkljfnenonfgaaGreatDoorRows
import Derived.Deep.WholeRow
import Derived.Deep.RegionHeld3
import Derived.Deep.DeepCutAuto
import Derived.Deep.DeepFit
namespace Go.Proofs.YtlkljfnenonfgaaGreatDoor
open Go.RowKit
/-- what is told is a point -/
def IsOn (n:Bool) (X Y:Int):Prop:=(n=true∧X=0∧Y=0)∨(n=false∧Aff X Y)
theorem v6_zero {x0 x1 x2 x3 x4 x5:Int} (fX:fits [x0,x1,x2,x3,x4,x5]):v64 [x0,x1,x2,x3,x4,x5]=0↔[x0,x1,x2,x3,x4,x5]=[0,0,0,0,0,0] :=
 ⟨fun h=>v64_inj _ _ rfl fX (fits_zero 6) (by rw [h];rfl),fun h=>by rw [h];rfl⟩
/-- a point of the document's -/
def PtIs (w:World) (v:Value):Pt→Prop
 | none=>v=.agg #[.bool true,.slice none 0 0,.slice none 0 0]
 | some p=>∃ a m c a' m' c',v=.agg #[.bool false,.slice a m c,.slice a' m' c']∧NumIs w (.slice a m c) p.1∧NumIs w (.slice a' m' c') p.2
theorem PtIs.later {w w':World} {v:Value} {P:Pt} (h:PtIs w v P) (hb:Below w.heap.size w w'):PtIs w' v P:=by
 cases P with
 | none=>exact h
 | some p =>
  obtain ⟨a,m,c,a',m',c',e,h1,h2⟩:=h
  exact ⟨a,m,c,a',m',c',e,h1.later hb,h2.later hb⟩
theorem PtIs.drew {w:World} {v:Value} {P:Pt} (h:PtIs w v P):PtIs w.drew v P:=by
 cases P with
 | none=>exact h
 | some p =>
  obtain ⟨a,m,c,a',m',c',e,h1,h2⟩:=h
  exact ⟨a,m,c,a',m',c',e,h1.drew,h2.drew⟩
theorem PtIs.alloc {w:World} {v:Value} {P:Pt} (h:PtIs w v P) (o:Obj):PtIs (w.alloc o) v P:=h.later ((Below.refl _ _).alloc (Nat.le_refl _) o)
theorem PtIs.form {w:World} {v:Value} {P:Pt} (h:PtIs w v P):∃ (nb:Bool) (a:Option Addr) (n k:Nat) (b:Option Addr) (m l:Nat),v=.agg #[.bool nb,.slice a n k,.slice b m l]:=by
 cases P with
 | none=>exact ⟨true,none,0,0,none,0,0,h⟩
 | some p =>
  obtain ⟨a,m,c,a',m',c',e,_⟩:=h
  exact ⟨false,a,m,c,a',m',c',e⟩
/-- the limbs A and B and the bool n tell the point P -/
structure Told (P:Pt) (A B:List Int) (n:Bool):Prop where
 fA:fits A
 fB:fits B
 is:(P=none∧n=true∧A=[0,0,0,0,0,0]∧B=[0,0,0,0,0,0])∨(P=some (v64 A,v64 B)∧n=false)
theorem told_zero:Told none [0,0,0,0,0,0] [0,0,0,0,0,0] true:=⟨fits_zero 6,fits_zero 6,.inl ⟨rfl,rfl,rfl,rfl⟩⟩
theorem on_told {P:Pt} {A B:List Int} {n:Bool} (h:Told P A B n) (hP:OnC P):IsOn n (v64 A) (v64 B):=by
 rcases h.is with ⟨rfl,rfl,rfl,rfl⟩|⟨rfl,rfl⟩
 ·exact .inl ⟨rfl,rfl,rfl⟩
 ·exact .inr ⟨rfl,hP⟩
/-- the tables lie where they lay: the field's two, and the curve's number and base point -/
def GlsC (w:World):Prop:=Gls w∧(w.cell? ⟨0,0,none⟩=some (.int .u64 3064076045283764975)∧w.cell? ⟨0,1,none⟩=some (.int .u64 14291673747578343837)∧w.cell? ⟨0,2,none⟩=some (.int .u64 221811693264799578)∧w.cell? ⟨0,3,none⟩=some (.int .u64 1737717031765098770)∧w.cell? ⟨0,4,none⟩=some (.int .u64 10992729701402291481)∧w.cell? ⟨0,5,none⟩=some (.int .u64 12912154004749740004))∧∀ i v,([.int .u64 4203087948775033527,.int .u64 6125724927633205612,.int .u64 6482722621138151992,.int .u64 7934563412932533144,.int .u64 10282218360005504372,.int .u64 12288012358878168375,.int .u64 8809917716911230559,.int .u64 747793036959711645,.int .u64 16850834916486723776,.int .u64 17938995913990739068,.int .u64 6745997240412855337,.int .u64 3897828414440483951,.bool false]:List Value)[i]?=some v→w.cell? ⟨1,i,none⟩=some v
theorem GlsC.fld {w:World} (G:GlsC w):Gls w:=G.1
theorem GlsC.below {w w':World} (G:GlsC w) (hb:Below w.heap.size w w'):GlsC w':=by
 obtain ⟨g,⟨a0,a1,a2,a3,a4,a5⟩,h⟩:=G
 exact ⟨g.below hb,⟨cell_later a0 hb,cell_later a1 hb,cell_later a2 hb,cell_later a3 hb,cell_later a4 hb,cell_later a5 hb⟩,fun i v k=>cell_later (h i v k) hb⟩
theorem GlsC.lts {w:World} (G:GlsC w):0 < w.heap.size∧1 < w.heap.size:=⟨World.block_lt_of_cell? w _ G.2.1.1,World.block_lt_of_cell? w _ (G.2.2 0 _ rfl)⟩
theorem fits_b:fits [3064076045283764975,14291673747578343837,221811693264799578,1737717031765098770,10992729701402291481,12912154004749740004]:=fits6 (by decide)
theorem v_b:v64 [3064076045283764975,14291673747578343837,221811693264799578,1737717031765098770,10992729701402291481,12912154004749740004]=BB:=by decide +kernel
theorem fits_p:fits [4294967295,18446744069414584320,18446744073709551614,18446744073709551615,18446744073709551615,18446744073709551615]:=fits6 (by decide)
theorem v_p:v64 [4294967295,18446744069414584320,18446744073709551614,18446744073709551615,18446744073709551615,18446744073709551615]=PP:=by decide +kernel
theorem fits_3:fits [3,0,0,0,0,0]:=fits6 (by decide)
theorem fits_1:fits [1,0,0,0,0,0]:=fits6 (by decide)
theorem v_3:v64 [3,0,0,0,0,0]=3:=by decide +kernel
theorem v_1:v64 [1,0,0,0,0,0]=1:=by decide +kernel
/-- 1 where both are 0 -/
def bnN (A B:List Int):Int:=if A=[0,0,0,0,0,0]∧B=[0,0,0,0,0,0] then 1 else 0
theorem bn_and (A B:List Int):bits .and .u64 (sameN A [0,0,0,0,0,0]) (sameN B [0,0,0,0,0,0])=bnN A B:=by
 unfold sameN bnN
 by_cases h1:A=[0,0,0,0,0,0]<;>by_cases h2:B=[0,0,0,0,0,0]<;>simp only [h1,h2,if_true,if_false,and_true,and_false]<;>decide
theorem bn_or (A B:List Int):bnN A B=0∨bnN A B=1:=by unfold bnN;split<;>simp
theorem bn_one (A B:List Int):bnN A B=1↔A=[0,0,0,0,0,0]∧B=[0,0,0,0,0,0]:=by
 unfold bnN
 split<;>rename_i h
 ·exact ⟨fun _=>h,fun _=>rfl⟩
 ·exact ⟨fun k=>absurd k (by decide),fun k=>absurd k h⟩
/-- 1 where the x are one and the y aren't -/
def opN (A B C D:List Int):Int:=if A=C∧¬ B=D then 1 else 0
theorem op_and (A B C D:List Int):bits .and .u64 (sameN A C) (bits .xor .u64 1 (sameN B D))=opN A B C D:=by
 unfold sameN opN
 by_cases h1:A=C<;>by_cases h2:B=D<;>simp only [h1,h2,if_true,if_false,and_true,and_false,not_true,not_false_eq_true]<;>decide
/-- 1 where both are one -/
def itN (A B C D:List Int):Int:=if A=C∧B=D then 1 else 0
theorem it_and (A B C D:List Int):bits .and .u64 (sameN A C) (sameN B D)=itN A B C D:=by
 unfold sameN itN
 by_cases h1:A=C<;>by_cases h2:B=D<;>simp only [h1,h2,if_true,if_false,and_true,and_false]<;>decide
theorem same_num {x0 x1 x2 x3 x4 x5 y0 y1 y2 y3 y4 y5 c:Int} {w:World} (fX:fits [x0,x1,x2,x3,x4,x5]) (fY:fits [y0,y1,y2,y3,y4,y5]) (hc:sameN [x0,x1,x2,x3,x4,x5] [y0,y1,y2,y3,y4,y5]=c) :
  Calls Tryz.prog 47 #[.agg #[.int .u64 x0,.int .u64 x1,.int .u64 x2,.int .u64 x3,.int .u64 x4,.int .u64 x5],.agg #[.int .u64 y0,.int .u64 y1,.int .u64 y2,.int .u64 y3,.int .u64 y4,.int .u64 y5]] w fun e w'=>e=.returned (.int .u64 c)∧Below w.heap.size w w':=by
 subst hc;exact same_any _ _ w rfl rfl fX fY
/-- the first, or the second where n is 1 -/
theorem pick_num0 {x0 x1 x2 x3 x4 x5 y0 y1 y2 y3 y4 y5:Int} {w:World} (fX:fits [x0,x1,x2,x3,x4,x5]) (fY:fits [y0,y1,y2,y3,y4,y5]) :
  Calls Tryz.prog 77 #[.int .u64 0,.agg #[.int .u64 x0,.int .u64 x1,.int .u64 x2,.int .u64 x3,.int .u64 x4,.int .u64 x5],.agg #[.int .u64 y0,.int .u64 y1,.int .u64 y2,.int .u64 y3,.int .u64 y4,.int .u64 y5]] w fun e w'=>e=.returned (.agg #[.int .u64 x0,.int .u64 x1,.int .u64 x2,.int .u64 x3,.int .u64 x4,.int .u64 x5])∧Below w.heap.size w w':=by
 refine (pick_any 0 [x0,x1,x2,x3,x4,x5] [y0,y1,y2,y3,y4,y5] w (by decide) (by decide) rfl rfl fX fY).mono ?_
 rintro e w' ⟨rfl,hb⟩
 exact ⟨rfl,hb⟩
theorem pick_num1 {x0 x1 x2 x3 x4 x5 y0 y1 y2 y3 y4 y5:Int} {w:World} (fX:fits [x0,x1,x2,x3,x4,x5]) (fY:fits [y0,y1,y2,y3,y4,y5]) :
  Calls Tryz.prog 77 #[.int .u64 1,.agg #[.int .u64 x0,.int .u64 x1,.int .u64 x2,.int .u64 x3,.int .u64 x4,.int .u64 x5],.agg #[.int .u64 y0,.int .u64 y1,.int .u64 y2,.int .u64 y3,.int .u64 y4,.int .u64 y5]] w fun e w'=>e=.returned (.agg #[.int .u64 y0,.int .u64 y1,.int .u64 y2,.int .u64 y3,.int .u64 y4,.int .u64 y5])∧Below w.heap.size w w':=by
 refine (pick_any 1 [x0,x1,x2,x3,x4,x5] [y0,y1,y2,y3,y4,y5] w (by decide) (by decide) rfl rfl fX fY).mono ?_
 rintro e w' ⟨rfl,hb⟩
 exact ⟨rfl,hb⟩
set_option maxRecDepth 100000 in
theorem g_any {x0 x1 x2 x3 x4 x5 y0 y1 y2 y3 y4 y5:Int} {n:Bool} {w:World} (l0:1 < w.heap.size) (a0:w.cell? ⟨1,0,none⟩=some (.int .u64 x0)) (a1:w.cell? ⟨1,1,none⟩=some (.int .u64 x1)) (a2:w.cell? ⟨1,2,none⟩=some (.int .u64 x2)) (a3:w.cell? ⟨1,3,none⟩=some (.int .u64 x3)) (a4:w.cell? ⟨1,4,none⟩=some (.int .u64 x4)) (a5:w.cell? ⟨1,5,none⟩=some (.int .u64 x5)) (a6:w.cell? ⟨1,6,none⟩=some (.int .u64 y0)) (a7:w.cell? ⟨1,7,none⟩=some (.int .u64 y1)) (a8:w.cell? ⟨1,8,none⟩=some (.int .u64 y2)) (a9:w.cell? ⟨1,9,none⟩=some (.int .u64 y3)) (a10:w.cell? ⟨1,10,none⟩=some (.int .u64 y4)) (a11:w.cell? ⟨1,11,none⟩=some (.int .u64 y5)) (a12:w.cell? ⟨1,12,none⟩=some (.bool n)) :
  Calls Tryz.prog 32 #[] w fun e w'=>e=.returned (.agg #[.int .u64 x0,.int .u64 x1,.int .u64 x2,.int .u64 x3,.int .u64 x4,.int .u64 x5,.int .u64 y0,.int .u64 y1,.int .u64 y2,.int .u64 y3,.int .u64 y4,.int .u64 y5,.bool n])∧Below w.heap.size w w':=by
 go_enter Tryz.func32,Tryz.ntmps32
 go_wp2
 exact bodyPost_ret (v:=.agg #[.int .u64 x0,.int .u64 x1,.int .u64 x2,.int .u64 x3,.int .u64 x4,.int .u64 x5,.int .u64 y0,.int .u64 y1,.int .u64 y2,.int .u64 y3,.int .u64 y4,.int .u64 y5,.bool n]) (by simp [results,Tryz.results32,go_sem]) rfl ⟨rfl,(Below.refl _ _).alloc (Nat.le_refl _) _⟩
theorem con_G {w:World} (G:GlsC w) :
  Calls Tryz.prog 32 #[] w fun e w'=>e=.returned (.agg #[.int .u64 4203087948775033527,.int .u64 6125724927633205612,.int .u64 6482722621138151992,.int .u64 7934563412932533144,.int .u64 10282218360005504372,.int .u64 12288012358878168375,.int .u64 8809917716911230559,.int .u64 747793036959711645,.int .u64 16850834916486723776,.int .u64 17938995913990739068,.int .u64 6745997240412855337,.int .u64 3897828414440483951,.bool false])∧Below w.heap.size w w' :=
 g_any G.lts.2 (G.2.2 0 _ rfl) (G.2.2 1 _ rfl) (G.2.2 2 _ rfl) (G.2.2 3 _ rfl) (G.2.2 4 _ rfl) (G.2.2 5 _ rfl) (G.2.2 6 _ rfl) (G.2.2 7 _ rfl) (G.2.2 8 _ rfl) (G.2.2 9 _ rfl) (G.2.2 10 _ rfl) (G.2.2 11 _ rfl) (G.2.2 12 _ rfl)
set_option maxRecDepth 100000 in
set_option maxHeartbeats 1000000 in
theorem con_bn {x0 x1 x2 x3 x4 x5 y0 y1 y2 y3 y4 y5 c:Int} {w:World} (fX:fits [x0,x1,x2,x3,x4,x5]) (fY:fits [y0,y1,y2,y3,y4,y5]) (hc:bnN [x0,x1,x2,x3,x4,x5] [y0,y1,y2,y3,y4,y5]=c) :
    Calls Tryz.prog 26 #[.agg #[.int .u64 x0,.int .u64 x1,.int .u64 x2,.int .u64 x3,.int .u64 x4,.int .u64 x5],.agg #[.int .u64 y0,.int .u64 y1,.int .u64 y2,.int .u64 y3,.int .u64 y4,.int .u64 y5]] w fun e w'=>e=.returned (.int .u64 c)∧Below w.heap.size w w':=by
  obtain ⟨c1,h1⟩:∃ c,sameN [x0,x1,x2,x3,x4,x5] [0,0,0,0,0,0]=c:=⟨_,rfl⟩
  obtain ⟨c2,h2⟩:∃ c,sameN [y0,y1,y2,y3,y4,y5] [0,0,0,0,0,0]=c:=⟨_,rfl⟩
  have e:=bn_and [x0,x1,x2,x3,x4,x5] [y0,y1,y2,y3,y4,y5]
  rw [h1,h2,hc] at e
  have H1:Hid (sameN [x0,x1,x2,x3,x4,x5] [0,0,0,0,0,0]=c1):=h1
  have H2:Hid (sameN [y0,y1,y2,y3,y4,y5] [0,0,0,0,0,0]=c2):=h2
  have HE:Hid (bits .and .u64 c1 c2=c):=e
  clear hc h1 h2 e
  have B0:=(Blk.new w [.int .u64 x0,.int .u64 x1,.int .u64 x2,.int .u64 x3,.int .u64 x4,.int .u64 x5] 24 (w.heap.size) rfl).alloc (.cells [.int .u64 y0,.int .u64 y1,.int .u64 y2,.int .u64 y3,.int .u64 y4,.int .u64 y5].toArray 24)
  have B1:=Blk.new (w.alloc (.cells [.int .u64 x0,.int .u64 x1,.int .u64 x2,.int .u64 x3,.int .u64 x4,.int .u64 x5].toArray 24)) [.int .u64 y0,.int .u64 y1,.int .u64 y2,.int .u64 y3,.int .u64 y4,.int .u64 y5] 24 (w.heap.size + 1) (by simp)
  have bel:Below w.heap.size w ((w.alloc (.cells [.int .u64 x0,.int .u64 x1,.int .u64 x2,.int .u64 x3,.int .u64 x4,.int .u64 x5].toArray 24)).alloc (.cells [.int .u64 y0,.int .u64 y1,.int .u64 y2,.int .u64 y3,.int .u64 y4,.int .u64 y5].toArray 24)):=(((Below.refl _ _).alloc (Nat.le_refl _) _).alloc (by simp) _)
  go_enter Tryz.func26,Tryz.ntmps26
  go_upto_region 1 with fail
  try simp only [us,List.map_cons,List.map_nil] at bel
  generalize ((w.alloc (Obj.cells #[.int .u64 x0,.int .u64 x1,.int .u64 x2,.int .u64 x3,.int .u64 x4,.int .u64 x5] 24)).alloc (Obj.cells #[.int .u64 y0,.int .u64 y1,.int .u64 y2,.int .u64 y3,.int .u64 y4,.int .u64 y5] 24))=W at *
  obtain ⟨S1,hS1,KL1,KA1,KD1,KS1,KQ1,KN1,KB1,KM1,KR1⟩:=held3 (w0:=w) (W:=W) [(w.heap.size,[.int .u64 x0,.int .u64 x1,.int .u64 x2,.int .u64 x3,.int .u64 x4,.int .u64 x5]),(w.heap.size + 1,[.int .u64 y0,.int .u64 y1,.int .u64 y2,.int .u64 y3,.int .u64 y4,.int .u64 y5])] (by
    intro b X h
    simp only [List.mem_cons,List.not_mem_nil,or_false,Prod.mk.injEq] at h
    rcases h with ⟨rfl,rfl⟩|⟨rfl,rfl⟩
    · exact B0
    · exact B1) bel
  have kb1a:∀ wx,Hd S1 wx→Blk wx (w.heap.size) [.int .u64 x0,.int .u64 x1,.int .u64 x2,.int .u64 x3,.int .u64 x4,.int .u64 x5]:=fun wx h=>KM1.out wx _ _ h (by simp)
  have c1a0:=rulec kb1a 0 _ rfl
  have c1a1:=rulec kb1a 1 _ rfl
  have c1a2:=rulec kb1a 2 _ rfl
  have c1a3:=rulec kb1a 3 _ rfl
  have c1a4:=rulec kb1a 4 _ rfl
  have c1a5:=rulec kb1a 5 _ rfl
  have c1al:=ruleb kb1a
  clear kb1a
  have kb1b:∀ wx,Hd S1 wx→Blk wx (w.heap.size + 1) [.int .u64 y0,.int .u64 y1,.int .u64 y2,.int .u64 y3,.int .u64 y4,.int .u64 y5]:=fun wx h=>KM1.out wx _ _ h (by simp)
  have c1b0:=rulec kb1b 0 _ rfl
  have c1b1:=rulec kb1b 1 _ rfl
  have c1b2:=rulec kb1b 2 _ rfl
  have c1b3:=rulec kb1b 3 _ rfl
  have c1b4:=rulec kb1b 4 _ rfl
  have c1b5:=rulec kb1b 5 _ rfl
  have c1bl:=ruleb kb1b
  clear kb1b
  have hN1:=bel.size
  clear bel B0 B1
  go_region_held3 (Hd S1)
    (first
      | with_reducible exact KL1.out _ _ (by assumption) hb
      | with_reducible exact KA1.out _ _ (by assumption)
      | with_reducible exact KS1.out _ _ _ (by omega) (by assumption)
      | with_reducible exact KD1.out _ hS1
      | with_reducible exact KD1.out _ (KA1.out _ _ hS1)
      | with_reducible assumption)
    (first
      | (go_at_call 47;go_fit (same_num fX (fits_zero 6) H1.out);rintro e w' ⟨rfl,hb⟩)
      | (go_at_call 47;go_fit (same_num fY (fits_zero 6) H2.out);rintro e w' ⟨rfl,hb⟩))
  all_goals go_wp2
  all_goals (go_ret;exact ⟨by rw [← HE.out];rfl,KB1.out _ (by assumption)⟩)
set_option maxRecDepth 100000 in
set_option maxHeartbeats 1000000 in
theorem con_below {x0 x1 x2 x3 x4 x5 c:Int} {w:World} (G:Gls w) (fX:fits [x0,x1,x2,x3,x4,x5]) (hc:lessN [x0,x1,x2,x3,x4,x5] [4294967295,18446744069414584320,18446744073709551614,18446744073709551615,18446744073709551615,18446744073709551615]=c) :
    Calls Tryz.prog 27 #[.agg #[.int .u64 x0,.int .u64 x1,.int .u64 x2,.int .u64 x3,.int .u64 x4,.int .u64 x5]] w fun e w'=>e=.returned (.int .u64 c)∧Below w.heap.size w w':=by
  have HC:Hid (lessN [x0,x1,x2,x3,x4,x5] [4294967295,18446744069414584320,18446744073709551614,18446744073709551615,18446744073709551615,18446744073709551615]=c):=hc
  clear hc
  have B0:=Blk.new w [.int .u64 x0,.int .u64 x1,.int .u64 x2,.int .u64 x3,.int .u64 x4,.int .u64 x5] 24 (w.heap.size) rfl
  have bel:Below w.heap.size w (w.alloc (.cells [.int .u64 x0,.int .u64 x1,.int .u64 x2,.int .u64 x3,.int .u64 x4,.int .u64 x5].toArray 24)):=((Below.refl _ _).alloc (Nat.le_refl _) _)
  go_enter Tryz.func27,Tryz.ntmps27
  go_upto_region 1 with fail
  try simp only [us,List.map_cons,List.map_nil] at bel
  generalize (w.alloc (Obj.cells #[.int .u64 x0,.int .u64 x1,.int .u64 x2,.int .u64 x3,.int .u64 x4,.int .u64 x5] 24))=W at *
  obtain ⟨S1,hS1,KL1,KA1,KD1,KS1,KQ1,KN1,KB1,KM1,KR1⟩:=held3 (w0:=w) (W:=W) [(w.heap.size,[.int .u64 x0,.int .u64 x1,.int .u64 x2,.int .u64 x3,.int .u64 x4,.int .u64 x5])] (by
    intro b X h
    simp only [List.mem_cons,List.not_mem_nil,or_false,Prod.mk.injEq] at h
    rcases h with ⟨rfl,rfl⟩
    · exact B0) bel
  have kb1a:∀ wx,Hd S1 wx→Blk wx (w.heap.size) [.int .u64 x0,.int .u64 x1,.int .u64 x2,.int .u64 x3,.int .u64 x4,.int .u64 x5]:=fun wx h=>KM1.out wx _ _ h (by simp)
  have c1a0:=rulec kb1a 0 _ rfl
  have c1a1:=rulec kb1a 1 _ rfl
  have c1a2:=rulec kb1a 2 _ rfl
  have c1a3:=rulec kb1a 3 _ rfl
  have c1a4:=rulec kb1a 4 _ rfl
  have c1a5:=rulec kb1a 5 _ rfl
  have c1al:=ruleb kb1a
  clear kb1a
  have hN1:=bel.size
  clear bel B0
  go_region_held3 (Hd S1)
    (first
      | with_reducible exact KL1.out _ _ (by assumption) hb
      | with_reducible exact KA1.out _ _ (by assumption)
      | with_reducible exact KS1.out _ _ _ (by omega) (by assumption)
      | with_reducible exact KD1.out _ hS1
      | with_reducible exact KD1.out _ (KA1.out _ _ hS1)
      | with_reducible assumption)
    (first
      | (go_at_call 49;go_fit (fp (G.below (KB1.out _ (by first|with_reducible assumption|with_reducible exact KA1.out _ _ (by assumption)|with_reducible exact KD1.out _ (by assumption)))));rintro e w' ⟨rfl,hb⟩)
      | (go_at_call 48;go_fit (less6 fX fits_p);rintro e w' ⟨rfl,hb⟩))
  all_goals go_wp2
  all_goals (go_ret;exact ⟨by rw [← HC.out];rfl,KB1.out _ (by assumption)⟩)
set_option maxRecDepth 100000 in
set_option maxHeartbeats 2000000 in
theorem pt_of0 {x0 x1 x2 x3 x4 x5 y0 y1 y2 y3 y4 y5:Int} {w:World} (fX:fits [x0,x1,x2,x3,x4,x5]) (fY:fits [y0,y1,y2,y3,y4,y5]) (hc:bnN [x0,x1,x2,x3,x4,x5] [y0,y1,y2,y3,y4,y5]=0) :
    Calls Tryz.prog 99 #[.agg #[.int .u64 x0,.int .u64 x1,.int .u64 x2,.int .u64 x3,.int .u64 x4,.int .u64 x5],.agg #[.int .u64 y0,.int .u64 y1,.int .u64 y2,.int .u64 y3,.int .u64 y4,.int .u64 y5]] w fun e w'=>e=.returned (.agg #[.int .u64 x0,.int .u64 x1,.int .u64 x2,.int .u64 x3,.int .u64 x4,.int .u64 x5,.int .u64 y0,.int .u64 y1,.int .u64 y2,.int .u64 y3,.int .u64 y4,.int .u64 y5,.bool false])∧Below w.heap.size w w':=by
  have HC:Hid (bnN [x0,x1,x2,x3,x4,x5] [y0,y1,y2,y3,y4,y5]=0):=hc
  clear hc
  have B0:=((Blk.new w [.int .u64 x0,.int .u64 x1,.int .u64 x2,.int .u64 x3,.int .u64 x4,.int .u64 x5] 24 (w.heap.size) rfl).alloc (.cells [.int .u64 y0,.int .u64 y1,.int .u64 y2,.int .u64 y3,.int .u64 y4,.int .u64 y5].toArray 24)).alloc (.cells [.int .u64 0,.int .u64 0,.int .u64 0,.int .u64 0,.int .u64 0,.int .u64 0,.int .u64 0,.int .u64 0,.int .u64 0,.int .u64 0,.int .u64 0,.int .u64 0,.bool false].toArray 26)
  have B1:=(Blk.new (w.alloc (.cells [.int .u64 x0,.int .u64 x1,.int .u64 x2,.int .u64 x3,.int .u64 x4,.int .u64 x5].toArray 24)) [.int .u64 y0,.int .u64 y1,.int .u64 y2,.int .u64 y3,.int .u64 y4,.int .u64 y5] 24 (w.heap.size + 1) (by simp)).alloc (.cells [.int .u64 0,.int .u64 0,.int .u64 0,.int .u64 0,.int .u64 0,.int .u64 0,.int .u64 0,.int .u64 0,.int .u64 0,.int .u64 0,.int .u64 0,.int .u64 0,.bool false].toArray 26)
  have B2:=Blk.new ((w.alloc (.cells [.int .u64 x0,.int .u64 x1,.int .u64 x2,.int .u64 x3,.int .u64 x4,.int .u64 x5].toArray 24)).alloc (.cells [.int .u64 y0,.int .u64 y1,.int .u64 y2,.int .u64 y3,.int .u64 y4,.int .u64 y5].toArray 24)) [.int .u64 0,.int .u64 0,.int .u64 0,.int .u64 0,.int .u64 0,.int .u64 0,.int .u64 0,.int .u64 0,.int .u64 0,.int .u64 0,.int .u64 0,.int .u64 0,.bool false] 26 (w.heap.size + 1 + 1) (by simp)
  have bel:Below w.heap.size w (((w.alloc (.cells [.int .u64 x0,.int .u64 x1,.int .u64 x2,.int .u64 x3,.int .u64 x4,.int .u64 x5].toArray 24)).alloc (.cells [.int .u64 y0,.int .u64 y1,.int .u64 y2,.int .u64 y3,.int .u64 y4,.int .u64 y5].toArray 24)).alloc (.cells [.int .u64 0,.int .u64 0,.int .u64 0,.int .u64 0,.int .u64 0,.int .u64 0,.int .u64 0,.int .u64 0,.int .u64 0,.int .u64 0,.int .u64 0,.int .u64 0,.bool false].toArray 26)):=((((Below.refl _ _).alloc (Nat.le_refl _) _).alloc (by simp) _).alloc (by simp;omega) _)
  go_enter Tryz.func99,Tryz.ntmps99
  go_upto_region 1 with fail
  try simp only [us,List.map_cons,List.map_nil] at bel
  generalize (((w.alloc (Obj.cells #[.int .u64 x0,.int .u64 x1,.int .u64 x2,.int .u64 x3,.int .u64 x4,.int .u64 x5] 24)).alloc (Obj.cells #[.int .u64 y0,.int .u64 y1,.int .u64 y2,.int .u64 y3,.int .u64 y4,.int .u64 y5] 24)).alloc (Obj.cells #[.int .u64 0,.int .u64 0,.int .u64 0,.int .u64 0,.int .u64 0,.int .u64 0,.int .u64 0,.int .u64 0,.int .u64 0,.int .u64 0,.int .u64 0,.int .u64 0,.bool false] 26))=W at *
  obtain ⟨S1,hS1,KL1,KA1,KD1,KS1,KQ1,KN1,KB1,KM1,KR1⟩:=held3 (w0:=w) (W:=W) [(w.heap.size,[.int .u64 x0,.int .u64 x1,.int .u64 x2,.int .u64 x3,.int .u64 x4,.int .u64 x5]),(w.heap.size + 1,[.int .u64 y0,.int .u64 y1,.int .u64 y2,.int .u64 y3,.int .u64 y4,.int .u64 y5])] (by
    intro b X h
    simp only [List.mem_cons,List.not_mem_nil,or_false,Prod.mk.injEq] at h
    rcases h with ⟨rfl,rfl⟩|⟨rfl,rfl⟩
    · exact B0
    · exact B1) bel
  have kb1a:∀ wx,Hd S1 wx→Blk wx (w.heap.size) [.int .u64 x0,.int .u64 x1,.int .u64 x2,.int .u64 x3,.int .u64 x4,.int .u64 x5]:=fun wx h=>KM1.out wx _ _ h (by simp)
  have c1a0:=rulec kb1a 0 _ rfl
  have c1a1:=rulec kb1a 1 _ rfl
  have c1a2:=rulec kb1a 2 _ rfl
  have c1a3:=rulec kb1a 3 _ rfl
  have c1a4:=rulec kb1a 4 _ rfl
  have c1a5:=rulec kb1a 5 _ rfl
  have c1al:=ruleb kb1a
  clear kb1a
  have kb1b:∀ wx,Hd S1 wx→Blk wx (w.heap.size + 1) [.int .u64 y0,.int .u64 y1,.int .u64 y2,.int .u64 y3,.int .u64 y4,.int .u64 y5]:=fun wx h=>KM1.out wx _ _ h (by simp)
  have c1b0:=rulec kb1b 0 _ rfl
  have c1b1:=rulec kb1b 1 _ rfl
  have c1b2:=rulec kb1b 2 _ rfl
  have c1b3:=rulec kb1b 3 _ rfl
  have c1b4:=rulec kb1b 4 _ rfl
  have c1b5:=rulec kb1b 5 _ rfl
  have c1bl:=ruleb kb1b
  clear kb1b
  have mq1a:∀ c X,(c,X)∈[((w.heap.size:Nat),([.int .u64 x0,.int .u64 x1,.int .u64 x2,.int .u64 x3,.int .u64 x4,.int .u64 x5]:List Value)),((w.heap.size + 1:Nat),([.int .u64 y0,.int .u64 y1,.int .u64 y2,.int .u64 y3,.int .u64 y4,.int .u64 y5]:List Value))]→c≠w.heap.size + 1 + 1:=by
    intro c X h
    simp only [List.mem_cons,List.not_mem_nil,or_false,Prod.mk.injEq] at h
    omega
  have hN1:=bel.size
  clear bel B0 B1
  go_region_held3 (Hd S1)
    (first
      | with_reducible exact (KQ1.out _ _ _ _ (KQ1.out _ _ _ _ (KQ1.out _ _ _ _ (KQ1.out _ _ _ _ (KQ1.out _ _ _ _ (KQ1.out _ _ _ _ (KQ1.out _ _ _ _ (KQ1.out _ _ _ _ (KQ1.out _ _ _ _ (KQ1.out _ _ _ _ (KQ1.out _ _ _ _ (KQ1.out _ _ _ _ (KQ1.out _ _ _ _ (by assumption) (Or.inr mq1a) (by omega)) (Or.inr mq1a) (by omega)) (Or.inr mq1a) (by omega)) (Or.inr mq1a) (by omega)) (Or.inr mq1a) (by omega)) (Or.inr mq1a) (by omega)) (Or.inr mq1a) (by omega)) (Or.inr mq1a) (by omega)) (Or.inr mq1a) (by omega)) (Or.inr mq1a) (by omega)) (Or.inr mq1a) (by omega)) (Or.inr mq1a) (by omega)) (Or.inr mq1a) (by omega))
      | with_reducible exact KL1.out _ _ (by assumption) hb
      | with_reducible exact KA1.out _ _ (by assumption)
      | with_reducible exact KS1.out _ _ _ (by omega) (by assumption)
      | with_reducible exact KD1.out _ hS1
      | with_reducible exact KD1.out _ (KA1.out _ _ hS1)
      | with_reducible assumption)
    (first
      | (go_at_call 26;go_fit (con_bn fX fY HC.out);rintro e w' ⟨rfl,hb⟩;(first|replace B2:=B2.later hb|replace B2:=B2.drew.later hb|skip);have lt2:=B2.lt;have d0:=B2.cell 0 _ rfl;have g0:=B2.frozen 0;have d1:=B2.cell 1 _ rfl;have g1:=B2.frozen 1;have d2:=B2.cell 2 _ rfl;have g2:=B2.frozen 2;have d3:=B2.cell 3 _ rfl;have g3:=B2.frozen 3;have d4:=B2.cell 4 _ rfl;have g4:=B2.frozen 4;have d5:=B2.cell 5 _ rfl;have g5:=B2.frozen 5;have d6:=B2.cell 6 _ rfl;have g6:=B2.frozen 6;have d7:=B2.cell 7 _ rfl;have g7:=B2.frozen 7;have d8:=B2.cell 8 _ rfl;have g8:=B2.frozen 8;have d9:=B2.cell 9 _ rfl;have g9:=B2.frozen 9;have d10:=B2.cell 10 _ rfl;have g10:=B2.frozen 10;have d11:=B2.cell 11 _ rfl;have g11:=B2.frozen 11;have d12:=B2.cell 12 _ rfl;have g12:=B2.frozen 12))
  all_goals go_wp2
  all_goals exact bodyPost_ret (v:=.agg #[.int .u64 x0,.int .u64 x1,.int .u64 x2,.int .u64 x3,.int .u64 x4,.int .u64 x5,.int .u64 y0,.int .u64 y1,.int .u64 y2,.int .u64 y3,.int .u64 y4,.int .u64 y5,.bool false]) (by simp [results,Tryz.results99,go_sem,d0,d1,d2,d3,d4,d5,d6,d7,d8,d9,d10,d11,d12]) rfl ⟨rfl,KB1.out _ (by assumption)⟩
set_option maxRecDepth 100000 in
set_option maxHeartbeats 2000000 in
theorem pt_of1 {x0 x1 x2 x3 x4 x5 y0 y1 y2 y3 y4 y5:Int} {w:World} (fX:fits [x0,x1,x2,x3,x4,x5]) (fY:fits [y0,y1,y2,y3,y4,y5]) (hc:bnN [x0,x1,x2,x3,x4,x5] [y0,y1,y2,y3,y4,y5]=1) :
    Calls Tryz.prog 99 #[.agg #[.int .u64 x0,.int .u64 x1,.int .u64 x2,.int .u64 x3,.int .u64 x4,.int .u64 x5],.agg #[.int .u64 y0,.int .u64 y1,.int .u64 y2,.int .u64 y3,.int .u64 y4,.int .u64 y5]] w fun e w'=>e=.returned (.agg #[.int .u64 x0,.int .u64 x1,.int .u64 x2,.int .u64 x3,.int .u64 x4,.int .u64 x5,.int .u64 y0,.int .u64 y1,.int .u64 y2,.int .u64 y3,.int .u64 y4,.int .u64 y5,.bool true])∧Below w.heap.size w w':=by
  have HC:Hid (bnN [x0,x1,x2,x3,x4,x5] [y0,y1,y2,y3,y4,y5]=1):=hc
  clear hc
  have B0:=((Blk.new w [.int .u64 x0,.int .u64 x1,.int .u64 x2,.int .u64 x3,.int .u64 x4,.int .u64 x5] 24 (w.heap.size) rfl).alloc (.cells [.int .u64 y0,.int .u64 y1,.int .u64 y2,.int .u64 y3,.int .u64 y4,.int .u64 y5].toArray 24)).alloc (.cells [.int .u64 0,.int .u64 0,.int .u64 0,.int .u64 0,.int .u64 0,.int .u64 0,.int .u64 0,.int .u64 0,.int .u64 0,.int .u64 0,.int .u64 0,.int .u64 0,.bool false].toArray 26)
  have B1:=(Blk.new (w.alloc (.cells [.int .u64 x0,.int .u64 x1,.int .u64 x2,.int .u64 x3,.int .u64 x4,.int .u64 x5].toArray 24)) [.int .u64 y0,.int .u64 y1,.int .u64 y2,.int .u64 y3,.int .u64 y4,.int .u64 y5] 24 (w.heap.size + 1) (by simp)).alloc (.cells [.int .u64 0,.int .u64 0,.int .u64 0,.int .u64 0,.int .u64 0,.int .u64 0,.int .u64 0,.int .u64 0,.int .u64 0,.int .u64 0,.int .u64 0,.int .u64 0,.bool false].toArray 26)
  have B2:=Blk.new ((w.alloc (.cells [.int .u64 x0,.int .u64 x1,.int .u64 x2,.int .u64 x3,.int .u64 x4,.int .u64 x5].toArray 24)).alloc (.cells [.int .u64 y0,.int .u64 y1,.int .u64 y2,.int .u64 y3,.int .u64 y4,.int .u64 y5].toArray 24)) [.int .u64 0,.int .u64 0,.int .u64 0,.int .u64 0,.int .u64 0,.int .u64 0,.int .u64 0,.int .u64 0,.int .u64 0,.int .u64 0,.int .u64 0,.int .u64 0,.bool false] 26 (w.heap.size + 1 + 1) (by simp)
  have bel:Below w.heap.size w (((w.alloc (.cells [.int .u64 x0,.int .u64 x1,.int .u64 x2,.int .u64 x3,.int .u64 x4,.int .u64 x5].toArray 24)).alloc (.cells [.int .u64 y0,.int .u64 y1,.int .u64 y2,.int .u64 y3,.int .u64 y4,.int .u64 y5].toArray 24)).alloc (.cells [.int .u64 0,.int .u64 0,.int .u64 0,.int .u64 0,.int .u64 0,.int .u64 0,.int .u64 0,.int .u64 0,.int .u64 0,.int .u64 0,.int .u64 0,.int .u64 0,.bool false].toArray 26)):=((((Below.refl _ _).alloc (Nat.le_refl _) _).alloc (by simp) _).alloc (by simp;omega) _)
  go_enter Tryz.func99,Tryz.ntmps99
  go_upto_region 1 with fail
  try simp only [us,List.map_cons,List.map_nil] at bel
  generalize (((w.alloc (Obj.cells #[.int .u64 x0,.int .u64 x1,.int .u64 x2,.int .u64 x3,.int .u64 x4,.int .u64 x5] 24)).alloc (Obj.cells #[.int .u64 y0,.int .u64 y1,.int .u64 y2,.int .u64 y3,.int .u64 y4,.int .u64 y5] 24)).alloc (Obj.cells #[.int .u64 0,.int .u64 0,.int .u64 0,.int .u64 0,.int .u64 0,.int .u64 0,.int .u64 0,.int .u64 0,.int .u64 0,.int .u64 0,.int .u64 0,.int .u64 0,.bool false] 26))=W at *
  obtain ⟨S1,hS1,KL1,KA1,KD1,KS1,KQ1,KN1,KB1,KM1,KR1⟩:=held3 (w0:=w) (W:=W) [(w.heap.size,[.int .u64 x0,.int .u64 x1,.int .u64 x2,.int .u64 x3,.int .u64 x4,.int .u64 x5]),(w.heap.size + 1,[.int .u64 y0,.int .u64 y1,.int .u64 y2,.int .u64 y3,.int .u64 y4,.int .u64 y5])] (by
    intro b X h
    simp only [List.mem_cons,List.not_mem_nil,or_false,Prod.mk.injEq] at h
    rcases h with ⟨rfl,rfl⟩|⟨rfl,rfl⟩
    · exact B0
    · exact B1) bel
  have kb1a:∀ wx,Hd S1 wx→Blk wx (w.heap.size) [.int .u64 x0,.int .u64 x1,.int .u64 x2,.int .u64 x3,.int .u64 x4,.int .u64 x5]:=fun wx h=>KM1.out wx _ _ h (by simp)
  have c1a0:=rulec kb1a 0 _ rfl
  have c1a1:=rulec kb1a 1 _ rfl
  have c1a2:=rulec kb1a 2 _ rfl
  have c1a3:=rulec kb1a 3 _ rfl
  have c1a4:=rulec kb1a 4 _ rfl
  have c1a5:=rulec kb1a 5 _ rfl
  have c1al:=ruleb kb1a
  clear kb1a
  have kb1b:∀ wx,Hd S1 wx→Blk wx (w.heap.size + 1) [.int .u64 y0,.int .u64 y1,.int .u64 y2,.int .u64 y3,.int .u64 y4,.int .u64 y5]:=fun wx h=>KM1.out wx _ _ h (by simp)
  have c1b0:=rulec kb1b 0 _ rfl
  have c1b1:=rulec kb1b 1 _ rfl
  have c1b2:=rulec kb1b 2 _ rfl
  have c1b3:=rulec kb1b 3 _ rfl
  have c1b4:=rulec kb1b 4 _ rfl
  have c1b5:=rulec kb1b 5 _ rfl
  have c1bl:=ruleb kb1b
  clear kb1b
  have mq1a:∀ c X,(c,X)∈[((w.heap.size:Nat),([.int .u64 x0,.int .u64 x1,.int .u64 x2,.int .u64 x3,.int .u64 x4,.int .u64 x5]:List Value)),((w.heap.size + 1:Nat),([.int .u64 y0,.int .u64 y1,.int .u64 y2,.int .u64 y3,.int .u64 y4,.int .u64 y5]:List Value))]→c≠w.heap.size + 1 + 1:=by
    intro c X h
    simp only [List.mem_cons,List.not_mem_nil,or_false,Prod.mk.injEq] at h
    omega
  have hN1:=bel.size
  clear bel B0 B1
  go_region_held3 (Hd S1)
    (first
      | with_reducible exact (KQ1.out _ _ _ _ (KQ1.out _ _ _ _ (KQ1.out _ _ _ _ (KQ1.out _ _ _ _ (KQ1.out _ _ _ _ (KQ1.out _ _ _ _ (KQ1.out _ _ _ _ (KQ1.out _ _ _ _ (KQ1.out _ _ _ _ (KQ1.out _ _ _ _ (KQ1.out _ _ _ _ (KQ1.out _ _ _ _ (KQ1.out _ _ _ _ (by assumption) (Or.inr mq1a) (by omega)) (Or.inr mq1a) (by omega)) (Or.inr mq1a) (by omega)) (Or.inr mq1a) (by omega)) (Or.inr mq1a) (by omega)) (Or.inr mq1a) (by omega)) (Or.inr mq1a) (by omega)) (Or.inr mq1a) (by omega)) (Or.inr mq1a) (by omega)) (Or.inr mq1a) (by omega)) (Or.inr mq1a) (by omega)) (Or.inr mq1a) (by omega)) (Or.inr mq1a) (by omega))
      | with_reducible exact KL1.out _ _ (by assumption) hb
      | with_reducible exact KA1.out _ _ (by assumption)
      | with_reducible exact KS1.out _ _ _ (by omega) (by assumption)
      | with_reducible exact KD1.out _ hS1
      | with_reducible exact KD1.out _ (KA1.out _ _ hS1)
      | with_reducible assumption)
    (first
      | (go_at_call 26;go_fit (con_bn fX fY HC.out);rintro e w' ⟨rfl,hb⟩;(first|replace B2:=B2.later hb|replace B2:=B2.drew.later hb|skip);have lt2:=B2.lt;have d0:=B2.cell 0 _ rfl;have g0:=B2.frozen 0;have d1:=B2.cell 1 _ rfl;have g1:=B2.frozen 1;have d2:=B2.cell 2 _ rfl;have g2:=B2.frozen 2;have d3:=B2.cell 3 _ rfl;have g3:=B2.frozen 3;have d4:=B2.cell 4 _ rfl;have g4:=B2.frozen 4;have d5:=B2.cell 5 _ rfl;have g5:=B2.frozen 5;have d6:=B2.cell 6 _ rfl;have g6:=B2.frozen 6;have d7:=B2.cell 7 _ rfl;have g7:=B2.frozen 7;have d8:=B2.cell 8 _ rfl;have g8:=B2.frozen 8;have d9:=B2.cell 9 _ rfl;have g9:=B2.frozen 9;have d10:=B2.cell 10 _ rfl;have g10:=B2.frozen 10;have d11:=B2.cell 11 _ rfl;have g11:=B2.frozen 11;have d12:=B2.cell 12 _ rfl;have g12:=B2.frozen 12))
  all_goals go_wp2
  all_goals exact bodyPost_ret (v:=.agg #[.int .u64 x0,.int .u64 x1,.int .u64 x2,.int .u64 x3,.int .u64 x4,.int .u64 x5,.int .u64 y0,.int .u64 y1,.int .u64 y2,.int .u64 y3,.int .u64 y4,.int .u64 y5,.bool true]) (by simp [results,Tryz.results99,go_sem,d0,d1,d2,d3,d4,d5,d6,d7,d8,d9,d10,d11,d12]) rfl ⟨rfl,KB1.out _ (by assumption)⟩
theorem con_pt {x0 x1 x2 x3 x4 x5 y0 y1 y2 y3 y4 y5:Int} {k:Bool} {w:World} (fX:fits [x0,x1,x2,x3,x4,x5]) (fY:fits [y0,y1,y2,y3,y4,y5]) (hk:k=true↔[x0,x1,x2,x3,x4,x5]=[0,0,0,0,0,0]∧[y0,y1,y2,y3,y4,y5]=[0,0,0,0,0,0]) :
  Calls Tryz.prog 99 #[.agg #[.int .u64 x0,.int .u64 x1,.int .u64 x2,.int .u64 x3,.int .u64 x4,.int .u64 x5],.agg #[.int .u64 y0,.int .u64 y1,.int .u64 y2,.int .u64 y3,.int .u64 y4,.int .u64 y5]] w fun e w'=>e=.returned (.agg #[.int .u64 x0,.int .u64 x1,.int .u64 x2,.int .u64 x3,.int .u64 x4,.int .u64 x5,.int .u64 y0,.int .u64 y1,.int .u64 y2,.int .u64 y3,.int .u64 y4,.int .u64 y5,.bool k])∧Below w.heap.size w w':=by
 rw [← bn_one] at hk
 cases k with
 | true=>exact pt_of1 fX fY (hk.1 rfl)
 | false=>exact pt_of0 fX fY ((bn_or _ _).resolve_right (fun h=>absurd (hk.2 h) (by decide)))
set_option maxRecDepth 100000 in
set_option maxHeartbeats 2000000 in
theorem con_opp {x0 x1 x2 x3 x4 x5 y0 y1 y2 y3 y4 y5 p0 p1 p2 p3 p4 p5 q0 q1 q2 q3 q4 q5:Int} {n m:Bool} {w:World} (fX:fits [x0,x1,x2,x3,x4,x5]) (fY:fits [y0,y1,y2,y3,y4,y5]) (fP:fits [p0,p1,p2,p3,p4,p5]) (fQ:fits [q0,q1,q2,q3,q4,q5]) {c:Int} (hc:opN [x0,x1,x2,x3,x4,x5] [y0,y1,y2,y3,y4,y5] [p0,p1,p2,p3,p4,p5] [q0,q1,q2,q3,q4,q5]=c) :
    Calls Tryz.prog 97 #[.agg #[.int .u64 x0,.int .u64 x1,.int .u64 x2,.int .u64 x3,.int .u64 x4,.int .u64 x5,.int .u64 y0,.int .u64 y1,.int .u64 y2,.int .u64 y3,.int .u64 y4,.int .u64 y5,.bool n],.agg #[.int .u64 p0,.int .u64 p1,.int .u64 p2,.int .u64 p3,.int .u64 p4,.int .u64 p5,.int .u64 q0,.int .u64 q1,.int .u64 q2,.int .u64 q3,.int .u64 q4,.int .u64 q5,.bool m]] w fun e w'=>e=.returned (.int .u64 c)∧Below w.heap.size w w':=by
  obtain ⟨c1,h1⟩:∃ c,sameN [x0,x1,x2,x3,x4,x5] [p0,p1,p2,p3,p4,p5]=c:=⟨_,rfl⟩
  obtain ⟨c2,h2⟩:∃ c,sameN [y0,y1,y2,y3,y4,y5] [q0,q1,q2,q3,q4,q5]=c:=⟨_,rfl⟩
  have e:=op_and [x0,x1,x2,x3,x4,x5] [y0,y1,y2,y3,y4,y5] [p0,p1,p2,p3,p4,p5] [q0,q1,q2,q3,q4,q5]
  rw [h1,h2,hc] at e
  have H1:Hid (sameN [x0,x1,x2,x3,x4,x5] [p0,p1,p2,p3,p4,p5]=c1):=h1
  have H2:Hid (sameN [y0,y1,y2,y3,y4,y5] [q0,q1,q2,q3,q4,q5]=c2):=h2
  have HE:Hid (bits .and .u64 c1 (bits .xor .u64 1 c2)=c):=e
  clear hc h1 h2 e
  have B0:=(Blk.new w [.int .u64 x0,.int .u64 x1,.int .u64 x2,.int .u64 x3,.int .u64 x4,.int .u64 x5,.int .u64 y0,.int .u64 y1,.int .u64 y2,.int .u64 y3,.int .u64 y4,.int .u64 y5,.bool n] 26 (w.heap.size) rfl).alloc (.cells [.int .u64 p0,.int .u64 p1,.int .u64 p2,.int .u64 p3,.int .u64 p4,.int .u64 p5,.int .u64 q0,.int .u64 q1,.int .u64 q2,.int .u64 q3,.int .u64 q4,.int .u64 q5,.bool m].toArray 26)
  have B1:=Blk.new (w.alloc (.cells [.int .u64 x0,.int .u64 x1,.int .u64 x2,.int .u64 x3,.int .u64 x4,.int .u64 x5,.int .u64 y0,.int .u64 y1,.int .u64 y2,.int .u64 y3,.int .u64 y4,.int .u64 y5,.bool n].toArray 26)) [.int .u64 p0,.int .u64 p1,.int .u64 p2,.int .u64 p3,.int .u64 p4,.int .u64 p5,.int .u64 q0,.int .u64 q1,.int .u64 q2,.int .u64 q3,.int .u64 q4,.int .u64 q5,.bool m] 26 (w.heap.size + 1) (by simp)
  have bel:Below w.heap.size w ((w.alloc (.cells [.int .u64 x0,.int .u64 x1,.int .u64 x2,.int .u64 x3,.int .u64 x4,.int .u64 x5,.int .u64 y0,.int .u64 y1,.int .u64 y2,.int .u64 y3,.int .u64 y4,.int .u64 y5,.bool n].toArray 26)).alloc (.cells [.int .u64 p0,.int .u64 p1,.int .u64 p2,.int .u64 p3,.int .u64 p4,.int .u64 p5,.int .u64 q0,.int .u64 q1,.int .u64 q2,.int .u64 q3,.int .u64 q4,.int .u64 q5,.bool m].toArray 26)):=(((Below.refl _ _).alloc (Nat.le_refl _) _).alloc (by simp) _)
  go_enter Tryz.func97,Tryz.ntmps97
  go_upto_region 1 with fail
  try simp only [us,List.map_cons,List.map_nil] at bel
  generalize ((w.alloc (Obj.cells #[.int .u64 x0,.int .u64 x1,.int .u64 x2,.int .u64 x3,.int .u64 x4,.int .u64 x5,.int .u64 y0,.int .u64 y1,.int .u64 y2,.int .u64 y3,.int .u64 y4,.int .u64 y5,.bool n] 26)).alloc (Obj.cells #[.int .u64 p0,.int .u64 p1,.int .u64 p2,.int .u64 p3,.int .u64 p4,.int .u64 p5,.int .u64 q0,.int .u64 q1,.int .u64 q2,.int .u64 q3,.int .u64 q4,.int .u64 q5,.bool m] 26))=W at *
  obtain ⟨S1,hS1,KL1,KA1,KD1,KS1,KQ1,KN1,KB1,KM1,KR1⟩:=held3 (w0:=w) (W:=W) [(w.heap.size,[.int .u64 x0,.int .u64 x1,.int .u64 x2,.int .u64 x3,.int .u64 x4,.int .u64 x5,.int .u64 y0,.int .u64 y1,.int .u64 y2,.int .u64 y3,.int .u64 y4,.int .u64 y5,.bool n]),(w.heap.size + 1,[.int .u64 p0,.int .u64 p1,.int .u64 p2,.int .u64 p3,.int .u64 p4,.int .u64 p5,.int .u64 q0,.int .u64 q1,.int .u64 q2,.int .u64 q3,.int .u64 q4,.int .u64 q5,.bool m])] (by
    intro b X h
    simp only [List.mem_cons,List.not_mem_nil,or_false,Prod.mk.injEq] at h
    rcases h with ⟨rfl,rfl⟩|⟨rfl,rfl⟩
    · exact B0
    · exact B1) bel
  have kb1a:∀ wx,Hd S1 wx→Blk wx (w.heap.size) [.int .u64 x0,.int .u64 x1,.int .u64 x2,.int .u64 x3,.int .u64 x4,.int .u64 x5,.int .u64 y0,.int .u64 y1,.int .u64 y2,.int .u64 y3,.int .u64 y4,.int .u64 y5,.bool n]:=fun wx h=>KM1.out wx _ _ h (by simp)
  have c1a0:=rulec kb1a 0 _ rfl
  have c1a1:=rulec kb1a 1 _ rfl
  have c1a2:=rulec kb1a 2 _ rfl
  have c1a3:=rulec kb1a 3 _ rfl
  have c1a4:=rulec kb1a 4 _ rfl
  have c1a5:=rulec kb1a 5 _ rfl
  have c1a6:=rulec kb1a 6 _ rfl
  have c1a7:=rulec kb1a 7 _ rfl
  have c1a8:=rulec kb1a 8 _ rfl
  have c1a9:=rulec kb1a 9 _ rfl
  have c1a10:=rulec kb1a 10 _ rfl
  have c1a11:=rulec kb1a 11 _ rfl
  have c1a12:=rulec kb1a 12 _ rfl
  have c1al:=ruleb kb1a
  clear kb1a
  have kb1b:∀ wx,Hd S1 wx→Blk wx (w.heap.size + 1) [.int .u64 p0,.int .u64 p1,.int .u64 p2,.int .u64 p3,.int .u64 p4,.int .u64 p5,.int .u64 q0,.int .u64 q1,.int .u64 q2,.int .u64 q3,.int .u64 q4,.int .u64 q5,.bool m]:=fun wx h=>KM1.out wx _ _ h (by simp)
  have c1b0:=rulec kb1b 0 _ rfl
  have c1b1:=rulec kb1b 1 _ rfl
  have c1b2:=rulec kb1b 2 _ rfl
  have c1b3:=rulec kb1b 3 _ rfl
  have c1b4:=rulec kb1b 4 _ rfl
  have c1b5:=rulec kb1b 5 _ rfl
  have c1b6:=rulec kb1b 6 _ rfl
  have c1b7:=rulec kb1b 7 _ rfl
  have c1b8:=rulec kb1b 8 _ rfl
  have c1b9:=rulec kb1b 9 _ rfl
  have c1b10:=rulec kb1b 10 _ rfl
  have c1b11:=rulec kb1b 11 _ rfl
  have c1b12:=rulec kb1b 12 _ rfl
  have c1bl:=ruleb kb1b
  clear kb1b
  have hN1:=bel.size
  clear bel B0 B1
  go_region_held3 (Hd S1)
    (first
      | with_reducible exact KL1.out _ _ (by assumption) hb
      | with_reducible exact KA1.out _ _ (by assumption)
      | with_reducible exact KS1.out _ _ _ (by omega) (by assumption)
      | with_reducible exact KD1.out _ hS1
      | with_reducible exact KD1.out _ (KA1.out _ _ hS1)
      | with_reducible assumption)
    (first
      | (go_at_call 47;go_fit (same_num fX fP H1.out);rintro e w' ⟨rfl,hb⟩)
      | (go_at_call 47;go_fit (same_num fY fQ H2.out);rintro e w' ⟨rfl,hb⟩))
  all_goals go_wp2
  all_goals (go_ret;exact ⟨by rw [← HE.out];rfl,KB1.out _ (by assumption)⟩)
/-- 1 where the curve's equation holds -/
def hoN (x y:Int):Int:=if (y * y - (x * x * x - 3 * x + BB)) % PP=0 then 1 else 0
theorem holds_same {S T:List Int} {x y c q r k:Int} (lS:S.length=6) (lT:T.length=6) (fS:fits S) (fT:fits T) (hS:v64 S=(y * y) % PP) (hk:q=(x * x) % PP∧r=(q - 3) % PP∧k=(x * r) % PP) (hT:v64 T=(k + BB) % PP) (hc:hoN x y=c):sameN S T=c:=by
 obtain ⟨hq,hr,hk⟩:=hk
 have e1:=nu_emod (x * x)
 rw [← hq] at e1
 have e2:=nu_emod (q - 3)
 rw [← hr] at e2
 have e3:=nu_emod (x * r)
 rw [← hk] at e3
 have e:Nu (k + BB - (x * x * x - 3 * x + BB)):=nu_of3 e3 1 e2 x e1 x (by grind)
 rw [← hc]
 unfold sameN hoN
 have iff1:S=T↔(y * y - (x * x * x - 3 * x + BB)) % PP=0:=by
  rw [← nu_iff]
  constructor
  ·rintro rfl
   have h:Nu (y * y - (k + BB)):=nu_iff.2 (Int.emod_eq_emod_iff_emod_sub_eq_zero.1 (hS.symm.trans hT))
   exact nu_of2 h 1 e 1 (by grind)
  ·intro h
   have h2:Nu (y * y - (k + BB)):=nu_of2 h 1 e (-1) (by grind)
   exact v64_inj _ _ (by rw [lS,lT]) fS fT (by rw [hS,hT];exact nu_eq h2)
 by_cases h:S=T
 ·rw [if_pos h,if_pos (iff1.1 h)]
 ·rw [if_neg h,if_neg (fun k=>h (iff1.2 k))]
theorem ho_or (x y:Int):hoN x y=0∨hoN x y=1:=by unfold hoN;split<;>simp
theorem ho_one (x y:Int):hoN x y=1↔Nu (y * y - (x * x * x - 3 * x + BB)):=by
 rw [nu_iff]
 unfold hoN
 split<;>rename_i h
 ·exact ⟨fun _=>h,fun _=>rfl⟩
 ·exact ⟨fun k=>absurd k (by decide),fun k=>absurd k h⟩
theorem less_or (A B:List Int):lessN A B=0∨lessN A B=1:=by unfold lessN;split<;>simp
theorem less_one (A B:List Int):lessN A B=1↔v64 A < v64 B:=by
 unfold lessN
 split<;>rename_i h
 ·exact ⟨fun _=>h,fun _=>rfl⟩
 ·exact ⟨fun k=>absurd k (by decide),fun k=>absurd k h⟩
theorem not_nought:¬ Aff 0 0:=fun h=>absurd h.cu (by unfold Nu;decide +kernel)
theorem num_01 (c l1 l2 o:Int) (h0:c=0∨c=1) (h1:l1=0∨l1=1) (h2:l2=0∨l2=1) (h3:o=0∨o=1):(bits .or .u64 c (bits .and .u64 (bits .and .u64 l1 l2) o)=0∨bits .or .u64 c (bits .and .u64 (bits .and .u64 l1 l2) o)=1)∧(bits .or .u64 c (bits .and .u64 (bits .and .u64 l1 l2) o)=1↔c=1∨(l1=1∧l2=1∧o=1)):=by
 rcases h0 with rfl|rfl<;>rcases h1 with rfl|rfl<;>rcases h2 with rfl|rfl<;>rcases h3 with rfl|rfl<;>decide
theorem on_val {x0 x1 x2 x3 x4 x5 y0 y1 y2 y3 y4 y5:Int} {n b:Bool} (fX:fits [x0,x1,x2,x3,x4,x5]) (fY:fits [y0,y1,y2,y3,y4,y5]) (hb:b=true↔IsOn n (v64 [x0,x1,x2,x3,x4,x5]) (v64 [y0,y1,y2,y3,y4,y5])) {c l1 l2 o f:Int} (hc:bnN [x0,x1,x2,x3,x4,x5] [y0,y1,y2,y3,y4,y5]=c) (h1:lessN [x0,x1,x2,x3,x4,x5] [4294967295,18446744069414584320,18446744073709551614,18446744073709551615,18446744073709551615,18446744073709551615]=l1) (h2:lessN [y0,y1,y2,y3,y4,y5] [4294967295,18446744069414584320,18446744073709551614,18446744073709551615,18446744073709551615,18446744073709551615]=l2) (h3:hoN (v64 [x0,x1,x2,x3,x4,x5]) (v64 [y0,y1,y2,y3,y4,y5])=o) (hf:bits .or .u64 c (bits .and .u64 (bits .and .u64 l1 l2) o)=f) :
  (f=0∨f=1)∧(c=0∨c=1)∧(decide (f=1) && (n == decide (c=1)))=b:=by
 have c01:c=0∨c=1:=hc ▸ bn_or _ _
 have k:=num_01 c l1 l2 o c01 (h1 ▸ less_or _ _) (h2 ▸ less_or _ _) (h3 ▸ ho_or _ _)
 rw [hf] at k
 refine ⟨k.1,c01,?_⟩
 have c1:c=1↔v64 [x0,x1,x2,x3,x4,x5]=0∧v64 [y0,y1,y2,y3,y4,y5]=0:=by rw [← hc,bn_one,v6_zero fX,v6_zero fY]
 have ho:(l1=1∧l2=1∧o=1)↔Aff (v64 [x0,x1,x2,x3,x4,x5]) (v64 [y0,y1,y2,y3,y4,y5]):=by
  rw [← h1,← h2,← h3,less_one,less_one,ho_one,v_p]
  exact ⟨fun h=>⟨⟨(v6_bound _ rfl fX).1,h.1⟩,⟨(v6_bound _ rfl fY).1,h.2.1⟩,h.2.2⟩,fun h=>⟨h.lx.2,h.ly.2,h.cu⟩⟩
 rw [ho] at k
 have hbe:b=decide (b=true):=by cases b<;>rfl
 rw [hbe,Bool.eq_iff_iff,decide_eq_true_iff,hb,Bool.and_eq_true,decide_eq_true_iff,beq_iff_eq]
 unfold IsOn
 rw [k.2]
 by_cases q:c=1
 ·have z:=c1.1 q
  rw [z.1,z.2]
  have na:=not_nought
  cases n<;>simp [q,na]
 ·have nz:¬ (v64 [x0,x1,x2,x3,x4,x5]=0∧v64 [y0,y1,y2,y3,y4,y5]=0):=fun h=>q (c1.2 h)
  cases n<;>simp [q,nz]
theorem holds_fin {s0 s1 s2 s3 s4 s5 t0 t1 t2 t3 t4 t5 x y c k:Int} (fS:fits [s0,s1,s2,s3,s4,s5]) (fT:fits [t0,t1,t2,t3,t4,t5]) (hS:v64 [s0,s1,s2,s3,s4,s5]=(y * y) % PP) (hk:∃ q r,q=(x * x) % PP∧r=(q - 3) % PP∧k=(x * r) % PP) (hT:v64 [t0,t1,t2,t3,t4,t5]=(k + v64 [3064076045283764975,14291673747578343837,221811693264799578,1737717031765098770,10992729701402291481,12912154004749740004]) % PP) (hc:hoN x y=c):sameN [s0,s1,s2,s3,s4,s5] [t0,t1,t2,t3,t4,t5]=c:=by
 obtain ⟨q,r,hk⟩:=hk
 exact holds_same rfl rfl fS fT hS hk (by rw [← v_b];exact hT) hc
set_option maxRecDepth 100000 in
set_option maxHeartbeats 4000000 in
theorem con_holds {x0 x1 x2 x3 x4 x5 y0 y1 y2 y3 y4 y5 c:Int} {w:World} (G:GlsC w) (fX:fits [x0,x1,x2,x3,x4,x5]) (fY:fits [y0,y1,y2,y3,y4,y5]) (hc:hoN (v64 [x0,x1,x2,x3,x4,x5]) (v64 [y0,y1,y2,y3,y4,y5])=c) :
    Calls Tryz.prog 28 #[.agg #[.int .u64 x0,.int .u64 x1,.int .u64 x2,.int .u64 x3,.int .u64 x4,.int .u64 x5],.agg #[.int .u64 y0,.int .u64 y1,.int .u64 y2,.int .u64 y3,.int .u64 y4,.int .u64 y5]] w fun e w'=>e=.returned (.int .u64 c)∧Below w.heap.size w w':=by
  have HC:Hid (hoN (v64 [x0,x1,x2,x3,x4,x5]) (v64 [y0,y1,y2,y3,y4,y5])=c):=hc
  clear hc
  have B0:=(Blk.new w [.int .u64 x0,.int .u64 x1,.int .u64 x2,.int .u64 x3,.int .u64 x4,.int .u64 x5] 24 (w.heap.size) rfl).alloc (.cells [.int .u64 y0,.int .u64 y1,.int .u64 y2,.int .u64 y3,.int .u64 y4,.int .u64 y5].toArray 24)
  have B1:=Blk.new (w.alloc (.cells [.int .u64 x0,.int .u64 x1,.int .u64 x2,.int .u64 x3,.int .u64 x4,.int .u64 x5].toArray 24)) [.int .u64 y0,.int .u64 y1,.int .u64 y2,.int .u64 y3,.int .u64 y4,.int .u64 y5] 24 (w.heap.size + 1) (by simp)
  have bel:Below w.heap.size w ((w.alloc (.cells [.int .u64 x0,.int .u64 x1,.int .u64 x2,.int .u64 x3,.int .u64 x4,.int .u64 x5].toArray 24)).alloc (.cells [.int .u64 y0,.int .u64 y1,.int .u64 y2,.int .u64 y3,.int .u64 y4,.int .u64 y5].toArray 24)):=(((Below.refl _ _).alloc (Nat.le_refl _) _).alloc (by simp) _)
  go_enter Tryz.func28,Tryz.ntmps28
  go_upto_region 1 with fail
  try simp only [us,List.map_cons,List.map_nil] at bel
  generalize ((w.alloc (Obj.cells #[.int .u64 x0,.int .u64 x1,.int .u64 x2,.int .u64 x3,.int .u64 x4,.int .u64 x5] 24)).alloc (Obj.cells #[.int .u64 y0,.int .u64 y1,.int .u64 y2,.int .u64 y3,.int .u64 y4,.int .u64 y5] 24))=W at *
  obtain ⟨S1,hS1,KL1,KA1,KD1,KS1,KQ1,KN1,KB1,KM1,KR1⟩:=held3 (w0:=w) (W:=W) [(w.heap.size,[.int .u64 x0,.int .u64 x1,.int .u64 x2,.int .u64 x3,.int .u64 x4,.int .u64 x5]),(w.heap.size + 1,[.int .u64 y0,.int .u64 y1,.int .u64 y2,.int .u64 y3,.int .u64 y4,.int .u64 y5])] (by
    intro b X h
    simp only [List.mem_cons,List.not_mem_nil,or_false,Prod.mk.injEq] at h
    rcases h with ⟨rfl,rfl⟩|⟨rfl,rfl⟩
    · exact B0
    · exact B1) bel
  have kb1a:∀ wx,Hd S1 wx→Blk wx (w.heap.size) [.int .u64 x0,.int .u64 x1,.int .u64 x2,.int .u64 x3,.int .u64 x4,.int .u64 x5]:=fun wx h=>KM1.out wx _ _ h (by simp)
  have c1a0:=rulec kb1a 0 _ rfl
  have c1a1:=rulec kb1a 1 _ rfl
  have c1a2:=rulec kb1a 2 _ rfl
  have c1a3:=rulec kb1a 3 _ rfl
  have c1a4:=rulec kb1a 4 _ rfl
  have c1a5:=rulec kb1a 5 _ rfl
  have c1al:=ruleb kb1a
  clear kb1a
  have kb1b:∀ wx,Hd S1 wx→Blk wx (w.heap.size + 1) [.int .u64 y0,.int .u64 y1,.int .u64 y2,.int .u64 y3,.int .u64 y4,.int .u64 y5]:=fun wx h=>KM1.out wx _ _ h (by simp)
  have c1b0:=rulec kb1b 0 _ rfl
  have c1b1:=rulec kb1b 1 _ rfl
  have c1b2:=rulec kb1b 2 _ rfl
  have c1b3:=rulec kb1b 3 _ rfl
  have c1b4:=rulec kb1b 4 _ rfl
  have c1b5:=rulec kb1b 5 _ rfl
  have c1bl:=ruleb kb1b
  clear kb1b
  have hN1:=bel.size
  clear bel B0 B1
  go_cut [5] (fun p wx=>∃ (b:Nat) (k0 k1 k2 k3 k4 k5:Int),p=.pointer (some ⟨b,0,none⟩)∧W.heap.size≤b∧fits [k0,k1,k2,k3,k4,k5]∧Hid (∃ q r,q=(v64 [x0,x1,x2,x3,x4,x5] * v64 [x0,x1,x2,x3,x4,x5]) % PP∧r=(q - 3) % PP∧v64 [k0,k1,k2,k3,k4,k5]=(v64 [x0,x1,x2,x3,x4,x5] * r) % PP)∧Blk wx b (us [k0,k1,k2,k3,k4,k5])∧Hd S1 wx)
  case first =>
    go_region_held3 (Hd S1)
      (first
        | with_reducible exact (KQ1.out _ _ _ _ (KQ1.out _ _ _ _ (KQ1.out _ _ _ _ (KQ1.out _ _ _ _ (KQ1.out _ _ _ _ (KQ1.out _ _ _ _ (by assumption) (Or.inl (by omega)) (by omega)) (Or.inl (by omega)) (by omega)) (Or.inl (by omega)) (by omega)) (Or.inl (by omega)) (by omega)) (Or.inl (by omega)) (by omega)) (Or.inl (by omega)) (by omega))
        | with_reducible exact KL1.out _ _ (by assumption) hb
        | with_reducible exact KA1.out _ _ (by assumption)
        | with_reducible exact KS1.out _ _ _ (by omega) (by assumption)
        | with_reducible exact KD1.out _ hS1
        | with_reducible exact KD1.out _ (KA1.out _ _ hS1)
        | with_reducible assumption)
      (first
        | (go_at_call 50;go_fit (fmul6 (G.below (KB1.out _ (by first|with_reducible assumption|with_reducible exact KA1.out _ _ (by assumption)|with_reducible exact KD1.out _ (by assumption)))).fld fX fX);rintro e w' ⟨q0,q1,q2,q3,q4,q5,rfl,fQ,hv,hb⟩;have HQ:Hid _:=hv;clear hv;(first|replace BN:=BN.later hb|with_reducible have BN:=Wr6.later Wr6.new hb|with_reducible have BN:=Wr6.later (Wr6.drew Wr6.new) hb|skip);have hlt:=KN1.out _ (KL1.out _ _ (by assumption) hb))
        | (go_at_call 51;go_fit (fsub6 (G.below (KB1.out _ (by first|with_reducible assumption|with_reducible exact KA1.out _ _ (by assumption)|with_reducible exact KD1.out _ (by assumption)))).fld fQ fits_3);rintro e w' ⟨r0,r1,r2,r3,r4,r5,rfl,fR,hv,hb⟩;have HR:Hid _:=hv;clear hv;(first|replace BN:=BN.later hb|with_reducible have BN:=Wr6.later Wr6.new hb|with_reducible have BN:=Wr6.later (Wr6.drew Wr6.new) hb|skip);have hlt:=KN1.out _ (KL1.out _ _ (by assumption) hb))
        | (go_at_call 50;go_fit (fmul6 (G.below (KB1.out _ (by first|with_reducible assumption|with_reducible exact KA1.out _ _ (by assumption)|with_reducible exact KD1.out _ (by assumption)))).fld fX fR);rintro e w' ⟨k0,k1,k2,k3,k4,k5,rfl,fK,hv,hb⟩;have HK:Hid _:=hv;clear hv;(first|replace BN:=BN.later hb|with_reducible have BN:=Wr6.later Wr6.new hb|with_reducible have BN:=Wr6.later (Wr6.drew Wr6.new) hb|skip);have hlt:=KN1.out _ (KL1.out _ _ (by assumption) hb);(first|(obtain ⟨o0,o1,o2,o3,o4,o5,⟨j0,j1,j2,j3,j4,j5⟩,⟨i0,i1,i2,i3,i4,i5⟩⟩:=BN.cells)|skip)))
    all_goals
      go_wp2_with fail
      go_meet
      refine ⟨_,k0,k1,k2,k3,k4,k5,rfl,by omega,fK,⟨_,_,HQ.out,by rw [← v_3];exact HR.out,HK.out⟩,?_,by with_reducible assumption⟩
      first
        | with_reducible exact Wr6.is BN
        | exact Blk.new w' (us [k0,k1,k2,k3,k4,k5]) 24 w'.heap.size rfl
  case rest =>
    clear hS1
    obtain ⟨bk,k0,k1,k2,k3,k4,k5,rfl,hbk,fK,HK,BK,hS1⟩:=hcut
    simp only [us,List.map_cons,List.map_nil] at BK
    have BY:=KM1.out _ (w.heap.size + 1) _ hS1 (List.mem_cons_of_mem _ List.mem_cons_self)
    have bel:=KB1.out _ hS1
    go_upto_region 2 with fail
    obtain ⟨S2,hS2,KL2,KA2,KD2,KS2,KQ2,KN2,KB2,KM2,KR2⟩:=held3 (w0:=w) (W:=_) [(w.heap.size + 1,[.int .u64 y0,.int .u64 y1,.int .u64 y2,.int .u64 y3,.int .u64 y4,.int .u64 y5]),(bk,[.int .u64 k0,.int .u64 k1,.int .u64 k2,.int .u64 k3,.int .u64 k4,.int .u64 k5])] (by
      intro b X h
      simp only [List.mem_cons,List.not_mem_nil,or_false,Prod.mk.injEq] at h
      rcases h with ⟨rfl,rfl⟩|⟨rfl,rfl⟩
      · exact BY
      · exact BK) bel
    have kb2a:∀ wx,Hd S2 wx→Blk wx (w.heap.size + 1) [.int .u64 y0,.int .u64 y1,.int .u64 y2,.int .u64 y3,.int .u64 y4,.int .u64 y5]:=fun wx h=>KM2.out wx _ _ h (by simp)
    have c2a0:=rulec kb2a 0 _ rfl
    have c2a1:=rulec kb2a 1 _ rfl
    have c2a2:=rulec kb2a 2 _ rfl
    have c2a3:=rulec kb2a 3 _ rfl
    have c2a4:=rulec kb2a 4 _ rfl
    have c2a5:=rulec kb2a 5 _ rfl
    have c2al:=ruleb kb2a
    clear kb2a
    have kb2b:∀ wx,Hd S2 wx→Blk wx (bk) [.int .u64 k0,.int .u64 k1,.int .u64 k2,.int .u64 k3,.int .u64 k4,.int .u64 k5]:=fun wx h=>KM2.out wx _ _ h (by simp)
    have c2b0:=rulec kb2b 0 _ rfl
    have c2b1:=rulec kb2b 1 _ rfl
    have c2b2:=rulec kb2b 2 _ rfl
    have c2b3:=rulec kb2b 3 _ rfl
    have c2b4:=rulec kb2b 4 _ rfl
    have c2b5:=rulec kb2b 5 _ rfl
    have c2bl:=ruleb kb2b
    clear kb2b
    have hN2:=bel.size
    clear bel BY BK hS1
    have cg0:∀ wx,Hd S2 wx→wx.cell? ⟨0,0,none⟩=some (.int .u64 3064076045283764975):=fun wx h=>(G.below (KB2.out wx h)).2.1.1
    have cg1:∀ wx,Hd S2 wx→wx.cell? ⟨0,1,none⟩=some (.int .u64 14291673747578343837):=fun wx h=>(G.below (KB2.out wx h)).2.1.2.1
    have cg2:∀ wx,Hd S2 wx→wx.cell? ⟨0,2,none⟩=some (.int .u64 221811693264799578):=fun wx h=>(G.below (KB2.out wx h)).2.1.2.2.1
    have cg3:∀ wx,Hd S2 wx→wx.cell? ⟨0,3,none⟩=some (.int .u64 1737717031765098770):=fun wx h=>(G.below (KB2.out wx h)).2.1.2.2.2.1
    have cg4:∀ wx,Hd S2 wx→wx.cell? ⟨0,4,none⟩=some (.int .u64 10992729701402291481):=fun wx h=>(G.below (KB2.out wx h)).2.1.2.2.2.2.1
    have cg5:∀ wx,Hd S2 wx→wx.cell? ⟨0,5,none⟩=some (.int .u64 12912154004749740004):=fun wx h=>(G.below (KB2.out wx h)).2.1.2.2.2.2.2
    have cgl:∀ wx,Hd S2 wx→0 < wx.heap.size:=fun wx h=>(G.below (KB2.out wx h)).lts.1
    go_region_held3 (Hd S2)
      (first
        | with_reducible exact KL2.out _ _ (by assumption) hb
        | with_reducible exact KA2.out _ _ (by assumption)
        | with_reducible exact KS2.out _ _ _ (by omega) (by assumption)
        | with_reducible exact KD2.out _ hS2
        | with_reducible exact KD2.out _ (KA2.out _ _ hS2)
        | with_reducible assumption)
      (first
        | (go_at_call 50;go_fit (fmul6 (G.below (KB2.out _ (by first|with_reducible assumption|with_reducible exact KA2.out _ _ (by assumption)|with_reducible exact KD2.out _ (by assumption)))).fld fY fY);rintro e w' ⟨s0,s1,s2,s3,s4,s5,rfl,fS,hv,hb⟩;have HS:Hid _:=hv;clear hv)
        | (go_at_call 52;go_fit (fadd6 (G.below (KB2.out _ (by first|with_reducible assumption|with_reducible exact KA2.out _ _ (by assumption)|with_reducible exact KD2.out _ (by assumption)))).fld fK fits_b);rintro e w' ⟨t0,t1,t2,t3,t4,t5,rfl,fT,hv,hb⟩;have HT:Hid _:=hv;clear hv)
        | (go_at_call 47;go_fit (same_num fS fT (holds_fin fS fT HS.out HK.out HT.out HC.out));rintro e w' ⟨rfl,hb⟩))
    all_goals go_wp2
    all_goals (go_ret;exact ⟨rfl,KB2.out _ (by assumption)⟩)
set_option maxRecDepth 100000 in
set_option maxHeartbeats 4000000 in
theorem con_On {x0 x1 x2 x3 x4 x5 y0 y1 y2 y3 y4 y5:Int} {n b:Bool} {w:World} (G:GlsC w) (fX:fits [x0,x1,x2,x3,x4,x5]) (fY:fits [y0,y1,y2,y3,y4,y5]) (hb:b=true↔IsOn n (v64 [x0,x1,x2,x3,x4,x5]) (v64 [y0,y1,y2,y3,y4,y5])) :
    Calls Tryz.prog 9 #[.agg #[.int .u64 x0,.int .u64 x1,.int .u64 x2,.int .u64 x3,.int .u64 x4,.int .u64 x5,.int .u64 y0,.int .u64 y1,.int .u64 y2,.int .u64 y3,.int .u64 y4,.int .u64 y5,.bool n]] w fun e w'=>e=.returned (.bool b)∧Below w.heap.size w w':=by
  obtain ⟨c,hc⟩:∃ c,bnN [x0,x1,x2,x3,x4,x5] [y0,y1,y2,y3,y4,y5]=c:=⟨_,rfl⟩
  obtain ⟨l1,h1⟩:∃ c,lessN [x0,x1,x2,x3,x4,x5] [4294967295,18446744069414584320,18446744073709551614,18446744073709551615,18446744073709551615,18446744073709551615]=c:=⟨_,rfl⟩
  obtain ⟨l2,h2⟩:∃ c,lessN [y0,y1,y2,y3,y4,y5] [4294967295,18446744069414584320,18446744073709551614,18446744073709551615,18446744073709551615,18446744073709551615]=c:=⟨_,rfl⟩
  obtain ⟨o,h3⟩:∃ c,hoN (v64 [x0,x1,x2,x3,x4,x5]) (v64 [y0,y1,y2,y3,y4,y5])=c:=⟨_,rfl⟩
  obtain ⟨f,hf⟩:∃ f,bits .or .u64 c (bits .and .u64 (bits .and .u64 l1 l2) o)=f:=⟨_,rfl⟩
  obtain ⟨f01,c01,hv⟩:=on_val fX fY hb hc h1 h2 h3 hf
  have HC:Hid (bnN [x0,x1,x2,x3,x4,x5] [y0,y1,y2,y3,y4,y5]=c):=hc
  have H1:Hid (lessN [x0,x1,x2,x3,x4,x5] [4294967295,18446744069414584320,18446744073709551614,18446744073709551615,18446744073709551615,18446744073709551615]=l1):=h1
  have H2:Hid (lessN [y0,y1,y2,y3,y4,y5] [4294967295,18446744069414584320,18446744073709551614,18446744073709551615,18446744073709551615,18446744073709551615]=l2):=h2
  have H3:Hid (hoN (v64 [x0,x1,x2,x3,x4,x5]) (v64 [y0,y1,y2,y3,y4,y5])=o):=h3
  have HF:Hid (bits .or .u64 c (bits .and .u64 (bits .and .u64 l1 l2) o)=f):=hf
  have F01:Hid (f=0∨f=1):=f01
  have C01:Hid (c=0∨c=1):=c01
  have HV:Hid ((decide (f=1) && (n == decide (c=1)))=b):=hv
  clear hb hc h1 h2 h3 hf f01 c01 hv
  have B0:=Blk.new w [.int .u64 x0,.int .u64 x1,.int .u64 x2,.int .u64 x3,.int .u64 x4,.int .u64 x5,.int .u64 y0,.int .u64 y1,.int .u64 y2,.int .u64 y3,.int .u64 y4,.int .u64 y5,.bool n] 26 (w.heap.size) rfl
  have bel:Below w.heap.size w (w.alloc (.cells [.int .u64 x0,.int .u64 x1,.int .u64 x2,.int .u64 x3,.int .u64 x4,.int .u64 x5,.int .u64 y0,.int .u64 y1,.int .u64 y2,.int .u64 y3,.int .u64 y4,.int .u64 y5,.bool n].toArray 26)):=((Below.refl _ _).alloc (Nat.le_refl _) _)
  go_enter Tryz.func9,Tryz.ntmps9
  go_upto_region 1 with fail
  try simp only [us,List.map_cons,List.map_nil] at bel
  generalize (w.alloc (Obj.cells #[.int .u64 x0,.int .u64 x1,.int .u64 x2,.int .u64 x3,.int .u64 x4,.int .u64 x5,.int .u64 y0,.int .u64 y1,.int .u64 y2,.int .u64 y3,.int .u64 y4,.int .u64 y5,.bool n] 26))=W at *
  have Bp:=B0
  clear B0
  have ltp:=Bp.lt
  have cp0:=Bp.cell 0 _ rfl
  have cp1:=Bp.cell 1 _ rfl
  have cp2:=Bp.cell 2 _ rfl
  have cp3:=Bp.cell 3 _ rfl
  have cp4:=Bp.cell 4 _ rfl
  have cp5:=Bp.cell 5 _ rfl
  have cp6:=Bp.cell 6 _ rfl
  have cp7:=Bp.cell 7 _ rfl
  have cp8:=Bp.cell 8 _ rfl
  have cp9:=Bp.cell 9 _ rfl
  have cp10:=Bp.cell 10 _ rfl
  have cp11:=Bp.cell 11 _ rfl
  have cp12:=Bp.cell 12 _ rfl
  go_wp2_with fail
  refine (con_bn fX fY HC.out).mono ?_
  rintro e w1 ⟨rfl,hb⟩
  clear ltp cp0 cp1 cp2 cp3 cp4 cp5 cp6 cp7 cp8 cp9 cp10 cp11 cp12
  replace Bp:=Bp.later hb
  replace bel:=below_step bel hb
  clear hb
  go_upto_region 2 with fail
  obtain ⟨S1,hS1,KL1,KA1,KD1,KS1,KQ1,KN1,KB1,KM1,KR1⟩:=held3 (w0:=w) (W:=_) [(w.heap.size,[.int .u64 x0,.int .u64 x1,.int .u64 x2,.int .u64 x3,.int .u64 x4,.int .u64 x5,.int .u64 y0,.int .u64 y1,.int .u64 y2,.int .u64 y3,.int .u64 y4,.int .u64 y5,.bool n])] (by
    intro b X h
    simp only [List.mem_cons,List.not_mem_nil,or_false,Prod.mk.injEq] at h
    rcases h with ⟨rfl,rfl⟩
    · exact Bp) bel
  have kb1a:∀ wx,Hd S1 wx→Blk wx (w.heap.size) [.int .u64 x0,.int .u64 x1,.int .u64 x2,.int .u64 x3,.int .u64 x4,.int .u64 x5,.int .u64 y0,.int .u64 y1,.int .u64 y2,.int .u64 y3,.int .u64 y4,.int .u64 y5,.bool n]:=fun wx h=>KM1.out wx _ _ h (by simp)
  have c1a0:=rulec kb1a 0 _ rfl
  have c1a1:=rulec kb1a 1 _ rfl
  have c1a2:=rulec kb1a 2 _ rfl
  have c1a3:=rulec kb1a 3 _ rfl
  have c1a4:=rulec kb1a 4 _ rfl
  have c1a5:=rulec kb1a 5 _ rfl
  have c1a6:=rulec kb1a 6 _ rfl
  have c1a7:=rulec kb1a 7 _ rfl
  have c1a8:=rulec kb1a 8 _ rfl
  have c1a9:=rulec kb1a 9 _ rfl
  have c1a10:=rulec kb1a 10 _ rfl
  have c1a11:=rulec kb1a 11 _ rfl
  have c1a12:=rulec kb1a 12 _ rfl
  have c1al:=ruleb kb1a
  clear kb1a
  have hN1:=bel.size
  clear bel Bp
  go_cut [4] (fun p wx=>p=.int .u64 f∧Hd S1 wx)
  case first =>
    go_region_held3 (Hd S1)
      (first
        | with_reducible exact KL1.out _ _ (by assumption) hb
        | with_reducible exact KA1.out _ _ (by assumption)
        | with_reducible exact KS1.out _ _ _ (by omega) (by assumption)
        | with_reducible exact KD1.out _ hS1
        | with_reducible exact KD1.out _ (KA1.out _ _ hS1)
        | with_reducible assumption)
      (first
        | (go_at_call 27;go_fit (con_below (G.below (KB1.out _ (by first|with_reducible assumption|with_reducible exact KA1.out _ _ (by assumption)|with_reducible exact KD1.out _ (by assumption)))).fld fX H1.out);rintro e w' ⟨rfl,hb⟩)
        | (go_at_call 27;go_fit (con_below (G.below (KB1.out _ (by first|with_reducible assumption|with_reducible exact KA1.out _ _ (by assumption)|with_reducible exact KD1.out _ (by assumption)))).fld fY H2.out);rintro e w' ⟨rfl,hb⟩)
        | (go_at_call 28;go_fit (con_holds (G.below (KB1.out _ (by first|with_reducible assumption|with_reducible exact KA1.out _ _ (by assumption)|with_reducible exact KD1.out _ (by assumption)))) fX fY H3.out);rintro e w' ⟨rfl,hb⟩))
    all_goals
      go_wp2_with fail
      go_meet
      exact ⟨by rw [← HF.out],by with_reducible assumption⟩
  case rest =>
    clear hS1
    obtain ⟨rfl,hS1⟩:=hcut
    have d12:=c1a12 _ hS1
    have ltp:=c1al _ hS1
    clear c1a0 c1a1 c1a2 c1a3 c1a4 c1a5 c1a6 c1a7 c1a8 c1a9 c1a10 c1a11 c1a12 c1al HC H1 H2 H3 HF
    obtain f01:=F01.out
    obtain c01:=C01.out
    clear F01 C01
    rcases f01 with rfl|rfl<;>rcases c01 with rfl|rfl<;>cases n
    all_goals go_wp2_with fail
    all_goals (go_ret;exact ⟨by rw [← HV.out];rfl,KB1.out _ hS1⟩)
/-- the first, or the second where c is 1 -/
def pkN (c:Int) (A B:List Int):List Int:=if c=1 then B else A
/-- limb.Pick, as letters -/
theorem pick_let {x0 x1 x2 x3 x4 x5 y0 y1 y2 y3 y4 y5 n:Int} {w:World} (h01:n=0∨n=1) (fX:fits [x0,x1,x2,x3,x4,x5]) (fY:fits [y0,y1,y2,y3,y4,y5]) :
  Calls Tryz.prog 77 #[.int .u64 n,.agg #[.int .u64 x0,.int .u64 x1,.int .u64 x2,.int .u64 x3,.int .u64 x4,.int .u64 x5],.agg #[.int .u64 y0,.int .u64 y1,.int .u64 y2,.int .u64 y3,.int .u64 y4,.int .u64 y5]] w fun e w'=>∃ z0 z1 z2 z3 z4 z5:Int,e=.returned (.agg #[.int .u64 z0,.int .u64 z1,.int .u64 z2,.int .u64 z3,.int .u64 z4,.int .u64 z5])∧fits [z0,z1,z2,z3,z4,z5]∧[z0,z1,z2,z3,z4,z5]=pkN n [x0,x1,x2,x3,x4,x5] [y0,y1,y2,y3,y4,y5]∧Below w.heap.size w w':=by
 rcases h01 with rfl|rfl
 ·refine (pick_num0 fX fY).mono ?_
  rintro e w' ⟨rfl,hb⟩
  exact ⟨x0,x1,x2,x3,x4,x5,rfl,fX,rfl,hb⟩
 ·refine (pick_num1 fX fY).mono ?_
  rintro e w' ⟨rfl,hb⟩
  exact ⟨y0,y1,y2,y3,y4,y5,rfl,fY,rfl,hb⟩
/-- the bool tells whether both are 0 -/
def Noo (A B:List Int):Bool:=decide (A=[0,0,0,0,0,0]∧B=[0,0,0,0,0,0])
theorem noo_iff (A B:List Int):Noo A B=true↔A=[0,0,0,0,0,0]∧B=[0,0,0,0,0,0]:=by unfold Noo;exact decide_eq_true_iff
/-- an answer: limbs that tell a point's coordinates, with its bool -/
def Pts (e:Ending) (R:List Int→List Int→Prop):Prop:=∃ s0 s1 s2 s3 s4 s5 t0 t1 t2 t3 t4 t5:Int,e=.returned (.agg #[.int .u64 s0,.int .u64 s1,.int .u64 s2,.int .u64 s3,.int .u64 s4,.int .u64 s5,.int .u64 t0,.int .u64 t1,.int .u64 t2,.int .u64 t3,.int .u64 t4,.int .u64 t5,.bool (Noo [s0,s1,s2,s3,s4,s5] [t0,t1,t2,t3,t4,t5])])∧fits [s0,s1,s2,s3,s4,s5]∧fits [t0,t1,t2,t3,t4,t5]∧R [s0,s1,s2,s3,s4,s5] [t0,t1,t2,t3,t4,t5]
set_option maxRecDepth 100000 in
set_option maxHeartbeats 4000000 in
theorem con_pick {x0 x1 x2 x3 x4 x5 y0 y1 y2 y3 y4 y5 p0 p1 p2 p3 p4 p5 q0 q1 q2 q3 q4 q5 c:Int} {n m:Bool} {w:World} (h01:c=0∨c=1) (fX:fits [x0,x1,x2,x3,x4,x5]) (fY:fits [y0,y1,y2,y3,y4,y5]) (fP:fits [p0,p1,p2,p3,p4,p5]) (fQ:fits [q0,q1,q2,q3,q4,q5]) :
    Calls Tryz.prog 96 #[.int .u64 c,.agg #[.int .u64 x0,.int .u64 x1,.int .u64 x2,.int .u64 x3,.int .u64 x4,.int .u64 x5,.int .u64 y0,.int .u64 y1,.int .u64 y2,.int .u64 y3,.int .u64 y4,.int .u64 y5,.bool n],.agg #[.int .u64 p0,.int .u64 p1,.int .u64 p2,.int .u64 p3,.int .u64 p4,.int .u64 p5,.int .u64 q0,.int .u64 q1,.int .u64 q2,.int .u64 q3,.int .u64 q4,.int .u64 q5,.bool m]] w fun e w'=>Pts e (fun A B=>A=pkN c [x0,x1,x2,x3,x4,x5] [p0,p1,p2,p3,p4,p5]∧B=pkN c [y0,y1,y2,y3,y4,y5] [q0,q1,q2,q3,q4,q5])∧Below w.heap.size w w':=by
  have H01:Hid _:=h01
  clear h01
  have B0:=((Blk.new w [.int .u64 x0,.int .u64 x1,.int .u64 x2,.int .u64 x3,.int .u64 x4,.int .u64 x5,.int .u64 y0,.int .u64 y1,.int .u64 y2,.int .u64 y3,.int .u64 y4,.int .u64 y5,.bool n] 26 (w.heap.size) rfl).alloc (.cells [.int .u64 p0,.int .u64 p1,.int .u64 p2,.int .u64 p3,.int .u64 p4,.int .u64 p5,.int .u64 q0,.int .u64 q1,.int .u64 q2,.int .u64 q3,.int .u64 q4,.int .u64 q5,.bool m].toArray 26)).alloc (.cells [.int .u64 0,.int .u64 0,.int .u64 0,.int .u64 0,.int .u64 0,.int .u64 0,.int .u64 0,.int .u64 0,.int .u64 0,.int .u64 0,.int .u64 0,.int .u64 0,.bool false].toArray 26)
  have B1:=(Blk.new (w.alloc (.cells [.int .u64 x0,.int .u64 x1,.int .u64 x2,.int .u64 x3,.int .u64 x4,.int .u64 x5,.int .u64 y0,.int .u64 y1,.int .u64 y2,.int .u64 y3,.int .u64 y4,.int .u64 y5,.bool n].toArray 26)) [.int .u64 p0,.int .u64 p1,.int .u64 p2,.int .u64 p3,.int .u64 p4,.int .u64 p5,.int .u64 q0,.int .u64 q1,.int .u64 q2,.int .u64 q3,.int .u64 q4,.int .u64 q5,.bool m] 26 (w.heap.size + 1) (by simp)).alloc (.cells [.int .u64 0,.int .u64 0,.int .u64 0,.int .u64 0,.int .u64 0,.int .u64 0,.int .u64 0,.int .u64 0,.int .u64 0,.int .u64 0,.int .u64 0,.int .u64 0,.bool false].toArray 26)
  have B2:=Blk.new ((w.alloc (.cells [.int .u64 x0,.int .u64 x1,.int .u64 x2,.int .u64 x3,.int .u64 x4,.int .u64 x5,.int .u64 y0,.int .u64 y1,.int .u64 y2,.int .u64 y3,.int .u64 y4,.int .u64 y5,.bool n].toArray 26)).alloc (.cells [.int .u64 p0,.int .u64 p1,.int .u64 p2,.int .u64 p3,.int .u64 p4,.int .u64 p5,.int .u64 q0,.int .u64 q1,.int .u64 q2,.int .u64 q3,.int .u64 q4,.int .u64 q5,.bool m].toArray 26)) [.int .u64 0,.int .u64 0,.int .u64 0,.int .u64 0,.int .u64 0,.int .u64 0,.int .u64 0,.int .u64 0,.int .u64 0,.int .u64 0,.int .u64 0,.int .u64 0,.bool false] 26 (w.heap.size + 1 + 1) (by simp)
  have bel:Below w.heap.size w (((w.alloc (.cells [.int .u64 x0,.int .u64 x1,.int .u64 x2,.int .u64 x3,.int .u64 x4,.int .u64 x5,.int .u64 y0,.int .u64 y1,.int .u64 y2,.int .u64 y3,.int .u64 y4,.int .u64 y5,.bool n].toArray 26)).alloc (.cells [.int .u64 p0,.int .u64 p1,.int .u64 p2,.int .u64 p3,.int .u64 p4,.int .u64 p5,.int .u64 q0,.int .u64 q1,.int .u64 q2,.int .u64 q3,.int .u64 q4,.int .u64 q5,.bool m].toArray 26)).alloc (.cells [.int .u64 0,.int .u64 0,.int .u64 0,.int .u64 0,.int .u64 0,.int .u64 0,.int .u64 0,.int .u64 0,.int .u64 0,.int .u64 0,.int .u64 0,.int .u64 0,.bool false].toArray 26)):=((((Below.refl _ _).alloc (Nat.le_refl _) _).alloc (by simp) _).alloc (by simp;omega) _)
  go_enter Tryz.func96,Tryz.ntmps96
  go_upto_region 1 with fail
  try simp only [us,List.map_cons,List.map_nil] at bel
  generalize (((w.alloc (Obj.cells #[.int .u64 x0,.int .u64 x1,.int .u64 x2,.int .u64 x3,.int .u64 x4,.int .u64 x5,.int .u64 y0,.int .u64 y1,.int .u64 y2,.int .u64 y3,.int .u64 y4,.int .u64 y5,.bool n] 26)).alloc (Obj.cells #[.int .u64 p0,.int .u64 p1,.int .u64 p2,.int .u64 p3,.int .u64 p4,.int .u64 p5,.int .u64 q0,.int .u64 q1,.int .u64 q2,.int .u64 q3,.int .u64 q4,.int .u64 q5,.bool m] 26)).alloc (Obj.cells #[.int .u64 0,.int .u64 0,.int .u64 0,.int .u64 0,.int .u64 0,.int .u64 0,.int .u64 0,.int .u64 0,.int .u64 0,.int .u64 0,.int .u64 0,.int .u64 0,.bool false] 26))=W at *
  obtain ⟨S1,hS1,KL1,KA1,KD1,KS1,KQ1,KN1,KB1,KM1,KR1⟩:=held3 (w0:=w) (W:=W) [(w.heap.size,[.int .u64 x0,.int .u64 x1,.int .u64 x2,.int .u64 x3,.int .u64 x4,.int .u64 x5,.int .u64 y0,.int .u64 y1,.int .u64 y2,.int .u64 y3,.int .u64 y4,.int .u64 y5,.bool n]),(w.heap.size + 1,[.int .u64 p0,.int .u64 p1,.int .u64 p2,.int .u64 p3,.int .u64 p4,.int .u64 p5,.int .u64 q0,.int .u64 q1,.int .u64 q2,.int .u64 q3,.int .u64 q4,.int .u64 q5,.bool m])] (by
    intro b X h
    simp only [List.mem_cons,List.not_mem_nil,or_false,Prod.mk.injEq] at h
    rcases h with ⟨rfl,rfl⟩|⟨rfl,rfl⟩
    · exact B0
    · exact B1) bel
  have kb1a:∀ wx,Hd S1 wx→Blk wx (w.heap.size) [.int .u64 x0,.int .u64 x1,.int .u64 x2,.int .u64 x3,.int .u64 x4,.int .u64 x5,.int .u64 y0,.int .u64 y1,.int .u64 y2,.int .u64 y3,.int .u64 y4,.int .u64 y5,.bool n]:=fun wx h=>KM1.out wx _ _ h (by simp)
  have c1a0:=rulec kb1a 0 _ rfl
  have c1a1:=rulec kb1a 1 _ rfl
  have c1a2:=rulec kb1a 2 _ rfl
  have c1a3:=rulec kb1a 3 _ rfl
  have c1a4:=rulec kb1a 4 _ rfl
  have c1a5:=rulec kb1a 5 _ rfl
  have c1a6:=rulec kb1a 6 _ rfl
  have c1a7:=rulec kb1a 7 _ rfl
  have c1a8:=rulec kb1a 8 _ rfl
  have c1a9:=rulec kb1a 9 _ rfl
  have c1a10:=rulec kb1a 10 _ rfl
  have c1a11:=rulec kb1a 11 _ rfl
  have c1a12:=rulec kb1a 12 _ rfl
  have c1al:=ruleb kb1a
  clear kb1a
  have kb1b:∀ wx,Hd S1 wx→Blk wx (w.heap.size + 1) [.int .u64 p0,.int .u64 p1,.int .u64 p2,.int .u64 p3,.int .u64 p4,.int .u64 p5,.int .u64 q0,.int .u64 q1,.int .u64 q2,.int .u64 q3,.int .u64 q4,.int .u64 q5,.bool m]:=fun wx h=>KM1.out wx _ _ h (by simp)
  have c1b0:=rulec kb1b 0 _ rfl
  have c1b1:=rulec kb1b 1 _ rfl
  have c1b2:=rulec kb1b 2 _ rfl
  have c1b3:=rulec kb1b 3 _ rfl
  have c1b4:=rulec kb1b 4 _ rfl
  have c1b5:=rulec kb1b 5 _ rfl
  have c1b6:=rulec kb1b 6 _ rfl
  have c1b7:=rulec kb1b 7 _ rfl
  have c1b8:=rulec kb1b 8 _ rfl
  have c1b9:=rulec kb1b 9 _ rfl
  have c1b10:=rulec kb1b 10 _ rfl
  have c1b11:=rulec kb1b 11 _ rfl
  have c1b12:=rulec kb1b 12 _ rfl
  have c1bl:=ruleb kb1b
  clear kb1b
  have mq1a:∀ c X,(c,X)∈[((w.heap.size:Nat),([.int .u64 x0,.int .u64 x1,.int .u64 x2,.int .u64 x3,.int .u64 x4,.int .u64 x5,.int .u64 y0,.int .u64 y1,.int .u64 y2,.int .u64 y3,.int .u64 y4,.int .u64 y5,.bool n]:List Value)),((w.heap.size + 1:Nat),([.int .u64 p0,.int .u64 p1,.int .u64 p2,.int .u64 p3,.int .u64 p4,.int .u64 p5,.int .u64 q0,.int .u64 q1,.int .u64 q2,.int .u64 q3,.int .u64 q4,.int .u64 q5,.bool m]:List Value))]→c≠w.heap.size + 1 + 1:=by
    intro c X h
    simp only [List.mem_cons,List.not_mem_nil,or_false,Prod.mk.injEq] at h
    omega
  have hN1:=bel.size
  clear bel B0 B1
  go_region_held3 (Hd S1)
    (first
      | with_reducible exact (KQ1.out _ _ _ _ (KQ1.out _ _ _ _ (KQ1.out _ _ _ _ (KQ1.out _ _ _ _ (KQ1.out _ _ _ _ (KQ1.out _ _ _ _ (KQ1.out _ _ _ _ (KQ1.out _ _ _ _ (KQ1.out _ _ _ _ (KQ1.out _ _ _ _ (KQ1.out _ _ _ _ (KQ1.out _ _ _ _ (KQ1.out _ _ _ _ (by assumption) (Or.inr mq1a) (by omega)) (Or.inr mq1a) (by omega)) (Or.inr mq1a) (by omega)) (Or.inr mq1a) (by omega)) (Or.inr mq1a) (by omega)) (Or.inr mq1a) (by omega)) (Or.inr mq1a) (by omega)) (Or.inr mq1a) (by omega)) (Or.inr mq1a) (by omega)) (Or.inr mq1a) (by omega)) (Or.inr mq1a) (by omega)) (Or.inr mq1a) (by omega)) (Or.inr mq1a) (by omega))
      | with_reducible exact KL1.out _ _ (by assumption) hb
      | with_reducible exact KA1.out _ _ (by assumption)
      | with_reducible exact KS1.out _ _ _ (by omega) (by assumption)
      | with_reducible exact KD1.out _ hS1
      | with_reducible exact KD1.out _ (KA1.out _ _ hS1)
      | with_reducible assumption)
    (first
      | (go_at_call 77;go_fit (pick_let H01.out fX fP);rintro e w' ⟨s0,s1,s2,s3,s4,s5,rfl,fS,hv,hb⟩;have HS:Hid _:=hv;clear hv;(first|replace B2:=B2.later hb|replace B2:=B2.drew.later hb|skip))
      | (go_at_call 77;go_fit (pick_let H01.out fY fQ);rintro e w' ⟨t0,t1,t2,t3,t4,t5,rfl,fT,hv,hb⟩;have HT:Hid _:=hv;clear hv;(first|replace B2:=B2.later hb|replace B2:=B2.drew.later hb|skip))
      | (go_at_call 99;go_fit (con_pt (k:=Noo [s0,s1,s2,s3,s4,s5] [t0,t1,t2,t3,t4,t5]) fS fT (noo_iff _ _));rintro e w' ⟨rfl,hb⟩;(first|replace B2:=B2.later hb|replace B2:=B2.drew.later hb|skip);have lt2:=B2.lt;have d0:=B2.cell 0 _ rfl;have g0:=B2.frozen 0;have d1:=B2.cell 1 _ rfl;have g1:=B2.frozen 1;have d2:=B2.cell 2 _ rfl;have g2:=B2.frozen 2;have d3:=B2.cell 3 _ rfl;have g3:=B2.frozen 3;have d4:=B2.cell 4 _ rfl;have g4:=B2.frozen 4;have d5:=B2.cell 5 _ rfl;have g5:=B2.frozen 5;have d6:=B2.cell 6 _ rfl;have g6:=B2.frozen 6;have d7:=B2.cell 7 _ rfl;have g7:=B2.frozen 7;have d8:=B2.cell 8 _ rfl;have g8:=B2.frozen 8;have d9:=B2.cell 9 _ rfl;have g9:=B2.frozen 9;have d10:=B2.cell 10 _ rfl;have g10:=B2.frozen 10;have d11:=B2.cell 11 _ rfl;have g11:=B2.frozen 11;have d12:=B2.cell 12 _ rfl;have g12:=B2.frozen 12))
  all_goals go_wp2
  all_goals exact bodyPost_ret (v:=.agg #[.int .u64 s0,.int .u64 s1,.int .u64 s2,.int .u64 s3,.int .u64 s4,.int .u64 s5,.int .u64 t0,.int .u64 t1,.int .u64 t2,.int .u64 t3,.int .u64 t4,.int .u64 t5,.bool (Noo [s0,s1,s2,s3,s4,s5] [t0,t1,t2,t3,t4,t5])]) (by simp [results,Tryz.results96,go_sem,d0,d1,d2,d3,d4,d5,d6,d7,d8,d9,d10,d11,d12]) rfl ⟨⟨s0,s1,s2,s3,s4,s5,t0,t1,t2,t3,t4,t5,rfl,fS,fT,HS.out,HT.out⟩,KB1.out _ (by assumption)⟩
theorem told_noo {P:Pt} {A B:List Int} (fA:fits A) (fB:fits B) (hP:OnC P) (h:(P=none∧A=[0,0,0,0,0,0]∧B=[0,0,0,0,0,0])∨P=some (v64 A,v64 B)):Told P A B (Noo A B):=by
 rcases h with ⟨rfl,rfl,rfl⟩|rfl
 ·exact ⟨fA,fB,.inl ⟨rfl,by unfold Noo;decide,rfl,rfl⟩⟩
 ·refine ⟨fA,fB,.inr ⟨rfl,?_⟩⟩
  have hn:¬ (A=[0,0,0,0,0,0]∧B=[0,0,0,0,0,0]):=by
   rintro ⟨rfl,rfl⟩
   exact not_nought hP
  exact decide_eq_false hn
/-- an answer: a told point, and no error -/
def TRet (e:Ending) (P:Pt):Prop:=∃ s0 s1 s2 s3 s4 s5 t0 t1 t2 t3 t4 t5:Int,e=.returned (.tuple #[.agg #[.int .u64 s0,.int .u64 s1,.int .u64 s2,.int .u64 s3,.int .u64 s4,.int .u64 s5,.int .u64 t0,.int .u64 t1,.int .u64 t2,.int .u64 t3,.int .u64 t4,.int .u64 t5,.bool (Noo [s0,s1,s2,s3,s4,s5] [t0,t1,t2,t3,t4,t5])],.nilIface])∧Told P [s0,s1,s2,s3,s4,s5] [t0,t1,t2,t3,t4,t5] (Noo [s0,s1,s2,s3,s4,s5] [t0,t1,t2,t3,t4,t5])
end Go.Proofs.YtlkljfnenonfgaaGreatDoor
