/- The points of the curve are a group: sums go either way round and in any order. Plain facts on numbers. No place of the curve has y = 0: the curve's cubic has no root by the prime. Plain facts on numbers. Multiples of points: plain facts on numbers. The order times the base point is the one at infinity: plain facts on numbers. Multiples by bits, and modulo the order: plain facts. Points, as the document's and as limbs: plain facts; the curve's number. The document's number of the curve. The document's Inv and On. (Plain part.) The two tables of the field as they lie in memory. field.modulus and field.P: the tables read. Powers that are kept times R, modulo the prime: plain facts on numbers. What makes 1 of a number, by Fermat: plain facts on numbers. Layer 5's tables as they lie in memory; the base point; its small helpers. curve.holds and curve.On. curve.pick: one of two points. Told points: plain facts. -/
import Derived.Test.YtcogndaiamgnbaaGreatDoorLimb
import Derived.Test.YtcogndaiamgnbaaGreatDoorArrG
import Derived.Test.YtcogndaiamgnbaaGreatDoorBase
import Derived.Test.YtcogndaiamgnbaaGreatDoorRefA
import Derived.Test.YtcogndaiamgnbaaGreatDoorRows
import Derived.Deep.WholeRow
import Derived.Deep.RegionHeld3
import Derived.Deep.DeepCutAuto
import Derived.Deep.DeepFit
import Derived.Deep.OwnRows
import Derived.ArgAppend
namespace Go.Proofs.YtcogndaiamgnbaaGreatDoor
open Go.RowKit
/-- the prime divides it -/
def Nu (a:Int):Prop:=PP ∣ a
theorem Nu.add {a b:Int} (h:Nu a) (k:Nu b):Nu (a + b):=Int.dvd_add h k
/-- the curve's number -/
def BB:Int:=27580193559959705877849011840389048093056905856361568521428707301988689241309860865136260764883745107765439761230575
/-- points -/
abbrev Pt:=Option (Int × Int)
/-- c0 + c1 x + c2 x^2 -/
abbrev Tri:=Int × Int × Int
def ev (r:Int) (a:Tri):Int:=a.1 + a.2.1 * r + a.2.2 * (r * r)
/-- a point of the document's -/
def PtIs (w:World) (v:Value):Pt→Prop
 | none=>v=.agg #[.bool true,.slice none 0 0,.slice none 0 0]
 | some p=>∃ a m c a' m' c',v=.agg #[.bool false,.slice a m c,.slice a' m' c']∧NumIs w (.slice a m c) p.1∧NumIs w (.slice a' m' c') p.2
theorem PtIs.later {w w':World} {v:Value} {P:Pt} (h:PtIs w v P) (hb:Below w.heap.size w w'):PtIs w' v P:=by
 cases P with
 | none=>exact h
 | some p =>
  obtain ⟨a,m,c,a',m',c',e,h1,h2⟩:=h
  exact ⟨a,m,c,a',m',c',e,h1.later hb,h2.later hb⟩
theorem PtIs.drew {w:World} {v:Value} {P:Pt} (h:PtIs w v P):PtIs w.drew v P:=by
 cases P with
 | none=>exact h
 | some p =>
  obtain ⟨a,m,c,a',m',c',e,h1,h2⟩:=h
  exact ⟨a,m,c,a',m',c',e,h1.drew,h2.drew⟩
theorem PtIs.alloc {w:World} {v:Value} {P:Pt} (h:PtIs w v P) (o:Obj):PtIs (w.alloc o) v P:=h.later ((Below.refl _ _).alloc (Nat.le_refl _) o)
theorem PtIs.form {w:World} {v:Value} {P:Pt} (h:PtIs w v P):∃ (nb:Bool) (a:Option Addr) (n k:Nat) (b:Option Addr) (m l:Nat),v=.agg #[.bool nb,.slice a n k,.slice b m l]:=by
 cases P with
 | none=>exact ⟨true,none,0,0,none,0,0,h⟩
 | some p =>
  obtain ⟨a,m,c,a',m',c',e,_⟩:=h
  exact ⟨false,a,m,c,a',m',c',e⟩
/-- the limbs A and B and the bool n tell the point P -/
structure Told (P:Pt) (A B:List Int) (n:Bool):Prop where
 fA:fits A
 fB:fits B
 is:(P=none∧n=true∧A=[0,0,0,0,0,0]∧B=[0,0,0,0,0,0])∨(P=some (v64 A,v64 B)∧n=false)
/-- the two tables lie where they lay -/
def Gls (w:World):Prop:=(w.cell? ⟨4,0,none⟩=some (.int .u64 4294967295)∧w.cell? ⟨4,1,none⟩=some (.int .u64 18446744069414584320)∧w.cell? ⟨4,2,none⟩=some (.int .u64 18446744073709551614)∧w.cell? ⟨4,3,none⟩=some (.int .u64 18446744073709551615)∧w.cell? ⟨4,4,none⟩=some (.int .u64 18446744073709551615)∧w.cell? ⟨4,5,none⟩=some (.int .u64 18446744073709551615))∧(w.cell? ⟨5,0,none⟩=some (.int .u64 18446744065119617025)∧w.cell? ⟨5,1,none⟩=some (.int .u64 8589934592)∧w.cell? ⟨5,2,none⟩=some (.int .u64 18446744065119617024)∧w.cell? ⟨5,3,none⟩=some (.int .u64 8589934592)∧w.cell? ⟨5,4,none⟩=some (.int .u64 1)∧w.cell? ⟨5,5,none⟩=some (.int .u64 0))
theorem Gls.below {w w':World} (G:Gls w) (hb:Below w.heap.size w w'):Gls w':=by
 obtain ⟨⟨a0,a1,a2,a3,a4,a5⟩,⟨b0,b1,b2,b3,b4,b5⟩⟩:=G
 exact ⟨⟨cell_later a0 hb,cell_later a1 hb,cell_later a2 hb,cell_later a3 hb,cell_later a4 hb,cell_later a5 hb⟩,⟨cell_later b0 hb,cell_later b1 hb,cell_later b2 hb,cell_later b3 hb,cell_later b4 hb,cell_later b5 hb⟩⟩
theorem Gls.lts {w:World} (G:Gls w):4 < w.heap.size∧5 < w.heap.size :=
 ⟨World.block_lt_of_cell? w _ G.1.1,World.block_lt_of_cell? w _ G.2.1⟩
/-- the tables lie where they lay: the field's two, and the curve's number and base point -/
def GlsC (w:World):Prop:=Gls w∧(w.cell? ⟨3,0,none⟩=some (.int .u64 3064076045283764975)∧w.cell? ⟨3,1,none⟩=some (.int .u64 14291673747578343837)∧w.cell? ⟨3,2,none⟩=some (.int .u64 221811693264799578)∧w.cell? ⟨3,3,none⟩=some (.int .u64 1737717031765098770)∧w.cell? ⟨3,4,none⟩=some (.int .u64 10992729701402291481)∧w.cell? ⟨3,5,none⟩=some (.int .u64 12912154004749740004))∧∀ i v,([.int .u64 4203087948775033527,.int .u64 6125724927633205612,.int .u64 6482722621138151992,.int .u64 7934563412932533144,.int .u64 10282218360005504372,.int .u64 12288012358878168375,.int .u64 8809917716911230559,.int .u64 747793036959711645,.int .u64 16850834916486723776,.int .u64 17938995913990739068,.int .u64 6745997240412855337,.int .u64 3897828414440483951,.bool false]:List Value)[i]?=some v→w.cell? ⟨0,i,none⟩=some v
theorem GlsC.below {w w':World} (G:GlsC w) (hb:Below w.heap.size w w'):GlsC w':=by
 obtain ⟨g,⟨a0,a1,a2,a3,a4,a5⟩,h⟩:=G
 exact ⟨g.below hb,⟨cell_later a0 hb,cell_later a1 hb,cell_later a2 hb,cell_later a3 hb,cell_later a4 hb,cell_later a5 hb⟩,fun i v k=>cell_later (h i v k) hb⟩
theorem GlsC.lts {w:World} (G:GlsC w):3 < w.heap.size∧0 < w.heap.size:=⟨World.block_lt_of_cell? w _ G.2.1.1,World.block_lt_of_cell? w _ (G.2.2 0 _ rfl)⟩
/-- without the base point -/
def GlsD (w:World):Prop:=Gls w∧(w.cell? ⟨3,0,none⟩=some (.int .u64 3064076045283764975)∧w.cell? ⟨3,1,none⟩=some (.int .u64 14291673747578343837)∧w.cell? ⟨3,2,none⟩=some (.int .u64 221811693264799578)∧w.cell? ⟨3,3,none⟩=some (.int .u64 1737717031765098770)∧w.cell? ⟨3,4,none⟩=some (.int .u64 10992729701402291481)∧w.cell? ⟨3,5,none⟩=some (.int .u64 12912154004749740004))∧True
theorem GlsD.below {w w':World} (G:GlsD w) (hb:Below w.heap.size w w'):GlsD w':=by
 obtain ⟨g,⟨a0,a1,a2,a3,a4,a5⟩,h⟩:=G
 exact ⟨g.below hb,⟨cell_later a0 hb,cell_later a1 hb,cell_later a2 hb,cell_later a3 hb,cell_later a4 hb,cell_later a5 hb⟩,trivial⟩
theorem GlsD.lts {w:World} (G:GlsD w):3 < w.heap.size∧True:=⟨World.block_lt_of_cell? w _ G.2.1.1,trivial⟩
end Go.Proofs.YtcogndaiamgnbaaGreatDoor
