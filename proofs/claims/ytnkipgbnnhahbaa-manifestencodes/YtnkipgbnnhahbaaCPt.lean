/- An array of six limbs written into a block. A modulus written into a block: thirteen cells. What stays through a walk: blocks that are known, blocks that may be written, all below; under one letter S, with its rules. What stays through a walk, for blocks of whatever cells: known ones, and ones that may be written; under one letter S, with its rules. The reference's numbers as slices: their lengths; stores beside them. Six limbs that fit. The field's prime: plain facts on numbers. The points of the curve are a group: sums go either way round and in any order. Plain facts on numbers. Points, as the document's and as limbs: plain facts; the curve's number. -/
import Derived.Test.YtnkipgbnnhahbaaPrime
import Derived.Test.YtnkipgbnnhahbaaNum
import Derived.Test.YtnkipgbnnhahbaaPrimeP
import Derived.Deep.MidRow
import Derived.Deep.RegionHeld
import Derived.Laws.CopyOwn
import Derived.Test.YtnkipgbnnhahbaaRows
import Derived.Deep.WholeRow
import Derived.Deep.RegionHeld3
import Derived.Deep.DeepCutAuto
import Derived.Deep.DeepFit
namespace Go.Proofs.Ytnkipgbnnhahbaa
open Go.RowKit
theorem blk_put6 {w:World} {b:Nat} {x0 x1 x2 x3 x4 x5 y0 y1 y2 y3 y4 y5:Int} (h:Blk w b (us [x0,x1,x2,x3,x4,x5])):Blk ((((((w.setCell ⟨b,0,none⟩ (.int .u64 y0)).setCell ⟨b,1,none⟩ (.int .u64 y1)).setCell ⟨b,2,none⟩ (.int .u64 y2)).setCell ⟨b,3,none⟩ (.int .u64 y3)).setCell ⟨b,4,none⟩ (.int .u64 y4)).setCell ⟨b,5,none⟩ (.int .u64 y5)) b (us [y0,y1,y2,y3,y4,y5]) :=
 (((((h.setu 0 y0).setu 1 y1).setu 2 y2).setu 3 y3).setu 4 y4).setu 5 y5
/-- a block of six limbs, whatever they are -/
def Wr6 (w:World) (b:Nat):Prop:=∃ X:List Int,X.length=6∧Blk w b (us X)
theorem Wr6.of {w:World} {b:Nat} {x0 x1 x2 x3 x4 x5:Int} (h:Blk w b (us [x0,x1,x2,x3,x4,x5])):Wr6 w b:=⟨_,rfl,h⟩
theorem Wr6.drew {w:World} {b:Nat} (h:Wr6 w b):Wr6 w.drew b:=h
theorem Wr6.later {w w':World} {b:Nat} (h:Wr6 w b) (hb:Below w.heap.size w w'):Wr6 w' b:=by
 obtain ⟨X,l,h⟩:=h
 exact ⟨X,l,h.later hb⟩
theorem Wr6.lt {w:World} {b:Nat} (h:Wr6 w b):b < w.heap.size:=by
 obtain ⟨X,l,h⟩:=h
 exact h.lt
theorem Wr6.cells {w:World} {b:Nat} (h:Wr6 w b):∃ x0 x1 x2 x3 x4 x5:Int,(w.cell? ⟨b,0,none⟩=some (.int .u64 x0)∧w.cell? ⟨b,1,none⟩=some (.int .u64 x1)∧w.cell? ⟨b,2,none⟩=some (.int .u64 x2)∧w.cell? ⟨b,3,none⟩=some (.int .u64 x3)∧w.cell? ⟨b,4,none⟩=some (.int .u64 x4)∧w.cell? ⟨b,5,none⟩=some (.int .u64 x5))∧(w.frozen? ⟨b,0,none⟩=false∧w.frozen? ⟨b,1,none⟩=false∧w.frozen? ⟨b,2,none⟩=false∧w.frozen? ⟨b,3,none⟩=false∧w.frozen? ⟨b,4,none⟩=false∧w.frozen? ⟨b,5,none⟩=false):=by
 obtain ⟨X,l,h⟩:=h
 obtain ⟨x0,x1,x2,x3,x4,x5,rfl⟩:=six l
 exact ⟨x0,x1,x2,x3,x4,x5,h.cells6,h.frozen 0,h.frozen 1,h.frozen 2,h.frozen 3,h.frozen 4,h.frozen 5⟩
theorem Wr6.put {w:World} {b:Nat} {y0 y1 y2 y3 y4 y5:Int} (h:Wr6 w b):Wr6 ((((((w.setCell ⟨b,0,none⟩ (.int .u64 y0)).setCell ⟨b,1,none⟩ (.int .u64 y1)).setCell ⟨b,2,none⟩ (.int .u64 y2)).setCell ⟨b,3,none⟩ (.int .u64 y3)).setCell ⟨b,4,none⟩ (.int .u64 y4)).setCell ⟨b,5,none⟩ (.int .u64 y5)) b:=by
 obtain ⟨X,l,h⟩:=h
 obtain ⟨x0,x1,x2,x3,x4,x5,rfl⟩:=six l
 exact ⟨_,rfl,blk_put6 h⟩
theorem cell_later {w w':World} {c j:Nat} {v:Value} (h:w.cell? ⟨c,j,none⟩=some v) (hb:Below w.heap.size w w'):w'.cell? ⟨c,j,none⟩=some v:=by
 rw [hb.cell (World.block_lt_of_cell? w _ h)];exact h
theorem below_step {a w w':World} (h:Below a.heap.size a w) (hb:Below w.heap.size w w'):Below a.heap.size a w':=h.trans (hb.mono h.size)
theorem cell_alloc {w:World} {c j:Nat} {v:Value} {o:Obj} (h:w.cell? ⟨c,j,none⟩=some v):(w.alloc o).cell? ⟨c,j,none⟩=some v:=by
 rw [World.cell?_alloc_lt _ _ _ (World.block_lt_of_cell? w _ h)];exact h
theorem Wr6.alloc {w:World} {b:Nat} {o:Obj} (h:Wr6 w b):Wr6 (w.alloc o) b:=by
 obtain ⟨X,l,h⟩:=h
 exact ⟨X,l,h.alloc o⟩
theorem below_alloc {a w:World} {o:Obj} (h:Below a.heap.size a w):Below a.heap.size a (w.alloc o):=h.alloc h.size o
theorem Wr6.new {w:World} {t:TypeId}:Wr6 (w.alloc (Obj.cells #[.int .u64 0,.int .u64 0,.int .u64 0,.int .u64 0,.int .u64 0,.int .u64 0] t)) w.heap.size :=
 Wr6.of (Blk.new w (us [0,0,0,0,0,0]) t w.heap.size rfl)
/-- six cells of a block -/
def At6 (w:World) (b o:Nat) (x0 x1 x2 x3 x4 x5:Int):Prop:=w.cell? ⟨b,o,none⟩=some (.int .u64 x0)∧w.cell? ⟨b,o + 1,none⟩=some (.int .u64 x1)∧w.cell? ⟨b,o + 2,none⟩=some (.int .u64 x2)∧w.cell? ⟨b,o + 3,none⟩=some (.int .u64 x3)∧w.cell? ⟨b,o + 4,none⟩=some (.int .u64 x4)∧w.cell? ⟨b,o + 5,none⟩=some (.int .u64 x5)
theorem At6.later {w w':World} {b o:Nat} {x0 x1 x2 x3 x4 x5:Int} (h:At6 w b o x0 x1 x2 x3 x4 x5) (hb:Below w.heap.size w w'):At6 w' b o x0 x1 x2 x3 x4 x5:=by
 obtain ⟨h0,h1,h2,h3,h4,h5⟩:=h
 exact ⟨cell_later h0 hb,cell_later h1 hb,cell_later h2 hb,cell_later h3 hb,cell_later h4 hb,cell_later h5 hb⟩
theorem thirteen {A:List Int} (h:A.length=13):∃ x0 x1 x2 x3 x4 x5 x6 x7 x8 x9 x10 x11 x12,A=[x0,x1,x2,x3,x4,x5,x6,x7,x8,x9,x10,x11,x12]:=by
 match A,h with
 | [x0,x1,x2,x3,x4,x5,x6,x7,x8,x9,x10,x11,x12],_=>exact ⟨x0,x1,x2,x3,x4,x5,x6,x7,x8,x9,x10,x11,x12,rfl⟩
def Wr13 (w:World) (b:Nat):Prop:=∃ X:List Int,X.length=13∧Blk w b (us X)
theorem Wr13.of {w:World} {b:Nat} {X:List Int} (l:X.length=13) (h:Blk w b (us X)):Wr13 w b:=⟨_,l,h⟩
theorem Wr13.drew {w:World} {b:Nat} (h:Wr13 w b):Wr13 w.drew b:=h
theorem Wr13.later {w w':World} {b:Nat} (h:Wr13 w b) (hb:Below w.heap.size w w'):Wr13 w' b:=by
 obtain ⟨X,l,h⟩:=h
 exact ⟨X,l,h.later hb⟩
theorem Wr13.lt {w:World} {b:Nat} (h:Wr13 w b):b < w.heap.size:=by
 obtain ⟨X,l,h⟩:=h
 exact h.lt
theorem Wr13.cells {w:World} {b:Nat} (h:Wr13 w b):∃ x0 x1 x2 x3 x4 x5 x6 x7 x8 x9 x10 x11 x12:Int,(w.cell? ⟨b,0,none⟩=some (.int .u64 x0)∧w.cell? ⟨b,1,none⟩=some (.int .u64 x1)∧w.cell? ⟨b,2,none⟩=some (.int .u64 x2)∧w.cell? ⟨b,3,none⟩=some (.int .u64 x3)∧w.cell? ⟨b,4,none⟩=some (.int .u64 x4)∧w.cell? ⟨b,5,none⟩=some (.int .u64 x5)∧w.cell? ⟨b,6,none⟩=some (.int .u64 x6)∧w.cell? ⟨b,7,none⟩=some (.int .u64 x7)∧w.cell? ⟨b,8,none⟩=some (.int .u64 x8)∧w.cell? ⟨b,9,none⟩=some (.int .u64 x9)∧w.cell? ⟨b,10,none⟩=some (.int .u64 x10)∧w.cell? ⟨b,11,none⟩=some (.int .u64 x11)∧w.cell? ⟨b,12,none⟩=some (.int .u64 x12))∧(w.frozen? ⟨b,0,none⟩=false∧w.frozen? ⟨b,1,none⟩=false∧w.frozen? ⟨b,2,none⟩=false∧w.frozen? ⟨b,3,none⟩=false∧w.frozen? ⟨b,4,none⟩=false∧w.frozen? ⟨b,5,none⟩=false∧w.frozen? ⟨b,6,none⟩=false∧w.frozen? ⟨b,7,none⟩=false∧w.frozen? ⟨b,8,none⟩=false∧w.frozen? ⟨b,9,none⟩=false∧w.frozen? ⟨b,10,none⟩=false∧w.frozen? ⟨b,11,none⟩=false∧w.frozen? ⟨b,12,none⟩=false):=by
 obtain ⟨X,l,h⟩:=h
 obtain ⟨x0,x1,x2,x3,x4,x5,x6,x7,x8,x9,x10,x11,x12,rfl⟩:=thirteen l
 exact ⟨x0,x1,x2,x3,x4,x5,x6,x7,x8,x9,x10,x11,x12,⟨h.cell 0 _ rfl,h.cell 1 _ rfl,h.cell 2 _ rfl,h.cell 3 _ rfl,h.cell 4 _ rfl,h.cell 5 _ rfl,h.cell 6 _ rfl,h.cell 7 _ rfl,h.cell 8 _ rfl,h.cell 9 _ rfl,h.cell 10 _ rfl,h.cell 11 _ rfl,h.cell 12 _ rfl⟩,⟨h.frozen 0,h.frozen 1,h.frozen 2,h.frozen 3,h.frozen 4,h.frozen 5,h.frozen 6,h.frozen 7,h.frozen 8,h.frozen 9,h.frozen 10,h.frozen 11,h.frozen 12⟩⟩
theorem Wr13.put {w:World} {b:Nat} {y0 y1 y2 y3 y4 y5 y6 y7 y8 y9 y10 y11 y12:Int} (h:Wr13 w b):Wr13 (((((((((((((w.setCell ⟨b,0,none⟩ (.int .u64 y0)).setCell ⟨b,1,none⟩ (.int .u64 y1)).setCell ⟨b,2,none⟩ (.int .u64 y2)).setCell ⟨b,3,none⟩ (.int .u64 y3)).setCell ⟨b,4,none⟩ (.int .u64 y4)).setCell ⟨b,5,none⟩ (.int .u64 y5)).setCell ⟨b,6,none⟩ (.int .u64 y6)).setCell ⟨b,7,none⟩ (.int .u64 y7)).setCell ⟨b,8,none⟩ (.int .u64 y8)).setCell ⟨b,9,none⟩ (.int .u64 y9)).setCell ⟨b,10,none⟩ (.int .u64 y10)).setCell ⟨b,11,none⟩ (.int .u64 y11)).setCell ⟨b,12,none⟩ (.int .u64 y12)) b:=by
 obtain ⟨X,l,h⟩:=h
 obtain ⟨x0,x1,x2,x3,x4,x5,x6,x7,x8,x9,x10,x11,x12,rfl⟩:=thirteen l
 exact ⟨_,rfl,(((((((((((((h.setu 0 y0).setu 1 y1).setu 2 y2).setu 3 y3).setu 4 y4).setu 5 y5).setu 6 y6).setu 7 y7).setu 8 y8).setu 9 y9).setu 10 y10).setu 11 y11).setu 12 y12)⟩
/-- S at a world, under a head of its own -/
def Hd (S:World→Prop) (w:World):Prop:=S w
/-- a block of n numbers of 64 bits, whatever they are -/
def Wrn (w:World) (b n:Nat):Prop:=∃ X:List Int,X.length=n∧Blk w b (us X)
theorem Wrn.mk {w:World} {b n:Nat} {X:List Int} (h:Blk w b (us X)) (l:X.length=n):Wrn w b n:=⟨_,l,h⟩
theorem Wrn.later {w w':World} {b n:Nat} (h:Wrn w b n) (hb:Below w.heap.size w w'):Wrn w' b n:=by
 obtain ⟨X,l,h⟩:=h
 exact ⟨X,l,h.later hb⟩
theorem Wrn.lt {w:World} {b n:Nat} (h:Wrn w b n):b < w.heap.size:=by
 obtain ⟨X,l,h⟩:=h
 exact h.lt
theorem Wrn.alloc {w:World} {b n:Nat} (h:Wrn w b n) (o:Obj):Wrn (w.alloc o) b n:=by
 obtain ⟨X,l,h⟩:=h
 exact ⟨X,l,h.alloc o⟩
theorem Wrn.set {w:World} {b n c j:Nat} {y:Int} (h:Wrn w b n):Wrn (w.setCell ⟨c,j,none⟩ (.int .u64 y)) b n:=by
 obtain ⟨X,l,h⟩:=h
 by_cases e:b=c
 ·subst e;exact ⟨_,by simpa using l,h.setu j y⟩
 ·exact ⟨X,l,h.other _ _ e⟩
theorem Wrn.row {w:World} {b n:Nat} {cs:Array Value} (h:Wrn w b n):Blk (w.setRow b cs) b cs.toList:=by
 obtain ⟨X,l,t,h⟩:=h
 exact ⟨t,by simpa using setRow_heap w b _ cs t _ h⟩
theorem Blk.row {w:World} {b c:Nat} {X:List Value} {cs:Array Value} (h:Blk w b X) (hc:b≠c):Blk (w.setRow c cs) b X:=by
 obtain ⟨t,h⟩:=h
 exact ⟨t,by rw [setRow_other _ _ _ _ hc];exact h⟩
theorem num_len {w:World} {v:Value} {N:Int} (h:NumIs w v N):∃ (ao:Option Addr) (n cap:Nat),v=.slice ao n cap∧n≤cap∧cap≤maxLen∧((n:Int)=0↔N=0):=by
 obtain ⟨D,sD,dD,tD,rfl⟩:=h
 obtain ⟨ao,cap,rfl,m,k,-⟩:=sD.form
 refine ⟨ao,D.length,cap,rfl,k,m,fun h=>?_,fun h=>?_⟩
 ·match D,h with
  | [],_=>rfl
 ·apply Classical.byContradiction
  intro hn
  have l:=trd_lower D dD tD (by omega)
  have p:(0:Int) < 4294967296 ^ (D.length - 1):=Int.pow_pos (by decide)
  omega
theorem NumIs.form {w:World} {v:Value} {N:Int} (h:NumIs w v N):∃ (ao:Option Addr) (n cap:Nat),v=.slice ao n cap:=by
 obtain ⟨ao,n,cap,e,-⟩:=num_len h
 exact ⟨ao,n,cap,e⟩
/-- a store into a block that begins with a bool leaves numbers as they are -/
theorem NumIs.set {w:World} {v:Value} {N:Int} {b j:Nat} {c:Bool} {X:List Value} {y:Value} (h:NumIs w v N) (B:Blk w b (.bool c :: X)):NumIs (w.setCell ⟨b,j,none⟩ y) v N:=by
 obtain ⟨D,sD,h2⟩:=h
 refine ⟨D,?_,h2⟩
 rcases sD with ⟨h1,h3⟩|⟨b',cap,h1,h3,h4,h5,h6⟩
 ·exact .inl ⟨h1,h3⟩
 ·refine .inr ⟨b',cap,h1,h3,h4,by simpa using h5,fun k hk=>?_⟩
  have h0:=h6 0 (by omega)
  have hb:=B.cell 0 _ rfl
  have hne:b'≠b:=by
   rintro rfl
   rw [hb] at h0
   simp at h0
  rw [World.cell?_setCell_other _ _ _ _ (by simp)]
  exact h6 k hk
theorem fits6 {x0 x1 x2 x3 x4 x5:Int} (h:(0≤x0∧x0 < 18446744073709551616)∧(0≤x1∧x1 < 18446744073709551616)∧(0≤x2∧x2 < 18446744073709551616)∧(0≤x3∧x3 < 18446744073709551616)∧(0≤x4∧x4 < 18446744073709551616)∧(0≤x5∧x5 < 18446744073709551616)):fits [x0,x1,x2,x3,x4,x5]:=by
 obtain ⟨h0,h1,h2,h3,h4,h5⟩:=h
 intro j
 match j with
 | 0=>exact h0
 | 1=>exact h1
 | 2=>exact h2
 | 3=>exact h3
 | 4=>exact h4
 | 5=>exact h5
 | _ + 6=>exact ⟨by simp,by simp⟩
/-- the prime -/
def PP:Int:=39402006196394479212279040100143613805079739270465446667948293404245721771496870329047266088258938001861606973112319
/-- the prime divides it -/
def Nu (a:Int):Prop:=PP ∣ a
theorem Nu.add {a b:Int} (h:Nu a) (k:Nu b):Nu (a + b):=Int.dvd_add h k
theorem PP_nat':PP=((39402006196394479212279040100143613805079739270465446667948293404245721771496870329047266088258938001861606973112319:Nat):Int):=by decide
theorem Nu.split {a b:Int} (h:Nu (a * b)):Nu a∨Nu b:=by
 unfold Nu at h ⊢
 rw [PP_nat'] at h ⊢
 rw [Int.ofNat_dvd_left] at h ⊢
 rw [Int.ofNat_dvd_left]
 rw [Int.natAbs_mul] at h
 exact pr_P.split h
theorem Nu.left {a b:Int} (h:Nu (a * b)) (k:¬ Nu b):Nu a:=h.split.resolve_right k
/-- points -/
abbrev Pt:=Option (Int × Int)
/-- a point of the document's -/
def PtIs (w:World) (v:Value):Pt→Prop
 | none=>v=.agg #[.bool true,.slice none 0 0,.slice none 0 0]
 | some p=>∃ a m c a' m' c',v=.agg #[.bool false,.slice a m c,.slice a' m' c']∧NumIs w (.slice a m c) p.1∧NumIs w (.slice a' m' c') p.2
theorem PtIs.later {w w':World} {v:Value} {P:Pt} (h:PtIs w v P) (hb:Below w.heap.size w w'):PtIs w' v P:=by
 cases P with
 | none=>exact h
 | some p =>
  obtain ⟨a,m,c,a',m',c',e,h1,h2⟩:=h
  exact ⟨a,m,c,a',m',c',e,h1.later hb,h2.later hb⟩
theorem PtIs.drew {w:World} {v:Value} {P:Pt} (h:PtIs w v P):PtIs w.drew v P:=by
 cases P with
 | none=>exact h
 | some p =>
  obtain ⟨a,m,c,a',m',c',e,h1,h2⟩:=h
  exact ⟨a,m,c,a',m',c',e,h1.drew,h2.drew⟩
theorem PtIs.alloc {w:World} {v:Value} {P:Pt} (h:PtIs w v P) (o:Obj):PtIs (w.alloc o) v P:=h.later ((Below.refl _ _).alloc (Nat.le_refl _) o)
theorem PtIs.form {w:World} {v:Value} {P:Pt} (h:PtIs w v P):∃ (nb:Bool) (a:Option Addr) (n k:Nat) (b:Option Addr) (m l:Nat),v=.agg #[.bool nb,.slice a n k,.slice b m l]:=by
 cases P with
 | none=>exact ⟨true,none,0,0,none,0,0,h⟩
 | some p =>
  obtain ⟨a,m,c,a',m',c',e,_⟩:=h
  exact ⟨false,a,m,c,a',m',c',e⟩
/-- the limbs A and B and the bool n tell the point P -/
structure Told (P:Pt) (A B:List Int) (n:Bool):Prop where
 fA:fits A
 fB:fits B
 is:(P=none∧n=true∧A=[0,0,0,0,0,0]∧B=[0,0,0,0,0,0])∨(P=some (v64 A,v64 B)∧n=false)
end Go.Proofs.Ytnkipgbnnhahbaa
