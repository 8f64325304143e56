/- Numbers by a modulus: what is taken off, what is left, Montgomery's steps; plain facts on numbers alone. Montgomery's reduction: the steps, in numbers alone. Newton's steps, R's square, powers by bits; in numbers alone. Primes, in plain numbers: Fermat's little theorem, Euclid's lemma, and Pocklington's test, with a reckoning of powers that the kernel carries out. That the number 39402006196394479212279040100143613805079739270465446667948293404245721771496870329047266088258938001861606973112319 is prime. That the number 39402006196394479212279040100143613805079739270465446667946905279627659399113263569398956308152294913554433653942643 is prime. What makes 1 of a number, by Fermat, modulo a prime. The field's prime: plain facts on numbers. The points of the curve are a group: sums go either way round and in any order. Plain facts on numbers. No place of the curve has y = 0: the curve's cubic has no root by the prime. Plain facts on numbers. Multiples of points: plain facts on numbers. The order times the base point is the one at infinity: plain facts on numbers. Multiples by bits, and modulo the order: plain facts. '==' on six limbs. The reference's numbers as slices: their lengths; stores beside them. What stays through a walk: known blocks of whatever cells; any other block may be written. The law's num, and the reference's To6 where the answer is known. Points, as the document's and as limbs: plain facts; the curve's number. The two tables of the field as they lie in memory. (Plain part.) The two tables of the field as they lie in memory. order.N: the order. What makes 1 of a number, by Fermat, modulo the order. Numbers of six limbs as rows of cells. Numbers of six limbs and points as rows of cells. Rows of cells: numbers, points and signatures loaded and stored whole. (Plain part.) Rows of cells: numbers, points and signatures loaded and stored whole. The document's Of6 of a row of cells. The document's order. Signatures held against each other, and put together. -/
import Derived.Test.YtkgjlcdefnpkpaaGreatDoorBase
import Derived.Test.YtkgjlcdefnpkpaaGreatDoorPmNG
import Derived.Test.YtkgjlcdefnpkpaaGreatDoorRows
import Derived.Deep.RegionHeld3
import Derived.Deep.QuietTactic
import Derived.BigQuiet
import Derived.Deep.WholeRow
import Derived.Deep.DeepCutAuto
import Derived.Deep.DeepFit
import Derived.Deep.OwnRows
import Derived.Deep.AppendLies
import Derived.Great.BuildSlice
import Derived.Laws.Rows
import Derived.Laws.StructEq
namespace Go.Proofs.YtkgjlcdefnpkpaaGreatDoor
open Go.RowKit
def hv:Nat→Nat→Nat
 | 0,e=>e
 | f + 1,e=>hv f (e / 2)
/-- the prime -/
def PP:Int:=39402006196394479212279040100143613805079739270465446667948293404245721771496870329047266088258938001861606973112319
/-- the prime divides it -/
def Nu (a:Int):Prop:=PP ∣ a
theorem Nu.add {a b:Int} (h:Nu a) (k:Nu b):Nu (a + b):=Int.dvd_add h k
/-- points -/
abbrev Pt:=Option (Int × Int)
/-- c0 + c1 x + c2 x^2 -/
abbrev Tri:=Int × Int × Int
def ev (r:Int) (a:Tri):Int:=a.1 + a.2.1 * r + a.2.2 * (r * r)
theorem num_len {w:World} {v:Value} {N:Int} (h:NumIs w v N):∃ (ao:Option Addr) (n cap:Nat),v=.slice ao n cap∧n≤cap∧cap≤maxLen∧((n:Int)=0↔N=0):=by
 obtain ⟨D,sD,dD,tD,rfl⟩:=h
 obtain ⟨ao,cap,rfl,m,k,-⟩:=sD.form
 refine ⟨ao,D.length,cap,rfl,k,m,fun h=>?_,fun h=>?_⟩
 ·match D,h with
  | [],_=>rfl
 ·apply Classical.byContradiction
  intro hn
  have l:=trd_lower D dD tD (by omega)
  have p:(0:Int) < 4294967296 ^ (D.length - 1):=Int.pow_pos (by decide)
  omega
theorem NumIs.form {w:World} {v:Value} {N:Int} (h:NumIs w v N):∃ (ao:Option Addr) (n cap:Nat),v=.slice ao n cap:=by
 obtain ⟨ao,n,cap,e,-⟩:=num_len h
 exact ⟨ao,n,cap,e⟩
/-- a store into a block that begins with a bool leaves numbers as they are -/
theorem NumIs.set {w:World} {v:Value} {N:Int} {b j:Nat} {c:Bool} {X:List Value} {y:Value} (h:NumIs w v N) (B:Blk w b (.bool c :: X)):NumIs (w.setCell ⟨b,j,none⟩ y) v N:=by
 obtain ⟨D,sD,h2⟩:=h
 refine ⟨D,?_,h2⟩
 rcases sD with ⟨h1,h3⟩|⟨b',cap,h1,h3,h4,h5,h6⟩
 ·exact .inl ⟨h1,h3⟩
 ·refine .inr ⟨b',cap,h1,h3,h4,by simpa using h5,fun k hk=>?_⟩
  have h0:=h6 0 (by omega)
  have hb:=B.cell 0 _ rfl
  have hne:b'≠b:=by
   rintro rfl
   rw [hb] at h0
   simp at h0
  rw [World.cell?_setCell_other _ _ _ _ (by simp)]
  exact h6 k hk
theorem held3 {w0 W:World} (bs:List (Nat × List Value)) (hB:∀ b X,(b,X)∈bs→Blk W b X) (bel:Below w0.heap.size w0 W) :
  ∃ S:World→Prop,Hd S W∧Hid (∀ w1 w2,Hd S w1→Below w1.heap.size w1 w2→Hd S w2)∧Hid (∀ w1 o,Hd S w1→Hd S (w1.alloc o))∧Hid (∀ w1,Hd S w1→Hd S w1.drew)∧Hid (∀ (w1:World) (o o':Obj),W.heap.size≤w1.heap.size→Hd S (w1.alloc o)→Hd S (w1.alloc o')) ∧
   Hid (∀ w1 b j y,Hd S w1→(W.heap.size≤b∨∀ c X,(c,X)∈bs→c≠b)→w0.heap.size≤b→Hd S (w1.setCell ⟨b,j,none⟩ y)) ∧
   Hid (∀ w1,Hd S w1→W.heap.size≤w1.heap.size)∧Hid (∀ w1,Hd S w1→Below w0.heap.size w0 w1)∧Hid (∀ w1 b X,Hd S w1→(b,X)∈bs→Blk w1 b X) ∧
   Hid (∀ w1 b cs,Hd S w1→(W.heap.size≤b∨∀ c X,(c,X)∈bs→c≠b)→w0.heap.size≤b→Hd S (w1.setRow b cs)):=by
 refine ⟨fun wx=>(∀ b X,(b,X)∈bs→Blk wx b X)∧W.heap.size≤wx.heap.size∧Below w0.heap.size w0 wx,⟨hB,Nat.le_refl _,bel⟩,?_,?_,?_,?_,?_,?_,?_,?_,?_⟩
 ·rintro w1 w2 ⟨h1,h3,h4⟩ hb
  exact ⟨fun b X h=>(h1 b X h).later hb,Nat.le_trans h3 hb.size,below_step h4 hb⟩
 ·rintro w1 o ⟨h1,h3,h4⟩
  exact ⟨fun b X h=>(h1 b X h).alloc o,by simp;omega,below_alloc h4⟩
 ·rintro w1 ⟨h1,h3,h4⟩
  exact ⟨h1,h3,h4.drew⟩
 ·rintro w1 o o' hn ⟨h1,h3,h4⟩
  exact ⟨fun b X h=>(h1 b X h).swap (Nat.lt_of_lt_of_le (hB b X h).lt hn),by simp;omega,below_swap h4 (Nat.le_trans bel.size hn)⟩
 ·rintro w1 b j y ⟨h1,h3,h4⟩ hn hl
  refine ⟨fun c X h=>(h1 c X h).other _ _ ?_,by simpa using h3,h4.setCell hl _⟩
  rcases hn with hn|hn
  ·have:=(hB c X h).lt
   exact Nat.ne_of_lt (Nat.lt_of_lt_of_le this hn)
  ·exact hn c X h
 ·rintro w1 ⟨_,h3,_⟩
  exact h3
 ·rintro w1 ⟨_,_,h4⟩
  exact h4
 ·rintro w1 b X ⟨h1,_,_⟩ h
  exact h1 b X h
 ·rintro w1 b cs ⟨h1,h3,h4⟩ hn hl
  refine ⟨fun c X h=>(h1 c X h).row ?_,by simpa [World.setRow] using h3,below_setRow h4 hl _⟩
  rcases hn with hn|hn
  ·have:=(hB c X h).lt
   exact Nat.ne_of_lt (Nat.lt_of_lt_of_le this hn)
  ·exact hn c X h
/-- a point of the document's -/
def PtIs (w:World) (v:Value):Pt→Prop
 | none=>v=.agg #[.bool true,.slice none 0 0,.slice none 0 0]
 | some p=>∃ a m c a' m' c',v=.agg #[.bool false,.slice a m c,.slice a' m' c']∧NumIs w (.slice a m c) p.1∧NumIs w (.slice a' m' c') p.2
theorem PtIs.later {w w':World} {v:Value} {P:Pt} (h:PtIs w v P) (hb:Below w.heap.size w w'):PtIs w' v P:=by
 cases P with
 | none=>exact h
 | some p =>
  obtain ⟨a,m,c,a',m',c',e,h1,h2⟩:=h
  exact ⟨a,m,c,a',m',c',e,h1.later hb,h2.later hb⟩
theorem PtIs.drew {w:World} {v:Value} {P:Pt} (h:PtIs w v P):PtIs w.drew v P:=by
 cases P with
 | none=>exact h
 | some p =>
  obtain ⟨a,m,c,a',m',c',e,h1,h2⟩:=h
  exact ⟨a,m,c,a',m',c',e,h1.drew,h2.drew⟩
theorem PtIs.alloc {w:World} {v:Value} {P:Pt} (h:PtIs w v P) (o:Obj):PtIs (w.alloc o) v P:=h.later ((Below.refl _ _).alloc (Nat.le_refl _) o)
theorem PtIs.form {w:World} {v:Value} {P:Pt} (h:PtIs w v P):∃ (nb:Bool) (a:Option Addr) (n k:Nat) (b:Option Addr) (m l:Nat),v=.agg #[.bool nb,.slice a n k,.slice b m l]:=by
 cases P with
 | none=>exact ⟨true,none,0,0,none,0,0,h⟩
 | some p =>
  obtain ⟨a,m,c,a',m',c',e,_⟩:=h
  exact ⟨false,a,m,c,a',m',c',e⟩
/-- the limbs A and B and the bool n tell the point P -/
structure Told (P:Pt) (A B:List Int) (n:Bool):Prop where
 fA:fits A
 fB:fits B
 is:(P=none∧n=true∧A=[0,0,0,0,0,0]∧B=[0,0,0,0,0,0])∨(P=some (v64 A,v64 B)∧n=false)
/-- the order -/
def QQ:Int:=39402006196394479212279040100143613805079739270465446667946905279627659399113263569398956308152294913554433653942643
/-- the two tables lie where they lay -/
def GlsO (w:World):Prop:=(w.cell? ⟨1,0,none⟩=some (.int .u64 17072048233947408755)∧w.cell? ⟨1,1,none⟩=some (.int .u64 6348401684107011962)∧w.cell? ⟨1,2,none⟩=some (.int .u64 14367412456785391071)∧w.cell? ⟨1,3,none⟩=some (.int .u64 18446744073709551615)∧w.cell? ⟨1,4,none⟩=some (.int .u64 18446744073709551615)∧w.cell? ⟨1,5,none⟩=some (.int .u64 18446744073709551615))∧True
theorem GlsO.below {w w':World} (G:GlsO w) (hb:Below w.heap.size w w'):GlsO w':=by
 obtain ⟨⟨a0,a1,a2,a3,a4,a5⟩,_⟩:=G
 exact ⟨⟨cell_later a0 hb,cell_later a1 hb,cell_later a2 hb,cell_later a3 hb,cell_later a4 hb,cell_later a5 hb⟩,trivial⟩
def OutO (a:Int) (e:Nat) (z:Int):Prop:=z=a ^ e % QQ
/-- each of them is one cell -/
def OneR (cs:List Value):Prop:=cs.toArray.all (·.oneCell')=true
/-- a number of six limbs, as a row of cells -/
def U6 (cs:List Value) (x:Int):Prop:=∃ z0 z1 z2 z3 z4 z5:Int,cs=[.int .u64 z0,.int .u64 z1,.int .u64 z2,.int .u64 z3,.int .u64 z4,.int .u64 z5]∧fits [z0,z1,z2,z3,z4,z5]∧v64 [z0,z1,z2,z3,z4,z5]=x
theorem U6.mk {z0 z1 z2 z3 z4 z5:Int} (h:fits [z0,z1,z2,z3,z4,z5]):U6 [.int .u64 z0,.int .u64 z1,.int .u64 z2,.int .u64 z3,.int .u64 z4,.int .u64 z5] (v64 [z0,z1,z2,z3,z4,z5]):=⟨z0,z1,z2,z3,z4,z5,rfl,h,rfl⟩
theorem U6.len {cs:List Value} {x:Int} (h:U6 cs x):cs.length=6:=by
 obtain ⟨z0,z1,z2,z3,z4,z5,rfl,_⟩:=h
 rfl
theorem U6.ones {cs:List Value} {x:Int} (h:U6 cs x):OneR cs:=by
 obtain ⟨z0,z1,z2,z3,z4,z5,rfl,_⟩:=h
 simp [OneR,Value.oneCell']
theorem U6.zero:U6 [.int .u64 0,.int .u64 0,.int .u64 0,.int .u64 0,.int .u64 0,.int .u64 0] 0:=⟨0,0,0,0,0,0,rfl,fits6 (by decide),by decide⟩
theorem U6.one:U6 [.int .u64 1,.int .u64 0,.int .u64 0,.int .u64 0,.int .u64 0,.int .u64 0] 1:=⟨1,0,0,0,0,0,rfl,fits6 (by decide),by decide⟩
/-- from 1 to N - 1 -/
def isSc (x:Int):Prop:=1≤x∧x < QQ
instance (x:Int):Decidable (isSc x):=by unfold isSc;exact inferInstance
/-- 1 over it (0 of 0) -/
def InvO (x z:Int):Prop:=OutO x 39402006196394479212279040100143613805079739270465446667946905279627659399113263569398956308152294913554433653942641 z
theorem InvO.one {x y z:Int} (h:InvO x y) (k:InvO x z):y=z:=h.trans k.symm
/-- a point as a row of cells -/
def P13 (cs:List Value) (P:Pt):Prop:=∃ (s0 s1 s2 s3 s4 s5 t0 t1 t2 t3 t4 t5:Int) (k:Bool),cs=[.int .u64 s0,.int .u64 s1,.int .u64 s2,.int .u64 s3,.int .u64 s4,.int .u64 s5,.int .u64 t0,.int .u64 t1,.int .u64 t2,.int .u64 t3,.int .u64 t4,.int .u64 t5,.bool k]∧Told P [s0,s1,s2,s3,s4,s5] [t0,t1,t2,t3,t4,t5] k
/-- thirteen cells that may be a point -/
def P13R (cs:List Value) (X Y:Int) (n:Bool):Prop:=∃ xs ys,cs=xs++ys++[.bool n]∧U6 xs X∧U6 ys Y
theorem P13.len {cs:List Value} {P:Pt} (h:P13 cs P):cs.length=13:=by
 obtain ⟨s0,s1,s2,s3,s4,s5,t0,t1,t2,t3,t4,t5,k,rfl,_⟩:=h
 rfl
theorem P13R.len {cs:List Value} {X Y:Int} {n:Bool} (h:P13R cs X Y n):cs.length=13:=by
 obtain ⟨xs,ys,rfl,h1,h2⟩:=h
 simp [h1.len,h2.len]
theorem P13R.ones {cs:List Value} {X Y:Int} {n:Bool} (h:P13R cs X Y n):OneR cs:=by
 obtain ⟨xs,ys,rfl,⟨z0,z1,z2,z3,z4,z5,rfl,_⟩,⟨y0,y1,y2,y3,y4,y5,rfl,_⟩⟩:=h
 simp [OneR,Value.oneCell']
theorem OneR.app {xs ys:List Value} (h:OneR xs) (k:OneR ys):OneR (xs++ys):=by
 unfold OneR at *
 rw [Array.all_eq_true_iff_forall_mem] at *
 intro u hu
 simp only [List.mem_toArray,List.mem_append] at hu
 rcases hu with hu|hu
 ·exact h u (by simpa using hu)
 ·exact k u (by simpa using hu)
/-- a block that is written whole -/
theorem Blk.put {w:World} {g:Nat} {X ys:List Value} (B:Blk w g X):Blk (w.setRow g ys.toArray) g ys:=by
 obtain ⟨t,h⟩:=B
 exact ⟨t,setRow_heap _ _ _ _ _ _ h⟩
end Go.Proofs.YtkgjlcdefnpkpaaGreatDoor
