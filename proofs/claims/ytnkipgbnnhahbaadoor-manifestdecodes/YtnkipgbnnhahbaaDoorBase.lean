/- Small facts on worlds: a block that is known whole ('Blk'), behind new blocks, draws, stores and calls; and on numbers by limbs. -/
import Derived.WalkKit
import Derived.WalkSpells
import Derived.WalkLawsBesides
namespace Go.Proofs.YtnkipgbnnhahbaaDoor
open Go.RowKit
def Blk (w:World) (b:Nat) (cs:List Value):Prop:=∃ t,w.heap[b]?=some (.cells cs.toArray t)
theorem Blk.lt {w:World} {b:Nat} {cs:List Value} (h:Blk w b cs):b < w.heap.size:=by
 obtain ⟨t,h⟩:=h
 exact (Array.getElem?_eq_some_iff.1 h).1
theorem Blk.cell {w:World} {b:Nat} {cs:List Value} (h:Blk w b cs) (j:Nat) (v:Value) (hv:cs[j]?=some v):w.cell? ⟨b,j,none⟩=some v:=by
 obtain ⟨t,h⟩:=h
 simp [World.cell?,h,hv]
theorem Blk.frozen {w:World} {b:Nat} {cs:List Value} (h:Blk w b cs) (j:Nat):w.frozen? ⟨b,j,none⟩=false:=by
 obtain ⟨t,h⟩:=h
 simp [World.frozen?,h]
theorem Blk.new (w:World) (cs:List Value) (t:TypeId) (b:Nat) (hb:b=w.heap.size):Blk (w.alloc (.cells cs.toArray t)) b cs:=by
 subst hb
 exact ⟨t,by show (w.heap.push _)[w.heap.size]?=_;simp⟩
theorem Blk.alloc {w:World} {b:Nat} {cs:List Value} (h:Blk w b cs) (o:Obj):Blk (w.alloc o) b cs:=by
 have hl:=h.lt
 obtain ⟨t,h⟩:=h
 exact ⟨t,by rw [Below.heap_alloc _ _ _ hl];exact h⟩
theorem Blk.drew {w:World} {b:Nat} {cs:List Value} (h:Blk w b cs):Blk w.drew b cs:=h
theorem Blk.other {w:World} {b:Nat} {cs:List Value} (h:Blk w b cs) (a:Addr) (v:Value) (hne:b≠a.block):Blk (w.setCell a v) b cs:=by
 obtain ⟨t,h⟩:=h
 exact ⟨t,by rw [Below.heap_setCell _ _ _ _ hne];exact h⟩
theorem Blk.set {w:World} {b:Nat} {cs:List Value} (h:Blk w b cs) (k:Nat) (v:Value):Blk (w.setCell ⟨b,k,none⟩ v) b (cs.set k v):=by
 obtain ⟨t,h⟩:=h
 refine ⟨t,?_⟩
 simp [World.setCell,Array.getElem?_modify,h]
theorem Blk.below {B:Nat} {w w':World} {b:Nat} {cs:List Value} (h:Blk w b cs) (hb:Below B w w') (hl:b < B):Blk w' b cs:=by
 obtain ⟨t,h⟩:=h
 exact ⟨t,by rw [hb.block b hl];exact h⟩
theorem Blk.later {w w':World} {b:Nat} {cs:List Value} (h:Blk w b cs) (hb:Below w.heap.size w w'):Blk w' b cs:=h.below hb h.lt
/-- numbers as cells of 64 bits -/
abbrev us (A:List Int):List Value:=A.map (Value.int .u64)
theorem us_get (A:List Int) (j:Nat) (h:j < A.length):(us A)[j]?=some (.int .u64 (A.getD j 0)):=by
 simp [us,h]
theorem us_set (A:List Int) (k:Nat) (x:Int):(us A).set k (.int .u64 x)=us (A.set k x):=by simp [us,List.map_set]
theorem Blk.setu {w:World} {b:Nat} {S:List Int} (h:Blk w b (us S)) (k:Nat) (s:Int):Blk (w.setCell ⟨b,k,none⟩ (.int .u64 s)) b (us (S.set k s)):=by
 rw [← us_set];exact h.set k _
theorem Blk.cells6 {w:World} {b:Nat} {x0 x1 x2 x3 x4 x5:Int} (h:Blk w b (us [x0,x1,x2,x3,x4,x5])):w.cell? ⟨b,0,none⟩=some (.int .u64 x0)∧w.cell? ⟨b,1,none⟩=some (.int .u64 x1)∧w.cell? ⟨b,2,none⟩=some (.int .u64 x2)∧w.cell? ⟨b,3,none⟩=some (.int .u64 x3)∧w.cell? ⟨b,4,none⟩=some (.int .u64 x4)∧w.cell? ⟨b,5,none⟩=some (.int .u64 x5) :=
 ⟨h.cell 0 _ rfl,h.cell 1 _ rfl,h.cell 2 _ rfl,h.cell 3 _ rfl,h.cell 4 _ rfl,h.cell 5 _ rfl⟩
/-- each fits into 64 bits -/
def fits (A:List Int):Prop:=∀ j,0≤A.getD j 0∧A.getD j 0 < 18446744073709551616
/-- the number of digits to a base, the lowest first -/
def pv (b:Int):List Int→Int
 | []=>0
 | d :: ds=>d + b * pv b ds
abbrev v64:List Int→Int:=pv 18446744073709551616
theorem six {A:List Int} (h:A.length=6):∃ x0 x1 x2 x3 x4 x5,A=[x0,x1,x2,x3,x4,x5]:=by
 match A,h with
 | [x0,x1,x2,x3,x4,x5],_=>exact ⟨x0,x1,x2,x3,x4,x5,rfl⟩
end Go.Proofs.YtnkipgbnnhahbaaDoor
