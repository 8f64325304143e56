import Derived.WalkKit
import Derived.WalkSpells
import Derived.WalkLawsBesides
import Derived.Deep.MidRow
import Derived.Deep.RegionHeld
import Derived.Laws.CopyOwn
import Derived.Deep.AppendLies
import Derived.ProofKit
import Derived.OpenShut
import Derived.ChangeKeysEq
namespace Go.Proofs.YtdfmoghjimghhaaGreatDoor
open Go.RowKit
open Go.ChangeShapes Go.WideShapes Go.ChangeAt Go.RowKit
def Blk (w:World) (b:Nat) (cs:List Value):Prop:=∃ t,w.heap[b]?=some (.cells cs.toArray t)
theorem Blk.lt {w:World} {b:Nat} {cs:List Value} (h:Blk w b cs):b<w.heap.size:=by
 obtain⟨t,h⟩:=h;exact (Array.getElem?_eq_some_iff.1 h).1
theorem Blk.cell {w:World} {b:Nat} {cs:List Value} (h:Blk w b cs) (j:Nat) (v:Value) (hv:cs[j]?=some v):w.cell? ⟨b,j,none⟩=some v:=by
 obtain⟨t,h⟩:=h;simp[World.cell?,h,hv]
theorem Blk.frozen {w:World} {b:Nat} {cs:List Value} (h:Blk w b cs) (j:Nat):w.frozen? ⟨b,j,none⟩=false:=by
 obtain⟨t,h⟩:=h;simp[World.frozen?,h]
theorem Blk.new (w:World) (cs:List Value) (t:TypeId) (b:Nat) (hb:b=w.heap.size):Blk (w.alloc (.cells cs.toArray t)) b cs:=by
 subst hb;exact ⟨t,by show (w.heap.push _)[w.heap.size]?=_;simp⟩
theorem Blk.alloc {w:World} {b:Nat} {cs:List Value} (h:Blk w b cs) (o:Obj):Blk (w.alloc o) b cs:=by
 have hl:=h.lt;obtain ⟨t,h⟩:=h;exact ⟨t,by rw[Below.heap_alloc _ _ _ hl];exact h⟩
theorem Blk.drew {w:World} {b:Nat} {cs:List Value} (h:Blk w b cs):Blk w.drew b cs:=h
theorem Blk.drewN {w:World} {b:Nat} {cs:List Value} (h:Blk w b cs) (n:Nat):Blk (w.drewN n) b cs:=h
theorem Blk.other {w:World} {b:Nat} {cs:List Value} (h:Blk w b cs) (a:Addr) (v:Value) (hne:b≠a.block):Blk (w.setCell a v) b cs:=by
 obtain⟨t,h⟩:=h;exact ⟨t,by rw[Below.heap_setCell _ _ _ _ hne];exact h⟩
theorem Blk.set {w:World} {b:Nat} {cs:List Value} (h:Blk w b cs) (k:Nat) (v:Value):Blk (w.setCell ⟨b,k,none⟩ v) b (cs.set k v):=by
 obtain⟨t,h⟩:=h;refine ⟨t,?_⟩;simp[World.setCell,Array.getElem?_modify,h]
theorem Blk.below {B:Nat} {w w':World} {b:Nat} {cs:List Value} (h:Blk w b cs) (hb:Below B w w') (hl:b<B):Blk w' b cs:=by
 obtain⟨t,h⟩:=h;exact ⟨t,by rw[hb.block b hl];exact h⟩
theorem Blk.later {w w':World} {b:Nat} {cs:List Value} (h:Blk w b cs) (hb:Below w.heap.size w w'):Blk w' b cs:=h.below hb h.lt
theorem ZcJ {B:Nat} {a w:World} (h:Below B a w) (n:Nat):Below B a (w.drewN n):=⟨h.os,h.tape,h.output,h.size,h.block⟩
theorem ZdG {k:IntKind} {a b:Int} (h:a=b):Ending.returned (.int k a)=.returned (.int k b):=by rw[h]
abbrev us (A:List Int):List Value:=A.map (Value.int .u64)
theorem ZaO (A:List Int) (j:Nat) (h:j<A.length):(us A)[j]?=some (.int .u64 (A.getD j 0)):=by
 simp[us,h]
theorem us_set (A:List Int) (k:Nat) (x:Int):(us A).set k (.int .u64 x)=us (A.set k x):=by simp[us,List.map_set]
theorem Blk.setu {w:World} {b:Nat} {S:List Int} (h:Blk w b (us S)) (k:Nat) (s:Int):Blk (w.setCell ⟨b,k,none⟩ (.int .u64 s)) b (us (S.set k s)):=by
 rw[← us_set];exact h.set k _
theorem Blk.cells6 {w:World} {b:Nat} {x0 x1 x2 x3 x4 x5:Int} (h:Blk w b (us [x0,x1,x2,x3,x4,x5])):w.cell? ⟨b,0,none⟩=some (.int .u64 x0)∧w.cell? ⟨b,1,none⟩=some (.int .u64 x1)∧w.cell? ⟨b,2,none⟩=some (.int .u64 x2)∧w.cell? ⟨b,3,none⟩=some (.int .u64 x3)∧w.cell? ⟨b,4,none⟩=some (.int .u64 x4)∧w.cell? ⟨b,5,none⟩=some (.int .u64 x5) :=
 ⟨h.cell 0 _ rfl,h.cell 1 _ rfl,h.cell 2 _ rfl,h.cell 3 _ rfl,h.cell 4 _ rfl,h.cell 5 _ rfl⟩
def Zaz (A:List Int):Prop:=∀ j,0≤A.getD j 0∧A.getD j 0<18446744073709551616
def pv (b:Int):List Int→Int
 | []=>0
 | d::ds=>d+b*pv b ds
abbrev v64:List Int→Int:=pv 18446744073709551616
theorem ZbC (b:Int):∀ (A:List Int) (k:Nat),k<A.length→pv b (A.take (k+1))=pv b (A.take k)+b ^ k*A.getD k 0
 | [],k,h=>absurd h (by simp)
 | a::A,0,_=>by simp[pv]
 | a::A,k+1,h=>by
  have ih:=ZbC b A k (by simpa using h);rw[List.take_succ_cons,List.take_succ_cons,pv,pv,ih,List.getD_cons_succ,Int.pow_succ]
  grind
theorem ZdU {a:Int} {A:List Int} (h:Zaz (a::A)):(0≤a∧a<18446744073709551616)∧Zaz A:=⟨h 0,fun j=>h (j+1)⟩
theorem Zdg:∀ (A:List Int),Zaz A→0≤v64 A∧v64 A<18446744073709551616 ^ A.length
 | [],_=>by simp[v64,pv]
 | a::A,h=>by
  obtain⟨ha,hA⟩:=ZdU h;have ih:=Zdg A hA;simp only[v64,pv,List.length_cons,Int.pow_succ] at *;generalize (18446744073709551616:Int) ^ A.length=p at *;generalize pv 18446744073709551616 A=v at *;omega
theorem ZhW:∀ (A B:List Int),A.length=B.length→Zaz A→Zaz B→v64 A=v64 B→A=B
 | [],[],_,_,_,_=>rfl
 | [],b::B,h,_,_,_=>by simp at h
 | a::A,[],h,_,_,_=>by simp at h
 | a::A,b::B,h,hA,hB,hv=>by
  obtain⟨ha,hA'⟩:=ZdU hA;obtain ⟨hb,hB'⟩:=ZdU hB;simp only[v64,pv] at hv;have h1:a=b:=by omega
  have h2:v64 A=v64 B:=by show pv _ A=pv _ B;omega
  rw[h1,ZhW A B (by simpa using h) hA' hB' h2]
theorem ZcS (S:List Int) (k:Nat) (s:Int):(S.set k s).take k=S.take k:=by
 rw[List.take_set,List.set_eq_of_length_le (by simp;omega)]
theorem Za7 (S:List Int) (k:Nat) (s:Int) (h:k<S.length):(S.set k s).getD k 0=s:=by
 simp[List.getD_eq_getElem?_getD,h]
theorem Zdm {S:List Int} (h:Zaz S) (k:Nat) (s:Int) (h0:0≤s) (h1:s<18446744073709551616):Zaz (S.set k s):=by
 intro j
 by_cases hj:k=j
 ·subst hj
  by_cases hl:k<S.length
  ·rw[Za7 S k s hl];exact ⟨h0,h1⟩
  ·rw[List.set_eq_of_length_le (by omega)];exact h k
 ·have:(S.set k s).getD j 0=S.getD j 0:=by simp[List.getD_eq_getElem?_getD,hj]
  rw[this];exact h j
theorem six {A:List Int} (h:A.length=6):∃ x0 x1 x2 x3 x4 x5,A=[x0,x1,x2,x3,x4,x5]:=by
 match A,h with
 | [x0,x1,x2,x3,x4,x5],_=>exact ⟨x0,x1,x2,x3,x4,x5,rfl⟩
theorem fits_one:Zaz [1,0,0,0,0,0]:=by
 intro j
 match j with
 | 0=>decide
 | 1=>decide
 | 2=>decide
 | 3=>decide
 | 4=>decide
 | 5=>decide
 | _+6=>exact ⟨by simp,by simp⟩
theorem ZeC (n j:Nat):(List.replicate n (0:Int)).getD j 0=0:=by
 simp only[List.getD_eq_getElem?_getD,List.getElem?_replicate]
 split<;>rfl
theorem ZcC (n:Nat):Zaz (List.replicate n 0):=by
 intro j;have:(List.replicate n (0:Int)).getD j 0=0:=by
  simp only[List.getD_eq_getElem?_getD,List.getElem?_replicate]
  split<;>rfl
 rw[this];decide
theorem hsl {n:Nat} {w w':World} (h:n≤w.heap.size) (hb:Below w.heap.size w w'):n≤w'.heap.size:=Nat.le_trans h hb.size
theorem bal (w:World) (o:Obj):Below w.heap.size w (w.alloc o):=(Below.refl _ _).alloc (Nat.le_refl _) _
theorem Zje {x0 x1 x2 x3 x4 x5:Int} (h:(0≤x0∧x0<18446744073709551616)∧(0≤x1∧x1<18446744073709551616)∧(0≤x2∧x2<18446744073709551616)∧(0≤x3∧x3<18446744073709551616)∧(0≤x4∧x4<18446744073709551616)∧(0≤x5∧x5<18446744073709551616)):Zaz [x0,x1,x2,x3,x4,x5]:=by
 obtain⟨h0,h1,h2,h3,h4,h5⟩:=h;intro j
 match j with
 | 0=>exact h0
 | 1=>exact h1
 | 2=>exact h2
 | 3=>exact h3
 | 4=>exact h4
 | 5=>exact h5
 | _+6=>exact ⟨by simp,by simp⟩
theorem Zba {B:Nat} {a w:World} {b:Nat} {v0 v1 v2 v3 v4 v5:Value} (h:Below B a w) (hb:B≤b):Below B a ((((((w.setCell ⟨b,0,none⟩ v0).setCell ⟨b,1,none⟩ v1).setCell ⟨b,2,none⟩ v2).setCell ⟨b,3,none⟩ v3).setCell ⟨b,4,none⟩ v4).setCell ⟨b,5,none⟩ v5) :=
 (((((h.setCell hb _).setCell hb _).setCell hb _).setCell hb _).setCell hb _).setCell hb _
theorem Zh6 {w:World} {b:Nat} {x0 x1 x2 x3 x4 x5 y0 y1 y2 y3 y4 y5:Int} (h:Blk w b (us [x0,x1,x2,x3,x4,x5])):Blk ((((((w.setCell ⟨b,0,none⟩ (.int .u64 y0)).setCell ⟨b,1,none⟩ (.int .u64 y1)).setCell ⟨b,2,none⟩ (.int .u64 y2)).setCell ⟨b,3,none⟩ (.int .u64 y3)).setCell ⟨b,4,none⟩ (.int .u64 y4)).setCell ⟨b,5,none⟩ (.int .u64 y5)) b (us [y0,y1,y2,y3,y4,y5]) :=
 (((((h.setu 0 y0).setu 1 y1).setu 2 y2).setu 3 y3).setu 4 y4).setu 5 y5
theorem Zh5 {w:World} {b c:Nat} {cs:List Value} {v0 v1 v2 v3 v4 v5:Value} (h:Blk w c cs) (hb:c≠b):Blk ((((((w.setCell ⟨b,0,none⟩ v0).setCell ⟨b,1,none⟩ v1).setCell ⟨b,2,none⟩ v2).setCell ⟨b,3,none⟩ v3).setCell ⟨b,4,none⟩ v4).setCell ⟨b,5,none⟩ v5) c cs :=
 (((((h.other _ _ hb).other _ _ hb).other _ _ hb).other _ _ hb).other _ _ hb).other _ _ hb
theorem Blk.cellsM {w:World} {b:Nat} {m0 m1 m2 m3 m4 m5 i t0 t1 t2 t3 t4 t5:Int} (h:Blk w b (us [m0,m1,m2,m3,m4,m5,i,t0,t1,t2,t3,t4,t5])):w.cell? ⟨b,0,none⟩=some (.int .u64 m0)∧w.cell? ⟨b,1,none⟩=some (.int .u64 m1)∧w.cell? ⟨b,2,none⟩=some (.int .u64 m2)∧w.cell? ⟨b,3,none⟩=some (.int .u64 m3)∧w.cell? ⟨b,4,none⟩=some (.int .u64 m4)∧w.cell? ⟨b,5,none⟩=some (.int .u64 m5) :=
 ⟨h.cell 0 _ rfl,h.cell 1 _ rfl,h.cell 2 _ rfl,h.cell 3 _ rfl,h.cell 4 _ rfl,h.cell 5 _ rfl⟩
theorem Blk.cellsT {w:World} {b:Nat} {m0 m1 m2 m3 m4 m5 i t0 t1 t2 t3 t4 t5:Int} (h:Blk w b (us [m0,m1,m2,m3,m4,m5,i,t0,t1,t2,t3,t4,t5])):w.cell? ⟨b,6,none⟩=some (.int .u64 i)∧w.cell? ⟨b,7,none⟩=some (.int .u64 t0)∧w.cell? ⟨b,8,none⟩=some (.int .u64 t1)∧w.cell? ⟨b,9,none⟩=some (.int .u64 t2)∧w.cell? ⟨b,10,none⟩=some (.int .u64 t3)∧w.cell? ⟨b,11,none⟩=some (.int .u64 t4)∧w.cell? ⟨b,12,none⟩=some (.int .u64 t5) :=
 ⟨h.cell 6 _ rfl,h.cell 7 _ rfl,h.cell 8 _ rfl,h.cell 9 _ rfl,h.cell 10 _ rfl,h.cell 11 _ rfl,h.cell 12 _ rfl⟩
def Wr6 (w:World) (b:Nat):Prop:=∃ X:List Int,X.length=6∧Blk w b (us X)
theorem Wr6.of {w:World} {b:Nat} {x0 x1 x2 x3 x4 x5:Int} (h:Blk w b (us [x0,x1,x2,x3,x4,x5])):Wr6 w b:=⟨_,rfl,h⟩
theorem Wr6.drew {w:World} {b:Nat} (h:Wr6 w b):Wr6 w.drew b:=h
theorem Wr6.later {w w':World} {b:Nat} (h:Wr6 w b) (hb:Below w.heap.size w w'):Wr6 w' b:=by
 obtain⟨X,l,h⟩:=h;exact ⟨X,l,h.later hb⟩
theorem Wr6.lt {w:World} {b:Nat} (h:Wr6 w b):b<w.heap.size:=by
 obtain⟨X,l,h⟩:=h;exact h.lt
theorem Wr6.cells {w:World} {b:Nat} (h:Wr6 w b):∃ x0 x1 x2 x3 x4 x5:Int,(w.cell? ⟨b,0,none⟩=some (.int .u64 x0)∧w.cell? ⟨b,1,none⟩=some (.int .u64 x1)∧w.cell? ⟨b,2,none⟩=some (.int .u64 x2)∧w.cell? ⟨b,3,none⟩=some (.int .u64 x3)∧w.cell? ⟨b,4,none⟩=some (.int .u64 x4)∧w.cell? ⟨b,5,none⟩=some (.int .u64 x5))∧(w.frozen? ⟨b,0,none⟩=false∧w.frozen? ⟨b,1,none⟩=false∧w.frozen? ⟨b,2,none⟩=false∧w.frozen? ⟨b,3,none⟩=false∧w.frozen? ⟨b,4,none⟩=false∧w.frozen? ⟨b,5,none⟩=false):=by
 obtain⟨X,l,h⟩:=h;obtain ⟨x0,x1,x2,x3,x4,x5,rfl⟩:=six l;exact ⟨x0,x1,x2,x3,x4,x5,h.cells6,h.frozen 0,h.frozen 1,h.frozen 2,h.frozen 3,h.frozen 4,h.frozen 5⟩
theorem Wr6.put {w:World} {b:Nat} {y0 y1 y2 y3 y4 y5:Int} (h:Wr6 w b):Wr6 ((((((w.setCell ⟨b,0,none⟩ (.int .u64 y0)).setCell ⟨b,1,none⟩ (.int .u64 y1)).setCell ⟨b,2,none⟩ (.int .u64 y2)).setCell ⟨b,3,none⟩ (.int .u64 y3)).setCell ⟨b,4,none⟩ (.int .u64 y4)).setCell ⟨b,5,none⟩ (.int .u64 y5)) b:=by
 obtain⟨X,l,h⟩:=h;obtain ⟨x0,x1,x2,x3,x4,x5,rfl⟩:=six l;exact ⟨_,rfl,Zh6 h⟩
theorem Zah {w w':World} {c j:Nat} {v:Value} (h:w.cell? ⟨c,j,none⟩=some v) (hb:Below w.heap.size w w'):w'.cell? ⟨c,j,none⟩=some v:=by
 rw[hb.cell (World.block_lt_of_cell? w _ h)];exact h
theorem Zaj {w:World} {b c j:Nat} {v:Value} {v0 v1 v2 v3 v4 v5:Value} (h:w.cell? ⟨c,j,none⟩=some v) (hb:c≠b):((((((w.setCell ⟨b,0,none⟩ v0).setCell ⟨b,1,none⟩ v1).setCell ⟨b,2,none⟩ v2).setCell ⟨b,3,none⟩ v3).setCell ⟨b,4,none⟩ v4).setCell ⟨b,5,none⟩ v5).cell? ⟨c,j,none⟩=some v:=by
 rw[World.cell?_setCell_far _ _ _ _ (by simpa using Ne.symm hb),World.cell?_setCell_far _ _ _ _ (by simpa using Ne.symm hb),World.cell?_setCell_far _ _ _ _ (by simpa using Ne.symm hb),World.cell?_setCell_far _ _ _ _ (by simpa using Ne.symm hb),World.cell?_setCell_far _ _ _ _ (by simpa using Ne.symm hb),World.cell?_setCell_far _ _ _ _ (by simpa using Ne.symm hb)];exact h
theorem Zld {w:World} {b:Nat} {cs:List Value} (h:Blk w b cs):w.rangeAt b 0 cs:=fun j v hv=>by
 rw[Nat.zero_add];exact h.cell j v hv
theorem ZhP {w w':World} {b o:Nat} {cs:List Value} (h:w.rangeAt b o cs) (hb:Below w.heap.size w w'):w'.rangeAt b o cs:=fun j v hv=>Zah (h j v hv) hb
theorem Zju {w:World} {b o:Nat} {cs:List Value} (h:w.rangeAt b o cs):w.drew.rangeAt b o cs:=h
theorem Zjv {w:World} {b c o:Nat} {cs:List Value} {v0 v1 v2 v3 v4 v5:Value} (h:w.rangeAt c o cs) (hb:c≠b):((((((w.setCell ⟨b,0,none⟩ v0).setCell ⟨b,1,none⟩ v1).setCell ⟨b,2,none⟩ v2).setCell ⟨b,3,none⟩ v3).setCell ⟨b,4,none⟩ v4).setCell ⟨b,5,none⟩ v5).rangeAt c o cs:=fun j v hv=>Zaj (h j v hv) hb
theorem Zly {w:World} {b:Nat} {v0 v1 v2 v3 v4 v5:Value}:((((((w.setCell ⟨b,0,none⟩ v0).setCell ⟨b,1,none⟩ v1).setCell ⟨b,2,none⟩ v2).setCell ⟨b,3,none⟩ v3).setCell ⟨b,4,none⟩ v4).setCell ⟨b,5,none⟩ v5).heap.size=w.heap.size:=by
 simp
theorem Zaa {a w w':World} (h:Below a.heap.size a w) (hb:Below w.heap.size w w'):Below a.heap.size a w':=h.trans (hb.mono h.size)
theorem Zi4 {w:World} {c j:Nat} {v:Value} {o:Obj} (h:w.cell? ⟨c,j,none⟩=some v):(w.alloc o).cell? ⟨c,j,none⟩=some v:=by
 rw[World.cell?_alloc_lt _ _ _ (World.block_lt_of_cell? w _ h)];exact h
theorem Wr6.alloc {w:World} {b:Nat} {o:Obj} (h:Wr6 w b):Wr6 (w.alloc o) b:=by
 obtain⟨X,l,h⟩:=h;exact ⟨X,l,h.alloc o⟩
theorem Zaf {a w:World} {o:Obj} (h:Below a.heap.size a w):Below a.heap.size a (w.alloc o):=h.alloc h.size o
theorem Wr6.swap {w:World} {b:Nat} {o o':Obj} (h:Wr6 (w.alloc o) b) (hc:b<w.heap.size):Wr6 (w.alloc o') b:=by
 obtain⟨X,l,t,h⟩:=h;exact ⟨X,l,t,by rw[Below.heap_alloc _ _ _ hc] at h ⊢;exact h⟩
theorem Zfn {B:Nat} {a w:World} {o o':Obj} (h:Below B a (w.alloc o)) (hc:B≤w.heap.size):Below B a (w.alloc o') :=
 ⟨h.os,h.tape,h.output,by have:=h.size;simpa using this,fun b hb=>by
  have:=h.block b hb;rw[Below.heap_alloc _ _ _ (by omega)] at this ⊢;exact this⟩
theorem Wr6.far6 {w:World} {b c:Nat} {v0 v1 v2 v3 v4 v5:Value} (h:Wr6 w c) (hb:c≠b):Wr6 ((((((w.setCell ⟨b,0,none⟩ v0).setCell ⟨b,1,none⟩ v1).setCell ⟨b,2,none⟩ v2).setCell ⟨b,3,none⟩ v3).setCell ⟨b,4,none⟩ v4).setCell ⟨b,5,none⟩ v5) c:=by
 obtain⟨X,l,h⟩:=h;exact ⟨X,l,Zh5 h hb⟩
theorem Wr6.new {w:World} {t:TypeId}:Wr6 (w.alloc (Obj.cells #[.int .u64 0,.int .u64 0,.int .u64 0,.int .u64 0,.int .u64 0,.int .u64 0] t)) w.heap.size :=
 Wr6.of (Blk.new w (us [0,0,0,0,0,0]) t w.heap.size rfl)
theorem Wr6.is {w:World} {b:Nat} {y0 y1 y2 y3 y4 y5:Int} (h:Wr6 w b):Blk ((((((w.setCell ⟨b,0,none⟩ (.int .u64 y0)).setCell ⟨b,1,none⟩ (.int .u64 y1)).setCell ⟨b,2,none⟩ (.int .u64 y2)).setCell ⟨b,3,none⟩ (.int .u64 y3)).setCell ⟨b,4,none⟩ (.int .u64 y4)).setCell ⟨b,5,none⟩ (.int .u64 y5)) b (us [y0,y1,y2,y3,y4,y5]):=by
 obtain⟨X,l,h⟩:=h;obtain ⟨x0,x1,x2,x3,x4,x5,rfl⟩:=six l;exact Zh6 h
theorem Blk.swap {w:World} {b:Nat} {cs:List Value} {o o':Obj} (h:Blk (w.alloc o) b cs) (hc:b<w.heap.size):Blk (w.alloc o') b cs:=by
 obtain⟨t,h⟩:=h;exact ⟨t,by rw[Below.heap_alloc _ _ _ hc] at h ⊢;exact h⟩
def Hd (S:World→Prop) (w:World):Prop:=S w
theorem ZfZ {w0 W:World} (bs:List (Nat × List Int)) (ws:List Nat) (hB:∀ b X,(b,X)∈bs→Blk W b (us X)) (hW:∀ b,b∈ws→Wr6 W b) (hd:∀ b X,(b,X)∈bs→b ∉ ws) (bel:Below w0.heap.size w0 W) :
  ∃ S:World→Prop,Hd S W∧Hid (∀ w1 w2,Hd S w1→Below w1.heap.size w1 w2→Hd S w2)∧Hid (∀ w1 o,Hd S w1→Hd S (w1.alloc o))∧Hid (∀ w1,Hd S w1→Hd S w1.drew)∧Hid (∀ (w1:World) (o o':Obj),W.heap.size≤w1.heap.size→Hd S (w1.alloc o)→Hd S (w1.alloc o')) ∧
   Hid (∀ w1 b (y0 y1 y2 y3 y4 y5:Int),Hd S w1→(W.heap.size≤b∨b∈ws)→w0.heap.size≤b→Hd S ((((((w1.setCell ⟨b,0,none⟩ (.int .u64 y0)).setCell ⟨b,1,none⟩ (.int .u64 y1)).setCell ⟨b,2,none⟩ (.int .u64 y2)).setCell ⟨b,3,none⟩ (.int .u64 y3)).setCell ⟨b,4,none⟩ (.int .u64 y4)).setCell ⟨b,5,none⟩ (.int .u64 y5))) ∧
   Hid (∀ w1,Hd S w1→W.heap.size≤w1.heap.size)∧Hid (∀ w1,Hd S w1→Below w0.heap.size w0 w1)∧Hid (∀ w1 b X,Hd S w1→(b,X)∈bs→Blk w1 b (us X))∧Hid (∀ w1 b,Hd S w1→b∈ws→Wr6 w1 b):=by
 refine⟨fun wx=>(∀ b X,(b,X)∈bs→Blk wx b (us X))∧(∀ b,b∈ws→Wr6 wx b)∧W.heap.size≤wx.heap.size∧Below w0.heap.size w0 wx,⟨hB,hW,Nat.le_refl _,bel⟩,?_,?_,?_,?_,?_,?_,?_,?_,?_⟩
 ·rintro w1 w2 ⟨h1,h2,h3,h4⟩ hb
  exact⟨fun b X h=>(h1 b X h).later hb,fun b h=>(h2 b h).later hb,Nat.le_trans h3 hb.size,Zaa h4 hb⟩
 ·rintro w1 o ⟨h1,h2,h3,h4⟩
  exact⟨fun b X h=>(h1 b X h).alloc o,fun b h=>(h2 b h).alloc,by simp;omega,Zaf h4⟩
 ·rintro w1 ⟨h1,h2,h3,h4⟩
  exact⟨h1,h2,h3,h4.drew⟩
 ·rintro w1 o o' hn ⟨h1,h2,h3,h4⟩
  exact⟨fun b X h=>(h1 b X h).swap (Nat.lt_of_lt_of_le (hB b X h).lt hn),fun b h=>(h2 b h).swap (Nat.lt_of_lt_of_le (hW b h).lt hn),by simp;omega,Zfn h4 (Nat.le_trans bel.size hn)⟩
 ·rintro w1 b y0 y1 y2 y3 y4 y5 ⟨h1,h2,h3,h4⟩ hn hl
  refine⟨fun c X h=>Zh5 (h1 c X h) ?_,fun c h=>?_,by rw[Zly];exact h3,Zba h4 hl⟩
  ·rintro rfl
   rcases hn with hn|hn
   ·have:=(hB _ X h).lt;omega
   ·exact hd _ X h hn
  ·by_cases e:c=b
   ·subst e;exact (h2 _ h).put
   ·exact (h2 c h).far6 e
 ·rintro w1 ⟨_,_,h3,_⟩
  exact h3
 ·rintro w1 ⟨_,_,_,h4⟩
  exact h4
 ·rintro w1 b X ⟨h1,_,_,_⟩ h
  exact h1 b X h
 ·rintro w1 b ⟨_,h2,_,_⟩ h
  exact h2 b h
def Zmm (w:World) (b j:Nat):Int:=intOf ((w.cell? ⟨b,j,none⟩).getD (.int .u64 0))
theorem Zoh {w:World} {b j:Nat} {x:Int} (h:w.cell? ⟨b,j,none⟩=some (.int .u64 x)):w.cell? ⟨b,j,none⟩=some (.int .u64 (Zmm w b j)):=by
 rw[h];unfold Zmm;rw[h];rfl
theorem Zg4 {S:World→Prop} {b:Nat} {x0 x1 x2 x3 x4 x5:Int} (h:∀ wx,S wx→Blk wx b (us [x0,x1,x2,x3,x4,x5])):(∀ wx,S wx→wx.cell? ⟨b,0,none⟩=some (.int .u64 x0))∧(∀ wx,S wx→wx.cell? ⟨b,1,none⟩=some (.int .u64 x1))∧(∀ wx,S wx→wx.cell? ⟨b,2,none⟩=some (.int .u64 x2))∧(∀ wx,S wx→wx.cell? ⟨b,3,none⟩=some (.int .u64 x3))∧(∀ wx,S wx→wx.cell? ⟨b,4,none⟩=some (.int .u64 x4))∧(∀ wx,S wx→wx.cell? ⟨b,5,none⟩=some (.int .u64 x5))∧(∀ wx,S wx→b<wx.heap.size) :=
 ⟨fun w s=>(h w s).cell 0 _ rfl,fun w s=>(h w s).cell 1 _ rfl,fun w s=>(h w s).cell 2 _ rfl,fun w s=>(h w s).cell 3 _ rfl,fun w s=>(h w s).cell 4 _ rfl,fun w s=>(h w s).cell 5 _ rfl,fun w s=>(h w s).lt⟩
theorem rule13 {S:World→Prop} {b:Nat} {m0 m1 m2 m3 m4 m5 i t0 t1 t2 t3 t4 t5:Int} (h:∀ wx,S wx→Blk wx b (us [m0,m1,m2,m3,m4,m5,i,t0,t1,t2,t3,t4,t5])):(∀ wx,S wx→wx.cell? ⟨b,0,none⟩=some (.int .u64 m0))∧(∀ wx,S wx→wx.cell? ⟨b,1,none⟩=some (.int .u64 m1))∧(∀ wx,S wx→wx.cell? ⟨b,2,none⟩=some (.int .u64 m2))∧(∀ wx,S wx→wx.cell? ⟨b,3,none⟩=some (.int .u64 m3))∧(∀ wx,S wx→wx.cell? ⟨b,4,none⟩=some (.int .u64 m4))∧(∀ wx,S wx→wx.cell? ⟨b,5,none⟩=some (.int .u64 m5))∧(∀ wx,S wx→wx.cell? ⟨b,6,none⟩=some (.int .u64 i)) ∧
  (∀ wx,S wx→wx.cell? ⟨b,7,none⟩=some (.int .u64 t0))∧(∀ wx,S wx→wx.cell? ⟨b,8,none⟩=some (.int .u64 t1))∧(∀ wx,S wx→wx.cell? ⟨b,9,none⟩=some (.int .u64 t2))∧(∀ wx,S wx→wx.cell? ⟨b,10,none⟩=some (.int .u64 t3))∧(∀ wx,S wx→wx.cell? ⟨b,11,none⟩=some (.int .u64 t4))∧(∀ wx,S wx→wx.cell? ⟨b,12,none⟩=some (.int .u64 t5))∧(∀ wx,S wx→b<wx.heap.size) :=
 ⟨fun w s=>(h w s).cell 0 _ rfl,fun w s=>(h w s).cell 1 _ rfl,fun w s=>(h w s).cell 2 _ rfl,fun w s=>(h w s).cell 3 _ rfl,fun w s=>(h w s).cell 4 _ rfl,fun w s=>(h w s).cell 5 _ rfl,fun w s=>(h w s).cell 6 _ rfl,fun w s=>(h w s).cell 7 _ rfl,fun w s=>(h w s).cell 8 _ rfl,fun w s=>(h w s).cell 9 _ rfl,fun w s=>(h w s).cell 10 _ rfl,fun w s=>(h w s).cell 11 _ rfl,fun w s=>(h w s).cell 12 _ rfl,fun w s=>(h w s).lt⟩
theorem Znr {S:World→Prop} {b:Nat} (h:∀ wx,S wx→Wr6 wx b):((∀ wx,S wx→wx.cell? ⟨b,0,none⟩=some (.int .u64 (Zmm wx b 0)))∧(∀ wx,S wx→wx.cell? ⟨b,1,none⟩=some (.int .u64 (Zmm wx b 1)))∧(∀ wx,S wx→wx.cell? ⟨b,2,none⟩=some (.int .u64 (Zmm wx b 2)))∧(∀ wx,S wx→wx.cell? ⟨b,3,none⟩=some (.int .u64 (Zmm wx b 3)))∧(∀ wx,S wx→wx.cell? ⟨b,4,none⟩=some (.int .u64 (Zmm wx b 4)))∧(∀ wx,S wx→wx.cell? ⟨b,5,none⟩=some (.int .u64 (Zmm wx b 5)))) ∧
  ((∀ wx,S wx→wx.frozen? ⟨b,0,none⟩=false)∧(∀ wx,S wx→wx.frozen? ⟨b,1,none⟩=false)∧(∀ wx,S wx→wx.frozen? ⟨b,2,none⟩=false)∧(∀ wx,S wx→wx.frozen? ⟨b,3,none⟩=false)∧(∀ wx,S wx→wx.frozen? ⟨b,4,none⟩=false)∧(∀ wx,S wx→wx.frozen? ⟨b,5,none⟩=false))∧(∀ wx,S wx→b<wx.heap.size):=by
 have c:∀ wx,S wx→∀ j,j<6→wx.cell? ⟨b,j,none⟩=some (.int .u64 (Zmm wx b j)):=fun wx s j hj=>by
  obtain⟨X,l,hb⟩:=h wx s;exact Zoh (hb.cell j _ (ZaO X j (by omega)))
 have f:∀ wx,S wx→∀ j,wx.frozen? ⟨b,j,none⟩=false:=fun wx s j=>by
  obtain⟨X,l,hb⟩:=h wx s;exact hb.frozen j
 exact⟨⟨fun w s=>c w s 0 (by omega),fun w s=>c w s 1 (by omega),fun w s=>c w s 2 (by omega),fun w s=>c w s 3 (by omega),fun w s=>c w s 4 (by omega),fun w s=>c w s 5 (by omega)⟩,⟨fun w s=>f w s 0,fun w s=>f w s 1,fun w s=>f w s 2,fun w s=>f w s 3,fun w s=>f w s 4,fun w s=>f w s 5⟩,fun w s=>(h w s).lt⟩
theorem Blk.row {w:World} {b c:Nat} {X:List Value} {cs:Array Value} (h:Blk w b X) (hc:b≠c):Blk (w.setRow c cs) b X:=by
 obtain⟨t,h⟩:=h;exact ⟨t,by rw[setRow_other _ _ _ _ hc];exact h⟩
theorem ZaM {S:World→Prop} {b:Nat} {cs:List Value} (h:∀ wx,S wx→Blk wx b cs) (j:Nat) (v:Value) (hv:cs[j]?=some v):∀ wx,S wx→wx.cell? ⟨b,j,none⟩=some v:=fun wx s=>(h wx s).cell j v hv
theorem Zg5 {S:World→Prop} {b:Nat} {cs:List Value} (h:∀ wx,S wx→Blk wx b cs):∀ wx,S wx→b<wx.heap.size:=fun wx s=>(h wx s).lt
def Sl (w:World) (v:Value) (D:List Int):Prop :=
 (v=.slice none 0 0∧D=[])∨∃ b cap,v=.slice (some ⟨b,0,none⟩) D.length cap∧D.length≤cap∧cap≤maxLen∧b<w.heap.size∧∀ j,j<D.length→w.cell? ⟨b,j,none⟩=some (.int .u64 (D.getD j 0))
theorem Sl.below {B:Nat} {w w':World} {v:Value} {D:List Int} (h:Sl w v D) (hb:Below B w w') (hB:w.heap.size≤B):Sl w' v D:=by
 rcases h with h|⟨b,cap,h1,h2,h3,h4,h5⟩
 ·exact .inl h
 ·exact .inr ⟨b,cap,h1,h2,h3,Nat.lt_of_lt_of_le h4 hb.size,fun j hj=>(hb.cell (show b<B by omega)).trans (h5 j hj)⟩
theorem Sl.later {w w':World} {v:Value} {D:List Int} (h:Sl w v D) (hb:Below w.heap.size w w'):Sl w' v D:=h.below hb (Nat.le_refl _)
theorem Sl.alloc {w:World} {v:Value} {D:List Int} (h:Sl w v D) (o:Obj):Sl (w.alloc o) v D:=h.later ((Below.refl _ _).alloc (Nat.le_refl _) o)
theorem Sl.of_own {w:World} {base:Nat} {e:TypeId} {v:Value} {n:Nat} {D:List Int} (h:w.ownsRow base e 1 v n (us D)):Sl w v D:=by
 obtain⟨hl,h⟩:=h;have hn:D.length=n:=by simpa using hl
 rcases h with ⟨h1,h2⟩|⟨g,cap,cur,h1,h2,h3,h4,h5,h6,h7⟩
 ·exact .inl ⟨h1,List.eq_nil_of_length_eq_zero (by omega)⟩
 ·refine .inr ⟨g,cap,by rw[hn];exact h1,by omega,h5,(Array.getElem?_eq_some_iff.1 h3).1,fun j hj=>?_⟩
  have e1:(cur.toList.take (n*1))[j]?=some (.int .u64 (D.getD j 0)):=by rw[h7];exact ZaO D j hj
  rw[List.getElem?_take,if_pos (by omega)] at e1;simp only[World.cell?,h3,Option.isSome_none,Bool.false_eq_true,if_false]
  simpa using e1
theorem Sl.form {w:World} {v:Value} {D:List Int} (h:Sl w v D):∃ ao cap,v=.slice ao D.length cap∧cap≤maxLen∧D.length≤cap∧(0<D.length→∃ b,ao=some ⟨b,0,none⟩∧b<w.heap.size∧∀ j,j<D.length→w.cell? ⟨b,j,none⟩=some (.int .u64 (D.getD j 0))):=by
 rcases h with ⟨rfl,rfl⟩|⟨b,cap,h1,h2,h3,h4,h5⟩
 ·exact ⟨none,0,rfl,Nat.zero_le _,Nat.le_refl _,fun h=>absurd h (by simp)⟩
 ·exact ⟨_,cap,h1,h3,h2,fun _=>⟨b,rfl,h4,h5⟩⟩
abbrev v32:List Int→Int:=pv 4294967296
def dig (D:List Int):Prop:=∀ j,0≤D.getD j 0∧D.getD j 0<4294967296
def trd (D:List Int):Prop:=0<D.length→D.getD (D.length-1) 0≠0
theorem Zmq {a:Int} {A:List Int} (h:dig (a::A)):(0≤a∧a<4294967296)∧dig A:=⟨h 0,fun j=>h (j+1)⟩
theorem ZfX:dig []:=fun j=>by simp
theorem Zdk {D:List Int} (h:dig D) (n:Nat):dig (D.take n):=by
 intro j
 by_cases hj:j<n
 ·have:(D.take n).getD j 0=D.getD j 0:=by simp[List.getD_eq_getElem?_getD,hj]
  rw[this];exact h j
 ·have:(D.take n).getD j 0=0:=by simp[List.getD_eq_getElem?_getD,List.getElem?_take,hj]
  rw[this];decide
theorem ZhM (b:Int):∀ D:List Int,(∀ j,D.getD j 0=0)→pv b D=0
 | [],_=>rfl
 | d::D,h=>by
  have h0:d=0:=h 0;rw[pv,ZhM b D (fun j=>h (j+1)),h0];simp
theorem Zes (b:Int):∀ (D:List Int) (n:Nat),(∀ j,n≤j→D.getD j 0=0)→pv b (D.take n)=pv b D
 | [],n,_=>by simp
 | d::D,0,h=>by
  rw[ZhM b (d::D) (fun j=>h j (by omega))];rfl
 | d::D,n+1,h=>by
  rw[List.take_succ_cons,pv,pv,Zes b D n (fun j hj=>h (j+1) (by omega))]
theorem Zde (b:Int):∀ A B:List Int,pv b (A++B)=pv b A+b ^ A.length*pv b B
 | [],B=>by simp[pv]
 | a::A,B=>by
  rw[List.cons_append,pv,pv,Zde b A B,List.length_cons,Int.pow_succ]
  grind
theorem Zbj (D:List Int) (j:Nat) (h:D.length≤j):D.getD j 0=0:=by simp[List.getD_eq_getElem?_getD,List.getElem?_eq_none h]
def ZaG (w:World) (v:Value) (N:Int):Prop:=∃ D,Sl w v D∧dig D∧trd D∧v32 D=N
theorem ZaG.later {w w':World} {v:Value} {N:Int} (h:ZaG w v N) (hb:Below w.heap.size w w'):ZaG w' v N:=by
 obtain⟨D,h1,h2⟩:=h;exact ⟨D,h1.later hb,h2⟩
theorem ZaG.alloc {w:World} {v:Value} {N:Int} (h:ZaG w v N) (o:Obj):ZaG (w.alloc o) v N:=h.later ((Below.refl _ _).alloc (Nat.le_refl _) o)
theorem ZbL:∀ (A:List Int),dig A→0≤v32 A∧v32 A<4294967296 ^ A.length
 | [],_=>by simp[v32,pv]
 | a::A,h=>by
  obtain⟨ha,hA⟩:=Zmq h;have ih:=ZbL A hA;simp only[v32,pv,List.length_cons,Int.pow_succ] at *;generalize (4294967296:Int) ^ A.length=p at *;generalize pv 4294967296 A=v at *;omega
theorem ZlJ (A:List Int) (k:Nat) (h:k<A.length):A.take (k+1)=A.take k++[A.getD k 0]:=by
 rw[List.take_add_one,List.getElem?_eq_getElem h,List.getD_eq_getElem?_getD,List.getElem?_eq_getElem h];rfl
theorem ZhV (A:List Int) (a:Int):us A++[.int .u64 a]=us (A++[a]):=by
 simp only[us,List.map_append,List.map_cons,List.map_nil]
theorem Zpc (A:List Int) (k:Nat) (h:k<A.length):us (A.take k)++[.int .u64 (A.getD k 0)]=us (A.take (k+1)):=by
 rw[ZhV,← ZlJ A k h]
theorem Zgb (b:Int):∀ (D:List Int) (k:Nat),k<D.length→pv b D=pv b (D.take k)+b ^ k*(D.getD k 0+b*pv b (D.drop (k+1)))
 | [],k,h=>absurd h (by simp)
 | d::D,0,_=>by simp[pv]
 | d::D,k+1,h=>by
  have ih:=Zgb b D k (by simpa using h);rw[pv,ih,List.take_succ_cons,pv,List.getD_cons_succ,List.drop_succ_cons,Int.pow_succ]
  grind
theorem ZcF (k:Nat):(0:Int)<4294967296 ^ k:=Int.pow_pos (by decide)
theorem Zei (a b:Nat) (h:a≤b):(4294967296:Int) ^ a≤4294967296 ^ b:=by
 obtain⟨c,rfl⟩:∃ c,b=a+c:=⟨b-a,by omega⟩;have p:=ZcF c;have:=Int.mul_le_mul_of_nonneg_left (show (1:Int)≤4294967296 ^ c by omega) (Int.le_of_lt (ZcF a));rw[Int.pow_add];omega
theorem ZiN (D E:List Int) (k:Nat) (hD:dig D) (hE:dig E) (kD:k<D.length) (kE:k<E.length) (he:D.drop (k+1)=E.drop (k+1)) (h:D.getD k 0<E.getD k 0):v32 D<v32 E:=by
 have bD:=ZbL (D.take k) (Zdk hD k);have bE:=ZbL (E.take k) (Zdk hE k);have e1:(D.take k).length=k:=by simp;omega
 have e2:(E.take k).length=k:=by simp;omega
 rw[e1] at bD;rw[e2] at bE;have p:=ZcF k;simp only[v32] at *;rw[Zgb _ D k kD,Zgb _ E k kE,he];generalize D.getD k 0=x at *;generalize E.getD k 0=y at *;generalize pv 4294967296 (E.drop (k+1))=z at *;generalize (4294967296:Int) ^ k=q at *;have h1:q*(x+4294967296*z)+q≤q*(y+4294967296*z):=by
  have:q*(x+1+4294967296*z)≤q*(y+4294967296*z):=Int.mul_le_mul_of_nonneg_left (by omega) (by omega)
  grind
 omega
theorem Zfb (D:List Int) (hD:dig D) (hT:trd D) (h:0<D.length):(4294967296:Int) ^ (D.length-1)≤v32 D:=by
 have h1:=hT h;have h2:=hD (D.length-1);have b:=ZbL (D.take (D.length-1)) (Zdk hD _);have p:=ZcF (D.length-1);simp only[v32] at *;rw[Zgb _ D (D.length-1) (by omega),List.drop_of_length_le (by omega)];generalize D.getD (D.length-1) 0=x at *;generalize (4294967296:Int) ^ (D.length-1)=q at *;have:q*1≤q*(x+4294967296*pv 4294967296 []):=Int.mul_le_mul_of_nonneg_left (by simp only[pv];omega) (by omega);omega
theorem Zfc (D E:List Int) (hD:dig D) (hE:dig E) (hT:trd E) (h:D.length<E.length):v32 D<v32 E:=by
 have b:=ZbL D hD;have l:=Zfb E hE hT (by omega);have hp:(4294967296:Int) ^ D.length≤4294967296 ^ (E.length-1):=Zei _ _ (by omega);omega
theorem ZdL (D:List Int) (hD:dig D) (hT:trd D) (n:Nat) (h:v32 D<4294967296 ^ n):D.length≤n:=by
 rcases Nat.lt_or_ge n D.length with hlt|hge
 ·have l:=Zfb D hD hT (by omega)
  have hp:=Zei n (D.length-1) (by omega);omega
 ·exact hge
def spl:List Int→List Int
 | []=>[]
 | a::A=>a%4294967296::a/4294967296::spl A
theorem ZfM:∀ A B:List Int,spl (A++B)=spl A++spl B
 | [],_=>rfl
 | a::A,B=>by rw[List.cons_append,spl,spl,ZfM A B];rfl
theorem Zo1:∀ A:List Int,(spl A).length=2*A.length
 | []=>rfl
 | a::A=>by simp only[spl,List.length_cons,Zo1 A];omega
theorem ZlD:∀ A:List Int,v32 (spl A)=v64 A
 | []=>rfl
 | a::A=>by
  have ih:=ZlD A;simp only[v32,v64,spl,pv] at *;rw[ih];omega
theorem ZlC:∀ A:List Int,Zaz A→dig (spl A)
 | [],_=>ZfX
 | a::A,h=>by
  obtain⟨ha,hA⟩:=ZdU h;have ih:=ZlC A hA;intro j
  match j with
  | 0=>simp only[spl,List.getD_cons_zero];omega
  | 1=>simp only[spl,List.getD_cons_succ,List.getD_cons_zero];omega
  | j+2=>simp only[spl,List.getD_cons_succ];exact ih j
theorem ZnB (L:List Int) (k:Nat) (h:k<L.length):spl (L.take (k+1))=spl (L.take k)++[L.getD k 0%4294967296,L.getD k 0/4294967296]:=by
 rw[List.take_add_one,ZfM,List.getElem?_eq_getElem h,List.getD_eq_getElem?_getD,List.getElem?_eq_getElem h]
 rfl
variable {H:Type} {enc:TypeId × Value→H} {P:Program} {w:World} {base:Nat} {spare:Nat→Bool} {held:Bool}
theorem wf_u64 {n:Int}:(Lit.int .u64 n).wf=true↔0≤n∧n<18446744073709551616:=by
 have h1:IntKind.u64.min=0:=rfl;have h2:IntKind.u64.max=18446744073709551615:=rfl;simp[Lit.wf,h1,h2];omega
theorem Zos (A:List Int) (h:∀ j,j<A.length→0≤A.getD j 0∧A.getD j 0<18446744073709551616):Zaz A:=by
 intro j
 by_cases hj:j<A.length
 ·exact h j hj
 ·have:A.getD j 0=0:=by simp[List.getD_eq_getElem?_getD,List.getElem?_eq_none (Nat.le_of_not_lt hj)]
  rw[this];decide
theorem Zf6 {n:Nat} {t e:TypeId} {cs:Array Value} {d:DataW H} {p:List MemPlace} (hu:P.underlying t=some (.array n e)) (hc:P.cellsOf t=n) (hue:P.underlying e=some (.int .u64)) (hce:P.cellsOf e=1)
  (h:DataW.Trod enc P w base spare held t (.agg cs) d p) :
  ∃ A:List Int,A.length=n∧cs=(us A).toArray∧d=.agg (A.map fun x=>.lit (.int .u64 x))∧p=[]∧Zaz A:=by
 obtain⟨fuel,hf⟩:=h;obtain ⟨xs,m,_,hx,hl,hn,hi⟩:=DataW.trod_array hu hf;obtain ⟨l⟩:=cs;simp only[Value.cells] at hl hi;rw[hc] at hl;have step:∀ i,i<n→∃ x:Int,l[i]?=some (.int .u64 x)∧xs[i]?=some (.lit (.int .u64 x),[])∧(Lit.int .u64 x).wf=true:=by
  intro i hin;have h1:=hi i hin;rw[hce,Nat.mul_one] at h1;have h2:(l.drop i).take 1=[l[i]'(by omega)]:=by
   rw[List.drop_eq_getElem_cons (by omega)];rfl
  rw[h2] at h1;rw[List.getElem?_eq_getElem (show i<xs.length by omega)] at h1;obtain ⟨x,e1,e2,e3⟩:=DataW.trod_int hue h1;simp only[List.cons.injEq,and_true] at e1;exact ⟨x,by rw[List.getElem?_eq_getElem (by omega),e1],by rw[List.getElem?_eq_getElem (by omega),e2],e3⟩
 have hlen:l.length=n:=hl;refine ⟨l.map intOf,by simpa using hlen,?_,?_,?_,?_⟩
 ·congr 1
  apply List.ext_getElem?;intro i
  by_cases hin:i<n
  ·obtain ⟨x,e1,_,_⟩:=step i hin
   simp[us,e1,intOf]
  ·rw[List.getElem?_eq_none (by omega),List.getElem?_eq_none (by simp;omega)]
 ·simp only[Prod.mk.injEq] at hx
  rw[hx.1]
  congr 1
  apply List.ext_getElem?;intro i
  by_cases hin:i<n
  ·obtain ⟨x,e1,e2,_⟩:=step i hin
   simp[e1,e2,intOf]
  ·rw[List.getElem?_eq_none (by simp;omega),List.getElem?_eq_none (by simp;omega)]
 ·simp only[Prod.mk.injEq] at hx
  rw[hx.2,List.flatMap_eq_nil_iff];intro y hy;obtain ⟨i,hi1,hi2⟩:=List.getElem_of_mem hy;obtain ⟨x,_,e2,_⟩:=step i (by omega);rw[List.getElem?_eq_getElem hi1,hi2] at e2
  injection e2 with e2
  rw[e2]
 ·apply Zos
  intro j hj;simp at hj;obtain ⟨x,e1,_,e3⟩:=step j (by omega);have:(l.map intOf).getD j 0=x:=by simp[List.getD_eq_getElem?_getD,e1,intOf]
  rw[this];exact wf_u64.1 e3
theorem ZgH (A:List Int) (j:Nat) (h:j<A.length):A.drop j=A.getD j 0::A.drop (j+1):=by
 rw[List.drop_eq_getElem_cons h];simp[List.getD_eq_getElem?_getD,h]
theorem Zdw {P:Program} (w:World) (d:Nat) {e:TypeId} (he:P.plainKey e=true) (hu:P.underlying e=some (.int .u64)) (hc:P.cellsOf e=1) (A B:List Int) (n:Nat) (lA:A.length=n) (lB:B.length=n) :
  ∀ m j,j+m=n→(Op.eqItems (d+1) e (P.cellsOf e) (us A).toArray (us B).toArray (List.range' j m)).run P w=.ok (decide (A.drop j=B.drop j)) w
 | 0,j,h=>by
  have e1:A.drop j=[]:=List.drop_eq_nil_of_le (by omega);have e2:B.drop j=[]:=List.drop_eq_nil_of_le (by omega);simp[Op.eqItems,e1,e2]
 | m+1,j,h=>by
  have ih:=Zdw w d he hu hc A B n lA lB m (j+1) (by omega);have p1:=run_part_plain (P:=P) w he (xs:=(us A).toArray) (off:=j*P.cellsOf e) (v:=.int .u64 (A.getD j 0)) (by rw[hc,Nat.mul_one,List.getElem?_toArray];exact ZaO A j (by omega));have p2:=run_part_plain (P:=P) w he (xs:=(us B).toArray) (off:=j*P.cellsOf e) (v:=.int .u64 (B.getD j 0)) (by rw[hc,Nat.mul_one,List.getElem?_toArray];exact ZaO B j (by omega));have p3:=run_equalIn_int (P:=P) w d e .u64 .u64 (A.getD j 0) (B.getD j 0) hu;rw[List.range'_succ];simp only[Op.eqItems,Sem.run_bind,p1,p2,p3,Result.andThen_ok];rw[ZgH A j (by omega),ZgH B j (by omega)];clear p1 p2 p3;generalize A.getD j 0=a;generalize B.getD j 0=b
  by_cases hq:a=b
  ·simp only[hq,beq_self_eq_true,Bool.not_true,Bool.false_eq_true,if_false,List.cons.injEq,true_and]
   exact ih
  ·have:(a == b)=false:=by simpa using hq
   simp[this,hq]
end Go.Proofs.YtdfmoghjimghhaaGreatDoor
