/- Small facts on worlds: a block that is known whole ('Blk'), behind new blocks, draws, stores and calls; and on numbers by limbs. Six limbs that fit. An array of six limbs written into a block. A modulus written into a block: thirteen cells. What stays through a walk: blocks that are known, blocks that may be written, all below; under one letter S, with its rules. What stays through a walk, for blocks of whatever cells: known ones, and ones that may be written; under one letter S, with its rules. Numbers by digits of 32 bits in slices: what lies where, and plain facts on digits. An array of numbers of 64 bits by value: opened as it is read, and shut again. '==' on arrays of uint64: what it answers. limb.Sub: the difference, and the bit that is borrowed. limb.Less: whether a number is below another one. limb.Same: 1, if the two numbers are the same, else 0. -/
import Derived.WalkKit
import Derived.WalkSpells
import Derived.WalkLawsBesides
import Derived.Deep.MidRow
import Derived.Deep.RegionHeld
import Derived.Laws.CopyOwn
import Derived.Deep.AppendLies
import Derived.ProofKit
import Derived.OpenShut
import Derived.ChangeKeysEq
import Derived.Test.YtohcdbifhnfcbaaGreatDoorRows
import Derived.Shelf.Spec.BitsCarry
import Derived.Deep.RegionHeld3
import Derived.Deep.QuietTactic
import Derived.BigQuiet
namespace Go.Proofs.YtohcdbifhnfcbaaGreatDoor
open Go.RowKit
open Go.ChangeShapes Go.WideShapes Go.ChangeAt Go.RowKit
set_option linter.unusedSimpArgs false
set_option maxRecDepth 100000
set_option maxHeartbeats 1000000
def Blk (w:World) (b:Nat) (cs:List Value):Prop:=∃ t,w.heap[b]?=some (.cells cs.toArray t)
theorem Blk.lt {w:World} {b:Nat} {cs:List Value} (h:Blk w b cs):b < w.heap.size:=by
 obtain ⟨t,h⟩:=h
 exact (Array.getElem?_eq_some_iff.1 h).1
theorem Blk.cell {w:World} {b:Nat} {cs:List Value} (h:Blk w b cs) (j:Nat) (v:Value) (hv:cs[j]?=some v):w.cell? ⟨b,j,none⟩=some v:=by
 obtain ⟨t,h⟩:=h
 simp [World.cell?,h,hv]
theorem Blk.frozen {w:World} {b:Nat} {cs:List Value} (h:Blk w b cs) (j:Nat):w.frozen? ⟨b,j,none⟩=false:=by
 obtain ⟨t,h⟩:=h
 simp [World.frozen?,h]
theorem Blk.new (w:World) (cs:List Value) (t:TypeId) (b:Nat) (hb:b=w.heap.size):Blk (w.alloc (.cells cs.toArray t)) b cs:=by
 subst hb
 exact ⟨t,by show (w.heap.push _)[w.heap.size]?=_;simp⟩
theorem Blk.alloc {w:World} {b:Nat} {cs:List Value} (h:Blk w b cs) (o:Obj):Blk (w.alloc o) b cs:=by
 have hl:=h.lt
 obtain ⟨t,h⟩:=h
 exact ⟨t,by rw [Below.heap_alloc _ _ _ hl];exact h⟩
theorem Blk.drew {w:World} {b:Nat} {cs:List Value} (h:Blk w b cs):Blk w.drew b cs:=h
theorem Blk.drewN {w:World} {b:Nat} {cs:List Value} (h:Blk w b cs) (n:Nat):Blk (w.drewN n) b cs:=h
theorem Blk.other {w:World} {b:Nat} {cs:List Value} (h:Blk w b cs) (a:Addr) (v:Value) (hne:b≠a.block):Blk (w.setCell a v) b cs:=by
 obtain ⟨t,h⟩:=h
 exact ⟨t,by rw [Below.heap_setCell _ _ _ _ hne];exact h⟩
theorem Blk.set {w:World} {b:Nat} {cs:List Value} (h:Blk w b cs) (k:Nat) (v:Value):Blk (w.setCell ⟨b,k,none⟩ v) b (cs.set k v):=by
 obtain ⟨t,h⟩:=h
 refine ⟨t,?_⟩
 simp [World.setCell,Array.getElem?_modify,h]
theorem Blk.below {B:Nat} {w w':World} {b:Nat} {cs:List Value} (h:Blk w b cs) (hb:Below B w w') (hl:b < B):Blk w' b cs:=by
 obtain ⟨t,h⟩:=h
 exact ⟨t,by rw [hb.block b hl];exact h⟩
theorem Blk.later {w w':World} {b:Nat} {cs:List Value} (h:Blk w b cs) (hb:Below w.heap.size w w'):Blk w' b cs:=h.below hb h.lt
theorem below_dN {B:Nat} {a w:World} (h:Below B a w) (n:Nat):Below B a (w.drewN n):=⟨h.os,h.tape,h.output,h.size,h.block⟩
theorem ret_int {k:IntKind} {a b:Int} (h:a=b):Ending.returned (.int k a)=.returned (.int k b):=by rw [h]
/-- numbers as cells of 64 bits -/
abbrev us (A:List Int):List Value:=A.map (Value.int .u64)
theorem us_get (A:List Int) (j:Nat) (h:j < A.length):(us A)[j]?=some (.int .u64 (A.getD j 0)):=by
 simp [us,h]
theorem us_set (A:List Int) (k:Nat) (x:Int):(us A).set k (.int .u64 x)=us (A.set k x):=by simp [us,List.map_set]
theorem Blk.setu {w:World} {b:Nat} {S:List Int} (h:Blk w b (us S)) (k:Nat) (s:Int):Blk (w.setCell ⟨b,k,none⟩ (.int .u64 s)) b (us (S.set k s)):=by
 rw [← us_set];exact h.set k _
theorem Blk.cells6 {w:World} {b:Nat} {x0 x1 x2 x3 x4 x5:Int} (h:Blk w b (us [x0,x1,x2,x3,x4,x5])):w.cell? ⟨b,0,none⟩=some (.int .u64 x0)∧w.cell? ⟨b,1,none⟩=some (.int .u64 x1)∧w.cell? ⟨b,2,none⟩=some (.int .u64 x2)∧w.cell? ⟨b,3,none⟩=some (.int .u64 x3)∧w.cell? ⟨b,4,none⟩=some (.int .u64 x4)∧w.cell? ⟨b,5,none⟩=some (.int .u64 x5) :=
 ⟨h.cell 0 _ rfl,h.cell 1 _ rfl,h.cell 2 _ rfl,h.cell 3 _ rfl,h.cell 4 _ rfl,h.cell 5 _ rfl⟩
/-- each fits into 64 bits -/
def fits (A:List Int):Prop:=∀ j,0≤A.getD j 0∧A.getD j 0 < 18446744073709551616
/-- the number of digits to a base, the lowest first -/
def pv (b:Int):List Int→Int
 | []=>0
 | d :: ds=>d + b * pv b ds
abbrev v64:List Int→Int:=pv 18446744073709551616
theorem pv_take (b:Int):∀ (A:List Int) (k:Nat),k < A.length→pv b (A.take (k + 1))=pv b (A.take k) + b ^ k * A.getD k 0
 | [],k,h=>absurd h (by simp)
 | a :: A,0,_=>by simp [pv]
 | a :: A,k + 1,h=>by
  have ih:=pv_take b A k (by simpa using h)
  rw [List.take_succ_cons,List.take_succ_cons,pv,pv,ih,List.getD_cons_succ,Int.pow_succ]
  grind
theorem fits_cons {a:Int} {A:List Int} (h:fits (a :: A)):(0≤a∧a < 18446744073709551616)∧fits A:=⟨h 0,fun j=>h (j + 1)⟩
theorem v64_bound:∀ (A:List Int),fits A→0≤v64 A∧v64 A < 18446744073709551616 ^ A.length
 | [],_=>by simp [v64,pv]
 | a :: A,h=>by
  obtain ⟨ha,hA⟩:=fits_cons h
  have ih:=v64_bound A hA
  simp only [v64,pv,List.length_cons,Int.pow_succ] at *
  generalize (18446744073709551616:Int) ^ A.length=p at *
  generalize pv 18446744073709551616 A=v at *
  omega
theorem v64_inj:∀ (A B:List Int),A.length=B.length→fits A→fits B→v64 A=v64 B→A=B
 | [],[],_,_,_,_=>rfl
 | [],b :: B,h,_,_,_=>by simp at h
 | a :: A,[],h,_,_,_=>by simp at h
 | a :: A,b :: B,h,hA,hB,hv=>by
  obtain ⟨ha,hA'⟩:=fits_cons hA
  obtain ⟨hb,hB'⟩:=fits_cons hB
  simp only [v64,pv] at hv
  have h1:a=b:=by omega
  have h2:v64 A=v64 B:=by show pv _ A=pv _ B;omega
  rw [h1,v64_inj A B (by simpa using h) hA' hB' h2]
theorem take_set_same (S:List Int) (k:Nat) (s:Int):(S.set k s).take k=S.take k:=by
 rw [List.take_set,List.set_eq_of_length_le (by simp;omega)]
theorem getD_set_same (S:List Int) (k:Nat) (s:Int) (h:k < S.length):(S.set k s).getD k 0=s:=by
 simp [List.getD_eq_getElem?_getD,h]
theorem fits_set {S:List Int} (h:fits S) (k:Nat) (s:Int) (h0:0≤s) (h1:s < 18446744073709551616):fits (S.set k s):=by
 intro j
 by_cases hj:k=j
 ·subst hj
  by_cases hl:k < S.length
  ·rw [getD_set_same S k s hl];exact ⟨h0,h1⟩
  ·rw [List.set_eq_of_length_le (by omega)];exact h k
 ·have:(S.set k s).getD j 0=S.getD j 0:=by simp [List.getD_eq_getElem?_getD,hj]
  rw [this];exact h j
theorem six {A:List Int} (h:A.length=6):∃ x0 x1 x2 x3 x4 x5,A=[x0,x1,x2,x3,x4,x5]:=by
 match A,h with
 | [x0,x1,x2,x3,x4,x5],_=>exact ⟨x0,x1,x2,x3,x4,x5,rfl⟩
theorem fits_one:fits [1,0,0,0,0,0]:=by
 intro j
 match j with
 | 0=>decide
 | 1=>decide
 | 2=>decide
 | 3=>decide
 | 4=>decide
 | 5=>decide
 | _ + 6=>exact ⟨by simp,by simp⟩
theorem fits_zero (n:Nat):fits (List.replicate n 0):=by
 intro j
 have:(List.replicate n (0:Int)).getD j 0=0:=by
  simp only [List.getD_eq_getElem?_getD,List.getElem?_replicate]
  split<;>rfl
 rw [this];decide
theorem hsl {n:Nat} {w w':World} (h:n≤w.heap.size) (hb:Below w.heap.size w w'):n≤w'.heap.size:=Nat.le_trans h hb.size
theorem bal (w:World) (o:Obj):Below w.heap.size w (w.alloc o):=(Below.refl _ _).alloc (Nat.le_refl _) _
theorem fits6 {x0 x1 x2 x3 x4 x5:Int} (h:(0≤x0∧x0 < 18446744073709551616)∧(0≤x1∧x1 < 18446744073709551616)∧(0≤x2∧x2 < 18446744073709551616)∧(0≤x3∧x3 < 18446744073709551616)∧(0≤x4∧x4 < 18446744073709551616)∧(0≤x5∧x5 < 18446744073709551616)):fits [x0,x1,x2,x3,x4,x5]:=by
 obtain ⟨h0,h1,h2,h3,h4,h5⟩:=h
 intro j
 match j with
 | 0=>exact h0
 | 1=>exact h1
 | 2=>exact h2
 | 3=>exact h3
 | 4=>exact h4
 | 5=>exact h5
 | _ + 6=>exact ⟨by simp,by simp⟩
theorem below_put6 {B:Nat} {a w:World} {b:Nat} {v0 v1 v2 v3 v4 v5:Value} (h:Below B a w) (hb:B≤b):Below B a ((((((w.setCell ⟨b,0,none⟩ v0).setCell ⟨b,1,none⟩ v1).setCell ⟨b,2,none⟩ v2).setCell ⟨b,3,none⟩ v3).setCell ⟨b,4,none⟩ v4).setCell ⟨b,5,none⟩ v5) :=
 (((((h.setCell hb _).setCell hb _).setCell hb _).setCell hb _).setCell hb _).setCell hb _
theorem cell_later {w w':World} {c j:Nat} {v:Value} (h:w.cell? ⟨c,j,none⟩=some v) (hb:Below w.heap.size w w'):w'.cell? ⟨c,j,none⟩=some v:=by
 rw [hb.cell (World.block_lt_of_cell? w _ h)];exact h
theorem below_step {a w w':World} (h:Below a.heap.size a w) (hb:Below w.heap.size w w'):Below a.heap.size a w':=h.trans (hb.mono h.size)
theorem cell_alloc {w:World} {c j:Nat} {v:Value} {o:Obj} (h:w.cell? ⟨c,j,none⟩=some v):(w.alloc o).cell? ⟨c,j,none⟩=some v:=by
 rw [World.cell?_alloc_lt _ _ _ (World.block_lt_of_cell? w _ h)];exact h
theorem below_alloc {a w:World} {o:Obj} (h:Below a.heap.size a w):Below a.heap.size a (w.alloc o):=h.alloc h.size o
theorem below_swap {B:Nat} {a w:World} {o o':Obj} (h:Below B a (w.alloc o)) (hc:B≤w.heap.size):Below B a (w.alloc o') :=
 ⟨h.os,h.tape,h.output,by have:=h.size;simpa using this,fun b hb=>by
  have:=h.block b hb
  rw [Below.heap_alloc _ _ _ (by omega)] at this ⊢
  exact this⟩
theorem Blk.swap {w:World} {b:Nat} {cs:List Value} {o o':Obj} (h:Blk (w.alloc o) b cs) (hc:b < w.heap.size):Blk (w.alloc o') b cs:=by
 obtain ⟨t,h⟩:=h
 exact ⟨t,by rw [Below.heap_alloc _ _ _ hc] at h ⊢;exact h⟩
/-- S at a world, under a head of its own -/
def Hd (S:World→Prop) (w:World):Prop:=S w
theorem Blk.row {w:World} {b c:Nat} {X:List Value} {cs:Array Value} (h:Blk w b X) (hc:b≠c):Blk (w.setRow c cs) b X:=by
 obtain ⟨t,h⟩:=h
 exact ⟨t,by rw [setRow_other _ _ _ _ hc];exact h⟩
theorem pv_append (b:Int):∀ A B:List Int,pv b (A++B)=pv b A + b ^ A.length * pv b B
 | [],B=>by simp [pv]
 | a :: A,B=>by
  rw [List.cons_append,pv,pv,pv_append b A B,List.length_cons,Int.pow_succ]
  grind
theorem getD_none (D:List Int) (j:Nat) (h:D.length≤j):D.getD j 0=0:=by simp [List.getD_eq_getElem?_getD,List.getElem?_eq_none h]
variable {H:Type} {enc:TypeId × Value→H} {P:Program} {w:World} {base:Nat} {spare:Nat→Bool} {held:Bool}
theorem wf_u64 {n:Int}:(Lit.int .u64 n).wf=true↔0≤n∧n < 18446744073709551616:=by
 have h1:IntKind.u64.min=0:=rfl
 have h2:IntKind.u64.max=18446744073709551615:=rfl
 simp [Lit.wf,h1,h2]
 omega
theorem fits_of (A:List Int) (h:∀ j,j < A.length→0≤A.getD j 0∧A.getD j 0 < 18446744073709551616):fits A:=by
 intro j
 by_cases hj:j < A.length
 ·exact h j hj
 ·have:A.getD j 0=0:=by simp [List.getD_eq_getElem?_getD,List.getElem?_eq_none (Nat.le_of_not_lt hj)]
  rw [this];decide
theorem open_arr {n:Nat} {t e:TypeId} {cs:Array Value} {d:DataW H} {p:List MemPlace} (hu:P.underlying t=some (.array n e)) (hc:P.cellsOf t=n) (hue:P.underlying e=some (.int .u64)) (hce:P.cellsOf e=1)
  (h:DataW.Trod enc P w base spare held t (.agg cs) d p) :
  ∃ A:List Int,A.length=n∧cs=(us A).toArray∧d=.agg (A.map fun x=>.lit (.int .u64 x))∧p=[]∧fits A:=by
 obtain ⟨fuel,hf⟩:=h
 obtain ⟨xs,m,_,hx,hl,hn,hi⟩:=DataW.trod_array hu hf
 obtain ⟨l⟩:=cs
 simp only [Value.cells] at hl hi
 rw [hc] at hl
 have step:∀ i,i < n→∃ x:Int,l[i]?=some (.int .u64 x)∧xs[i]?=some (.lit (.int .u64 x),[])∧(Lit.int .u64 x).wf=true:=by
  intro i hin
  have h1:=hi i hin
  rw [hce,Nat.mul_one] at h1
  have h2:(l.drop i).take 1=[l[i]'(by omega)]:=by
   rw [List.drop_eq_getElem_cons (by omega)];rfl
  rw [h2] at h1
  rw [List.getElem?_eq_getElem (show i < xs.length by omega)] at h1
  obtain ⟨x,e1,e2,e3⟩:=DataW.trod_int hue h1
  simp only [List.cons.injEq,and_true] at e1
  exact ⟨x,by rw [List.getElem?_eq_getElem (by omega),e1],by rw [List.getElem?_eq_getElem (by omega),e2],e3⟩
 have hlen:l.length=n:=hl
 refine ⟨l.map intOf,by simpa using hlen,?_,?_,?_,?_⟩
 ·congr 1
  apply List.ext_getElem?
  intro i
  by_cases hin:i < n
  ·obtain ⟨x,e1,_,_⟩:=step i hin
   simp [us,e1,intOf]
  ·rw [List.getElem?_eq_none (by omega),List.getElem?_eq_none (by simp;omega)]
 ·simp only [Prod.mk.injEq] at hx
  rw [hx.1]
  congr 1
  apply List.ext_getElem?
  intro i
  by_cases hin:i < n
  ·obtain ⟨x,e1,e2,_⟩:=step i hin
   simp [e1,e2,intOf]
  ·rw [List.getElem?_eq_none (by simp;omega),List.getElem?_eq_none (by simp;omega)]
 ·simp only [Prod.mk.injEq] at hx
  rw [hx.2,List.flatMap_eq_nil_iff]
  intro y hy
  obtain ⟨i,hi1,hi2⟩:=List.getElem_of_mem hy
  obtain ⟨x,_,e2,_⟩:=step i (by omega)
  rw [List.getElem?_eq_getElem hi1,hi2] at e2
  injection e2 with e2
  rw [e2]
 ·apply fits_of
  intro j hj
  simp at hj
  obtain ⟨x,e1,_,e3⟩:=step j (by omega)
  have:(l.map intOf).getD j 0=x:=by simp [List.getD_eq_getElem?_getD,e1,intOf]
  rw [this]
  exact wf_u64.1 e3
theorem shut_six {t e:TypeId} (hu:P.underlying t=some (.array 6 e)) (hc:P.cellsOf t=6) (hue:P.underlying e=some (.int .u64)) (hce:P.cellsOf e=1) (x0 x1 x2 x3 x4 x5:Int) (h:fits [x0,x1,x2,x3,x4,x5]) :
  DataW.Trod enc P w base spare held t (.agg #[.int .u64 x0,.int .u64 x1,.int .u64 x2,.int .u64 x3,.int .u64 x4,.int .u64 x5]) (.agg [.lit (.int .u64 x0),.lit (.int .u64 x1),.lit (.int .u64 x2),.lit (.int .u64 x3),.lit (.int .u64 x4),.lit (.int .u64 x5)]) []:=by
 have w0:(Lit.int .u64 x0).wf=true:=wf_u64.2 (h 0)
 have w1:(Lit.int .u64 x1).wf=true:=wf_u64.2 (h 1)
 have w2:(Lit.int .u64 x2).wf=true:=wf_u64.2 (h 2)
 have w3:(Lit.int .u64 x3).wf=true:=wf_u64.2 (h 3)
 have w4:(Lit.int .u64 x4).wf=true:=wf_u64.2 (h 4)
 have w5:(Lit.int .u64 x5).wf=true:=wf_u64.2 (h 5)
 exact ⟨2,by simp [DataW.trod,Value.cells,hu,hue,hc,hce,w0,w1,w2,w3,w4,w5,show List.range 6=[0,1,2,3,4,5] from rfl]⟩
theorem drop_head (A:List Int) (j:Nat) (h:j < A.length):A.drop j=A.getD j 0 :: A.drop (j + 1):=by
 rw [List.drop_eq_getElem_cons h]
 simp [List.getD_eq_getElem?_getD,h]
theorem run_eqItems_us {P:Program} (w:World) (d:Nat) {e:TypeId} (he:P.plainKey e=true) (hu:P.underlying e=some (.int .u64)) (hc:P.cellsOf e=1) (A B:List Int) (n:Nat) (lA:A.length=n) (lB:B.length=n) :
  ∀ m j,j + m=n→(Op.eqItems (d + 1) e (P.cellsOf e) (us A).toArray (us B).toArray (List.range' j m)).run P w=.ok (decide (A.drop j=B.drop j)) w
 | 0,j,h=>by
  have e1:A.drop j=[]:=List.drop_eq_nil_of_le (by omega)
  have e2:B.drop j=[]:=List.drop_eq_nil_of_le (by omega)
  simp [Op.eqItems,e1,e2]
 | m + 1,j,h=>by
  have ih:=run_eqItems_us w d he hu hc A B n lA lB m (j + 1) (by omega)
  have p1:=run_part_plain (P:=P) w he (xs:=(us A).toArray) (off:=j * P.cellsOf e) (v:=.int .u64 (A.getD j 0)) (by rw [hc,Nat.mul_one,List.getElem?_toArray];exact us_get A j (by omega))
  have p2:=run_part_plain (P:=P) w he (xs:=(us B).toArray) (off:=j * P.cellsOf e) (v:=.int .u64 (B.getD j 0)) (by rw [hc,Nat.mul_one,List.getElem?_toArray];exact us_get B j (by omega))
  have p3:=run_equalIn_int (P:=P) w d e .u64 .u64 (A.getD j 0) (B.getD j 0) hu
  rw [List.range'_succ]
  simp only [Op.eqItems,Sem.run_bind,p1,p2,p3,Result.andThen_ok]
  rw [drop_head A j (by omega),drop_head B j (by omega)]
  clear p1 p2 p3
  generalize A.getD j 0=a
  generalize B.getD j 0=b
  by_cases hq:a=b
  ·simp only [hq,beq_self_eq_true,Bool.not_true,Bool.false_eq_true,if_false,List.cons.injEq,true_and]
   exact ih
  ·have:(a == b)=false:=by simpa using hq
   simp [this,hq]
theorem sub64_run (x y c:Int) (hx:0≤x∧x < 18446744073709551616) (hy:0≤y∧y < 18446744073709551616) (hc0:0≤c) (hc:c≤1) (w:World) :
    (callFunc 163 #[.int .u64 x,.int .u64 y,.int .u64 c]).run Tryz.prog w =
      .ok (.value (.tuple #[.int .u64 ((x - y - c) % 18446744073709551616),.int .u64 (-((x - y - c) / 18446744073709551616))])) w:=by
  obtain ⟨x,rfl⟩:=Int.eq_ofNat_of_zero_le hx.1
  obtain ⟨y,rfl⟩:=Int.eq_ofNat_of_zero_le hy.1
  obtain ⟨c,rfl⟩:=Int.eq_ofNat_of_zero_le hc0
  rw [run_callFunc_extern Tryz.func163 (by kernel_rfl) (by kernel_rfl) (by kernel_rfl) (e:=sub64Entry) (by kernel_rfl),run_sub64 x y c (by omega)]
  have e1:(((x + 18446744073709551616 - y - c) % 18446744073709551616:Nat):Int)=((x:Int) - y - c) % 18446744073709551616:=by omega
  have e2:((if x < y + c then 1 else 0:Nat):Int)=-(((x:Int) - y - c) / 18446744073709551616):=by
    split<;>omega
  rw [e1,e2]
  rfl
/-- a round of the difference -/
theorem sub_step (A B S:List Int) (k:Nat) (n a b:Int) (lA:A.length=6) (lB:B.length=6) (lS:S.length=6) (hk:k < 6) (ha:A.getD k 0=a) (hb:B.getD k 0=b)
  (h:v64 (S.take k) - n * 18446744073709551616 ^ k=v64 (A.take k) - v64 (B.take k)) :
  v64 ((S.set k ((a - b - n) % 18446744073709551616)).take (k + 1)) - (-((a - b - n) / 18446744073709551616)) * 18446744073709551616 ^ (k + 1)=v64 (A.take (k + 1)) - v64 (B.take (k + 1)):=by
 have e:=Int.mul_ediv_add_emod (a - b - n) 18446744073709551616
 simp only [v64] at *
 rw [pv_take _ _ k (by simp;omega),pv_take _ A k (by omega),pv_take _ B k (by omega),take_set_same,getD_set_same _ _ _ (by omega),ha,hb,Int.pow_succ]
 generalize (a - b - n) / 18446744073709551616=q at *
 generalize (a - b - n) % 18446744073709551616=r at *
 generalize (18446744073709551616:Int) ^ k=p at *
 have e':a=18446744073709551616 * q + r + b + n:=by omega
 subst e'
 grind
theorem sub_any (A B:List Int) (w:World) (lA:A.length=6) (lB:B.length=6) (hx:fits A) (hy:fits B) :
  Calls Tryz.prog 152 #[.agg (us A).toArray,.agg (us B).toArray] w fun e w'=>∃ (S:List Int) (n:Int),e=.returned (.tuple #[.agg (us S).toArray,.int .u64 n])∧S.length=6∧fits S∧0≤n∧n≤1 ∧
   v64 S - n * 18446744073709551616 ^ 6=v64 A - v64 B∧Below w.heap.size w w':=by
 have b0:=(((Blk.new w (us A) 29 w.heap.size rfl).alloc (.cells (us B).toArray 29)).alloc (.cells (us [0,0,0,0,0,0]).toArray 29)).alloc (.cells (us [0,0,0,0,0,0]).toArray 29)
 have b1:=((Blk.new (w.alloc (.cells (us A).toArray 29)) (us B) 29 (w.heap.size + 1) (by simp)).alloc (.cells (us [0,0,0,0,0,0]).toArray 29)).alloc (.cells (us [0,0,0,0,0,0]).toArray 29)
 have b2:=(Blk.new ((w.alloc (.cells (us A).toArray 29)).alloc (.cells (us B).toArray 29)) (us [0,0,0,0,0,0]) 29 (w.heap.size + 1 + 1) (by simp)).alloc (.cells (us [0,0,0,0,0,0]).toArray 29)
 have b3:=Blk.new (((w.alloc (.cells (us A).toArray 29)).alloc (.cells (us B).toArray 29)).alloc (.cells (us [0,0,0,0,0,0]).toArray 29)) (us [0,0,0,0,0,0]) 29 (w.heap.size + 1 + 1 + 1) (by simp)
 have hbel:Below w.heap.size w ((((w.alloc (.cells (us A).toArray 29)).alloc (.cells (us B).toArray 29)).alloc (.cells (us [0,0,0,0,0,0]).toArray 29)).alloc (.cells (us [0,0,0,0,0,0]).toArray 29)):=((((Below.refl _ _).alloc (Nat.le_refl _) _).alloc (by simp) _).alloc (by simp;omega) _).alloc (by simp;omega) _
 go_enter Tryz.func152,Tryz.ntmps152
 go_wp2
 go_loopw [7,9] (fun o i wr=>∃ (k:Nat) (n:Int) (S:List Int),k≤6∧i=.int .i64 k∧o=.int .u64 n∧0≤n∧n≤1∧S.length=6∧fits S∧v64 (S.take k) - n * 18446744073709551616 ^ k=v64 (A.take k) - v64 (B.take k) ∧
   Blk wr w.heap.size (us A)∧Blk wr (w.heap.size + 1) (us B)∧Blk wr (w.heap.size + 1 + 1) (us [0,0,0,0,0,0])∧Blk wr (w.heap.size + 1 + 1 + 1) (us S)∧Below w.heap.size w wr)
  (fun _ i _=>6 - (intOf i).toNat)
 case atStart=>exact ⟨0,0,[0,0,0,0,0,0],by omega,rfl,rfl,by omega,by omega,rfl,fits_zero 6,by simp [pv],b0,b1,b2,b3,hbel⟩
 case round =>
  obtain ⟨k,n,S,hk,rfl,rfl,hn0,hn1,lS,fS,hv,hSA,hSB,hSZ,hSS,hbel⟩:=hrel
  clear b0 b1 b2 b3
  by_cases hlt:k < 6
  ·obtain ⟨a,hA⟩:∃ a,A.getD k 0=a:=⟨_,rfl⟩
   obtain ⟨b,hB⟩:∃ b,B.getD k 0=b:=⟨_,rfl⟩
   obtain ⟨s,hS⟩:∃ s,S.getD k 0=s:=⟨_,rfl⟩
   have ha:=hSA.cell k _ (us_get A k (by omega))
   have hb:=hSB.cell k _ (us_get B k (by omega))
   have hs:=hSS.cell k _ (us_get S k (by omega))
   rw [hA] at ha
   rw [hB] at hb
   rw [hS] at hs
   have hf:=hSS.frozen k
   have hax:0≤a∧a < 18446744073709551616:=hA ▸ hx k
   have hbx:0≤b∧b < 18446744073709551616:=hB ▸ hy k
   have hadd:=sub64_run a b n hax hbx hn0 hn1
   have st:Hid _:=sub_step A B S k n a b lA lB lS hlt hA hB hv
   have q0:0≤-((a - b - n) / 18446744073709551616):=by omega
   have q1:-((a - b - n) / 18446744073709551616)≤1:=by omega
   have r0:0≤(a - b - n) % 18446744073709551616:=by omega
   have r1:(a - b - n) % 18446744073709551616 < 18446744073709551616:=by omega
   clear hA hB hS hv
   have h1:(k:Int) < 6:=by omega
   have h2:(0:Int)≤(k:Int):=by omega
   go_wp2
   go_region_held3 (fun w'=>w'.cell? ⟨w.heap.size,k,none⟩=some (.int .u64 a)∧w'.cell? ⟨w.heap.size + 1,k,none⟩=some (.int .u64 b)) (first|exact ⟨ha,hb⟩|(refine ⟨?_,?_⟩<;>(rw [World.cell?_drew,World.cell?_setCell_far _ _ _ _ (by simp<;>omega)];assumption))) (fail)
   all_goals go_wp2
   all_goals go_roundw
   case rel=>exact ⟨k + 1,_,S.set k ((a - b - n) % 18446744073709551616),by omega,by go_num,rfl,q0,q1,by simpa using lS,fits_set fS k _ r0 r1,st.out,(hSA.other _ _ (by simp<;>omega)).drew,(hSB.other _ _ (by simp<;>omega)).drew,(hSZ.other _ _ (by simp)).drew,(hSS.setu k _).drew,(hbel.setCell (by simp<;>omega) _).drew⟩
   case measure=>simp [intOf];omega
  ·have h6:(6:Int)≤(k:Int):=by omega
   obtain ⟨s0,s1,s2,s3,s4,s5,rfl⟩:=six lS
   have c0:=hSS.cell 0 _ rfl
   have z0:=hSZ.cell 0 _ rfl
   have f0:=hSZ.frozen 0
   have c1:=hSS.cell 1 _ rfl
   have z1:=hSZ.cell 1 _ rfl
   have f1:=hSZ.frozen 1
   have c2:=hSS.cell 2 _ rfl
   have z2:=hSZ.cell 2 _ rfl
   have f2:=hSZ.frozen 2
   have c3:=hSS.cell 3 _ rfl
   have z3:=hSZ.cell 3 _ rfl
   have f3:=hSZ.frozen 3
   have c4:=hSS.cell 4 _ rfl
   have z4:=hSZ.cell 4 _ rfl
   have f4:=hSZ.frozen 4
   have c5:=hSS.cell 5 _ rfl
   have z5:=hSZ.cell 5 _ rfl
   have f5:=hSZ.frozen 5
   go_wp2
   have hk6:k=6:=by omega
   subst hk6
   rw [List.take_of_length_le (by omega),List.take_of_length_le (by omega),List.take_of_length_le (by omega)] at hv
   exact bodyPost_ret (v:=.tuple #[.agg #[.int .u64 s0,.int .u64 s1,.int .u64 s2,.int .u64 s3,.int .u64 s4,.int .u64 s5],.int .u64 n]) (by simp [results,Tryz.results152,go_sem,z0,z1,z2,z3,z4,z5]) rfl
    ⟨[s0,s1,s2,s3,s4,s5],n,rfl,rfl,fS,hn0,hn1,hv,(((((hbel.setCell (by simp;omega) _).setCell (by simp;omega) _).setCell (by simp;omega) _).setCell (by simp;omega) _).setCell (by simp;omega) _).setCell (by simp;omega) _⟩
theorem sub6 {x0 x1 x2 x3 x4 x5 y0 y1 y2 y3 y4 y5:Int} {w:World} (hx:fits [x0,x1,x2,x3,x4,x5]) (hy:fits [y0,y1,y2,y3,y4,y5]) :
  Calls Tryz.prog 152 #[.agg #[.int .u64 x0,.int .u64 x1,.int .u64 x2,.int .u64 x3,.int .u64 x4,.int .u64 x5],.agg #[.int .u64 y0,.int .u64 y1,.int .u64 y2,.int .u64 y3,.int .u64 y4,.int .u64 y5]] w fun e w'=>∃ s0 s1 s2 s3 s4 s5 n:Int,e=.returned (.tuple #[.agg #[.int .u64 s0,.int .u64 s1,.int .u64 s2,.int .u64 s3,.int .u64 s4,.int .u64 s5],.int .u64 n])∧fits [s0,s1,s2,s3,s4,s5]∧0≤n∧n≤1 ∧
   v64 [s0,s1,s2,s3,s4,s5] - n * 18446744073709551616 ^ 6=v64 [x0,x1,x2,x3,x4,x5] - v64 [y0,y1,y2,y3,y4,y5]∧Below w.heap.size w w':=by
 refine (sub_any [x0,x1,x2,x3,x4,x5] [y0,y1,y2,y3,y4,y5] w rfl rfl hx hy).mono ?_
 rintro e w' ⟨S,n,rfl,lS,fS,h0,h1,hv,hb⟩
 obtain ⟨s0,s1,s2,s3,s4,s5,rfl⟩:=six lS
 exact ⟨s0,s1,s2,s3,s4,s5,n,rfl,fS,h0,h1,hv,hb⟩
def lessN (A B:List Int):Int:=if v64 A < v64 B then 1 else 0
theorem less_num (A B S:List Int) (n:Int) (lS:S.length=6) (fS:fits S) (n0:0≤n) (n1:n≤1)
  (h:v64 S - n * 18446744073709551616 ^ 6=v64 A - v64 B):n=lessN A B:=by
 have bS:=v64_bound S fS
 rw [lS] at bS
 unfold lessN
 generalize (18446744073709551616:Int) ^ 6=R at *
 have hn:n=0∨n=1:=by omega
 rcases hn with rfl|rfl
 ·rw [if_neg (by omega)]
 ·rw [if_pos (by omega)]
theorem less6 {x0 x1 x2 x3 x4 x5 y0 y1 y2 y3 y4 y5:Int} {w:World} (hx:fits [x0,x1,x2,x3,x4,x5]) (hy:fits [y0,y1,y2,y3,y4,y5]) :
  Calls Tryz.prog 133 #[.agg #[.int .u64 x0,.int .u64 x1,.int .u64 x2,.int .u64 x3,.int .u64 x4,.int .u64 x5],.agg #[.int .u64 y0,.int .u64 y1,.int .u64 y2,.int .u64 y3,.int .u64 y4,.int .u64 y5]] w fun e w'=>e=.returned (.int .u64 (lessN [x0,x1,x2,x3,x4,x5] [y0,y1,y2,y3,y4,y5]))∧Below w.heap.size w w':=by
 have bel:Below w.heap.size w ((w.alloc (.cells #[.int .u64 x0,.int .u64 x1,.int .u64 x2,.int .u64 x3,.int .u64 x4,.int .u64 x5] 29)).alloc (.cells #[.int .u64 y0,.int .u64 y1,.int .u64 y2,.int .u64 y3,.int .u64 y4,.int .u64 y5] 29)):=((Below.refl _ _).alloc (Nat.le_refl _) _).alloc (by simp) _
 go_enter Tryz.func133,Tryz.ntmps133
 go_wp2_with fail
 refine (sub6 hx hy).mono ?_
 rintro e w1 ⟨s0,s1,s2,s3,s4,s5,n,rfl,fS,n0,n1,hv,hb⟩
 have hn:Hid _:=less_num [x0,x1,x2,x3,x4,x5] [y0,y1,y2,y3,y4,y5] [s0,s1,s2,s3,s4,s5] n rfl fS n0 n1 hv
 have bel1:=bel.trans (hb.mono (by simp;omega))
 clear bel hb hv
 have hz:=bel1.size
 go_wp2_with fail
 go_ret
 exact ⟨ret_int hn.out,bel1.alloc hz _⟩
theorem or_zero (n m:Int) (h0:0≤n) (h1:n < 18446744073709551616) (h2:0≤m) (h3:m < 18446744073709551616) :
  0≤bits .or .u64 n m∧bits .or .u64 n m < 18446744073709551616∧(bits .or .u64 n m=0↔n=0∧m=0):=by
 rw [u64_or n m h0 h1 h2 h3]
 have hn:n.toNat < 2 ^ 64:=by omega
 have hm:m.toNat < 2 ^ 64:=by omega
 have hlt:=Nat.or_lt_two_pow hn hm
 refine ⟨by omega,by omega,?_⟩
 constructor
 ·intro h
  have h':n.toNat ||| m.toNat=0:=by omega
  rw [Nat.or_eq_zero_iff] at h'
  omega
 ·rintro ⟨rfl,rfl⟩
  rfl
theorem xor_zero (n m:Int) (h0:0≤n) (h1:n < 18446744073709551616) (h2:0≤m) (h3:m < 18446744073709551616) :
  0≤bits .xor .u64 n m∧bits .xor .u64 n m < 18446744073709551616∧(bits .xor .u64 n m=0↔n=m):=by
 rw [u64_xor n m h0 h1 h2 h3]
 have hn:n.toNat < 2 ^ 64:=by omega
 have hm:m.toNat < 2 ^ 64:=by omega
 have hlt:=Nat.xor_lt_two_pow hn hm
 refine ⟨by omega,by omega,?_⟩
 constructor
 ·intro h
  have h':n.toNat ^^^ m.toNat=0:=by omega
  have h'':n.toNat=m.toNat:=by
   have:=congrArg (· ^^^ m.toNat) h'
   simpa [Nat.xor_assoc] using this
  omega
 ·rintro rfl
  simp
/-- the loop's step on what is the same so far -/
theorem same_step (n a b:Int) (h0:0≤n) (h1:n < 18446744073709551616) (ha:0≤a∧a < 18446744073709551616) (hb:0≤b∧b < 18446744073709551616) (A B:List Int) (k:Nat)
  (hiff:n=0↔∀ j,j < k→A.getD j 0=B.getD j 0) (hA:A.getD k 0=a) (hB:B.getD k 0=b) :
  0≤bits .or .u64 n (bits .xor .u64 a b)∧bits .or .u64 n (bits .xor .u64 a b) < 18446744073709551616∧(bits .or .u64 n (bits .xor .u64 a b)=0↔∀ j,j < k + 1→A.getD j 0=B.getD j 0):=by
 have hx:=xor_zero a b ha.1 ha.2 hb.1 hb.2
 have ho:=or_zero n (bits .xor .u64 a b) h0 h1 hx.1 hx.2.1
 refine ⟨ho.1,ho.2.1,?_⟩
 rw [ho.2.2,hx.2.2,hiff]
 constructor
 ·rintro ⟨h,h'⟩ j hj
  by_cases hjk:j=k
  ·subst hjk;rw [hA,hB,h']
  ·exact h j (by omega)
 ·intro h
  exact ⟨fun j hj=>h j (by omega),by rw [← hA,← hB];exact h k (by omega)⟩
/-- what the last row makes of it -/
theorem same_end (n:Int) (h0:0≤n) (h1:n < 18446744073709551616) :
  bits .xor .u64 1 (bits .or .u64 n (IntKind.u64.wrap (-n)) / 9223372036854775808)=if n=0 then 1 else 0:=by
 by_cases hz:n=0
 ·subst hz;rfl
 ·rw [if_neg hz]
  have e:IntKind.u64.wrap (-n)=18446744073709551616 - n:=by rw [IntKind.wrap_u64];omega
  rw [e,u64_or n _ h0 h1 (by omega) (by omega)]
  have hl:=Nat.left_le_or (n:=n.toNat) (m:=(18446744073709551616 - n).toNat)
  have hr:=Nat.right_le_or (n:=n.toNat) (m:=(18446744073709551616 - n).toNat)
  have hlt:=Nat.or_lt_two_pow (n:=64) (show n.toNat < 2 ^ 64 by omega) (show (18446744073709551616 - n).toNat < 2 ^ 64 by omega)
  generalize n.toNat ||| (18446744073709551616 - n).toNat=m at *
  have:(m:Int) / 9223372036854775808=1:=by omega
  rw [this]
  rfl
def sameN (A B:List Int):Int:=if A=B then 1 else 0
theorem same_all (A B:List Int) (lA:A.length=6) (lB:B.length=6) (n:Int) (h0:0≤n) (h1:n < 18446744073709551616) (k:Nat) (hk:k=6) (hiff:n=0↔∀ j,j < k→A.getD j 0=B.getD j 0) :
  bits .xor .u64 1 (bits .or .u64 n (IntKind.u64.wrap (-n)) / 9223372036854775808)=sameN A B:=by
 rw [same_end n h0 h1,sameN]
 have:n=0↔A=B:=by
  rw [hiff]
  constructor
  ·intro h
   apply List.ext_getElem (by omega)
   intro i h1 h2
   have:=h i (by omega)
   simpa [List.getD_eq_getElem?_getD,h1,h2] using this
  ·rintro rfl _ _;rfl
 simp only [this]
theorem same_any (A B:List Int) (w:World) (lA:A.length=6) (lB:B.length=6) (hx:fits A) (hy:fits B) :
  Calls Tryz.prog 132 #[.agg (us A).toArray,.agg (us B).toArray] w fun e w'=>e=.returned (.int .u64 (sameN A B))∧Below w.heap.size w w':=by
 have b0:=(Blk.new w (us A) 29 w.heap.size rfl).alloc (.cells (us B).toArray 29)
 have b1:=Blk.new (w.alloc (.cells (us A).toArray 29)) (us B) 29 (w.heap.size + 1) (by simp)
 have hbel:Below w.heap.size w ((w.alloc (.cells (us A).toArray 29)).alloc (.cells (us B).toArray 29)):=((Below.refl _ _).alloc (Nat.le_refl _) _).alloc (by simp) _
 go_enter Tryz.func132,Tryz.ntmps132
 go_wp2
 go_loopw [5,7] (fun o i wr=>∃ (k:Nat) (n:Int),k≤6∧i=.int .i64 k∧o=.int .u64 n∧0≤n∧n < 18446744073709551616∧(n=0↔∀ j,j < k→A.getD j 0=B.getD j 0)∧Blk wr w.heap.size (us A)∧Blk wr (w.heap.size + 1) (us B)∧Below w.heap.size w wr)
  (fun _ i _=>6 - (intOf i).toNat)
 case atStart=>exact ⟨0,0,by omega,rfl,rfl,by omega,by omega,by simp,b0,b1,hbel⟩
 case round =>
  obtain ⟨k,n,hk,rfl,rfl,hn0,hn1,hiff,hSA,hSB,hbel⟩:=hrel
  clear b0 b1
  by_cases hlt:k < 6
  ·obtain ⟨a,hA⟩:∃ a,A.getD k 0=a:=⟨_,rfl⟩
   obtain ⟨b,hB⟩:∃ b,B.getD k 0=b:=⟨_,rfl⟩
   have ha:=hSA.cell k _ (us_get A k (by omega))
   have hb:=hSB.cell k _ (us_get B k (by omega))
   rw [hA] at ha
   rw [hB] at hb
   have hs:Hid _:=same_step n a b hn0 hn1 (hA ▸ hx k) (hB ▸ hy k) A B k hiff hA hB
   clear hiff hA hB
   have h1:(k:Int) < 6:=by omega
   go_wp2
   go_quiet (fail)
   go_wp2
   go_roundw
   case rel=>exact ⟨k + 1,_,by omega,by go_num,rfl,hs.out.1,hs.out.2.1,hs.out.2.2,hSA.drewN _,hSB.drewN _,below_dN hbel _⟩
   case measure=>simp [intOf];omega
  ·have h6:(6:Int)≤(k:Int):=by omega
   go_wp2
   go_ret
   exact ⟨ret_int (same_all A B lA lB n hn0 hn1 k (by omega) hiff),hbel⟩
def sameI (A B:Int):Int:=if A=B then 1 else 0
theorem same_is {x0 x1 x2 x3 x4 x5 y0 y1 y2 y3 y4 y5 A B:Int} {w:World} (fX:fits [x0,x1,x2,x3,x4,x5]) (fY:fits [y0,y1,y2,y3,y4,y5]) (hx:v64 [x0,x1,x2,x3,x4,x5]=A) (hy:v64 [y0,y1,y2,y3,y4,y5]=B) :
  Calls Tryz.prog 132 #[.agg #[.int .u64 x0,.int .u64 x1,.int .u64 x2,.int .u64 x3,.int .u64 x4,.int .u64 x5],.agg #[.int .u64 y0,.int .u64 y1,.int .u64 y2,.int .u64 y3,.int .u64 y4,.int .u64 y5]] w fun e w'=>e=.returned (.int .u64 (sameI A B))∧Below w.heap.size w w':=by
 refine (same_any [x0,x1,x2,x3,x4,x5] [y0,y1,y2,y3,y4,y5] w rfl rfl fX fY).mono ?_
 rintro e w' ⟨rfl,hb⟩
 refine ⟨ret_int ?_,hb⟩
 subst hx hy
 unfold sameN sameI
 by_cases h:[x0,x1,x2,x3,x4,x5]=[y0,y1,y2,y3,y4,y5]
 ·rw [if_pos h,if_pos (by rw [h])]
 ·rw [if_neg h,if_neg (fun k=>h (v64_inj _ _ rfl fX fY k))]
end Go.Proofs.YtohcdbifhnfcbaaGreatDoor
