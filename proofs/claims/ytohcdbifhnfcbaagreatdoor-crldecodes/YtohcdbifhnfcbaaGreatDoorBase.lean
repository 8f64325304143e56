import Derived.WalkKit
import Derived.WalkSpells
import Derived.WalkLawsBesides
import Derived.Deep.MidRow
import Derived.Deep.RegionHeld
import Derived.Laws.CopyOwn
import Derived.Deep.AppendLies
import Derived.ProofKit
import Derived.OpenShut
import Derived.ChangeKeysEq
import Derived.Deep.WholeRow
import Derived.Deep.RegionHeld3
import Derived.Deep.DeepCutAuto
import Derived.Deep.DeepFit
namespace Go.Proofs.YtohcdbifhnfcbaaGreatDoor
open Go.RowKit
open Go.ChangeShapes Go.WideShapes Go.ChangeAt Go.RowKit
theorem tkA {P:Program} {md:Region.Mode} {ops:Array Oper} {Q:Exit→Act→World→Prop} {S:World→Prop} {fuel:Nat} {listed:Array Bool} {a a':Act} {w:World} (i:Nat) {oi:Oper} {v:Value} (h:wpAnyH P md ops Q S fuel (listed.setIfInBounds i true) a' w) (hi:ops[i]?=some oi:=by rfl) (hs:Region.noSelect ops=true:=by kernel_rfl) (hf:Region.free md ops listed i=true:=by kernel_rfl) (hr:(Region.ready md ops listed).contains i=true:=by kernel_rfl) (hQ:∀ c a w,Q (.panic c) (a.put oi.dst v) w→Q (.panic c) a w:=by exact fun _ _ _ h=>h) (hS:S w:=by assumption) (hy:YieldsIf P ops S oi v a:=by refine Or.inl ⟨by rfl,?_⟩;intro w hSw;go_simp;with_reducible rfl) (ha:a.put oi.dst v=a':=by ((try simp only[Act.put,List.getElem_toArray,List.getElem_cons_zero,List.getElem_cons_succ,List.setIfInBounds_toArray,List.set_cons_zero,List.set_cons_succ]);exact rfl)):wpAnyH P md ops Q S (fuel+1) listed a w:=wpAnyH_take hi hs hf hr hQ hy hS (ha ▸ h)
theorem skA {P:Program} {md:Region.Mode} {ops:Array Oper} {Q:Exit→Act→World→Prop} {S:World→Prop} {fuel:Nat} {listed:Array Bool} {a a':Act} {w:World} (i:Nat) {oi:Oper} (h:wpAnyH P md ops Q S fuel (listed.setIfInBounds i true) a' w) (hi:ops[i]?=some oi:=by rfl) (hs:Region.noSelect ops=true:=by kernel_rfl) (hf:Region.free md ops listed i=true:=by kernel_rfl) (hr:(Region.ready md ops listed).contains i=true:=by kernel_rfl) (hQ:∀ c a w,Q (.panic c) (a.put oi.dst undef) w→Q (.panic c) a w:=by exact fun _ _ _ h=>h) (hS:S w:=by assumption) (hy:YieldsIf P ops S oi undef a:=by exact Or.inr ⟨by kernel_rfl,rfl⟩) (ha:a.put oi.dst undef=a':=by ((try simp only[Act.put,List.getElem_toArray,List.getElem_cons_zero,List.getElem_cons_succ,List.setIfInBounds_toArray,List.set_cons_zero,List.set_cons_succ]);exact rfl)):wpAnyH P md ops Q S (fuel+1) listed a w:=wpAnyH_take hi hs hf hr hQ hy hS (ha ▸ h)
def Blk (w:World) (b:Nat) (cs:List Value):Prop:=∃ t,w.heap[b]?=some (.cells cs.toArray t)
theorem Blk.lt {w:World} {b:Nat} {cs:List Value} (h:Blk w b cs):b<w.heap.size:=by
 obtain⟨t,h⟩:=h;exact (Array.getElem?_eq_some_iff.1 h).1
theorem Blk.cell {w:World} {b:Nat} {cs:List Value} (h:Blk w b cs) (j:Nat) (v:Value) (hv:cs[j]?=some v):w.cell? ⟨b,j,none⟩=some v:=by
 obtain⟨t,h⟩:=h;simp[World.cell?,h,hv]
theorem Blk.frozen {w:World} {b:Nat} {cs:List Value} (h:Blk w b cs) (j:Nat):w.frozen? ⟨b,j,none⟩=false:=by
 obtain⟨t,h⟩:=h;simp[World.frozen?,h]
theorem Blk.new (w:World) (cs:List Value) (t:TypeId) (b:Nat) (hb:b=w.heap.size):Blk (w.alloc (.cells cs.toArray t)) b cs:=by
 subst hb;exact ⟨t,by show (w.heap.push _)[w.heap.size]?=_;simp⟩
theorem Blk.alloc {w:World} {b:Nat} {cs:List Value} (h:Blk w b cs) (o:Obj):Blk (w.alloc o) b cs:=by
 have hl:=h.lt;obtain ⟨t,h⟩:=h;exact ⟨t,by rw[Below.heap_alloc _ _ _ hl];exact h⟩
theorem Blk.drew {w:World} {b:Nat} {cs:List Value} (h:Blk w b cs):Blk w.drew b cs:=h
theorem Blk.drewN {w:World} {b:Nat} {cs:List Value} (h:Blk w b cs) (n:Nat):Blk (w.drewN n) b cs:=h
theorem Blk.other {w:World} {b:Nat} {cs:List Value} (h:Blk w b cs) (a:Addr) (v:Value) (hne:b≠a.block):Blk (w.setCell a v) b cs:=by
 obtain⟨t,h⟩:=h;exact ⟨t,by rw[Below.heap_setCell _ _ _ _ hne];exact h⟩
theorem Blk.set {w:World} {b:Nat} {cs:List Value} (h:Blk w b cs) (k:Nat) (v:Value):Blk (w.setCell ⟨b,k,none⟩ v) b (cs.set k v):=by
 obtain⟨t,h⟩:=h;refine ⟨t,?_⟩;simp[World.setCell,Array.getElem?_modify,h]
theorem Blk.below {B:Nat} {w w':World} {b:Nat} {cs:List Value} (h:Blk w b cs) (hb:Below B w w') (hl:b<B):Blk w' b cs:=by
 obtain⟨t,h⟩:=h;exact ⟨t,by rw[hb.block b hl];exact h⟩
theorem Blk.later {w w':World} {b:Nat} {cs:List Value} (h:Blk w b cs) (hb:Below w.heap.size w w'):Blk w' b cs:=h.below hb h.lt
theorem ZaM {B:Nat} {a w:World} (h:Below B a w) (n:Nat):Below B a (w.drewN n):=⟨h.os,h.tape,h.output,h.size,h.block⟩
theorem Zdx {k:IntKind} {a b:Int} (h:a=b):Ending.returned (.int k a)=.returned (.int k b):=by rw[h]
abbrev us (A:List Int):List Value:=A.map (Value.int .u64)
theorem Zcl (A:List Int) (j:Nat) (h:j<A.length):(us A)[j]?=some (.int .u64 (A.getD j 0)):=by
 simp[us,h]
theorem us_set (A:List Int) (k:Nat) (x:Int):(us A).set k (.int .u64 x)=us (A.set k x):=by simp[us,List.map_set]
theorem Blk.setu {w:World} {b:Nat} {S:List Int} (h:Blk w b (us S)) (k:Nat) (s:Int):Blk (w.setCell ⟨b,k,none⟩ (.int .u64 s)) b (us (S.set k s)):=by
 rw[← us_set];exact h.set k _
theorem Blk.cells6 {w:World} {b:Nat} {x0 x1 x2 x3 x4 x5:Int} (h:Blk w b (us [x0,x1,x2,x3,x4,x5])):w.cell? ⟨b,0,none⟩=some (.int .u64 x0)∧w.cell? ⟨b,1,none⟩=some (.int .u64 x1)∧w.cell? ⟨b,2,none⟩=some (.int .u64 x2)∧w.cell? ⟨b,3,none⟩=some (.int .u64 x3)∧w.cell? ⟨b,4,none⟩=some (.int .u64 x4)∧w.cell? ⟨b,5,none⟩=some (.int .u64 x5) :=
 ⟨h.cell 0 _ rfl,h.cell 1 _ rfl,h.cell 2 _ rfl,h.cell 3 _ rfl,h.cell 4 _ rfl,h.cell 5 _ rfl⟩
def Zdg (A:List Int):Prop:=∀ j,0≤A.getD j 0∧A.getD j 0<18446744073709551616
def pv (b:Int):List Int→Int
 | []=>0
 | d::ds=>d+b*pv b ds
abbrev v64:List Int→Int:=pv 18446744073709551616
theorem ZcL (b:Int):∀ (A:List Int) (k:Nat),k<A.length→pv b (A.take (k+1))=pv b (A.take k)+b ^ k*A.getD k 0
 | [],k,h=>absurd h (by simp)
 | a::A,0,_=>by simp[pv]
 | a::A,k+1,h=>by
  have ih:=ZcL b A k (by simpa using h);rw[List.take_succ_cons,List.take_succ_cons,pv,pv,ih,List.getD_cons_succ,Int.pow_succ]
  grind
theorem Zej {a:Int} {A:List Int} (h:Zdg (a::A)):(0≤a∧a<18446744073709551616)∧Zdg A:=⟨h 0,fun j=>h (j+1)⟩
theorem Zev:∀ (A:List Int),Zdg A→0≤v64 A∧v64 A<18446744073709551616 ^ A.length
 | [],_=>by simp[v64,pv]
 | a::A,h=>by
  obtain⟨ha,hA⟩:=Zej h;have ih:=Zev A hA;simp only[v64,pv,List.length_cons,Int.pow_succ] at *;generalize (18446744073709551616:Int) ^ A.length=p at *;generalize pv 18446744073709551616 A=v at *;omega
theorem Zhl:∀ (A B:List Int),A.length=B.length→Zdg A→Zdg B→v64 A=v64 B→A=B
 | [],[],_,_,_,_=>rfl
 | [],b::B,h,_,_,_=>by simp at h
 | a::A,[],h,_,_,_=>by simp at h
 | a::A,b::B,h,hA,hB,hv=>by
  obtain⟨ha,hA'⟩:=Zej hA;obtain ⟨hb,hB'⟩:=Zej hB;simp only[v64,pv] at hv;have h1:a=b:=by omega
  have h2:v64 A=v64 B:=by show pv _ A=pv _ B;omega
  rw[h1,Zhl A B (by simpa using h) hA' hB' h2]
theorem Zhi (S:List Int) (k:Nat) (s:Int):(S.set k s).take k=S.take k:=by
 rw[List.take_set,List.set_eq_of_length_le (by simp;omega)]
theorem Zbr (S:List Int) (k:Nat) (s:Int) (h:k<S.length):(S.set k s).getD k 0=s:=by
 simp[List.getD_eq_getElem?_getD,h]
theorem Zjm {S:List Int} (h:Zdg S) (k:Nat) (s:Int) (h0:0≤s) (h1:s<18446744073709551616):Zdg (S.set k s):=by
 intro j
 by_cases hj:k=j
 ·subst hj
  by_cases hl:k<S.length
  ·rw[Zbr S k s hl];exact ⟨h0,h1⟩
  ·rw[List.set_eq_of_length_le (by omega)];exact h k
 ·have:(S.set k s).getD j 0=S.getD j 0:=by simp[List.getD_eq_getElem?_getD,hj]
  rw[this];exact h j
theorem six {A:List Int} (h:A.length=6):∃ x0 x1 x2 x3 x4 x5,A=[x0,x1,x2,x3,x4,x5]:=by
 match A,h with
 | [x0,x1,x2,x3,x4,x5],_=>exact ⟨x0,x1,x2,x3,x4,x5,rfl⟩
theorem fits_one:Zdg [1,0,0,0,0,0]:=by
 intro j
 match j with
 | 0=>decide
 | 1=>decide
 | 2=>decide
 | 3=>decide
 | 4=>decide
 | 5=>decide
 | _+6=>exact ⟨by simp,by simp⟩
theorem Zov (n j:Nat):(List.replicate n (0:Int)).getD j 0=0:=by
 simp only[List.getD_eq_getElem?_getD,List.getElem?_replicate]
 split<;>rfl
theorem Zdp (n:Nat):Zdg (List.replicate n 0):=by
 intro j;have:(List.replicate n (0:Int)).getD j 0=0:=by
  simp only[List.getD_eq_getElem?_getD,List.getElem?_replicate]
  split<;>rfl
 rw[this];decide
theorem hsl {n:Nat} {w w':World} (h:n≤w.heap.size) (hb:Below w.heap.size w w'):n≤w'.heap.size:=Nat.le_trans h hb.size
theorem bal (w:World) (o:Obj):Below w.heap.size w (w.alloc o):=(Below.refl _ _).alloc (Nat.le_refl _) _
theorem fits6 {x0 x1 x2 x3 x4 x5:Int} (h:(0≤x0∧x0<18446744073709551616)∧(0≤x1∧x1<18446744073709551616)∧(0≤x2∧x2<18446744073709551616)∧(0≤x3∧x3<18446744073709551616)∧(0≤x4∧x4<18446744073709551616)∧(0≤x5∧x5<18446744073709551616)):Zdg [x0,x1,x2,x3,x4,x5]:=by
 obtain⟨h0,h1,h2,h3,h4,h5⟩:=h;intro j
 match j with
 | 0=>exact h0
 | 1=>exact h1
 | 2=>exact h2
 | 3=>exact h3
 | 4=>exact h4
 | 5=>exact h5
 | _+6=>exact ⟨by simp,by simp⟩
theorem ZeB {B:Nat} {a w:World} {b:Nat} {v0 v1 v2 v3 v4 v5:Value} (h:Below B a w) (hb:B≤b):Below B a ((((((w.setCell ⟨b,0,none⟩ v0).setCell ⟨b,1,none⟩ v1).setCell ⟨b,2,none⟩ v2).setCell ⟨b,3,none⟩ v3).setCell ⟨b,4,none⟩ v4).setCell ⟨b,5,none⟩ v5) :=
 (((((h.setCell hb _).setCell hb _).setCell hb _).setCell hb _).setCell hb _).setCell hb _
theorem Zan {w w':World} {c j:Nat} {v:Value} (h:w.cell? ⟨c,j,none⟩=some v) (hb:Below w.heap.size w w'):w'.cell? ⟨c,j,none⟩=some v:=by
 rw[hb.cell (World.block_lt_of_cell? w _ h)];exact h
theorem Zaa {a w w':World} (h:Below a.heap.size a w) (hb:Below w.heap.size w w'):Below a.heap.size a w':=h.trans (hb.mono h.size)
theorem ZdD {w:World} {c j:Nat} {v:Value} {o:Obj} (h:w.cell? ⟨c,j,none⟩=some v):(w.alloc o).cell? ⟨c,j,none⟩=some v:=by
 rw[World.cell?_alloc_lt _ _ _ (World.block_lt_of_cell? w _ h)];exact h
theorem Zah {a w:World} {o:Obj} (h:Below a.heap.size a w):Below a.heap.size a (w.alloc o):=h.alloc h.size o
theorem Zj5 {B:Nat} {a w:World} {o o':Obj} (h:Below B a (w.alloc o)) (hc:B≤w.heap.size):Below B a (w.alloc o') :=
 ⟨h.os,h.tape,h.output,by have:=h.size;simpa using this,fun b hb=>by
  have:=h.block b hb;rw[Below.heap_alloc _ _ _ (by omega)] at this ⊢;exact this⟩
theorem Blk.swap {w:World} {b:Nat} {cs:List Value} {o o':Obj} (h:Blk (w.alloc o) b cs) (hc:b<w.heap.size):Blk (w.alloc o') b cs:=by
 obtain⟨t,h⟩:=h;exact ⟨t,by rw[Below.heap_alloc _ _ _ hc] at h ⊢;exact h⟩
def Hd (S:World→Prop) (w:World):Prop:=S w
theorem Blk.row {w:World} {b c:Nat} {X:List Value} {cs:Array Value} (h:Blk w b X) (hc:b≠c):Blk (w.setRow c cs) b X:=by
 obtain⟨t,h⟩:=h;exact ⟨t,by rw[setRow_other _ _ _ _ hc];exact h⟩
def Sl (w:World) (v:Value) (D:List Int):Prop :=
 (v=.slice none 0 0∧D=[])∨∃ b cap,v=.slice (some ⟨b,0,none⟩) D.length cap∧D.length≤cap∧cap≤maxLen∧b<w.heap.size∧∀ j,j<D.length→w.cell? ⟨b,j,none⟩=some (.int .u64 (D.getD j 0))
theorem Sl.below {B:Nat} {w w':World} {v:Value} {D:List Int} (h:Sl w v D) (hb:Below B w w') (hB:w.heap.size≤B):Sl w' v D:=by
 rcases h with h|⟨b,cap,h1,h2,h3,h4,h5⟩
 ·exact .inl h
 ·exact .inr ⟨b,cap,h1,h2,h3,Nat.lt_of_lt_of_le h4 hb.size,fun j hj=>(hb.cell (show b<B by omega)).trans (h5 j hj)⟩
theorem Sl.later {w w':World} {v:Value} {D:List Int} (h:Sl w v D) (hb:Below w.heap.size w w'):Sl w' v D:=h.below hb (Nat.le_refl _)
theorem Sl.of_own {w:World} {base:Nat} {e:TypeId} {v:Value} {n:Nat} {D:List Int} (h:w.ownsRow base e 1 v n (us D)):Sl w v D:=by
 obtain⟨hl,h⟩:=h;have hn:D.length=n:=by simpa using hl
 rcases h with ⟨h1,h2⟩|⟨g,cap,cur,h1,h2,h3,h4,h5,h6,h7⟩
 ·exact .inl ⟨h1,List.eq_nil_of_length_eq_zero (by omega)⟩
 ·refine .inr ⟨g,cap,by rw[hn];exact h1,by omega,h5,(Array.getElem?_eq_some_iff.1 h3).1,fun j hj=>?_⟩
  have e1:(cur.toList.take (n*1))[j]?=some (.int .u64 (D.getD j 0)):=by rw[h7];exact Zcl D j hj
  rw[List.getElem?_take,if_pos (by omega)] at e1;simp only[World.cell?,h3,Option.isSome_none,Bool.false_eq_true,if_false]
  simpa using e1
theorem Sl.form {w:World} {v:Value} {D:List Int} (h:Sl w v D):∃ ao cap,v=.slice ao D.length cap∧cap≤maxLen∧D.length≤cap∧(0<D.length→∃ b,ao=some ⟨b,0,none⟩∧b<w.heap.size∧∀ j,j<D.length→w.cell? ⟨b,j,none⟩=some (.int .u64 (D.getD j 0))):=by
 rcases h with ⟨rfl,rfl⟩|⟨b,cap,h1,h2,h3,h4,h5⟩
 ·exact ⟨none,0,rfl,Nat.zero_le _,Nat.le_refl _,fun h=>absurd h (by simp)⟩
 ·exact ⟨_,cap,h1,h3,h2,fun _=>⟨b,rfl,h4,h5⟩⟩
abbrev v32:List Int→Int:=pv 4294967296
def dig (D:List Int):Prop:=∀ j,0≤D.getD j 0∧D.getD j 0<4294967296
def trd (D:List Int):Prop:=0<D.length→D.getD (D.length-1) 0≠0
theorem Zoo {a:Int} {A:List Int} (h:dig (a::A)):(0≤a∧a<4294967296)∧dig A:=⟨h 0,fun j=>h (j+1)⟩
theorem Zqt:dig []:=fun j=>by simp
theorem Zeg {D:List Int} (h:dig D) (n:Nat):dig (D.take n):=by
 intro j
 by_cases hj:j<n
 ·have:(D.take n).getD j 0=D.getD j 0:=by simp[List.getD_eq_getElem?_getD,hj]
  rw[this];exact h j
 ·have:(D.take n).getD j 0=0:=by simp[List.getD_eq_getElem?_getD,List.getElem?_take,hj]
  rw[this];decide
theorem ZmJ (b:Int):∀ D:List Int,(∀ j,D.getD j 0=0)→pv b D=0
 | [],_=>rfl
 | d::D,h=>by
  have h0:d=0:=h 0;rw[pv,ZmJ b D (fun j=>h (j+1)),h0];simp
theorem ZeY (b:Int):∀ (D:List Int) (n:Nat),(∀ j,n≤j→D.getD j 0=0)→pv b (D.take n)=pv b D
 | [],n,_=>by simp
 | d::D,0,h=>by
  rw[ZmJ b (d::D) (fun j=>h j (by omega))];rfl
 | d::D,n+1,h=>by
  rw[List.take_succ_cons,pv,pv,ZeY b D n (fun j hj=>h (j+1) (by omega))]
theorem Zcj (b:Int):∀ A B:List Int,pv b (A++B)=pv b A+b ^ A.length*pv b B
 | [],B=>by simp[pv]
 | a::A,B=>by
  rw[List.cons_append,pv,pv,Zcj b A B,List.length_cons,Int.pow_succ]
  grind
theorem ZcV (D:List Int) (j:Nat) (h:D.length≤j):D.getD j 0=0:=by simp[List.getD_eq_getElem?_getD,List.getElem?_eq_none h]
def Zcr (w:World) (v:Value) (N:Int):Prop:=∃ D,Sl w v D∧dig D∧trd D∧v32 D=N
theorem Zcr.later {w w':World} {v:Value} {N:Int} (h:Zcr w v N) (hb:Below w.heap.size w w'):Zcr w' v N:=by
 obtain⟨D,h1,h2⟩:=h;exact ⟨D,h1.later hb,h2⟩
theorem ZcZ:∀ (A:List Int),dig A→0≤v32 A∧v32 A<4294967296 ^ A.length
 | [],_=>by simp[v32,pv]
 | a::A,h=>by
  obtain⟨ha,hA⟩:=Zoo h;have ih:=ZcZ A hA;simp only[v32,pv,List.length_cons,Int.pow_succ] at *;generalize (4294967296:Int) ^ A.length=p at *;generalize pv 4294967296 A=v at *;omega
theorem Zid (A:List Int) (k:Nat) (h:k<A.length):A.take (k+1)=A.take k++[A.getD k 0]:=by
 rw[List.take_add_one,List.getElem?_eq_getElem h,List.getD_eq_getElem?_getD,List.getElem?_eq_getElem h];rfl
theorem Zru (A:List Int) (a:Int):us A++[.int .u64 a]=us (A++[a]):=by
 simp only[us,List.map_append,List.map_cons,List.map_nil]
theorem Zrv (A:List Int) (k:Nat) (h:k<A.length):us (A.take k)++[.int .u64 (A.getD k 0)]=us (A.take (k+1)):=by
 rw[Zru,← Zid A k h]
theorem Zg6 (b:Int):∀ (D:List Int) (k:Nat),k<D.length→pv b D=pv b (D.take k)+b ^ k*(D.getD k 0+b*pv b (D.drop (k+1)))
 | [],k,h=>absurd h (by simp)
 | d::D,0,_=>by simp[pv]
 | d::D,k+1,h=>by
  have ih:=Zg6 b D k (by simpa using h);rw[pv,ih,List.take_succ_cons,pv,List.getD_cons_succ,List.drop_succ_cons,Int.pow_succ]
  grind
theorem Zer (k:Nat):(0:Int)<4294967296 ^ k:=Int.pow_pos (by decide)
theorem Zgr (a b:Nat) (h:a≤b):(4294967296:Int) ^ a≤4294967296 ^ b:=by
 obtain⟨c,rfl⟩:∃ c,b=a+c:=⟨b-a,by omega⟩;have p:=Zer c;have:=Int.mul_le_mul_of_nonneg_left (show (1:Int)≤4294967296 ^ c by omega) (Int.le_of_lt (Zer a));rw[Int.pow_add];omega
theorem ZjR (D E:List Int) (k:Nat) (hD:dig D) (hE:dig E) (kD:k<D.length) (kE:k<E.length) (he:D.drop (k+1)=E.drop (k+1)) (h:D.getD k 0<E.getD k 0):v32 D<v32 E:=by
 have bD:=ZcZ (D.take k) (Zeg hD k);have bE:=ZcZ (E.take k) (Zeg hE k);have e1:(D.take k).length=k:=by simp;omega
 have e2:(E.take k).length=k:=by simp;omega
 rw[e1] at bD;rw[e2] at bE;have p:=Zer k;simp only[v32] at *;rw[Zg6 _ D k kD,Zg6 _ E k kE,he];generalize D.getD k 0=x at *;generalize E.getD k 0=y at *;generalize pv 4294967296 (E.drop (k+1))=z at *;generalize (4294967296:Int) ^ k=q at *;have h1:q*(x+4294967296*z)+q≤q*(y+4294967296*z):=by
  have:q*(x+1+4294967296*z)≤q*(y+4294967296*z):=Int.mul_le_mul_of_nonneg_left (by omega) (by omega)
  grind
 omega
theorem Zf0 (D:List Int) (hD:dig D) (hT:trd D) (h:0<D.length):(4294967296:Int) ^ (D.length-1)≤v32 D:=by
 have h1:=hT h;have h2:=hD (D.length-1);have b:=ZcZ (D.take (D.length-1)) (Zeg hD _);have p:=Zer (D.length-1);simp only[v32] at *;rw[Zg6 _ D (D.length-1) (by omega),List.drop_of_length_le (by omega)];generalize D.getD (D.length-1) 0=x at *;generalize (4294967296:Int) ^ (D.length-1)=q at *;have:q*1≤q*(x+4294967296*pv 4294967296 []):=Int.mul_le_mul_of_nonneg_left (by simp only[pv];omega) (by omega);omega
theorem Zif (D E:List Int) (hD:dig D) (hE:dig E) (hT:trd E) (h:D.length<E.length):v32 D<v32 E:=by
 have b:=ZcZ D hD;have l:=Zf0 E hE hT (by omega);have hp:(4294967296:Int) ^ D.length≤4294967296 ^ (E.length-1):=Zgr _ _ (by omega);omega
theorem Zrw (D:List Int) (hD:dig D) (hT:trd D) (n:Nat) (h:v32 D<4294967296 ^ n):D.length≤n:=by
 rcases Nat.lt_or_ge n D.length with hlt|hge
 ·have l:=Zf0 D hD hT (by omega)
  have hp:=Zgr n (D.length-1) (by omega);omega
 ·exact hge
def spl:List Int→List Int
 | []=>[]
 | a::A=>a%4294967296::a/4294967296::spl A
theorem Zgy:∀ A B:List Int,spl (A++B)=spl A++spl B
 | [],_=>rfl
 | a::A,B=>by rw[List.cons_append,spl,spl,Zgy A B];rfl
theorem Zri:∀ A:List Int,(spl A).length=2*A.length
 | []=>rfl
 | a::A=>by simp only[spl,List.length_cons,Zri A];omega
theorem Znn:∀ A:List Int,v32 (spl A)=v64 A
 | []=>rfl
 | a::A=>by
  have ih:=Znn A;simp only[v32,v64,spl,pv] at *;rw[ih];omega
theorem Znm:∀ A:List Int,Zdg A→dig (spl A)
 | [],_=>Zqt
 | a::A,h=>by
  obtain⟨ha,hA⟩:=Zej h;have ih:=Znm A hA;intro j
  match j with
  | 0=>simp only[spl,List.getD_cons_zero];omega
  | 1=>simp only[spl,List.getD_cons_succ,List.getD_cons_zero];omega
  | j+2=>simp only[spl,List.getD_cons_succ];exact ih j
theorem ZpA (L:List Int) (k:Nat) (h:k<L.length):spl (L.take (k+1))=spl (L.take k)++[L.getD k 0%4294967296,L.getD k 0/4294967296]:=by
 rw[List.take_add_one,Zgy,List.getElem?_eq_getElem h,List.getD_eq_getElem?_getD,List.getElem?_eq_getElem h]
 rfl
variable {H:Type} {enc:TypeId × Value→H} {P:Program} {w:World} {base:Nat} {spare:Nat→Bool} {held:Bool}
theorem ZhI (A:List Int) (j:Nat) (h:j<A.length):A.drop j=A.getD j 0::A.drop (j+1):=by
 rw[List.drop_eq_getElem_cons h];simp[List.getD_eq_getElem?_getD,h]
theorem ZdV {P:Program} (w:World) (d:Nat) {e:TypeId} (he:P.plainKey e=true) (hu:P.underlying e=some (.int .u64)) (hc:P.cellsOf e=1) (A B:List Int) (n:Nat) (lA:A.length=n) (lB:B.length=n) :
  ∀ m j,j+m=n→(Op.eqItems (d+1) e (P.cellsOf e) (us A).toArray (us B).toArray (List.range' j m)).run P w=.ok (decide (A.drop j=B.drop j)) w
 | 0,j,h=>by
  have e1:A.drop j=[]:=List.drop_eq_nil_of_le (by omega);have e2:B.drop j=[]:=List.drop_eq_nil_of_le (by omega);simp[Op.eqItems,e1,e2]
 | m+1,j,h=>by
  have ih:=ZdV w d he hu hc A B n lA lB m (j+1) (by omega);have p1:=run_part_plain (P:=P) w he (xs:=(us A).toArray) (off:=j*P.cellsOf e) (v:=.int .u64 (A.getD j 0)) (by rw[hc,Nat.mul_one,List.getElem?_toArray];exact Zcl A j (by omega));have p2:=run_part_plain (P:=P) w he (xs:=(us B).toArray) (off:=j*P.cellsOf e) (v:=.int .u64 (B.getD j 0)) (by rw[hc,Nat.mul_one,List.getElem?_toArray];exact Zcl B j (by omega));have p3:=run_equalIn_int (P:=P) w d e .u64 .u64 (A.getD j 0) (B.getD j 0) hu;rw[List.range'_succ];simp only[Op.eqItems,Sem.run_bind,p1,p2,p3,Result.andThen_ok];rw[ZhI A j (by omega),ZhI B j (by omega)];clear p1 p2 p3;generalize A.getD j 0=a;generalize B.getD j 0=b
  by_cases hq:a=b
  ·simp only[hq,beq_self_eq_true,Bool.not_true,Bool.false_eq_true,if_false,List.cons.injEq,true_and]
   exact ih
  ·have:(a == b)=false:=by simpa using hq
   simp[this,hq]
end Go.Proofs.YtohcdbifhnfcbaaGreatDoor
