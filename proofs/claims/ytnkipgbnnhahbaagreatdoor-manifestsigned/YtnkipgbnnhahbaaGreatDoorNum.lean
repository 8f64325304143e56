/- Small facts on worlds: a block that is known whole ('Blk'), behind new blocks, draws, stores and calls; and on numbers by limbs. Numbers by digits of 32 bits in slices: what lies where, and plain facts on digits. -/
import Derived.WalkKit
import Derived.WalkSpells
import Derived.WalkLawsBesides
import Derived.Deep.AppendLies
namespace Go.Proofs.YtnkipgbnnhahbaaGreatDoor
open Go.RowKit
def Blk (w:World) (b:Nat) (cs:List Value):Prop:=∃ t,w.heap[b]?=some (.cells cs.toArray t)
theorem Blk.lt {w:World} {b:Nat} {cs:List Value} (h:Blk w b cs):b < w.heap.size:=by
 obtain ⟨t,h⟩:=h
 exact (Array.getElem?_eq_some_iff.1 h).1
theorem Blk.cell {w:World} {b:Nat} {cs:List Value} (h:Blk w b cs) (j:Nat) (v:Value) (hv:cs[j]?=some v):w.cell? ⟨b,j,none⟩=some v:=by
 obtain ⟨t,h⟩:=h
 simp [World.cell?,h,hv]
theorem Blk.frozen {w:World} {b:Nat} {cs:List Value} (h:Blk w b cs) (j:Nat):w.frozen? ⟨b,j,none⟩=false:=by
 obtain ⟨t,h⟩:=h
 simp [World.frozen?,h]
theorem Blk.new (w:World) (cs:List Value) (t:TypeId) (b:Nat) (hb:b=w.heap.size):Blk (w.alloc (.cells cs.toArray t)) b cs:=by
 subst hb
 exact ⟨t,by show (w.heap.push _)[w.heap.size]?=_;simp⟩
theorem Blk.alloc {w:World} {b:Nat} {cs:List Value} (h:Blk w b cs) (o:Obj):Blk (w.alloc o) b cs:=by
 have hl:=h.lt
 obtain ⟨t,h⟩:=h
 exact ⟨t,by rw [Below.heap_alloc _ _ _ hl];exact h⟩
theorem Blk.drew {w:World} {b:Nat} {cs:List Value} (h:Blk w b cs):Blk w.drew b cs:=h
theorem Blk.drewN {w:World} {b:Nat} {cs:List Value} (h:Blk w b cs) (n:Nat):Blk (w.drewN n) b cs:=h
theorem Blk.other {w:World} {b:Nat} {cs:List Value} (h:Blk w b cs) (a:Addr) (v:Value) (hne:b≠a.block):Blk (w.setCell a v) b cs:=by
 obtain ⟨t,h⟩:=h
 exact ⟨t,by rw [Below.heap_setCell _ _ _ _ hne];exact h⟩
theorem Blk.set {w:World} {b:Nat} {cs:List Value} (h:Blk w b cs) (k:Nat) (v:Value):Blk (w.setCell ⟨b,k,none⟩ v) b (cs.set k v):=by
 obtain ⟨t,h⟩:=h
 refine ⟨t,?_⟩
 simp [World.setCell,Array.getElem?_modify,h]
theorem Blk.below {B:Nat} {w w':World} {b:Nat} {cs:List Value} (h:Blk w b cs) (hb:Below B w w') (hl:b < B):Blk w' b cs:=by
 obtain ⟨t,h⟩:=h
 exact ⟨t,by rw [hb.block b hl];exact h⟩
theorem Blk.later {w w':World} {b:Nat} {cs:List Value} (h:Blk w b cs) (hb:Below w.heap.size w w'):Blk w' b cs:=h.below hb h.lt
theorem below_dN {B:Nat} {a w:World} (h:Below B a w) (n:Nat):Below B a (w.drewN n):=⟨h.os,h.tape,h.output,h.size,h.block⟩
theorem ret_int {k:IntKind} {a b:Int} (h:a=b):Ending.returned (.int k a)=.returned (.int k b):=by rw [h]
/-- numbers as cells of 64 bits -/
abbrev us (A:List Int):List Value:=A.map (Value.int .u64)
theorem us_get (A:List Int) (j:Nat) (h:j < A.length):(us A)[j]?=some (.int .u64 (A.getD j 0)):=by
 simp [us,h]
theorem us_set (A:List Int) (k:Nat) (x:Int):(us A).set k (.int .u64 x)=us (A.set k x):=by simp [us,List.map_set]
theorem Blk.setu {w:World} {b:Nat} {S:List Int} (h:Blk w b (us S)) (k:Nat) (s:Int):Blk (w.setCell ⟨b,k,none⟩ (.int .u64 s)) b (us (S.set k s)):=by
 rw [← us_set];exact h.set k _
theorem Blk.cells6 {w:World} {b:Nat} {x0 x1 x2 x3 x4 x5:Int} (h:Blk w b (us [x0,x1,x2,x3,x4,x5])):w.cell? ⟨b,0,none⟩=some (.int .u64 x0)∧w.cell? ⟨b,1,none⟩=some (.int .u64 x1)∧w.cell? ⟨b,2,none⟩=some (.int .u64 x2)∧w.cell? ⟨b,3,none⟩=some (.int .u64 x3)∧w.cell? ⟨b,4,none⟩=some (.int .u64 x4)∧w.cell? ⟨b,5,none⟩=some (.int .u64 x5) :=
 ⟨h.cell 0 _ rfl,h.cell 1 _ rfl,h.cell 2 _ rfl,h.cell 3 _ rfl,h.cell 4 _ rfl,h.cell 5 _ rfl⟩
/-- each fits into 64 bits -/
def fits (A:List Int):Prop:=∀ j,0≤A.getD j 0∧A.getD j 0 < 18446744073709551616
/-- the number of digits to a base, the lowest first -/
def pv (b:Int):List Int→Int
 | []=>0
 | d :: ds=>d + b * pv b ds
abbrev v64:List Int→Int:=pv 18446744073709551616
theorem pv_take (b:Int):∀ (A:List Int) (k:Nat),k < A.length→pv b (A.take (k + 1))=pv b (A.take k) + b ^ k * A.getD k 0
 | [],k,h=>absurd h (by simp)
 | a :: A,0,_=>by simp [pv]
 | a :: A,k + 1,h=>by
  have ih:=pv_take b A k (by simpa using h)
  rw [List.take_succ_cons,List.take_succ_cons,pv,pv,ih,List.getD_cons_succ,Int.pow_succ]
  grind
theorem fits_cons {a:Int} {A:List Int} (h:fits (a :: A)):(0≤a∧a < 18446744073709551616)∧fits A:=⟨h 0,fun j=>h (j + 1)⟩
theorem v64_bound:∀ (A:List Int),fits A→0≤v64 A∧v64 A < 18446744073709551616 ^ A.length
 | [],_=>by simp [v64,pv]
 | a :: A,h=>by
  obtain ⟨ha,hA⟩:=fits_cons h
  have ih:=v64_bound A hA
  simp only [v64,pv,List.length_cons,Int.pow_succ] at *
  generalize (18446744073709551616:Int) ^ A.length=p at *
  generalize pv 18446744073709551616 A=v at *
  omega
theorem v64_inj:∀ (A B:List Int),A.length=B.length→fits A→fits B→v64 A=v64 B→A=B
 | [],[],_,_,_,_=>rfl
 | [],b :: B,h,_,_,_=>by simp at h
 | a :: A,[],h,_,_,_=>by simp at h
 | a :: A,b :: B,h,hA,hB,hv=>by
  obtain ⟨ha,hA'⟩:=fits_cons hA
  obtain ⟨hb,hB'⟩:=fits_cons hB
  simp only [v64,pv] at hv
  have h1:a=b:=by omega
  have h2:v64 A=v64 B:=by show pv _ A=pv _ B;omega
  rw [h1,v64_inj A B (by simpa using h) hA' hB' h2]
theorem take_set_same (S:List Int) (k:Nat) (s:Int):(S.set k s).take k=S.take k:=by
 rw [List.take_set,List.set_eq_of_length_le (by simp;omega)]
theorem getD_set_same (S:List Int) (k:Nat) (s:Int) (h:k < S.length):(S.set k s).getD k 0=s:=by
 simp [List.getD_eq_getElem?_getD,h]
theorem fits_set {S:List Int} (h:fits S) (k:Nat) (s:Int) (h0:0≤s) (h1:s < 18446744073709551616):fits (S.set k s):=by
 intro j
 by_cases hj:k=j
 ·subst hj
  by_cases hl:k < S.length
  ·rw [getD_set_same S k s hl];exact ⟨h0,h1⟩
  ·rw [List.set_eq_of_length_le (by omega)];exact h k
 ·have:(S.set k s).getD j 0=S.getD j 0:=by simp [List.getD_eq_getElem?_getD,hj]
  rw [this];exact h j
theorem six {A:List Int} (h:A.length=6):∃ x0 x1 x2 x3 x4 x5,A=[x0,x1,x2,x3,x4,x5]:=by
 match A,h with
 | [x0,x1,x2,x3,x4,x5],_=>exact ⟨x0,x1,x2,x3,x4,x5,rfl⟩
theorem getD_rep (n j:Nat):(List.replicate n (0:Int)).getD j 0=0:=by
 simp only [List.getD_eq_getElem?_getD,List.getElem?_replicate]
 split<;>rfl
theorem fits_zero (n:Nat):fits (List.replicate n 0):=by
 intro j
 have:(List.replicate n (0:Int)).getD j 0=0:=by
  simp only [List.getD_eq_getElem?_getD,List.getElem?_replicate]
  split<;>rfl
 rw [this];decide
theorem hsl {n:Nat} {w w':World} (h:n≤w.heap.size) (hb:Below w.heap.size w w'):n≤w'.heap.size:=Nat.le_trans h hb.size
/-- the slice value v, in the world w, holds the numbers D -/
def Sl (w:World) (v:Value) (D:List Int):Prop :=
 (v=.slice none 0 0∧D=[])∨∃ b cap,v=.slice (some ⟨b,0,none⟩) D.length cap∧D.length≤cap∧cap≤maxLen∧b < w.heap.size∧∀ j,j < D.length→w.cell? ⟨b,j,none⟩=some (.int .u64 (D.getD j 0))
theorem Sl.below {B:Nat} {w w':World} {v:Value} {D:List Int} (h:Sl w v D) (hb:Below B w w') (hB:w.heap.size≤B):Sl w' v D:=by
 rcases h with h|⟨b,cap,h1,h2,h3,h4,h5⟩
 ·exact .inl h
 ·exact .inr ⟨b,cap,h1,h2,h3,Nat.lt_of_lt_of_le h4 hb.size,fun j hj=>(hb.cell (show b < B by omega)).trans (h5 j hj)⟩
theorem Sl.later {w w':World} {v:Value} {D:List Int} (h:Sl w v D) (hb:Below w.heap.size w w'):Sl w' v D:=h.below hb (Nat.le_refl _)
theorem Sl.alloc {w:World} {v:Value} {D:List Int} (h:Sl w v D) (o:Obj):Sl (w.alloc o) v D:=h.later ((Below.refl _ _).alloc (Nat.le_refl _) o)
theorem Sl.drewN {w:World} {v:Value} {D:List Int} (h:Sl w v D) (n:Nat):Sl (w.drewN n) v D:=h
theorem Sl.of_own {w:World} {base:Nat} {e:TypeId} {v:Value} {n:Nat} {D:List Int} (h:w.ownsRow base e 1 v n (us D)):Sl w v D:=by
 obtain ⟨hl,h⟩:=h
 have hn:D.length=n:=by simpa using hl
 rcases h with ⟨h1,h2⟩|⟨g,cap,cur,h1,h2,h3,h4,h5,h6,h7⟩
 ·exact .inl ⟨h1,List.eq_nil_of_length_eq_zero (by omega)⟩
 ·refine .inr ⟨g,cap,by rw [hn];exact h1,by omega,h5,(Array.getElem?_eq_some_iff.1 h3).1,fun j hj=>?_⟩
  have e1:(cur.toList.take (n * 1))[j]?=some (.int .u64 (D.getD j 0)):=by rw [h7];exact us_get D j hj
  rw [List.getElem?_take,if_pos (by omega)] at e1
  simp only [World.cell?,h3,Option.isSome_none,Bool.false_eq_true,if_false]
  simpa using e1
theorem Sl.form {w:World} {v:Value} {D:List Int} (h:Sl w v D):∃ ao cap,v=.slice ao D.length cap∧cap≤maxLen∧D.length≤cap∧(0 < D.length→∃ b,ao=some ⟨b,0,none⟩∧b < w.heap.size∧∀ j,j < D.length→w.cell? ⟨b,j,none⟩=some (.int .u64 (D.getD j 0))):=by
 rcases h with ⟨rfl,rfl⟩|⟨b,cap,h1,h2,h3,h4,h5⟩
 ·exact ⟨none,0,rfl,Nat.zero_le _,Nat.le_refl _,fun h=>absurd h (by simp)⟩
 ·exact ⟨_,cap,h1,h3,h2,fun _=>⟨b,rfl,h4,h5⟩⟩
abbrev v32:List Int→Int:=pv 4294967296
/-- digits of 32 bits -/
def dig (D:List Int):Prop:=∀ j,0≤D.getD j 0∧D.getD j 0 < 4294967296
/-- no nought at the end -/
def trd (D:List Int):Prop:=0 < D.length→D.getD (D.length - 1) 0≠0
theorem dig_cons {a:Int} {A:List Int} (h:dig (a :: A)):(0≤a∧a < 4294967296)∧dig A:=⟨h 0,fun j=>h (j + 1)⟩
theorem dig_nil:dig []:=fun j=>by simp
theorem dig_take {D:List Int} (h:dig D) (n:Nat):dig (D.take n):=by
 intro j
 by_cases hj:j < n
 ·have:(D.take n).getD j 0=D.getD j 0:=by simp [List.getD_eq_getElem?_getD,hj]
  rw [this];exact h j
 ·have:(D.take n).getD j 0=0:=by simp [List.getD_eq_getElem?_getD,List.getElem?_take,hj]
  rw [this];decide
theorem pv_zero (b:Int):∀ D:List Int,(∀ j,D.getD j 0=0)→pv b D=0
 | [],_=>rfl
 | d :: D,h=>by
  have h0:d=0:=h 0
  rw [pv,pv_zero b D (fun j=>h (j + 1)),h0];simp
theorem pv_take_zero (b:Int):∀ (D:List Int) (n:Nat),(∀ j,n≤j→D.getD j 0=0)→pv b (D.take n)=pv b D
 | [],n,_=>by simp
 | d :: D,0,h=>by
  rw [pv_zero b (d :: D) (fun j=>h j (by omega))];rfl
 | d :: D,n + 1,h=>by
  rw [List.take_succ_cons,pv,pv,pv_take_zero b D n (fun j hj=>h (j + 1) (by omega))]
theorem pv_append (b:Int):∀ A B:List Int,pv b (A++B)=pv b A + b ^ A.length * pv b B
 | [],B=>by simp [pv]
 | a :: A,B=>by
  rw [List.cons_append,pv,pv,pv_append b A B,List.length_cons,Int.pow_succ]
  grind
theorem getD_none (D:List Int) (j:Nat) (h:D.length≤j):D.getD j 0=0:=by simp [List.getD_eq_getElem?_getD,List.getElem?_eq_none h]
/-- v holds the number N, by digits, without noughts at the end -/
def NumIs (w:World) (v:Value) (N:Int):Prop:=∃ D,Sl w v D∧dig D∧trd D∧v32 D=N
theorem NumIs.later {w w':World} {v:Value} {N:Int} (h:NumIs w v N) (hb:Below w.heap.size w w'):NumIs w' v N:=by
 obtain ⟨D,h1,h2⟩:=h
 exact ⟨D,h1.later hb,h2⟩
theorem NumIs.drew {w:World} {v:Value} {N:Int} (h:NumIs w v N):NumIs w.drew v N:=h
theorem NumIs.alloc {w:World} {v:Value} {N:Int} (h:NumIs w v N) (o:Obj):NumIs (w.alloc o) v N:=h.later ((Below.refl _ _).alloc (Nat.le_refl _) o)
theorem v32_bound:∀ (A:List Int),dig A→0≤v32 A∧v32 A < 4294967296 ^ A.length
 | [],_=>by simp [v32,pv]
 | a :: A,h=>by
  obtain ⟨ha,hA⟩:=dig_cons h
  have ih:=v32_bound A hA
  simp only [v32,pv,List.length_cons,Int.pow_succ] at *
  generalize (4294967296:Int) ^ A.length=p at *
  generalize pv 4294967296 A=v at *
  omega
theorem take_snoc (A:List Int) (k:Nat) (h:k < A.length):A.take (k + 1)=A.take k++[A.getD k 0]:=by
 rw [List.take_add_one,List.getElem?_eq_getElem h,List.getD_eq_getElem?_getD,List.getElem?_eq_getElem h];rfl
theorem us_snoc (A:List Int) (a:Int):us A++[.int .u64 a]=us (A++[a]):=by
 simp only [us,List.map_append,List.map_cons,List.map_nil]
theorem us_take (A:List Int) (k:Nat) (h:k < A.length):us (A.take k)++[.int .u64 (A.getD k 0)]=us (A.take (k + 1)):=by
 rw [us_snoc,← take_snoc A k h]
theorem pv_drop (b:Int):∀ (D:List Int) (k:Nat),k < D.length→pv b D=pv b (D.take k) + b ^ k * (D.getD k 0 + b * pv b (D.drop (k + 1)))
 | [],k,h=>absurd h (by simp)
 | d :: D,0,_=>by simp [pv]
 | d :: D,k + 1,h=>by
  have ih:=pv_drop b D k (by simpa using h)
  rw [pv,ih,List.take_succ_cons,pv,List.getD_cons_succ,List.drop_succ_cons,Int.pow_succ]
  grind
theorem pow32_pos (k:Nat):(0:Int) < 4294967296 ^ k:=Int.pow_pos (by decide)
theorem pow32_mono (a b:Nat) (h:a≤b):(4294967296:Int) ^ a≤4294967296 ^ b:=by
 obtain ⟨c,rfl⟩:∃ c,b=a + c:=⟨b - a,by omega⟩
 have p:=pow32_pos c
 have:=Int.mul_le_mul_of_nonneg_left (show (1:Int)≤4294967296 ^ c by omega) (Int.le_of_lt (pow32_pos a))
 rw [Int.pow_add]
 omega
/-- the lesser digit at the highest place where they part decides -/
theorem v32_less (D E:List Int) (k:Nat) (hD:dig D) (hE:dig E) (kD:k < D.length) (kE:k < E.length) (he:D.drop (k + 1)=E.drop (k + 1)) (h:D.getD k 0 < E.getD k 0):v32 D < v32 E:=by
 have bD:=v32_bound (D.take k) (dig_take hD k)
 have bE:=v32_bound (E.take k) (dig_take hE k)
 have e1:(D.take k).length=k:=by simp;omega
 have e2:(E.take k).length=k:=by simp;omega
 rw [e1] at bD
 rw [e2] at bE
 have p:=pow32_pos k
 simp only [v32] at *
 rw [pv_drop _ D k kD,pv_drop _ E k kE,he]
 generalize D.getD k 0=x at *
 generalize E.getD k 0=y at *
 generalize pv 4294967296 (E.drop (k + 1))=z at *
 generalize (4294967296:Int) ^ k=q at *
 have h1:q * (x + 4294967296 * z) + q≤q * (y + 4294967296 * z):=by
  have:q * (x + 1 + 4294967296 * z)≤q * (y + 4294967296 * z):=Int.mul_le_mul_of_nonneg_left (by omega) (by omega)
  grind
 omega
theorem trd_lower (D:List Int) (hD:dig D) (hT:trd D) (h:0 < D.length):(4294967296:Int) ^ (D.length - 1)≤v32 D:=by
 have h1:=hT h
 have h2:=hD (D.length - 1)
 have b:=v32_bound (D.take (D.length - 1)) (dig_take hD _)
 have p:=pow32_pos (D.length - 1)
 simp only [v32] at *
 rw [pv_drop _ D (D.length - 1) (by omega),List.drop_of_length_le (by omega)]
 generalize D.getD (D.length - 1) 0=x at *
 generalize (4294967296:Int) ^ (D.length - 1)=q at *
 have:q * 1≤q * (x + 4294967296 * pv 4294967296 []):=Int.mul_le_mul_of_nonneg_left (by simp only [pv];omega) (by omega)
 omega
theorem v32_short (D E:List Int) (hD:dig D) (hE:dig E) (hT:trd E) (h:D.length < E.length):v32 D < v32 E:=by
 have b:=v32_bound D hD
 have l:=trd_lower E hE hT (by omega)
 have hp:(4294967296:Int) ^ D.length≤4294967296 ^ (E.length - 1):=pow32_mono _ _ (by omega)
 omega
/-- a number below so many digits has no more of them -/
theorem v32_len (D:List Int) (hD:dig D) (hT:trd D) (n:Nat) (h:v32 D < 4294967296 ^ n):D.length≤n:=by
 rcases Nat.lt_or_ge n D.length with hlt|hge
 ·have l:=trd_lower D hD hT (by omega)
  have hp:=pow32_mono n (D.length - 1) (by omega)
  omega
 ·exact hge
/-- a limb as two digits -/
def spl:List Int→List Int
 | []=>[]
 | a :: A=>a % 4294967296 :: a / 4294967296 :: spl A
theorem spl_append:∀ A B:List Int,spl (A++B)=spl A++spl B
 | [],_=>rfl
 | a :: A,B=>by rw [List.cons_append,spl,spl,spl_append A B];rfl
theorem spl_val:∀ A:List Int,v32 (spl A)=v64 A
 | []=>rfl
 | a :: A=>by
  have ih:=spl_val A
  simp only [v32,v64,spl,pv] at *
  rw [ih]
  omega
theorem spl_dig:∀ A:List Int,fits A→dig (spl A)
 | [],_=>dig_nil
 | a :: A,h=>by
  obtain ⟨ha,hA⟩:=fits_cons h
  have ih:=spl_dig A hA
  intro j
  match j with
  | 0=>simp only [spl,List.getD_cons_zero];omega
  | 1=>simp only [spl,List.getD_cons_succ,List.getD_cons_zero];omega
  | j + 2=>simp only [spl,List.getD_cons_succ];exact ih j
theorem spl_take (L:List Int) (k:Nat) (h:k < L.length):spl (L.take (k + 1))=spl (L.take k)++[L.getD k 0 % 4294967296,L.getD k 0 / 4294967296]:=by
 rw [List.take_add_one,spl_append,List.getElem?_eq_getElem h,List.getD_eq_getElem?_getD,List.getElem?_eq_getElem h]
 rfl
end Go.Proofs.YtnkipgbnnhahbaaGreatDoor
