/- Numbers by digits of 32 bits in slices: what lies where, and plain facts on digits. -/
import Derived.Test.YtnkipgbnnhahbaaDoorBase
import Derived.Deep.AppendLies
namespace Go.Proofs.YtnkipgbnnhahbaaDoor
open Go.RowKit
/-- the slice value v, in the world w, holds the numbers D -/
def Sl (w:World) (v:Value) (D:List Int):Prop :=
 (v=.slice none 0 0∧D=[])∨∃ b cap,v=.slice (some ⟨b,0,none⟩) D.length cap∧D.length≤cap∧cap≤maxLen∧b < w.heap.size∧∀ j,j < D.length→w.cell? ⟨b,j,none⟩=some (.int .u64 (D.getD j 0))
theorem Sl.below {B:Nat} {w w':World} {v:Value} {D:List Int} (h:Sl w v D) (hb:Below B w w') (hB:w.heap.size≤B):Sl w' v D:=by
 rcases h with h|⟨b,cap,h1,h2,h3,h4,h5⟩
 ·exact .inl h
 ·exact .inr ⟨b,cap,h1,h2,h3,Nat.lt_of_lt_of_le h4 hb.size,fun j hj=>(hb.cell (show b < B by omega)).trans (h5 j hj)⟩
theorem Sl.later {w w':World} {v:Value} {D:List Int} (h:Sl w v D) (hb:Below w.heap.size w w'):Sl w' v D:=h.below hb (Nat.le_refl _)
theorem Sl.alloc {w:World} {v:Value} {D:List Int} (h:Sl w v D) (o:Obj):Sl (w.alloc o) v D:=h.later ((Below.refl _ _).alloc (Nat.le_refl _) o)
theorem Sl.of_own {w:World} {base:Nat} {e:TypeId} {v:Value} {n:Nat} {D:List Int} (h:w.ownsRow base e 1 v n (us D)):Sl w v D:=by
 obtain ⟨hl,h⟩:=h
 have hn:D.length=n:=by simpa using hl
 rcases h with ⟨h1,h2⟩|⟨g,cap,cur,h1,h2,h3,h4,h5,h6,h7⟩
 ·exact .inl ⟨h1,List.eq_nil_of_length_eq_zero (by omega)⟩
 ·refine .inr ⟨g,cap,by rw [hn];exact h1,by omega,h5,(Array.getElem?_eq_some_iff.1 h3).1,fun j hj=>?_⟩
  have e1:(cur.toList.take (n * 1))[j]?=some (.int .u64 (D.getD j 0)):=by rw [h7];exact us_get D j hj
  rw [List.getElem?_take,if_pos (by omega)] at e1
  simp only [World.cell?,h3,Option.isSome_none,Bool.false_eq_true,if_false]
  simpa using e1
theorem Sl.form {w:World} {v:Value} {D:List Int} (h:Sl w v D):∃ ao cap,v=.slice ao D.length cap∧cap≤maxLen∧D.length≤cap∧(0 < D.length→∃ b,ao=some ⟨b,0,none⟩∧b < w.heap.size∧∀ j,j < D.length→w.cell? ⟨b,j,none⟩=some (.int .u64 (D.getD j 0))):=by
 rcases h with ⟨rfl,rfl⟩|⟨b,cap,h1,h2,h3,h4,h5⟩
 ·exact ⟨none,0,rfl,Nat.zero_le _,Nat.le_refl _,fun h=>absurd h (by simp)⟩
 ·exact ⟨_,cap,h1,h3,h2,fun _=>⟨b,rfl,h4,h5⟩⟩
abbrev v32:List Int→Int:=pv 4294967296
/-- digits of 32 bits -/
def dig (D:List Int):Prop:=∀ j,0≤D.getD j 0∧D.getD j 0 < 4294967296
/-- no nought at the end -/
def trd (D:List Int):Prop:=0 < D.length→D.getD (D.length - 1) 0≠0
theorem dig_cons {a:Int} {A:List Int} (h:dig (a :: A)):(0≤a∧a < 4294967296)∧dig A:=⟨h 0,fun j=>h (j + 1)⟩
theorem dig_take {D:List Int} (h:dig D) (n:Nat):dig (D.take n):=by
 intro j
 by_cases hj:j < n
 ·have:(D.take n).getD j 0=D.getD j 0:=by simp [List.getD_eq_getElem?_getD,hj]
  rw [this];exact h j
 ·have:(D.take n).getD j 0=0:=by simp [List.getD_eq_getElem?_getD,List.getElem?_take,hj]
  rw [this];decide
theorem getD_none (D:List Int) (j:Nat) (h:D.length≤j):D.getD j 0=0:=by simp [List.getD_eq_getElem?_getD,List.getElem?_eq_none h]
/-- v holds the number N, by digits, without noughts at the end -/
def NumIs (w:World) (v:Value) (N:Int):Prop:=∃ D,Sl w v D∧dig D∧trd D∧v32 D=N
theorem NumIs.later {w w':World} {v:Value} {N:Int} (h:NumIs w v N) (hb:Below w.heap.size w w'):NumIs w' v N:=by
 obtain ⟨D,h1,h2⟩:=h
 exact ⟨D,h1.later hb,h2⟩
theorem NumIs.drew {w:World} {v:Value} {N:Int} (h:NumIs w v N):NumIs w.drew v N:=h
theorem NumIs.alloc {w:World} {v:Value} {N:Int} (h:NumIs w v N) (o:Obj):NumIs (w.alloc o) v N:=h.later ((Below.refl _ _).alloc (Nat.le_refl _) o)
theorem v32_bound:∀ (A:List Int),dig A→0≤v32 A∧v32 A < 4294967296 ^ A.length
 | [],_=>by simp [v32,pv]
 | a :: A,h=>by
  obtain ⟨ha,hA⟩:=dig_cons h
  have ih:=v32_bound A hA
  simp only [v32,pv,List.length_cons,Int.pow_succ] at *
  generalize (4294967296:Int) ^ A.length=p at *
  generalize pv 4294967296 A=v at *
  omega
theorem pv_drop (b:Int):∀ (D:List Int) (k:Nat),k < D.length→pv b D=pv b (D.take k) + b ^ k * (D.getD k 0 + b * pv b (D.drop (k + 1)))
 | [],k,h=>absurd h (by simp)
 | d :: D,0,_=>by simp [pv]
 | d :: D,k + 1,h=>by
  have ih:=pv_drop b D k (by simpa using h)
  rw [pv,ih,List.take_succ_cons,pv,List.getD_cons_succ,List.drop_succ_cons,Int.pow_succ]
  grind
theorem pow32_pos (k:Nat):(0:Int) < 4294967296 ^ k:=Int.pow_pos (by decide)
theorem trd_lower (D:List Int) (hD:dig D) (hT:trd D) (h:0 < D.length):(4294967296:Int) ^ (D.length - 1)≤v32 D:=by
 have h1:=hT h
 have h2:=hD (D.length - 1)
 have b:=v32_bound (D.take (D.length - 1)) (dig_take hD _)
 have p:=pow32_pos (D.length - 1)
 simp only [v32] at *
 rw [pv_drop _ D (D.length - 1) (by omega),List.drop_of_length_le (by omega)]
 generalize D.getD (D.length - 1) 0=x at *
 generalize (4294967296:Int) ^ (D.length - 1)=q at *
 have:q * 1≤q * (x + 4294967296 * pv 4294967296 []):=Int.mul_le_mul_of_nonneg_left (by simp only [pv];omega) (by omega)
 omega
end Go.Proofs.YtnkipgbnnhahbaaDoor
