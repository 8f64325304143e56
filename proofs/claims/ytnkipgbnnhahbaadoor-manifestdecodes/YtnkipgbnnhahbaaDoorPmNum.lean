/- Numbers, bits, texts out of bytes: what is read, or what is amiss. Plain facts. -/
import Derived.Test.YtnkipgbnnhahbaaDoorApBs
import Derived.Test.YtnkipgbnnhahbaaDoorBase
import Derived.Test.YtnkipgbnnhahbaaDoorByt
namespace Go.Proofs.YtnkipgbnnhahbaaDoor
/-- bytes without the noughts ahead -/
def lessZ:List Int→List Int
 | []=>[]
 | x :: xs=>if x=0 then lessZ xs else x :: xs
/-- how many noughts are ahead -/
def leadZ:List Int→Nat
 | []=>0
 | x :: xs=>if x=0 then leadZ xs + 1 else 0
theorem leadZ_le:∀ N:List Int,leadZ N≤N.length
 | []=>Nat.le_refl _
 | x :: xs=>by
  rw [leadZ,List.length_cons]
  split
  ·have:=leadZ_le xs;omega
  ·omega
theorem lessZ_drop:∀ N:List Int,lessZ N=N.drop (leadZ N)
 | []=>rfl
 | x :: xs=>by
  rw [lessZ,leadZ]
  split
  ·rw [List.drop_succ_cons];exact lessZ_drop xs
  ·rfl
theorem leadZ_get:∀ (N:List Int) (i:Nat),i < leadZ N→N.getD i 0=0
 | [],i,h=>by simp [leadZ] at h
 | x :: xs,i,h=>by
  rw [leadZ] at h
  split at h
  ·rename_i hx
   cases i with
   | zero=>exact hx
   | succ i=>rw [List.getD_cons_succ];exact leadZ_get xs i (by omega)
  ·omega
theorem leadZ_next:∀ (N:List Int),leadZ N < N.length→¬ N.getD (leadZ N) 0=0
 | [],h=>by simp at h
 | x :: xs,h=>by
  rw [leadZ] at h ⊢
  by_cases hx:x=0
  ·rw [if_pos hx] at h ⊢
   rw [List.getD_cons_succ]
   exact leadZ_next xs (by simpa using h)
  ·rw [if_neg hx,List.getD_cons_zero]
   exact hx
theorem byt_dropM {B:List Int} (h:byt B) (r:Nat):byt (B.drop r):=fun j=>by
 rw [List.getD_eq_getElem?_getD,List.getElem?_drop,← List.getD_eq_getElem?_getD]
 exact h _
/-- a number out of its body -/
def numP (B:List Int):Except Nat (List Int) :=
 if B.length=0∨127 < B.getD 0 0∨(1 < B.length∧B.getD 0 0=0∧B.getD 1 0 < 128) then .error 7
 else if 64 < (if B.getD 0 0=0 then B.drop 1 else B).length then .error 2
 else .ok (if B.getD 0 0=0 then B.drop 1 else B)
/-- the number that bytes tell, the highest first -/
def beW:List Int→Int→Int
 | [],v=>v
 | x :: xs,v=>beW xs (256 * v + x)
theorem beW_le:∀ (X:List Int) (v:Int),byt X→0≤v→v≤beW X v
 | [],v,_,_=>Int.le_refl _
 | x :: xs,v,hb,hv=>by
  have h0:=hb 0
  rw [List.getD_cons_zero] at h0
  have:=beW_le xs (256 * v + x) (fun j=>by have:=hb (j + 1);rwa [List.getD_cons_succ] at this) (by omega)
  rw [beW]
  omega
/-- a small number out of its body -/
def smallP (B:List Int):Except Nat Int :=
 match numP B with
 | .error c=>.error c
 | .ok n=>if 2147483647 < beW n 0 then .error 3 else .ok (beW n 0)
/-- a text -/
def textP (B:List Int):Except Nat (List Int) :=
 if 64 < B.length then .error 2 else if B.length=0 then .error 7 else if ∃ j,j < B.length∧(B.getD j 0 < 32∨126 < B.getD j 0) then .error 7 else .ok B
end Go.Proofs.YtnkipgbnnhahbaaDoor
