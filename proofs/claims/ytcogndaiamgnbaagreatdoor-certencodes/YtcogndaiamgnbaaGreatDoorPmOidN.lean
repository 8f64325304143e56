/- Identifiers out of bytes, and their bytes. Plain facts. Identifiers' bytes, and back. Plain facts. -/
import Derived.Test.YtcogndaiamgnbaaGreatDoorPmNG
namespace Go.Proofs.YtcogndaiamgnbaaGreatDoor
/-- a value's bytes above the last -/
def b7F:Nat→Nat→List Int→List Int
 | 0,_,l=>l
 | f + 1,v,l=>if v=0 then l else b7F f (v / 128) (((128 + v % 128:Nat):Int) :: l)
def b7 (v:Nat):List Int:=b7F 9 (v / 128) [((v % 128:Nat):Int)]
theorem b7F_0 (f:Nat) (l:List Int):b7F f 0 l=l:=by
 cases f with
 | zero=>rfl
 | succ f=>rw [b7F,if_pos rfl]
/-- many values' bytes -/
def b7s:List Nat→List Int
 | []=>[]
 | v :: vs=>b7 v++b7s vs
theorem b7F_len:∀ (f v:Nat) (l:List Int),(b7F f v l).length≤f + l.length
 | 0,_,_=>by rw [b7F];omega
 | f + 1,v,l=>by
  rw [b7F]
  split
  ·omega
  ·have:=b7F_len f (v / 128) (((128 + v % 128:Nat):Int) :: l)
   rw [List.length_cons] at this
   omega
/-- the values that an identifier is told by -/
def valsO (L:List Int):List Nat:=(L.getD 1 0 + 40 * L.getD 0 0).toNat :: (L.drop 2).map Int.toNat
def oidOf (L:List Int):Except Nat (List Int) :=
 if L.length < 2∨16 < L.length∨2 < L.getD 0 0∨(L.getD 0 0 < 2∧39 < L.getD 1 0) then .error 1
 else if ∃ j,j < L.length∧4294967295 < L.getD j 0 then .error 1
 else .ok (b7s (valsO L))
/-- words of 64 bits -/
def wrd (L:List Int):Prop:=∀ j,0≤L.getD j 0∧L.getD j 0 < 18446744073709551616
theorem b7s_app:∀ (A B:List Nat),b7s (A++B)=b7s A++b7s B
 | [],B=>by rw [b7s];rfl
 | a :: A,B=>by rw [List.cons_append,b7s,b7s,b7s_app A B,List.append_assoc]
theorem b7s_next {vs:List Nat} {k:Nat} (h:k < vs.length):b7s (vs.take (k + 1))=b7s (vs.take k)++b7 (vs.getD k 0):=by
 rw [List.take_add_one,b7s_app]
 congr 1
 rw [List.getElem?_eq_getElem h,List.getD_eq_getElem?_getD,List.getElem?_eq_getElem h]
 simp [b7s]
theorem b7_len (v:Nat):(b7 v).length≤10:=by
 have:=b7F_len 9 (v / 128) [((v % 128:Nat):Int)]
 rw [List.length_singleton] at this
 unfold b7
 omega
theorem b7s_len:∀ vs:List Nat,(b7s vs).length≤10 * vs.length
 | []=>by simp [b7s]
 | v :: vs=>by
  have h1:=b7_len v
  have h2:=b7s_len vs
  rw [b7s,List.length_append,List.length_cons]
  omega
theorem vals_len {L:List Int} (h:2≤L.length):(valsO L).length=L.length - 1:=by
 simp [valsO]
 omega
/-- the value told at the place i of an identifier -/
theorem vals_at {L:List Int} {i:Nat} (h:0 < i) (hi:i < L.length):(valsO L).getD (i - 1) 0=if i=1 then (L.getD 1 0 + 40 * L.getD 0 0).toNat else (L.getD i 0).toNat:=by
 unfold valsO
 by_cases k:i=1
 ·subst k;rfl
 ·rw [if_neg k,show i - 1=(i - 2) + 1 by omega,List.getD_cons_succ,List.getD_eq_getElem?_getD,List.getD_eq_getElem?_getD,List.getElem?_map,List.getElem?_drop,show 2 + (i - 2)=i by omega,List.getElem?_eq_getElem hi]
  rfl
end Go.Proofs.YtcogndaiamgnbaaGreatDoor
