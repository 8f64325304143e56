/- Numbers, bits, texts out of bytes: what is read, or what is amiss. Plain facts. -/
import Derived.Test.YtnkipgbnnhahbaaPrime
import Derived.Test.YtnkipgbnnhahbaaNum
import Derived.Test.YtnkipgbnnhahbaaApBs
namespace Go.Proofs.Ytnkipgbnnhahbaa
/-- bytes without the noughts ahead -/
def lessZ:List Int→List Int
 | []=>[]
 | x :: xs=>if x=0 then lessZ xs else x :: xs
/-- how many noughts are ahead -/
def leadZ:List Int→Nat
 | []=>0
 | x :: xs=>if x=0 then leadZ xs + 1 else 0
theorem leadZ_le:∀ N:List Int,leadZ N≤N.length
 | []=>Nat.le_refl _
 | x :: xs=>by
  rw [leadZ,List.length_cons]
  split
  ·have:=leadZ_le xs;omega
  ·omega
theorem lessZ_drop:∀ N:List Int,lessZ N=N.drop (leadZ N)
 | []=>rfl
 | x :: xs=>by
  rw [lessZ,leadZ]
  split
  ·rw [List.drop_succ_cons];exact lessZ_drop xs
  ·rfl
theorem leadZ_get:∀ (N:List Int) (i:Nat),i < leadZ N→N.getD i 0=0
 | [],i,h=>by simp [leadZ] at h
 | x :: xs,i,h=>by
  rw [leadZ] at h
  split at h
  ·rename_i hx
   cases i with
   | zero=>exact hx
   | succ i=>rw [List.getD_cons_succ];exact leadZ_get xs i (by omega)
  ·omega
theorem leadZ_next:∀ (N:List Int),leadZ N < N.length→¬ N.getD (leadZ N) 0=0
 | [],h=>by simp at h
 | x :: xs,h=>by
  rw [leadZ] at h ⊢
  by_cases hx:x=0
  ·rw [if_pos hx] at h ⊢
   rw [List.getD_cons_succ]
   exact leadZ_next xs (by simpa using h)
  ·rw [if_neg hx,List.getD_cons_zero]
   exact hx
theorem lessZ_head (N:List Int) (h:0 < (lessZ N).length):¬ (lessZ N).getD 0 0=0:=by
 rw [lessZ_drop,List.length_drop] at h
 rw [lessZ_drop,List.getD_eq_getElem?_getD,List.getElem?_drop,Nat.add_zero,← List.getD_eq_getElem?_getD]
 exact leadZ_next N (by omega)
theorem lessZ_self {N:List Int} (h:0 < N.length→¬ N.getD 0 0=0):lessZ N=N:=by
 cases N with
 | nil=>rfl
 | cons x xs=>rw [lessZ,if_neg (show ¬ x=0 from h (by simp))]
theorem byt_dropM {B:List Int} (h:byt B) (r:Nat):byt (B.drop r):=fun j=>by
 rw [List.getD_eq_getElem?_getD,List.getElem?_drop,← List.getD_eq_getElem?_getD]
 exact h _
/-- a number out of its body -/
def numP (B:List Int):Except Nat (List Int) :=
 if B.length=0∨127 < B.getD 0 0∨(1 < B.length∧B.getD 0 0=0∧B.getD 1 0 < 128) then .error 7
 else if 64 < (if B.getD 0 0=0 then B.drop 1 else B).length then .error 2
 else .ok (if B.getD 0 0=0 then B.drop 1 else B)
/-- a number's body -/
def numOf (N:List Int):Except Nat (List Int) :=
 if 64 < (lessZ N).length then .error 2
 else if (lessZ N).length=0∨127 < (lessZ N).getD 0 0 then .ok ((0:Int) :: lessZ N)
 else .ok (lessZ N)
/-- a body that is made is read as that number -/
theorem num_back {N b:List Int} (hb:byt N) (h:numOf N=.ok b):numP b=.ok (lessZ N)∧numOf (lessZ N)=.ok b:=by
 have hl:byt (lessZ N):=by rw [lessZ_drop];exact byt_dropM hb _
 have h0:=lessZ_head N
 have hs:lessZ (lessZ N)=lessZ N:=lessZ_self h0
 have hn:numOf (lessZ N)=numOf N:=by unfold numOf;rw [hs]
 refine ⟨?_,by rw [hn];exact h⟩
 obtain ⟨R,hR⟩:∃ R,lessZ N=R:=⟨_,rfl⟩
 unfold numOf at h
 rw [hR] at h h0 hl ⊢
 by_cases c1:64 < R.length
 ·rw [if_pos c1] at h;cases h
 rw [if_neg c1] at h
 by_cases c2:R.length=0∨127 < R.getD 0 0
 ·rw [if_pos c2] at h
  cases h
  unfold numP
  have e0:((0:Int) :: R).getD 0 0=0:=rfl
  have e1:((0:Int) :: R).getD 1 0=R.getD 0 0:=by rw [List.getD_cons_succ]
  rw [e0,e1,if_neg (by
   rintro (h|h|⟨h1,_,h2⟩)
   ·simp at h
   ·omega
   ·rcases c2 with c2|c2
    ·rw [List.length_cons] at h1;omega
    ·omega),if_pos rfl]
  have e2:((0:Int) :: R).drop 1=R:=rfl
  rw [e2,if_neg c1]
 ·rw [if_neg c2] at h
  cases h
  unfold numP
  have hz:=h0 (by omega)
  rw [if_neg (by
   rintro (h|h|⟨_,h2,_⟩)
   ·omega
   ·omega
   ·exact hz h2),if_neg hz,if_neg c1]
/-- the number that bytes tell, the highest first -/
def beW:List Int→Int→Int
 | [],v=>v
 | x :: xs,v=>beW xs (256 * v + x)
theorem beW_le:∀ (X:List Int) (v:Int),byt X→0≤v→v≤beW X v
 | [],v,_,_=>Int.le_refl _
 | x :: xs,v,hb,hv=>by
  have h0:=hb 0
  rw [List.getD_cons_zero] at h0
  have:=beW_le xs (256 * v + x) (fun j=>by have:=hb (j + 1);rwa [List.getD_cons_succ] at this) (by omega)
  rw [beW]
  omega
/-- a small number out of its body -/
def smallP (B:List Int):Except Nat Int :=
 match numP B with
 | .error c=>.error c
 | .ok n=>if 2147483647 < beW n 0 then .error 3 else .ok (beW n 0)
/-- a text -/
def textP (B:List Int):Except Nat (List Int) :=
 if 64 < B.length then .error 2 else if B.length=0 then .error 7 else if ∃ j,j < B.length∧(B.getD j 0 < 32∨126 < B.getD j 0) then .error 7 else .ok B
/-- a number's bytes, the highest first, ahead of others -/
def digF:Nat→Nat→List Int→List Int
 | 0,_,l=>l
 | f + 1,n,l=>if n=0 then l else digF f (n / 256) (((n % 256:Nat):Int) :: l)
theorem digF_0 (f:Nat) (l:List Int):digF f 0 l=l:=by
 cases f with
 | zero=>rfl
 | succ f=>rw [digF,if_pos rfl]
theorem digF_val:∀ (f n:Nat) (l:List Int),n < 256 ^ f→beW (digF f n l) 0=beW l (n:Int)
 | 0,n,l,h=>by
  have:n=0:=by simpa using h
  subst this
  rfl
 | f + 1,n,l,h=>by
  rw [digF]
  split
  ·rename_i h0
   subst h0
   rfl
  ·rw [digF_val f (n / 256) _ (by rw [Nat.pow_succ] at h;omega),beW]
   congr 1
   omega
theorem digF_head:∀ (f n:Nat) (l:List Int),n < 256 ^ f→0 < n→¬ (digF f n l).getD 0 0=0
 | 0,n,l,h,h0=>by simp at h;omega
 | f + 1,n,l,h,h0=>by
  rw [digF,if_neg (by omega)]
  by_cases c:n / 256=0
  ·rw [c,digF_0,List.getD_cons_zero]
   omega
  ·exact digF_head f (n / 256) _ (by rw [Nat.pow_succ] at h;omega) (by omega)
theorem digF_byt:∀ (f n:Nat) (l:List Int),byt l→byt (digF f n l)
 | 0,_,_,h=>h
 | f + 1,n,l,h=>by
  rw [digF]
  split
  ·exact h
  ·refine digF_byt f _ _ (fun j=>?_)
   cases j with
   | zero=>rw [List.getD_cons_zero];omega
   | succ j=>rw [List.getD_cons_succ];exact h j
theorem digF_len:∀ (f n:Nat) (l:List Int),(digF f n l).length≤f + l.length
 | 0,_,_=>by rw [digF];omega
 | f + 1,n,l=>by
  rw [digF]
  split
  ·omega
  ·have:=digF_len f (n / 256) (((n % 256:Nat):Int) :: l)
   rw [List.length_cons] at this
   omega
/-- the body of a small number -/
def smallOf (n:Int):Except Nat (List Int):=if n < 0∨2147483647 < n then .error 3 else numOf (digF 4 n.toNat [])
theorem small_back {n:Int} {b:List Int} (h:smallOf n=.ok b):smallP b=.ok n:=by
 unfold smallOf at h
 by_cases c:n < 0∨2147483647 < n
 ·rw [if_pos c] at h;cases h
 rw [if_neg c] at h
 have hb:byt (digF 4 n.toNat []):=digF_byt 4 _ _ (fun j=>by simp)
 have hl:n.toNat < 256 ^ 4:=by
  have:(256:Nat) ^ 4=4294967296:=by decide
  omega
 have hs:lessZ (digF 4 n.toNat [])=digF 4 n.toNat []:=lessZ_self (fun h0=>by
  by_cases z:n.toNat=0
  ·rw [z,digF_0] at h0;simp at h0
  ·exact digF_head 4 n.toNat [] hl (by omega))
 have hv:beW (digF 4 n.toNat []) 0=n:=by
  rw [digF_val 4 n.toNat [] hl,beW]
  omega
 have hk:=(num_back hb h).1
 unfold smallP
 rw [hk]
 simp only
 rw [hs,hv,if_neg (by omega)]
end Go.Proofs.Ytnkipgbnnhahbaa
