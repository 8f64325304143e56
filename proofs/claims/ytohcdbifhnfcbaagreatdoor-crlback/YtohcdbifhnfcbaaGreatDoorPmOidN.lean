/- Numbers, bits, texts out of bytes: what is read, or what is amiss. Plain facts. Rows of bytes of one's own, and bytes behind a cut. A slice that lies in a block of its own. Identifiers out of bytes, and their bytes. Plain facts. Identifiers' bytes, and back. Plain facts. -/
import Derived.Test.YtohcdbifhnfcbaaGreatDoorLimb
import Derived.Test.YtohcdbifhnfcbaaGreatDoorDrTG
import Derived.Test.YtohcdbifhnfcbaaGreatDoorDrDG
import Derived.Test.YtohcdbifhnfcbaaGreatDoorRows
import Derived.Deep.OwnRows
import Derived.Deep.AppendLies
import Derived.Deep.WholeRow
import Derived.Deep.RegionHeld3
import Derived.Deep.DeepCutAuto
import Derived.Deep.DeepFit
namespace Go.Proofs.YtohcdbifhnfcbaaGreatDoor
open Go.RowKit
/-- bytes without the noughts ahead -/
def lessZ:List Int→List Int
 | []=>[]
 | x :: xs=>if x=0 then lessZ xs else x :: xs
/-- how many noughts are ahead -/
def leadZ:List Int→Nat
 | []=>0
 | x :: xs=>if x=0 then leadZ xs + 1 else 0
theorem leadZ_le:∀ N:List Int,leadZ N≤N.length
 | []=>Nat.le_refl _
 | x :: xs=>by
  rw [leadZ,List.length_cons]
  split
  ·have:=leadZ_le xs;omega
  ·omega
theorem lessZ_drop:∀ N:List Int,lessZ N=N.drop (leadZ N)
 | []=>rfl
 | x :: xs=>by
  rw [lessZ,leadZ]
  split
  ·rw [List.drop_succ_cons];exact lessZ_drop xs
  ·rfl
theorem leadZ_get:∀ (N:List Int) (i:Nat),i < leadZ N→N.getD i 0=0
 | [],i,h=>by simp [leadZ] at h
 | x :: xs,i,h=>by
  rw [leadZ] at h
  split at h
  ·rename_i hx
   cases i with
   | zero=>exact hx
   | succ i=>rw [List.getD_cons_succ];exact leadZ_get xs i (by omega)
  ·omega
theorem leadZ_next:∀ (N:List Int),leadZ N < N.length→¬ N.getD (leadZ N) 0=0
 | [],h=>by simp at h
 | x :: xs,h=>by
  rw [leadZ] at h ⊢
  by_cases hx:x=0
  ·rw [if_pos hx] at h ⊢
   rw [List.getD_cons_succ]
   exact leadZ_next xs (by simpa using h)
  ·rw [if_neg hx,List.getD_cons_zero]
   exact hx
theorem lessZ_head (N:List Int) (h:0 < (lessZ N).length):¬ (lessZ N).getD 0 0=0:=by
 rw [lessZ_drop,List.length_drop] at h
 rw [lessZ_drop,List.getD_eq_getElem?_getD,List.getElem?_drop,Nat.add_zero,← List.getD_eq_getElem?_getD]
 exact leadZ_next N (by omega)
theorem lessZ_self {N:List Int} (h:0 < N.length→¬ N.getD 0 0=0):lessZ N=N:=by
 cases N with
 | nil=>rfl
 | cons x xs=>rw [lessZ,if_neg (show ¬ x=0 from h (by simp))]
theorem byt_dropM {B:List Int} (h:byt B) (r:Nat):byt (B.drop r):=fun j=>by
 rw [List.getD_eq_getElem?_getD,List.getElem?_drop,← List.getD_eq_getElem?_getD]
 exact h _
/-- a number out of its body -/
def numP (B:List Int):Except Nat (List Int) :=
 if B.length=0∨127 < B.getD 0 0∨(1 < B.length∧B.getD 0 0=0∧B.getD 1 0 < 128) then .error 7
 else if 64 < (if B.getD 0 0=0 then B.drop 1 else B).length then .error 2
 else .ok (if B.getD 0 0=0 then B.drop 1 else B)
/-- a number's body -/
def numOf (N:List Int):Except Nat (List Int) :=
 if 64 < (lessZ N).length then .error 2
 else if (lessZ N).length=0∨127 < (lessZ N).getD 0 0 then .ok ((0:Int) :: lessZ N)
 else .ok (lessZ N)
/-- a body that is made is read as that number -/
theorem num_back {N b:List Int} (hb:byt N) (h:numOf N=.ok b):numP b=.ok (lessZ N)∧numOf (lessZ N)=.ok b:=by
 have hl:byt (lessZ N):=by rw [lessZ_drop];exact byt_dropM hb _
 have h0:=lessZ_head N
 have hs:lessZ (lessZ N)=lessZ N:=lessZ_self h0
 have hn:numOf (lessZ N)=numOf N:=by unfold numOf;rw [hs]
 refine ⟨?_,by rw [hn];exact h⟩
 obtain ⟨R,hR⟩:∃ R,lessZ N=R:=⟨_,rfl⟩
 unfold numOf at h
 rw [hR] at h h0 hl ⊢
 by_cases c1:64 < R.length
 ·rw [if_pos c1] at h;cases h
 rw [if_neg c1] at h
 by_cases c2:R.length=0∨127 < R.getD 0 0
 ·rw [if_pos c2] at h
  cases h
  unfold numP
  have e0:((0:Int) :: R).getD 0 0=0:=rfl
  have e1:((0:Int) :: R).getD 1 0=R.getD 0 0:=by rw [List.getD_cons_succ]
  rw [e0,e1,if_neg (by
   rintro (h|h|⟨h1,_,h2⟩)
   ·simp at h
   ·omega
   ·rcases c2 with c2|c2
    ·rw [List.length_cons] at h1;omega
    ·omega),if_pos rfl]
  have e2:((0:Int) :: R).drop 1=R:=rfl
  rw [e2,if_neg c1]
 ·rw [if_neg c2] at h
  cases h
  unfold numP
  have hz:=h0 (by omega)
  rw [if_neg (by
   rintro (h|h|⟨_,h2,_⟩)
   ·omega
   ·omega
   ·exact hz h2),if_neg hz,if_neg c1]
/-- a text -/
def textP (B:List Int):Except Nat (List Int) :=
 if 64 < B.length then .error 2 else if B.length=0 then .error 7 else if ∃ j,j < B.length∧(B.getD j 0 < 32∨126 < B.getD j 0) then .error 7 else .ok B
/-- bits: those that count, and how many of the last byte's don't -/
def bitsP (B:List Int):Except Nat (List Int × Int) :=
 if B.length=0∨7 < B.getD 0 0∨(B.length=1∧¬ B.getD 0 0=0) then .error 7
 else if B.getD (B.length - 1) 0 % 2 ^ (B.getD 0 0).toNat=0 then .ok (B.drop 1,B.getD 0 0) else .error 7
theorem own_nilM (w:World):(w.alloc (.cells #[] 5)).ownsRow w.heap.size 5 1 (.slice (some ⟨w.heap.size,0,none⟩) 0 0) 0 (u8s []):=own_made w [] 5 0 w.heap.size rfl (Nat.le_refl _) (by decide)
theorem own_geM {w:World} {base:Nat} {e:TypeId} {v:Value} {n:Nat} {xs:List Value} {j:Nat} (h:w.ownsRow base e 1 v n xs) (hj:v.ownBlock=some j):base≤j:=by
 rcases h.2 with ⟨h1,_⟩|⟨g,c,cur,h1,h2,_⟩
 ·rw [h1] at hj;simp [Value.ownBlock] at hj
 ·rw [h1] at hj;simp [Value.ownBlock] at hj;omega
/-- bytes behind a cut, wherever an empty one lies -/
theorem bs_cutM {w:World} {g o n cap r m k:Nat} {ad:Option Addr} {B:List Int} (h:Bs w (.slice (some ⟨g,o,none⟩) n cap) B) (hn:B.length=n) (hr:r≤n) (hm:m=n - r) (ha:0 < m→ad=some ⟨g,o + r,none⟩) (hk:k=cap - r):Bs w (.slice ad m k) (B.drop r):=by
 obtain ⟨a,c,e,h1,h2,h3⟩:=h
 obtain ⟨rfl,_,rfl⟩:some ⟨g,o,none⟩=a∧n=B.length∧cap=c:=by simpa using e
 have el:(B.drop r).length=m:=by rw [List.length_drop,hn,hm]
 refine ⟨ad,k,by rw [el],by rw [hk];exact Nat.le_trans (Nat.sub_le _ _) h1,by rw [el,hm,hk];exact Nat.sub_le_sub_right (by rw [← hn];exact h2) r,fun h0=>?_⟩
 rw [el] at h0 ⊢
 obtain ⟨b',o',e',k1,k2⟩:=h3 (by rw [hn];exact Nat.lt_of_lt_of_le h0 (by rw [hm];exact Nat.sub_le _ _))
 simp only [Option.some.injEq,Addr.mk.injEq] at e'
 obtain ⟨rfl,rfl,-⟩:=e'
 refine ⟨g,o + r,ha h0,k1,fun j hj=>?_⟩
 rw [Nat.add_assoc,k2 (r + j) (by omega),List.getD_eq_getElem?_getD,List.getD_eq_getElem?_getD,List.getElem?_drop]
/-- what v holds lies in no block of w -/
def NewV (w:World) (v:Value):Prop:=∀ (a:Addr) (n c:Nat),v=.slice (some a) n c→0 < n→w.heap.size≤a.block
theorem NewV.of_own {w w':World} {e:TypeId} {size:Nat} {v:Value} {n:Nat} {xs:List Value} (h:w'.ownsRow w.heap.size e size v n xs):NewV w v:=fun a m c e _=>by
 rcases h.2 with ⟨h1,_⟩|⟨g,cap,cur,h1,h2,_⟩
 ·rw [h1] at e
  cases e
 ·rw [h1] at e
  simp only [Value.slice.injEq,Option.some.injEq] at e
  rw [← e.1]
  exact h2
theorem NewV.upN {w w':World} {v:Value} (h:NewV w' v) (hs:w.heap.size≤w'.heap.size):NewV w v:=fun a n c e h0=>Nat.le_trans hs (h a n c e h0)
/-- values of seven bits a byte, each capped at 2^40: l so far, v begun, whether a value begins -/
def rawP:List Int→List Int→Int→Bool→Except Nat (List Int)
 | [],l,_,beg=>if beg=false∨l.length=0 then .error 7 else .ok l
 | x :: xs,l,v,beg =>
  if beg=true∧x=128 then .error 7
  else if x < 128 then rawP xs (l++[min (128 * v + x % 128) 1099511627776]) 0 true
  else rawP xs l (min (128 * v + x % 128) 1099511627776) false
/-- the first value tells the first two numbers -/
def first2 (x:Int):List Int:=if x < 40 then [0,x] else if x < 80 then [1,x - 40] else [2,x - 80]
def oidFin (l:List Int):Except Nat (List Int) :=
 if 4294967375 < l.getD 0 0∨∃ j,j < l.length∧0 < j∧4294967295 < l.getD j 0 then .error 3
 else if 16 < (first2 (l.getD 0 0)++l.drop 1).length then .error 2
 else .ok (first2 (l.getD 0 0)++l.drop 1)
def oidP (B:List Int):Except Nat (List Int) :=
 match rawP B [] 0 true with
 | .error c=>.error c
 | .ok l=>oidFin l
/-- a value's bytes above the last -/
def b7F:Nat→Nat→List Int→List Int
 | 0,_,l=>l
 | f + 1,v,l=>if v=0 then l else b7F f (v / 128) (((128 + v % 128:Nat):Int) :: l)
def b7 (v:Nat):List Int:=b7F 9 (v / 128) [((v % 128:Nat):Int)]
theorem b7F_0 (f:Nat) (l:List Int):b7F f 0 l=l:=by
 cases f with
 | zero=>rfl
 | succ f=>rw [b7F,if_pos rfl]
theorem raw_hi {x:Nat} {xs l:List Int} {v:Nat} {beg:Bool} (hx:x < 128) (hb:beg=true→¬ x=0) (hv:128 * v + x≤1099511627776):rawP (((128 + x:Nat):Int) :: xs) l (v:Int) beg=rawP xs l ((128 * v + x:Nat):Int) false:=by
 rw [rawP,if_neg (by rintro ⟨h1,h2⟩;have:=hb h1;omega),if_neg (by omega)]
 congr 1
 omega
theorem raw_lo {x:Nat} {xs l:List Int} {v:Nat} {beg:Bool} (hx:x < 128) (hv:128 * v + x≤1099511627776):rawP ((x:Int) :: xs) l (v:Int) beg=rawP xs (l++[((128 * v + x:Nat):Int)]) 0 true:=by
 rw [rawP,if_neg (by rintro ⟨_,h2⟩;omega),if_pos (by omega)]
 congr 3
 omega
theorem raw_b7F:∀ (f u:Nat) (l xs acc:List Int),u < 128 ^ f→0 < u→u≤1099511627776→rawP (b7F f u l++xs) acc 0 true=rawP (l++xs) acc (u:Int) false
 | 0,u,l,xs,acc,h,h0,_=>by simp at h;omega
 | f + 1,u,l,xs,acc,h,h0,hc=>by
  rw [b7F,if_neg (by omega)]
  by_cases c:u / 128=0
  ·rw [c,b7F_0,List.cons_append]
   have:=raw_hi (x:=u % 128) (xs:=l++xs) (l:=acc) (v:=0) (beg:=true) (by omega) (fun _=>by omega) (by omega)
   rw [show 128 * 0 + u % 128=u by omega] at this
   exact this
  ·rw [raw_b7F f (u / 128) _ xs acc (by rw [Nat.pow_succ] at h;omega) (by omega) (by omega),List.cons_append]
   have:=raw_hi (x:=u % 128) (xs:=l++xs) (l:=acc) (v:=u / 128) (beg:=false) (by omega) (fun h=>by cases h) (by omega)
   rw [show 128 * (u / 128) + u % 128=u by omega] at this
   exact this
/-- a value's bytes are read as it -/
theorem raw_b7 (v:Nat) (xs acc:List Int) (h:v≤4294967375):rawP (b7 v++xs) acc 0 true=rawP xs (acc++[(v:Int)]) 0 true:=by
 unfold b7
 by_cases c:v / 128=0
 ·rw [c,b7F_0]
  have:=raw_lo (x:=v % 128) (xs:=xs) (l:=acc) (v:=0) (beg:=true) (by omega) (by omega)
  rw [show 128 * 0 + v % 128=v by omega] at this
  exact this
 ·have p9:(128:Nat) ^ 9=9223372036854775808:=by decide
  rw [raw_b7F 9 (v / 128) _ xs acc (by omega) (by omega) (by omega)]
  have:=raw_lo (x:=v % 128) (xs:=xs) (l:=acc) (v:=v / 128) (beg:=false) (by omega) (by omega)
  rw [show 128 * (v / 128) + v % 128=v by omega] at this
  exact this
/-- many values' bytes -/
def b7s:List Nat→List Int
 | []=>[]
 | v :: vs=>b7 v++b7s vs
theorem raw_b7s:∀ (vs:List Nat) (acc:List Int),(∀ v,v∈vs→v≤4294967375)→rawP (b7s vs) acc 0 true=rawP [] (acc++vs.map (fun v:Nat=>(v:Int))) 0 true
 | [],acc,_=>by rw [b7s,List.map_nil,List.append_nil]
 | v :: vs,acc,h=>by
  rw [b7s,raw_b7 v _ acc (h v (List.Mem.head _)),raw_b7s vs _ (fun x hx=>h x (List.Mem.tail _ hx)),List.map_cons,List.append_assoc]
  rfl
theorem b7F_len:∀ (f v:Nat) (l:List Int),(b7F f v l).length≤f + l.length
 | 0,_,_=>by rw [b7F];omega
 | f + 1,v,l=>by
  rw [b7F]
  split
  ·omega
  ·have:=b7F_len f (v / 128) (((128 + v % 128:Nat):Int) :: l)
   rw [List.length_cons] at this
   omega
/-- the values that an identifier is told by -/
def valsO (L:List Int):List Nat:=(L.getD 1 0 + 40 * L.getD 0 0).toNat :: (L.drop 2).map Int.toNat
def oidOf (L:List Int):Except Nat (List Int) :=
 if L.length < 2∨16 < L.length∨2 < L.getD 0 0∨(L.getD 0 0 < 2∧39 < L.getD 1 0) then .error 1
 else if ∃ j,j < L.length∧4294967295 < L.getD j 0 then .error 1
 else .ok (b7s (valsO L))
/-- words of 64 bits -/
def wrd (L:List Int):Prop:=∀ j,0≤L.getD j 0∧L.getD j 0 < 18446744073709551616
theorem b7s_app:∀ (A B:List Nat),b7s (A++B)=b7s A++b7s B
 | [],B=>by rw [b7s];rfl
 | a :: A,B=>by rw [List.cons_append,b7s,b7s,b7s_app A B,List.append_assoc]
theorem b7s_next {vs:List Nat} {k:Nat} (h:k < vs.length):b7s (vs.take (k + 1))=b7s (vs.take k)++b7 (vs.getD k 0):=by
 rw [List.take_add_one,b7s_app]
 congr 1
 rw [List.getElem?_eq_getElem h,List.getD_eq_getElem?_getD,List.getElem?_eq_getElem h]
 simp [b7s]
theorem b7_len (v:Nat):(b7 v).length≤10:=by
 have:=b7F_len 9 (v / 128) [((v % 128:Nat):Int)]
 rw [List.length_singleton] at this
 unfold b7
 omega
theorem b7s_len:∀ vs:List Nat,(b7s vs).length≤10 * vs.length
 | []=>by simp [b7s]
 | v :: vs=>by
  have h1:=b7_len v
  have h2:=b7s_len vs
  rw [b7s,List.length_append,List.length_cons]
  omega
theorem vals_len {L:List Int} (h:2≤L.length):(valsO L).length=L.length - 1:=by
 simp [valsO]
 omega
/-- the value told at the place i of an identifier -/
theorem vals_at {L:List Int} {i:Nat} (h:0 < i) (hi:i < L.length):(valsO L).getD (i - 1) 0=if i=1 then (L.getD 1 0 + 40 * L.getD 0 0).toNat else (L.getD i 0).toNat:=by
 unfold valsO
 by_cases k:i=1
 ·subst k;rfl
 ·rw [if_neg k,show i - 1=(i - 2) + 1 by omega,List.getD_cons_succ,List.getD_eq_getElem?_getD,List.getD_eq_getElem?_getD,List.getElem?_map,List.getElem?_drop,show 2 + (i - 2)=i by omega,List.getElem?_eq_getElem hi]
  rfl
theorem list_two {L:List Int} (h:2≤L.length):L=L.getD 0 0 :: L.getD 1 0 :: L.drop 2:=by
 match L,h with
 | a :: b :: L,_=>rfl
/-- what was written is read as it was -/
theorem oid_back {L B:List Int} (w:wrd L) (h:oidOf L=.ok B):oidP B=.ok L:=by
 unfold oidOf at h
 by_cases c:L.length < 2∨16 < L.length∨2 < L.getD 0 0∨(L.getD 0 0 < 2∧39 < L.getD 1 0)
 ·rw [if_pos c] at h;cases h
 rw [if_neg c] at h
 by_cases d:∃ j,j < L.length∧4294967295 < L.getD j 0
 ·rw [if_pos d] at h;cases h
 rw [if_neg d] at h
 cases h
 have hl:2≤L.length:=by omega
 have w0:=w 0
 have w1:=w 1
 have d0:¬ 4294967295 < L.getD 0 0:=fun k=>d ⟨0,by omega,k⟩
 have d1:¬ 4294967295 < L.getD 1 0:=fun k=>d ⟨1,by omega,k⟩
 have hd:∀ j,j < L.length→¬ 4294967295 < L.getD j 0:=fun j hj k=>d ⟨j,hj,k⟩
 have small:∀ v,v∈valsO L→v≤4294967375:=by
  intro v hv
  unfold valsO at hv
  rcases List.mem_cons.1 hv with e|e
  ·omega
  ·obtain ⟨x,hx,rfl⟩:=List.mem_map.1 e
   obtain ⟨k,hk,e2⟩:=List.mem_iff_getElem.1 hx
   rw [List.getElem_drop] at e2
   have:=hd (2 + k) (by rw [List.length_drop] at hk;omega)
   rw [List.getD_eq_getElem?_getD,List.getElem?_eq_getElem (by rw [List.length_drop] at hk;omega),Option.getD_some,e2] at this
   omega
 have hm:(valsO L).map (fun v:Nat=>(v:Int))=(L.getD 1 0 + 40 * L.getD 0 0) :: L.drop 2:=by
  unfold valsO
  rw [List.map_cons,List.map_map]
  congr 1
  ·omega
  ·apply List.ext_getElem?
   intro j
   rw [List.getElem?_map]
   by_cases hj:j < (L.drop 2).length
   ·have e:=w (2 + j)
    rw [List.getElem?_eq_getElem hj,Option.map_some,Option.some.injEq]
    rw [List.length_drop] at hj
    rw [List.getD_eq_getElem?_getD,List.getElem?_eq_getElem (show 2 + j < L.length by omega),Option.getD_some] at e
    simp only [Function.comp,List.getElem_drop]
    omega
   ·rw [List.getElem?_eq_none (by omega)]
    rfl
 unfold oidP
 rw [raw_b7s _ _ small,hm,List.nil_append,rawP,if_neg (by simp)]
 show oidFin _=_
 unfold oidFin
 have f2:first2 (L.getD 1 0 + 40 * L.getD 0 0)=[L.getD 0 0,L.getD 1 0]:=by
  unfold first2
  by_cases k0:L.getD 0 0=0
  ·rw [if_pos (by omega),k0];congr 2;omega
  ·by_cases k1:L.getD 0 0=1
   ·rw [if_neg (by omega),if_pos (by omega),k1];congr 2;omega
   ·have k2:L.getD 0 0=2:=by omega
    rw [if_neg (by omega),if_neg (by omega),k2];congr 2;omega
 have g0:((L.getD 1 0 + 40 * L.getD 0 0) :: L.drop 2).getD 0 0=L.getD 1 0 + 40 * L.getD 0 0:=rfl
 have dr:((L.getD 1 0 + 40 * L.getD 0 0) :: L.drop 2).drop 1=L.drop 2:=rfl
 have ee:[L.getD 0 0,L.getD 1 0]++L.drop 2=L:=(list_two hl).symm
 rw [g0,dr,f2,ee,if_neg,if_neg (by omega)]
 rintro (k|⟨j,k1,k2,k3⟩)
 ·omega
 ·have ej:j=(j - 1) + 1:=by omega
  rw [ej,List.getD_cons_succ,List.getD_eq_getElem?_getD,List.getElem?_drop,← List.getD_eq_getElem?_getD] at k3
  rw [List.length_cons,List.length_drop] at k1
  exact hd _ (by omega) k3
end Go.Proofs.YtohcdbifhnfcbaaGreatDoor
