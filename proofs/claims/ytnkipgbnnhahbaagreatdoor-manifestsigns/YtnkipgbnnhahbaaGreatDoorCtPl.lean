/- Numbers, bits, texts out of bytes: what is read, or what is amiss. Plain facts. Identifiers out of bytes, and their bytes. Plain facts. Identifiers' bytes, and back. Plain facts. Bytes in rows of one's own. A slice that lies in a block of its own. Elements that are made: what they lean on. -/
import Derived.Test.YtnkipgbnnhahbaaGreatDoorApBs
import Derived.Test.YtnkipgbnnhahbaaGreatDoorNum
import Derived.Test.YtnkipgbnnhahbaaGreatDoorDrDep
import Derived.Test.YtnkipgbnnhahbaaGreatDoorHeld3
import Derived.Test.YtnkipgbnnhahbaaGreatDoorRows
import Derived.Deep.OwnRows
import Derived.Deep.AppendLies
import Derived.Deep.WholeRow
import Derived.Deep.RegionHeld3
import Derived.Deep.DeepCutAuto
import Derived.Deep.DeepFit
import Derived.Great.BuildSlice
import Derived.Laws.Rows
import Derived.BigQuiet
namespace Go.Proofs.YtnkipgbnnhahbaaGreatDoor
open Go.RowKit
/-- bytes without the noughts ahead -/
def lessZ:List Int→List Int
 | []=>[]
 | x :: xs=>if x=0 then lessZ xs else x :: xs
/-- how many noughts are ahead -/
def leadZ:List Int→Nat
 | []=>0
 | x :: xs=>if x=0 then leadZ xs + 1 else 0
theorem leadZ_le:∀ N:List Int,leadZ N≤N.length
 | []=>Nat.le_refl _
 | x :: xs=>by
  rw [leadZ,List.length_cons]
  split
  ·have:=leadZ_le xs;omega
  ·omega
theorem lessZ_drop:∀ N:List Int,lessZ N=N.drop (leadZ N)
 | []=>rfl
 | x :: xs=>by
  rw [lessZ,leadZ]
  split
  ·rw [List.drop_succ_cons];exact lessZ_drop xs
  ·rfl
theorem leadZ_get:∀ (N:List Int) (i:Nat),i < leadZ N→N.getD i 0=0
 | [],i,h=>by simp [leadZ] at h
 | x :: xs,i,h=>by
  rw [leadZ] at h
  split at h
  ·rename_i hx
   cases i with
   | zero=>exact hx
   | succ i=>rw [List.getD_cons_succ];exact leadZ_get xs i (by omega)
  ·omega
theorem leadZ_next:∀ (N:List Int),leadZ N < N.length→¬ N.getD (leadZ N) 0=0
 | [],h=>by simp at h
 | x :: xs,h=>by
  rw [leadZ] at h ⊢
  by_cases hx:x=0
  ·rw [if_pos hx] at h ⊢
   rw [List.getD_cons_succ]
   exact leadZ_next xs (by simpa using h)
  ·rw [if_neg hx,List.getD_cons_zero]
   exact hx
theorem lessZ_head (N:List Int) (h:0 < (lessZ N).length):¬ (lessZ N).getD 0 0=0:=by
 rw [lessZ_drop,List.length_drop] at h
 rw [lessZ_drop,List.getD_eq_getElem?_getD,List.getElem?_drop,Nat.add_zero,← List.getD_eq_getElem?_getD]
 exact leadZ_next N (by omega)
theorem lessZ_self {N:List Int} (h:0 < N.length→¬ N.getD 0 0=0):lessZ N=N:=by
 cases N with
 | nil=>rfl
 | cons x xs=>rw [lessZ,if_neg (show ¬ x=0 from h (by simp))]
theorem byt_dropM {B:List Int} (h:byt B) (r:Nat):byt (B.drop r):=fun j=>by
 rw [List.getD_eq_getElem?_getD,List.getElem?_drop,← List.getD_eq_getElem?_getD]
 exact h _
/-- a number out of its body -/
def numP (B:List Int):Except Nat (List Int) :=
 if B.length=0∨127 < B.getD 0 0∨(1 < B.length∧B.getD 0 0=0∧B.getD 1 0 < 128) then .error 7
 else if 64 < (if B.getD 0 0=0 then B.drop 1 else B).length then .error 2
 else .ok (if B.getD 0 0=0 then B.drop 1 else B)
/-- a number's body -/
def numOf (N:List Int):Except Nat (List Int) :=
 if 64 < (lessZ N).length then .error 2
 else if (lessZ N).length=0∨127 < (lessZ N).getD 0 0 then .ok ((0:Int) :: lessZ N)
 else .ok (lessZ N)
/-- a body that is made is read as that number -/
theorem num_back {N b:List Int} (hb:byt N) (h:numOf N=.ok b):numP b=.ok (lessZ N)∧numOf (lessZ N)=.ok b:=by
 have hl:byt (lessZ N):=by rw [lessZ_drop];exact byt_dropM hb _
 have h0:=lessZ_head N
 have hs:lessZ (lessZ N)=lessZ N:=lessZ_self h0
 have hn:numOf (lessZ N)=numOf N:=by unfold numOf;rw [hs]
 refine ⟨?_,by rw [hn];exact h⟩
 obtain ⟨R,hR⟩:∃ R,lessZ N=R:=⟨_,rfl⟩
 unfold numOf at h
 rw [hR] at h h0 hl ⊢
 by_cases c1:64 < R.length
 ·rw [if_pos c1] at h;cases h
 rw [if_neg c1] at h
 by_cases c2:R.length=0∨127 < R.getD 0 0
 ·rw [if_pos c2] at h
  cases h
  unfold numP
  have e0:((0:Int) :: R).getD 0 0=0:=rfl
  have e1:((0:Int) :: R).getD 1 0=R.getD 0 0:=by rw [List.getD_cons_succ]
  rw [e0,e1,if_neg (by
   rintro (h|h|⟨h1,_,h2⟩)
   ·simp at h
   ·omega
   ·rcases c2 with c2|c2
    ·rw [List.length_cons] at h1;omega
    ·omega),if_pos rfl]
  have e2:((0:Int) :: R).drop 1=R:=rfl
  rw [e2,if_neg c1]
 ·rw [if_neg c2] at h
  cases h
  unfold numP
  have hz:=h0 (by omega)
  rw [if_neg (by
   rintro (h|h|⟨_,h2,_⟩)
   ·omega
   ·omega
   ·exact hz h2),if_neg hz,if_neg c1]
/-- the number that bytes tell, the highest first -/
def beW:List Int→Int→Int
 | [],v=>v
 | x :: xs,v=>beW xs (256 * v + x)
theorem beW_le:∀ (X:List Int) (v:Int),byt X→0≤v→v≤beW X v
 | [],v,_,_=>Int.le_refl _
 | x :: xs,v,hb,hv=>by
  have h0:=hb 0
  rw [List.getD_cons_zero] at h0
  have:=beW_le xs (256 * v + x) (fun j=>by have:=hb (j + 1);rwa [List.getD_cons_succ] at this) (by omega)
  rw [beW]
  omega
/-- a small number out of its body -/
def smallP (B:List Int):Except Nat Int :=
 match numP B with
 | .error c=>.error c
 | .ok n=>if 2147483647 < beW n 0 then .error 3 else .ok (beW n 0)
/-- a text -/
def textP (B:List Int):Except Nat (List Int) :=
 if 64 < B.length then .error 2 else if B.length=0 then .error 7 else if ∃ j,j < B.length∧(B.getD j 0 < 32∨126 < B.getD j 0) then .error 7 else .ok B
/-- bits: those that count, and how many of the last byte's don't -/
def bitsP (B:List Int):Except Nat (List Int × Int) :=
 if B.length=0∨7 < B.getD 0 0∨(B.length=1∧¬ B.getD 0 0=0) then .error 7
 else if B.getD (B.length - 1) 0 % 2 ^ (B.getD 0 0).toNat=0 then .ok (B.drop 1,B.getD 0 0) else .error 7
/-- a value's bytes above the last -/
def b7F:Nat→Nat→List Int→List Int
 | 0,_,l=>l
 | f + 1,v,l=>if v=0 then l else b7F f (v / 128) (((128 + v % 128:Nat):Int) :: l)
def b7 (v:Nat):List Int:=b7F 9 (v / 128) [((v % 128:Nat):Int)]
theorem b7F_0 (f:Nat) (l:List Int):b7F f 0 l=l:=by
 cases f with
 | zero=>rfl
 | succ f=>rw [b7F,if_pos rfl]
/-- many values' bytes -/
def b7s:List Nat→List Int
 | []=>[]
 | v :: vs=>b7 v++b7s vs
theorem b7F_len:∀ (f v:Nat) (l:List Int),(b7F f v l).length≤f + l.length
 | 0,_,_=>by rw [b7F];omega
 | f + 1,v,l=>by
  rw [b7F]
  split
  ·omega
  ·have:=b7F_len f (v / 128) (((128 + v % 128:Nat):Int) :: l)
   rw [List.length_cons] at this
   omega
/-- the values that an identifier is told by -/
def valsO (L:List Int):List Nat:=(L.getD 1 0 + 40 * L.getD 0 0).toNat :: (L.drop 2).map Int.toNat
def oidOf (L:List Int):Except Nat (List Int) :=
 if L.length < 2∨16 < L.length∨2 < L.getD 0 0∨(L.getD 0 0 < 2∧39 < L.getD 1 0) then .error 1
 else if ∃ j,j < L.length∧4294967295 < L.getD j 0 then .error 1
 else .ok (b7s (valsO L))
/-- words of 64 bits -/
def wrd (L:List Int):Prop:=∀ j,0≤L.getD j 0∧L.getD j 0 < 18446744073709551616
theorem b7s_app:∀ (A B:List Nat),b7s (A++B)=b7s A++b7s B
 | [],B=>by rw [b7s];rfl
 | a :: A,B=>by rw [List.cons_append,b7s,b7s,b7s_app A B,List.append_assoc]
theorem b7s_next {vs:List Nat} {k:Nat} (h:k < vs.length):b7s (vs.take (k + 1))=b7s (vs.take k)++b7 (vs.getD k 0):=by
 rw [List.take_add_one,b7s_app]
 congr 1
 rw [List.getElem?_eq_getElem h,List.getD_eq_getElem?_getD,List.getElem?_eq_getElem h]
 simp [b7s]
theorem b7_len (v:Nat):(b7 v).length≤10:=by
 have:=b7F_len 9 (v / 128) [((v % 128:Nat):Int)]
 rw [List.length_singleton] at this
 unfold b7
 omega
theorem b7s_len:∀ vs:List Nat,(b7s vs).length≤10 * vs.length
 | []=>by simp [b7s]
 | v :: vs=>by
  have h1:=b7_len v
  have h2:=b7s_len vs
  rw [b7s,List.length_append,List.length_cons]
  omega
theorem vals_len {L:List Int} (h:2≤L.length):(valsO L).length=L.length - 1:=by
 simp [valsO]
 omega
/-- the value told at the place i of an identifier -/
theorem vals_at {L:List Int} {i:Nat} (h:0 < i) (hi:i < L.length):(valsO L).getD (i - 1) 0=if i=1 then (L.getD 1 0 + 40 * L.getD 0 0).toNat else (L.getD i 0).toNat:=by
 unfold valsO
 by_cases k:i=1
 ·subst k;rfl
 ·rw [if_neg k,show i - 1=(i - 2) + 1 by omega,List.getD_cons_succ,List.getD_eq_getElem?_getD,List.getD_eq_getElem?_getD,List.getElem?_map,List.getElem?_drop,show 2 + (i - 2)=i by omega,List.getElem?_eq_getElem hi]
  rfl
theorem own_laterD {w w':World} {base:Nat} {e:TypeId} {v:Value} {n:Nat} {xs:List Value} (h:w.ownsRow base e 1 v n xs) (hb:Below w.heap.size w w'):w'.ownsRow base e 1 v n xs:=by
 obtain ⟨hl,h⟩:=h
 rcases h with h|⟨g,cap,cur,h1,h2,h3,h4⟩
 ·exact ⟨hl,.inl h⟩
 ·exact ⟨hl,.inr ⟨g,cap,cur,h1,h2,by rw [hb.block g (Array.getElem?_eq_some_iff.1 h3).1];exact h3,h4⟩⟩
theorem own_geD {w:World} {base:Nat} {e:TypeId} {v:Value} {n:Nat} {xs:List Value} {j:Nat} (h:w.ownsRow base e 1 v n xs) (hj:v.ownBlock=some j):base≤j:=by
 rcases h.2 with ⟨h1,_⟩|⟨g,c,cur,h1,h2,_⟩
 ·rw [h1] at hj;simp [Value.ownBlock] at hj
 ·rw [h1] at hj;simp [Value.ownBlock] at hj;omega
theorem own_lowerD {w:World} {base b2:Nat} {e:TypeId} {v:Value} {n:Nat} {xs:List Value} (h:w.ownsRow base e 1 v n xs) (hb:b2≤base):w.ownsRow b2 e 1 v n xs:=by
 obtain ⟨h1,h2⟩:=h
 refine ⟨h1,?_⟩
 rcases h2 with h2|⟨g,cap,cur,a,b,c⟩
 ·exact .inl h2
 ·exact .inr ⟨g,cap,cur,a,Nat.le_trans hb b,c⟩
theorem own_later6 {w:World} {base:Nat} {e:TypeId} {v:Value} {n:Nat} {xs:List Value} {o:Obj} (h:w.ownsRow base e 1 v n xs):(w.alloc o).ownsRow base e 1 v n xs:=own_laterD h ((Below.refl _ _).alloc (Nat.le_refl _) o)
theorem bs_lits (w:World) (X:List Int) (hm:X.length≤maxLen):Bs (w.alloc (.cells (u8s X).toArray 5)) (.slice (some ⟨w.heap.size,0,none⟩) X.length X.length) X:=by
 have B:=Blk.new w (u8s X) 5 w.heap.size rfl
 exact B.bs rfl hm
/-- a new block of bytes as a row of one's own -/
theorem own_lits (w:World) (X:List Int) (n base:Nat) (hn:X.length=n) (hb:base≤w.heap.size) (hm:n≤maxLen):(w.alloc (.cells (u8s X).toArray 5)).ownsRow base 5 1 (.slice (some ⟨w.heap.size,0,none⟩) n n) n (u8s X):=by
 subst hn
 refine ⟨by simp,.inr ⟨w.heap.size,X.length,(u8s X).toArray,rfl,hb,?_,Nat.le_refl _,hm,?_⟩⟩
 ·show (w.heap.push _)[w.heap.size]?=_;simp
 ·simp
  exact List.take_of_length_le (by simp [u8s])
/-- what v holds lies in no block of w -/
def NewV (w:World) (v:Value):Prop:=∀ (a:Addr) (n c:Nat),v=.slice (some a) n c→0 < n→w.heap.size≤a.block
theorem NewV.of_own {w w':World} {e:TypeId} {size:Nat} {v:Value} {n:Nat} {xs:List Value} (h:w'.ownsRow w.heap.size e size v n xs):NewV w v:=fun a m c e _=>by
 rcases h.2 with ⟨h1,_⟩|⟨g,cap,cur,h1,h2,_⟩
 ·rw [h1] at e
  cases e
 ·rw [h1] at e
  simp only [Value.slice.injEq,Option.some.injEq] at e
  rw [← e.1]
  exact h2
theorem NewV.upN {w w':World} {v:Value} (h:NewV w' v) (hs:w.heap.size≤w'.heap.size):NewV w v:=fun a n c e h0=>Nat.le_trans hs (h a n c e h0)
theorem bs_agrC {S:Nat→Prop} {w w':World} {v:Value} {n:List Int} (h:Bs w v n) (hv:∀ a m c,v=.slice (some a) m c→0 < m→S a.block) (ha:Agr S w w'):Bs w' v n:=by
 obtain ⟨ao,cp,e,h1,h2,h3⟩:=h
 refine ⟨ao,cp,e,h1,h2,fun h0=>?_⟩
 obtain ⟨b,o,e2,hb,hc⟩:=h3 h0
 have hs:S b:=hv ⟨b,o,none⟩ _ _ (by rw [e,e2]) h0
 refine ⟨b,o,e2,Nat.lt_of_lt_of_le hb ha.1,fun j hj=>?_⟩
 rw [← hc j hj]
 have:=ha.2 b hs hb
 unfold World.cell?
 simp only [this]
/-- an element without kids whose bytes are new -/
theorem leaf_new {w0 w:World} {v:Value} {b:List Int} (h:Bs w v b) (hn:NewV w0 v) (c t:Int) (m:Bool):Dep (fun g=>w0.heap.size≤g) w (.mk c t m b []) [.int .i64 c,.int .i64 t,.bool m,v,.slice none 0 0]:=fun w' ha=>by
 rw [TlAt]
 exact ⟨v,none,0,rfl,bs_agrC h hn ha,Nat.le_refl _,Nat.zero_le _,fun h=>absurd h (Nat.lt_irrefl 0)⟩
/-- stored into a cell that it does not lean on -/
theorem dep_ret {w:World} {T:Tl} {cs:List Value} {N M g:Nat} {X:Array Value} (h:Dep (fun b=>N≤b) w T cs) (hg:g < N) (hM:M≤N):Dep (fun b=>M≤b) (w.setRow g X) T cs :=
 h.next ((Agr.refl _ _).row (by omega)) (fun b hb _=>Nat.le_trans hM hb)
/-- a new row of elements, as the kids of one -/
theorem list_dep {w:World} {N:Nat} {ks:List Tl} {xs:List Value} (hl:xs.length=ks.length * 5) (hN:N≤w.heap.size) (hm:ks.length≤maxLen) (hk:∀ i k,ks[i]?=some k→Dep (fun b=>N≤b) w k ((xs.drop (5 * i)).take 5)) (c t:Int) (m:Bool) :
  Dep (fun b=>N≤b) (w.alloc (.cells xs.toArray 41)) (.mk c t m [] ks) [.int .i64 c,.int .i64 t,.bool m,.slice none 0 0,.slice (some ⟨w.heap.size,0,none⟩) ks.length ks.length]:=by
 have own:(w.alloc (.cells xs.toArray 41)).ownsRow N 41 5 (.slice (some ⟨w.heap.size,0,none⟩) ks.length ks.length) ks.length xs :=
  ⟨hl,.inr ⟨w.heap.size,ks.length,xs.toArray,rfl,hN,by show (w.heap.push _)[w.heap.size]?=_;simp,Nat.le_refl _,hm,by simpa using hl,by rw [List.take_of_length_le (by simp;omega)]⟩⟩
 refine kids_own own (fun i k hi=>(hk i k hi).next (Agr.below ((Below.refl _ _).alloc (Nat.le_refl _) _)) (fun _ h _=>h)) c t m (fun _ h=>h) (fun g hg=>?_)
 simp only [Value.ownBlock,Option.some.injEq] at hg
 omega
theorem one_kid {P:Tl→List Value→Prop} {T:Tl} {cs:List Value} (h:P T cs) (l:cs.length=5):∀ i k,[T][i]?=some k→P k ((cs.drop (5 * i)).take 5):=fun i k hk=>by
 match i,hk with
 | 0,hk =>
  simp only [List.getElem?_cons_zero,Option.some.injEq] at hk
  subst hk
  rw [Nat.mul_zero,List.drop_zero,List.take_of_length_le (by omega)]
  exact h
 | i + 1,hk=>simp at hk
theorem two_kids {P:Tl→List Value→Prop} {T U:Tl} {cs ds:List Value} (h:P T cs) (k:P U ds) (l:cs.length=5) (m:ds.length=5):∀ i x,[T,U][i]?=some x→P x (((cs++ds).drop (5 * i)).take 5):=fun i x hx=>by
 match i,hx with
 | 0,hx =>
  simp only [List.getElem?_cons_zero,Option.some.injEq] at hx
  subst hx
  rw [Nat.mul_zero,List.drop_zero,List.take_append_of_le_length (by omega),List.take_of_length_le (by omega)]
  exact h
 | 1,hx =>
  simp only [List.getElem?_cons_succ,List.getElem?_cons_zero,Option.some.injEq] at hx
  subst hx
  rw [Nat.mul_one,List.drop_append_of_le_length (by omega),List.drop_of_length_le (by omega),List.nil_append,List.take_of_length_le (by omega)]
  exact k
 | i + 2,hx=>simp at hx
theorem fill_10 {cs ds:List Value} (h:cs.length=5) (k:ds.length=5):Instr.fill (fun i=>some (i * 5,5)) ((Array.range (2 * 5)).map ((Value.agg #[.int .i64 0,.int .i64 0,.bool false,.slice none 0 0,.slice none 0 0]).cells[· % (Value.agg #[.int .i64 0,.int .i64 0,.bool false,.slice none 0 0,.slice none 0 0]).cells.size]!)) [(0,.agg cs.toArray),(1,.agg ds.toArray)]=some (cs++ds).toArray:=by
 obtain ⟨a,b,c,d,e,rfl⟩:=five h
 obtain ⟨a',b',c',d',e',rfl⟩:=five k
 kernel_rfl
theorem wrd_mem {L:List Int} (h:∀ x∈L,0≤x∧x < 18446744073709551616):wrd L:=fun j=>by
 by_cases hj:j < L.length
 ·rw [List.getD_eq_getElem?_getD,List.getElem?_eq_getElem hj]
  exact h _ (List.getElem_mem hj)
 ·rw [List.getD_eq_getElem?_getD,List.getElem?_eq_none (by omega)]
  decide
end Go.Proofs.YtnkipgbnnhahbaaGreatDoor
