/- Bytes in slices: what lies where, and the number that they are. -/
import Derived.Test.YtnkipgbnnhahbaaDoorNum
namespace Go.Proofs.YtnkipgbnnhahbaaDoor
open Go.RowKit
/-- the slice value v, in the world w, holds the bytes bs -/
def Bs (w:World) (v:Value) (bs:List Int):Prop :=
 ∃ ao cap,v=.slice ao bs.length cap∧cap≤maxLen∧bs.length≤cap∧(0 < bs.length→∃ b o,ao=some ⟨b,o,none⟩∧b < w.heap.size∧∀ j,j < bs.length→w.cell? ⟨b,o + j,none⟩=some (.int .u8 (bs.getD j 0)))
def byt (bs:List Int):Prop:=∀ j,0≤bs.getD j 0∧bs.getD j 0 < 256
theorem Bs.later {w w':World} {v:Value} {bs:List Int} (h:Bs w v bs) (hb:Below w.heap.size w w'):Bs w' v bs:=by
 obtain ⟨ao,cap,h1,h2,h3,h4⟩:=h
 refine ⟨ao,cap,h1,h2,h3,fun hp=>?_⟩
 obtain ⟨b,o,e1,e2,e3⟩:=h4 hp
 exact ⟨b,o,e1,Nat.lt_of_lt_of_le e2 hb.size,fun j hj=>(hb.cell e2).trans (e3 j hj)⟩
/-- the number of bytes, the highest first -/
def beN (bs:List Int):Int:=pv 256 bs.reverse
abbrev u8s (A:List Int):List Value:=A.map (Value.int .u8)
theorem u8s_get (A:List Int) (j:Nat) (h:j < A.length):(u8s A)[j]?=some (.int .u8 (A.getD j 0)):=by
 simp [u8s,h]
theorem own_made (w:World) (cs:List Value) (e:TypeId) (n base:Nat) (hl:cs.length=n) (hb:base≤w.heap.size) (hm:n≤maxLen) :
  (w.alloc (.cells cs.toArray e)).ownsRow base e 1 (.slice (some ⟨w.heap.size,0,none⟩) n n) n cs :=
 ⟨by omega,.inr ⟨w.heap.size,n,cs.toArray,rfl,hb,by show (w.heap.push _)[w.heap.size]?=_;simp,Nat.le_refl _,hm,by simp;omega,by rw [List.take_of_length_le (by simp;omega)]⟩⟩
theorem Bs.of_own {w:World} {base:Nat} {e:TypeId} {v:Value} {n:Nat} {D:List Int} (h:w.ownsRow base e 1 v n (u8s D)):Bs w v D:=by
 obtain ⟨hl,h⟩:=h
 have hn:D.length=n:=by simpa using hl
 rcases h with ⟨h1,h2⟩|⟨g,cap,cur,h1,h2,h3,h4,h5,h6,h7⟩
 ·exact ⟨none,0,by rw [h1,hn,h2],Nat.zero_le _,by omega,fun h=>by omega⟩
 ·refine ⟨_,cap,by rw [hn];exact h1,h5,by omega,fun _=>⟨g,0,rfl,(Array.getElem?_eq_some_iff.1 h3).1,fun j hj=>?_⟩⟩
  have e1:(cur.toList.take (n * 1))[j]?=some (.int .u8 (D.getD j 0)):=by rw [h7];exact u8s_get D j hj
  rw [List.getElem?_take,if_pos (by omega)] at e1
  rw [Nat.zero_add]
  simp only [World.cell?,h3,Option.isSome_none,Bool.false_eq_true,if_false]
  simpa using e1
theorem byt_of (A:List Int) (h:∀ j,j < A.length→0≤A.getD j 0∧A.getD j 0 < 256):byt A:=by
 intro j
 by_cases hj:j < A.length
 ·exact h j hj
 ·rw [getD_none A j (by omega)];decide
end Go.Proofs.YtnkipgbnnhahbaaDoor
