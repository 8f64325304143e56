/- Words of 64 bits in slices; append of any of them, also of none, to a row of one's own. Numbers of six limbs as rows of cells. Identifiers out of bytes, and their bytes. Plain facts. Identifiers' bytes, and back. Plain facts. No place of the curve has y = 0: the curve's cubic has no root by the prime. Plain facts on numbers. Certificates as they lie. -/
import Derived.Test.YtnkipgbnnhahbaaDoorApBs
import Derived.Test.YtnkipgbnnhahbaaDoorBase
import Derived.Test.YtnkipgbnnhahbaaDoorCPt
import Derived.Test.YtnkipgbnnhahbaaDoorPmNum
import Derived.Test.YtnkipgbnnhahbaaDoorNmBase
import Derived.Test.YtnkipgbnnhahbaaDoorRows
import Derived.ChangeKeysEq
namespace Go.Proofs.YtnkipgbnnhahbaaDoor
open Go.RowKit
/-- the slice value v, in the world w, holds the words L -/
def Us (w:World) (v:Value) (L:List Int):Prop :=
 ∃ ao cap,v=.slice ao L.length cap∧cap≤maxLen∧L.length≤cap∧(0 < L.length→∃ b o,ao=some ⟨b,o,none⟩∧b < w.heap.size∧∀ j,j < L.length→w.cell? ⟨b,o + j,none⟩=some (.int .u64 (L.getD j 0)))
theorem Us.later {w w':World} {v:Value} {L:List Int} (h:Us w v L) (hb:Below w.heap.size w w'):Us w' v L:=by
 obtain ⟨ao,cap,h1,h2,h3,h4⟩:=h
 refine ⟨ao,cap,h1,h2,h3,fun hp=>?_⟩
 obtain ⟨b,o,e1,e2,e3⟩:=h4 hp
 exact ⟨b,o,e1,Nat.lt_of_lt_of_le e2 hb.size,fun j hj=>(hb.cell e2).trans (e3 j hj)⟩
theorem Us.of_own {w:World} {base:Nat} {e:TypeId} {v:Value} {n:Nat} {D:List Int} (h:w.ownsRow base e 1 v n (us D)):Us w v D:=by
 obtain ⟨hl,h⟩:=h
 have hn:D.length=n:=by simpa using hl
 rcases h with ⟨h1,h2⟩|⟨g,cap,cur,h1,h2,h3,h4,h5,h6,h7⟩
 ·exact ⟨none,0,by rw [h1,hn,h2],Nat.zero_le _,by omega,fun h=>by omega⟩
 ·refine ⟨_,cap,by rw [hn];exact h1,h5,by omega,fun _=>⟨g,0,rfl,(Array.getElem?_eq_some_iff.1 h3).1,fun j hj=>?_⟩⟩
  have e1:(cur.toList.take (n * 1))[j]?=some (.int .u64 (D.getD j 0)):=by rw [h7];exact us_get D j hj
  rw [List.getElem?_take,if_pos (by omega)] at e1
  rw [Nat.zero_add]
  simp only [World.cell?,h3,Option.isSome_none,Bool.false_eq_true,if_false]
  simpa using e1
/-- each of them is one cell -/
def OneR (cs:List Value):Prop:=cs.toArray.all (·.oneCell')=true
/-- a number of six limbs, as a row of cells -/
def U6 (cs:List Value) (x:Int):Prop:=∃ z0 z1 z2 z3 z4 z5:Int,cs=[.int .u64 z0,.int .u64 z1,.int .u64 z2,.int .u64 z3,.int .u64 z4,.int .u64 z5]∧fits [z0,z1,z2,z3,z4,z5]∧v64 [z0,z1,z2,z3,z4,z5]=x
theorem U6.mk {z0 z1 z2 z3 z4 z5:Int} (h:fits [z0,z1,z2,z3,z4,z5]):U6 [.int .u64 z0,.int .u64 z1,.int .u64 z2,.int .u64 z3,.int .u64 z4,.int .u64 z5] (v64 [z0,z1,z2,z3,z4,z5]):=⟨z0,z1,z2,z3,z4,z5,rfl,h,rfl⟩
theorem U6.len {cs:List Value} {x:Int} (h:U6 cs x):cs.length=6:=by
 obtain ⟨z0,z1,z2,z3,z4,z5,rfl,_⟩:=h
 rfl
theorem U6.ones {cs:List Value} {x:Int} (h:U6 cs x):OneR cs:=by
 obtain ⟨z0,z1,z2,z3,z4,z5,rfl,_⟩:=h
 simp [OneR,Value.oneCell']
theorem U6.zero:U6 [.int .u64 0,.int .u64 0,.int .u64 0,.int .u64 0,.int .u64 0,.int .u64 0] 0:=⟨0,0,0,0,0,0,rfl,fits6 (by decide),by decide⟩
theorem U6.one:U6 [.int .u64 1,.int .u64 0,.int .u64 0,.int .u64 0,.int .u64 0,.int .u64 0] 1:=⟨1,0,0,0,0,0,rfl,fits6 (by decide),by decide⟩
/-- a value's bytes above the last -/
def b7F:Nat→Nat→List Int→List Int
 | 0,_,l=>l
 | f + 1,v,l=>if v=0 then l else b7F f (v / 128) (((128 + v % 128:Nat):Int) :: l)
def b7 (v:Nat):List Int:=b7F 9 (v / 128) [((v % 128:Nat):Int)]
/-- many values' bytes -/
def b7s:List Nat→List Int
 | []=>[]
 | v :: vs=>b7 v++b7s vs
/-- the values that an identifier is told by -/
def valsO (L:List Int):List Nat:=(L.getD 1 0 + 40 * L.getD 0 0).toNat :: (L.drop 2).map Int.toNat
def oidOf (L:List Int):Except Nat (List Int) :=
 if L.length < 2∨16 < L.length∨2 < L.getD 0 0∨(L.getD 0 0 < 2∧39 < L.getD 1 0) then .error 1
 else if ∃ j,j < L.length∧4294967295 < L.getD j 0 then .error 1
 else .ok (b7s (valsO L))
/-- c0 + c1 x + c2 x^2 -/
abbrev Tri:=Int × Int × Int
def ev (r:Int) (a:Tri):Int:=a.1 + a.2.1 * r + a.2.2 * (r * r)
/-- a slice of slices: each of its values is what P says -/
def SlAt {α:Type} (P:World→Value→α→Prop) (w:World) (v:Value) (L:List α):Prop:=∃ ao cap,v=.slice ao L.length cap∧L.length≤cap∧cap≤maxLen∧(0 < L.length→∃ b o,ao=some ⟨b,o,none⟩∧b < w.heap.size∧∀ i x,L[i]?=some x→∃ u,w.cell? ⟨b,o + i,none⟩=some u∧P w u x)
theorem SlAt.later {α:Type} {P:World→Value→α→Prop} (hP:∀ {w w':World} {u:Value} {x:α},P w u x→Below w.heap.size w w'→P w' u x) {w w':World} {v:Value} {L:List α} (h:SlAt P w v L) (hb:Below w.heap.size w w'):SlAt P w' v L:=by
 obtain ⟨ao,cap,e,h1,h2,h3⟩:=h
 refine ⟨ao,cap,e,h1,h2,fun h0=>?_⟩
 obtain ⟨b,o,e2,hl,hc⟩:=h3 h0
 refine ⟨b,o,e2,Nat.lt_of_lt_of_le hl hb.size,fun i x hx=>?_⟩
 obtain ⟨u,k1,k2⟩:=hc i x hx
 exact ⟨u,(hb.cell (p:=⟨b,o + i,none⟩) hl).trans k1,hP k2 hb⟩
/-- lists of identifiers, of names -/
def OdsAt (w:World) (v:Value) (L:List (List Int)):Prop:=SlAt Us w v L
def NmsAt (w:World) (v:Value) (L:List (List Pn)):Prop:=SlAt NmAt w v L
theorem OdsAt.later {w w':World} {v:Value} {L:List (List Int)} (h:OdsAt w v L) (hb:Below w.heap.size w w'):OdsAt w' v L:=SlAt.later (P:=Us) (fun h hb=>Us.later h hb) h hb
theorem NmsAt.later {w w':World} {v:Value} {L:List (List Pn)} (h:NmsAt w v L) (hb:Below w.heap.size w w'):NmsAt w' v L:=SlAt.later (P:=NmAt) (fun h hb=>NmAt.later h hb) h hb
/-- a certificate -/
structure Ct where
 serial:List Int
 issuer:List Pn
 subject:List Pn
 frm:Int
 til:Int
 kx:Int
 ky:Int
 kn:Bool
 ca:Bool
 path:Int
 usage:Int
 uses:List (List Int)
 permit:List (List Pn)
 exclude:List (List Pn)
 odd:Bool
 body:List Int
 sr:Int
 ss:Int
/-- its 38 cells -/
def ctRow (sv iv jv:Value) (frm til:Int) (xs ys:List Value) (kn ca:Bool) (path usage:Int) (uv pv ev:Value) (odd:Bool) (bv:Value) (rs zs:List Value):List Value :=
 [sv,iv,jv,.int .i64 frm,.int .i64 til]++(xs++ys++[.bool kn])++[.bool ca,.int .i64 path,.int .i64 usage,uv,pv,ev,.bool odd,bv]++(rs++zs)
/-- a certificate as it lies -/
def CtAt (w:World) (c:Ct) (cs:List Value):Prop:=∃ sv iv jv xs ys uv pv ev bv rs zs,cs=ctRow sv iv jv c.frm c.til xs ys c.kn c.ca c.path c.usage uv pv ev c.odd bv rs zs∧Bs w sv c.serial∧NmAt w iv c.issuer∧NmAt w jv c.subject∧U6 xs c.kx∧U6 ys c.ky∧OdsAt w uv c.uses∧NmsAt w pv c.permit∧NmsAt w ev c.exclude∧Bs w bv c.body∧U6 rs c.sr∧U6 zs c.ss
theorem CtAt.later {w w':World} {c:Ct} {cs:List Value} (h:CtAt w c cs) (hb:Below w.heap.size w w'):CtAt w' c cs:=by
 obtain ⟨sv,iv,jv,xs,ys,uv,pv,ev,bv,rs,zs,e,h1,h2,h3,h4,h5,h6,h7,h8,h9,h10,h11⟩:=h
 exact ⟨sv,iv,jv,xs,ys,uv,pv,ev,bv,rs,zs,e,h1.later hb,h2.later hb,h3.later hb,h4,h5,h6.later hb,h7.later hb,h8.later hb,h9.later hb,h10,h11⟩
theorem CtAt.len {w:World} {c:Ct} {cs:List Value} (h:CtAt w c cs):cs.length=38:=by
 obtain ⟨sv,iv,jv,xs,ys,uv,pv,ev,bv,rs,zs,rfl,-,-,-,h4,h5,-,-,-,-,h10,h11⟩:=h
 simp [ctRow,h4.len,h5.len,h10.len,h11.len]
end Go.Proofs.YtnkipgbnnhahbaaDoor
