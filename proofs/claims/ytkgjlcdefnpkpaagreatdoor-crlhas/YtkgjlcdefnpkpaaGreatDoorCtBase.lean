/- Identifiers out of bytes, and their bytes. Plain facts. Identifiers' bytes, and back. Plain facts. Words of 64 bits in slices; append of any of them, also of none, to a row of one's own. Bytes as text. Names as they lie. Certificates as they lie. -/
import Derived.Test.YtkgjlcdefnpkpaaGreatDoorPmNG
import Derived.Test.YtkgjlcdefnpkpaaGreatDoorApBs
import Derived.Test.YtkgjlcdefnpkpaaGreatDoorEdG
import Derived.Test.YtkgjlcdefnpkpaaGreatDoorRows
import Derived.Laws.BytesArg
import Derived.Deep.OwnRows
import Derived.Laws.StructEq
import Derived.Deep.WholeRow
import Derived.Deep.RegionHeld3
import Derived.Deep.DeepCutAuto
import Derived.Deep.DeepFit
namespace Go.Proofs.YtkgjlcdefnpkpaaGreatDoor
open Go.RowKit
/-- a value's bytes above the last -/
def b7F:Nat→Nat→List Int→List Int
 | 0,_,l=>l
 | f + 1,v,l=>if v=0 then l else b7F f (v / 128) (((128 + v % 128:Nat):Int) :: l)
def b7 (v:Nat):List Int:=b7F 9 (v / 128) [((v % 128:Nat):Int)]
theorem b7F_0 (f:Nat) (l:List Int):b7F f 0 l=l:=by
 cases f with
 | zero=>rfl
 | succ f=>rw [b7F,if_pos rfl]
/-- many values' bytes -/
def b7s:List Nat→List Int
 | []=>[]
 | v :: vs=>b7 v++b7s vs
theorem b7F_len:∀ (f v:Nat) (l:List Int),(b7F f v l).length≤f + l.length
 | 0,_,_=>by rw [b7F];omega
 | f + 1,v,l=>by
  rw [b7F]
  split
  ·omega
  ·have:=b7F_len f (v / 128) (((128 + v % 128:Nat):Int) :: l)
   rw [List.length_cons] at this
   omega
/-- the values that an identifier is told by -/
def valsO (L:List Int):List Nat:=(L.getD 1 0 + 40 * L.getD 0 0).toNat :: (L.drop 2).map Int.toNat
def oidOf (L:List Int):Except Nat (List Int) :=
 if L.length < 2∨16 < L.length∨2 < L.getD 0 0∨(L.getD 0 0 < 2∧39 < L.getD 1 0) then .error 1
 else if ∃ j,j < L.length∧4294967295 < L.getD j 0 then .error 1
 else .ok (b7s (valsO L))
/-- words of 64 bits -/
def wrd (L:List Int):Prop:=∀ j,0≤L.getD j 0∧L.getD j 0 < 18446744073709551616
theorem b7s_app:∀ (A B:List Nat),b7s (A++B)=b7s A++b7s B
 | [],B=>by rw [b7s];rfl
 | a :: A,B=>by rw [List.cons_append,b7s,b7s,b7s_app A B,List.append_assoc]
theorem b7s_next {vs:List Nat} {k:Nat} (h:k < vs.length):b7s (vs.take (k + 1))=b7s (vs.take k)++b7 (vs.getD k 0):=by
 rw [List.take_add_one,b7s_app]
 congr 1
 rw [List.getElem?_eq_getElem h,List.getD_eq_getElem?_getD,List.getElem?_eq_getElem h]
 simp [b7s]
theorem b7_len (v:Nat):(b7 v).length≤10:=by
 have:=b7F_len 9 (v / 128) [((v % 128:Nat):Int)]
 rw [List.length_singleton] at this
 unfold b7
 omega
theorem b7s_len:∀ vs:List Nat,(b7s vs).length≤10 * vs.length
 | []=>by simp [b7s]
 | v :: vs=>by
  have h1:=b7_len v
  have h2:=b7s_len vs
  rw [b7s,List.length_append,List.length_cons]
  omega
theorem vals_len {L:List Int} (h:2≤L.length):(valsO L).length=L.length - 1:=by
 simp [valsO]
 omega
/-- the value told at the place i of an identifier -/
theorem vals_at {L:List Int} {i:Nat} (h:0 < i) (hi:i < L.length):(valsO L).getD (i - 1) 0=if i=1 then (L.getD 1 0 + 40 * L.getD 0 0).toNat else (L.getD i 0).toNat:=by
 unfold valsO
 by_cases k:i=1
 ·subst k;rfl
 ·rw [if_neg k,show i - 1=(i - 2) + 1 by omega,List.getD_cons_succ,List.getD_eq_getElem?_getD,List.getD_eq_getElem?_getD,List.getElem?_map,List.getElem?_drop,show 2 + (i - 2)=i by omega,List.getElem?_eq_getElem hi]
  rfl
/-- the slice value v, in the world w, holds the words L -/
def Us (w:World) (v:Value) (L:List Int):Prop :=
 ∃ ao cap,v=.slice ao L.length cap∧cap≤maxLen∧L.length≤cap∧(0 < L.length→∃ b o,ao=some ⟨b,o,none⟩∧b < w.heap.size∧∀ j,j < L.length→w.cell? ⟨b,o + j,none⟩=some (.int .u64 (L.getD j 0)))
theorem Us.later {w w':World} {v:Value} {L:List Int} (h:Us w v L) (hb:Below w.heap.size w w'):Us w' v L:=by
 obtain ⟨ao,cap,h1,h2,h3,h4⟩:=h
 refine ⟨ao,cap,h1,h2,h3,fun hp=>?_⟩
 obtain ⟨b,o,e1,e2,e3⟩:=h4 hp
 exact ⟨b,o,e1,Nat.lt_of_lt_of_le e2 hb.size,fun j hj=>(hb.cell e2).trans (e3 j hj)⟩
theorem Us.of_own {w:World} {base:Nat} {e:TypeId} {v:Value} {n:Nat} {D:List Int} (h:w.ownsRow base e 1 v n (us D)):Us w v D:=by
 obtain ⟨hl,h⟩:=h
 have hn:D.length=n:=by simpa using hl
 rcases h with ⟨h1,h2⟩|⟨g,cap,cur,h1,h2,h3,h4,h5,h6,h7⟩
 ·exact ⟨none,0,by rw [h1,hn,h2],Nat.zero_le _,by omega,fun h=>by omega⟩
 ·refine ⟨_,cap,by rw [hn];exact h1,h5,by omega,fun _=>⟨g,0,rfl,(Array.getElem?_eq_some_iff.1 h3).1,fun j hj=>?_⟩⟩
  have e1:(cur.toList.take (n * 1))[j]?=some (.int .u64 (D.getD j 0)):=by rw [h7];exact us_get D j hj
  rw [List.getElem?_take,if_pos (by omega)] at e1
  rw [Nat.zero_add]
  simp only [World.cell?,h3,Option.isSome_none,Bool.false_eq_true,if_false]
  simpa using e1
theorem us_blk {w:World} {g q:Nat} {P:List Int} (B:Blk w g (us P)) (l:P.length=q) (h:q≤maxLen):Us w (.slice (some ⟨g,0,none⟩) q q) P :=
 ⟨some ⟨g,0,none⟩,q,by rw [l],h,by omega,fun _=>⟨g,0,rfl,B.lt,fun j hj=>by rw [Nat.zero_add];exact B.cell j _ (us_get P j hj)⟩⟩
theorem conv_s {w:World} {b o n cap:Nat} {bs:List Int} (h:Bs w (.slice (some ⟨b,o,none⟩) n cap) bs) (hn:0 < n):(convert 25 9 (.slice (some ⟨b,o,none⟩) n cap)).run Tryz.prog w=.ok (.string (strOfNums bs)) w:=by
 obtain ⟨ao,c,e,-,-,h4⟩:=h
 simp only [Value.slice.injEq] at e
 obtain ⟨rfl,rfl,rfl⟩:=e
 obtain ⟨b',o',e',-,h6⟩:=h4 hn
 simp only [Option.some.injEq,Addr.mk.injEq] at e'
 obtain ⟨rfl,rfl,-⟩:=e'
 exact run_convert_bytes_arg w 25 5 Tryz.underlying25 Tryz.underlying5 b o bs.length _ bs rfl h6 9 Tryz.underlying9
theorem Bs.form {w:World} {v:Value} {bs:List Int} (h:Bs w v bs) (h0:0 < bs.length):∃ b o cap,v=.slice (some ⟨b,o,none⟩) bs.length cap∧bs.length≤cap∧cap≤maxLen:=by
 obtain ⟨ao,cap,e,h1,h2,h3⟩:=h
 obtain ⟨b,o,rfl,_⟩:=h3 h0
 exact ⟨b,o,cap,e,h2,h1⟩
theorem conv_any {w:World} {v:Value} {bs:List Int} (h:Bs w v bs):(convert 25 9 v).run Tryz.prog w=.ok (.string (strOfNums bs)) w:=by
 by_cases h0:0 < bs.length
 ·obtain ⟨b,o,cap,rfl,_,_⟩:=h.form h0
  exact conv_s h h0
 ·obtain rfl:bs=[]:=List.eq_nil_of_length_eq_zero (by omega)
  obtain ⟨ao,cap,rfl,_,_,_⟩:=h
  cases ao<;>kernel_rfl
/-- a part: its kind, its text's bytes -/
abbrev Pn:=Int × List Int
/-- a name as it lies -/
def NmAt (w:World) (v:Value) (n:List Pn):Prop:=∃ ao cap,v=.slice ao n.length cap∧n.length≤cap∧cap≤maxLen∧(0 < n.length→∃ b o,ao=some ⟨b,o,none⟩∧b < w.heap.size∧∀ i p,n[i]?=some p→w.cell? ⟨b,o + i * 2,none⟩=some (.int .i64 p.1)∧w.cell? ⟨b,o + i * 2 + 1,none⟩=some (.string (strOfNums p.2)))
/-- kinds that are ints, texts that are bytes -/
def WfN (n:List Pn):Prop:=∀ (i:Nat) (p:Pn),n[i]?=some p→(-9223372036854775808≤p.1∧p.1 < 9223372036854775808)∧byt p.2∧p.2.length≤maxLen
theorem NmAt.later {w w':World} {v:Value} {n:List Pn} (h:NmAt w v n) (hb:Below w.heap.size w w'):NmAt w' v n:=by
 obtain ⟨ao,cap,e,h1,h2,h3⟩:=h
 refine ⟨ao,cap,e,h1,h2,fun h0=>?_⟩
 obtain ⟨b,o,e2,hl,hc⟩:=h3 h0
 exact ⟨b,o,e2,Nat.lt_of_lt_of_le hl hb.size,fun i p hp=>⟨(hb.cell (p:=⟨b,o + i * 2,none⟩) hl).trans (hc i p hp).1,(hb.cell (p:=⟨b,o + i * 2 + 1,none⟩) hl).trans (hc i p hp).2⟩⟩
theorem NmAt.nil0 (w:World):NmAt w (.slice none 0 0) []:=⟨_,_,rfl,Nat.le_refl _,by decide,fun h=>absurd h (by decide)⟩
/-- a slice of slices: each of its values is what P says -/
def SlAt {α:Type} (P:World→Value→α→Prop) (w:World) (v:Value) (L:List α):Prop:=∃ ao cap,v=.slice ao L.length cap∧L.length≤cap∧cap≤maxLen∧(0 < L.length→∃ b o,ao=some ⟨b,o,none⟩∧b < w.heap.size∧∀ i x,L[i]?=some x→∃ u,w.cell? ⟨b,o + i,none⟩=some u∧P w u x)
theorem SlAt.later {α:Type} {P:World→Value→α→Prop} (hP:∀ {w w':World} {u:Value} {x:α},P w u x→Below w.heap.size w w'→P w' u x) {w w':World} {v:Value} {L:List α} (h:SlAt P w v L) (hb:Below w.heap.size w w'):SlAt P w' v L:=by
 obtain ⟨ao,cap,e,h1,h2,h3⟩:=h
 refine ⟨ao,cap,e,h1,h2,fun h0=>?_⟩
 obtain ⟨b,o,e2,hl,hc⟩:=h3 h0
 refine ⟨b,o,e2,Nat.lt_of_lt_of_le hl hb.size,fun i x hx=>?_⟩
 obtain ⟨u,k1,k2⟩:=hc i x hx
 exact ⟨u,(hb.cell (p:=⟨b,o + i,none⟩) hl).trans k1,hP k2 hb⟩
theorem SlAt.nil0 {α:Type} {P:World→Value→α→Prop} (w:World):SlAt P w (.slice none 0 0) []:=⟨none,0,rfl,Nat.zero_le _,Nat.zero_le _,fun h=>absurd h (Nat.lt_irrefl 0)⟩
/-- lists of identifiers, of names -/
def OdsAt (w:World) (v:Value) (L:List (List Int)):Prop:=SlAt Us w v L
def NmsAt (w:World) (v:Value) (L:List (List Pn)):Prop:=SlAt NmAt w v L
theorem OdsAt.later {w w':World} {v:Value} {L:List (List Int)} (h:OdsAt w v L) (hb:Below w.heap.size w w'):OdsAt w' v L:=SlAt.later (P:=Us) (fun h hb=>Us.later h hb) h hb
theorem NmsAt.later {w w':World} {v:Value} {L:List (List Pn)} (h:NmsAt w v L) (hb:Below w.heap.size w w'):NmsAt w' v L:=SlAt.later (P:=NmAt) (fun h hb=>NmAt.later h hb) h hb
/-- a certificate -/
structure Ct where
 serial:List Int
 issuer:List Pn
 subject:List Pn
 frm:Int
 til:Int
 kx:Int
 ky:Int
 kn:Bool
 ca:Bool
 path:Int
 usage:Int
 uses:List (List Int)
 permit:List (List Pn)
 exclude:List (List Pn)
 odd:Bool
 body:List Int
 sr:Int
 ss:Int
/-- its 38 cells -/
def ctRow (sv iv jv:Value) (frm til:Int) (xs ys:List Value) (kn ca:Bool) (path usage:Int) (uv pv ev:Value) (odd:Bool) (bv:Value) (rs zs:List Value):List Value :=
 [sv,iv,jv,.int .i64 frm,.int .i64 til]++(xs++ys++[.bool kn])++[.bool ca,.int .i64 path,.int .i64 usage,uv,pv,ev,.bool odd,bv]++(rs++zs)
/-- a certificate as it lies -/
def CtAt (w:World) (c:Ct) (cs:List Value):Prop:=∃ sv iv jv xs ys uv pv ev bv rs zs,cs=ctRow sv iv jv c.frm c.til xs ys c.kn c.ca c.path c.usage uv pv ev c.odd bv rs zs∧Bs w sv c.serial∧NmAt w iv c.issuer∧NmAt w jv c.subject∧U6 xs c.kx∧U6 ys c.ky∧OdsAt w uv c.uses∧NmsAt w pv c.permit∧NmsAt w ev c.exclude∧Bs w bv c.body∧U6 rs c.sr∧U6 zs c.ss
theorem CtAt.later {w w':World} {c:Ct} {cs:List Value} (h:CtAt w c cs) (hb:Below w.heap.size w w'):CtAt w' c cs:=by
 obtain ⟨sv,iv,jv,xs,ys,uv,pv,ev,bv,rs,zs,e,h1,h2,h3,h4,h5,h6,h7,h8,h9,h10,h11⟩:=h
 exact ⟨sv,iv,jv,xs,ys,uv,pv,ev,bv,rs,zs,e,h1.later hb,h2.later hb,h3.later hb,h4,h5,h6.later hb,h7.later hb,h8.later hb,h9.later hb,h10,h11⟩
theorem CtAt.len {w:World} {c:Ct} {cs:List Value} (h:CtAt w c cs):cs.length=38:=by
 obtain ⟨sv,iv,jv,xs,ys,uv,pv,ev,bv,rs,zs,rfl,-,-,-,h4,h5,-,-,-,-,h10,h11⟩:=h
 simp [ctRow,h4.len,h5.len,h10.len,h11.len]
end Go.Proofs.YtkgjlcdefnpkpaaGreatDoor
