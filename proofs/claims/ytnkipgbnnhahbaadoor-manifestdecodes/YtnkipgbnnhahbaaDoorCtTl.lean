/- What the program's own reckoning of lengths and depths comes to. Plain facts. Errors of Parse as they lie. Elements of several, and what der.Write answers, shortly. The law's told. -/
import Derived.Test.YtnkipgbnnhahbaaDoorDrPar
import Derived.Test.YtnkipgbnnhahbaaDoorDrDep
import Derived.Test.YtnkipgbnnhahbaaDoorNlSet
import Derived.Test.YtnkipgbnnhahbaaDoorNmBase
import Derived.Test.YtnkipgbnnhahbaaDoorCtBase
import Derived.Test.YtnkipgbnnhahbaaDoorPmNum
import Derived.Test.YtnkipgbnnhahbaaDoorPrOidOf
import Derived.Test.YtnkipgbnnhahbaaDoorPut
import Derived.Test.YtnkipgbnnhahbaaDoorByt
import Derived.Test.YtnkipgbnnhahbaaDoorCPt
import Derived.Test.YtnkipgbnnhahbaaDoorRwT
import Derived.Test.YtnkipgbnnhahbaaDoorErLaw
import Derived.Test.YtnkipgbnnhahbaaDoorDrParse
import Derived.Test.YtnkipgbnnhahbaaDoorRows
import Derived.Deep.WholeRow
import Derived.Deep.RegionHeld3
import Derived.Deep.DeepCutAuto
import Derived.Deep.DeepFit
import Derived.Deep.OwnRows
import Derived.Deep.AppendLies
import Derived.ChangeArms
import Derived.ChangeOld
import Derived.Lib.ConvBytes
import Derived.Laws.AppendOwn
import Derived.Great.BuildSlice
import Derived.Laws.Rows
import Derived.BigQuiet
namespace Go.Proofs.YtnkipgbnnhahbaaDoor
open Go.RowKit
mutual
/-- every body in it is one that a machine bears -/
def SmT:Tl→Prop
 | .mk _ _ _ b ks=>b.length≤140737488355328∧SmL ks
def SmL:List Tl→Prop
 | []=>True
 | k :: ks=>SmT k∧SmL ks
end
theorem SmL.get:∀ {ks:List Tl} {i:Nat} {k:Tl},SmL ks→ks[i]?=some k→SmT k
 | [],i,k,_,h=>by simp at h
 | x :: xs,0,k,h,e=>by
  rw [SmL] at h
  simp at e
  subst e
  exact h.1
 | x :: xs,i + 1,k,h,e=>by
  rw [SmL] at h
  rw [List.getElem?_cons_succ] at e
  exact SmL.get h.2 e
/-- how many bytes of its own a length has, as the program tells it -/
def LongOk (n l:Nat):Prop:=l≤8∧(n < 128→l=0)∧(128≤n→n < 256→l=1)∧(256≤n→n < 65536→l=2)∧(65536≤n→n < 16777216→l=3)
theorem LongOk.len {n l:Nat} (h:LongOk n l) (hn:n < 16777216):(lenB n).length=1 + l:=by
 obtain ⟨_,h0,h1,h2,h3⟩:=h
 unfold lenB
 split
 ·rw [h0 (by assumption)];rfl
 ·split
  ·rw [h1 (by omega) (by assumption)];rfl
  ·split
   ·rw [h2 (by omega) (by assumption)];rfl
   ·rw [h3 (by omega) hn];rfl
/-- how many bytes an element has, as the program tells it: exactly, as far as it may have so many -/
def SizeOk (T:Tl) (n:Nat):Prop:=((bytesT T).length≤1048576→n=(bytesT T).length)∧(1048576 < (bytesT T).length→1048576 < n)∧n≤depT T * 281474976710656
theorem SizeOk.next {b:List Int} {ks:List Tl} {i x y:Nat} {k:Tl} (hk:ks[i]?=some k) (hx:x=b.length + (bytesL (ks.take i)).length) (hy:SizeOk k y) (h:¬ 1048576 < x + y):x + y=b.length + (bytesL (ks.take (i + 1))).length:=by
 rw [bytesL_next hk,List.length_append]
 obtain ⟨h1,h2,_⟩:=hy
 by_cases c:1048576 < (bytesT k).length
 ·have:=h2 c
  omega
 ·have:=h1 (by omega)
  omega
/-- an error of Parse as it lies: itself, or as a Spot -/
def ErAt (w:World) (c p:Nat) (er:Value):Prop:=(c=2∧er=.iface 39 (.int .i64 2))∨(¬ c=2∧∃ g,er=.iface 66 (.pointer (some ⟨g,0,none⟩))∧Blk w g [.int .i64 (p:Int),.iface 39 (.int .i64 (c:Int))])
/-- a Spot's block is new -/
def ErFresh (n:Nat) (er:Value):Prop:=∀ g,er=.iface 66 (.pointer (some ⟨g,0,none⟩))→n≤g
theorem ErAt.later {w w':World} {c p:Nat} {er:Value} (h:ErAt w c p er) (hb:Below w.heap.size w w'):ErAt w' c p er:=by
 rcases h with h|⟨h1,g,h2,h3⟩
 ·exact .inl h
 ·exact .inr ⟨h1,g,h2,h3.later hb⟩
/-- bytes in a block that was not there before -/
def FreshD (w w':World) (v:Value) (X:List Int):Prop:=∃ g o cap cur,v=.slice (some ⟨g,o,none⟩) X.length cap∧X.length≤cap∧cap≤maxLen∧w.heap.size≤g∧Blk w' g cur∧∀ j,j < X.length→cur[o + j]?=some (.int .u8 (X.getD j 0))
theorem FreshD.bs {w w':World} {v:Value} {X:List Int} (h:FreshD w w' v X):Bs w' v X:=by
 obtain ⟨g,o,cap,cur,rfl,h1,h2,h3,h4,h5⟩:=h
 exact ⟨_,cap,rfl,h2,h1,fun _=>⟨g,o,rfl,h4.lt,fun j hj=>h4.cell _ _ (h5 j hj)⟩⟩
/-- an element without anything in it -/
def nilT:Tl:=.mk 0 0 false [] []
theorem nilT_at (w:World):TlAt w nilT [.int .i64 0,.int .i64 0,.bool false,.slice none 0 0,.slice none 0 0]:=by
 unfold nilT
 rw [TlAt]
 exact ⟨.slice none 0 0,none,0,rfl,⟨none,0,rfl,by decide,by decide,fun h=>by simp at h⟩,by simp,by decide,fun h=>by simp at h⟩
/-- an error of this number, or none -/
def erN (n:Nat):Value:=if n=0 then .nilIface else .iface 39 (.int .i64 (n:Int))
theorem erN_0:erN 0=.nilIface:=rfl
theorem erN_s {n:Nat} (h:¬ n=0):erN n=.iface 39 (.int .i64 (n:Int)):=if_neg h
set_option linter.unusedSimpArgs false in
set_option maxRecDepth 100000 in
set_option maxHeartbeats 400000 in
theorem con_toldN {n:Nat} {w:World} (h:n≤21):Calls Tryd.prog 7 #[erN n,.int .i64 (n:Int),.int .i64 (-1)] w fun e w'=>e=.returned (.bool true)∧Below w.heap.size w w':=by
 by_cases c:n=0
 ·subst c
  rw [erN_0]
  go_enter Tryd.func7,Tryd.ntmps7
  go_wp2_with fail
  refine con_CodeNil.mono ?_
  rintro e w' ⟨rfl,rfl⟩
  go_wp2_with fail
  go_ret
  exact ⟨rfl,Below.refl _ _⟩
 ·rw [erN_s c]
  go_enter Tryd.func7,Tryd.ntmps7
  go_wp2_with fail
  refine (con_CodeOf (by omega) h).mono ?_
  rintro e w' ⟨rfl,rfl⟩
  have d:((n:Int) == (n:Int))=true:=beq_self_eq_true _
  go_wp2_with fail
  go_ret
  exact ⟨rfl,Below.refl _ _⟩
set_option linter.unusedSimpArgs false in
set_option maxRecDepth 100000 in
set_option maxHeartbeats 400000 in
theorem con_toldE {c p:Nat} {er:Value} {w:World} (G:GlsE w) (h:ErAt w c p er) (h1:1≤c) (h2:c≤21):Calls Tryd.prog 7 #[er,.int .i64 (c:Int),.int .i64 (atP c p)] w fun e w'=>e=.returned (.bool true)∧Below w.heap.size w w':=by
 unfold atP
 rcases h with ⟨rfl,rfl⟩|⟨hc,g,rfl,B⟩
 ·rw [if_pos rfl]
  have k:=con_toldN (n:=2) (w:=w) (by omega)
  rw [erN_s (by omega)] at k
  exact k
 ·rw [if_neg hc]
  have HB:Hid (Blk w g [.int .i64 (p:Int),.iface 39 (.int .i64 (c:Int))]):=B
  have HG:Hid (GlsE w):=G
  clear B G
  have g1:¬ (p:Int) < 0:=by omega
  go_enter Tryd.func7,Tryd.ntmps7
  go_wp2_with fail
  refine (con_IsSpot HG.out HB.out).mono ?_
  rintro e w' ⟨rfl,hb⟩
  rw [show (decide ((c:Int)=(c:Int)) && decide ((p:Int)=(p:Int)))=true by simp]
  go_wp2_with fail
  go_ret
  exact ⟨rfl,hb⟩
end Go.Proofs.YtnkipgbnnhahbaaDoor
