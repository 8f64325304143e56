/- What is amiss with an element that is to be written. Names and their elements. The kinds that there are, and their identifiers: what the program answers. A part's element: what the program answers. Names, part by part. A name's element: what the program answers. Certificates and their elements, as functions. What each part of a body is, or none. -/
import Derived.Test.YtnkipgbnnhahbaaDrPar
import Derived.Test.YtnkipgbnnhahbaaCtBase
import Derived.Test.YtnkipgbnnhahbaaDrTree
import Derived.Test.YtnkipgbnnhahbaaDrDep
import Derived.Test.YtnkipgbnnhahbaaPmNum
import Derived.Test.YtnkipgbnnhahbaaRwT
import Derived.Test.YtnkipgbnnhahbaaPrOidOf
import Derived.Test.YtnkipgbnnhahbaaCPt
import Derived.Test.YtnkipgbnnhahbaaApBs
import Derived.Test.YtnkipgbnnhahbaaRows
import Derived.Deep.WholeRow
import Derived.Deep.RegionHeld3
import Derived.Deep.DeepCutAuto
import Derived.Deep.DeepFit
import Derived.Deep.OwnRows
import Derived.Deep.AppendLies
import Derived.Great.BuildSlice
import Derived.Laws.Rows
import Derived.BigQuiet
import Derived.ChangeArms
import Derived.ChangeOld
import Derived.Lib.ConvBytes
import Derived.Laws.AppendOwn
namespace Go.Proofs.Ytnkipgbnnhahbaa
open Go.RowKit
/-- what is amiss with an element that is to be written; none: 0 -/
noncomputable def wrN (T:Tl):Nat:=if fineT T=true then (if 16 < depT T then 9 else if 1048576 < (bytesT T).length then 2 else 0) else 1
/-- kinds of parts -/
def kindN (k:Int):Bool:=decide (k=3) || decide (k=6) || decide (k=10) || decide (k=11)
/-- may it be a part? -/
def partN (p:Pn):Bool:=kindN p.1 && (match textP p.2 with|.ok _=>true|.error _=>false)
/-- is it a name? -/
def mayN (n:List Pn):Bool:=decide (n.length≤8) && n.all partN
/-- a part's element, a name's -/
def setN (p:Pn):Tl:=.mk 0 17 true [] [.mk 0 16 true [] [.mk 0 6 false [85,4,p.1] [],.mk 0 12 false p.2 []]]
/-- what Element tells: the kids lie in a row of its own, which may be written -/
def ElemR (w:World) (n:List Pn) (e:Ending) (w':World):Prop :=
 (mayN n=false→e=.returned (.tuple #[.agg #[.int .i64 0,.int .i64 0,.bool false,.slice none 0 0,.slice none 0 0],.iface 38 (.int .i64 1)])∧Below w.heap.size w w') ∧
 (mayN n=true→∃ (kv:Value) (xs:List Value),e=.returned (.tuple #[.agg #[.int .i64 0,.int .i64 16,.bool true,.slice none 0 0,kv],.nilIface])∧w'.ownsRow w.heap.size 42 5 kv n.length xs∧(∀ (i:Nat) (t:Tl),(n.map setN)[i]?=some t→Dep (fun b=>w.heap.size≤b∧kv.ownBlock≠some b) w' t ((xs.drop (5 * i)).take 5))∧Below w.heap.size w w')
theorem ne_codeL (c:Int):∀ w:World,(binOp .neq 27 (.iface 38 (.int .i64 c)) .nilIface).run Try.prog w=.ok (.bool true) w:=fun _=>by kernel_rfl
theorem ne_nilL:∀ w:World,(binOp .neq 27 .nilIface .nilIface).run Try.prog w=.ok (.bool false) w:=fun _=>by kernel_rfl
/-- what setOf tells -/
def SetR (w:World) (p:Pn) (e:Ending) (w':World):Prop:=Below w.heap.size w w'∧(partN p=false→e=.returned (.tuple #[.agg #[.int .i64 0,.int .i64 0,.bool false,.slice none 0 0,.slice none 0 0],.iface 38 (.int .i64 1)]))∧(partN p=true→∃ cs:List Value,e=.returned (.tuple #[.agg cs.toArray,.nilIface])∧Dep (fun b=>w.heap.size≤b) w' (setN p) cs)
theorem SetR.bad {w w':World} {p:Pn} (h:partN p=false) (hb:Below w.heap.size w w'):SetR w p (.returned (.tuple #[.agg #[.int .i64 0,.int .i64 0,.bool false,.slice none 0 0,.slice none 0 0],.iface 38 (.int .i64 1)])) w':=⟨hb,fun _=>rfl,fun k=>(by rw [h] at k;cases k)⟩
theorem SetR.ok {w w':World} {p:Pn} {cs:List Value} (h:partN p=true) (hd:Dep (fun b=>w.heap.size≤b) w' (setN p) cs) (hb:Below w.heap.size w w'):SetR w p (.returned (.tuple #[.agg cs.toArray,.nilIface])) w':=⟨hb,fun k=>(by rw [h] at k;cases k),fun _=>⟨cs,rfl,hd⟩⟩
theorem take_one {n m:List Pn} {i:Nat} {p q:Pn} (h:n.take i=m.take i) (hp:n[i]?=some p) (hq:m[i]?=some q):n.take (i + 1)=m.take (i + 1)↔p=q:=by
 rw [List.take_add_one,List.take_add_one,hp,hq,h]
 constructor
 ·intro e
  have:=List.append_cancel_left e
  simpa using this
 ·rintro rfl
  rfl
theorem ElemR.bad {w w':World} {n:List Pn} (h:mayN n=false) (hb:Below w.heap.size w w'):ElemR w n (.returned (.tuple #[.agg #[.int .i64 0,.int .i64 0,.bool false,.slice none 0 0,.slice none 0 0],.iface 38 (.int .i64 1)])) w':=⟨fun _=>⟨rfl,hb⟩,fun k=>(by rw [h] at k;cases k)⟩
theorem ElemR.ok {w w':World} {n:List Pn} {kv:Value} (h:mayN n=true) (hr:RwT w' w.heap.size kv (n.map setN)) (hb:Below w.heap.size w w'):ElemR w n (.returned (.tuple #[.agg #[.int .i64 0,.int .i64 16,.bool true,.slice none 0 0,kv],.nilIface])) w':=by
 obtain ⟨xs,h1,h2⟩:=hr
 rw [List.length_map] at h1
 exact ⟨fun k=>(by rw [h] at k;cases k),fun _=>⟨kv,xs,rfl,h1,h2,hb⟩⟩
theorem RwT.below {w:World} {N b:Nat} {kv:Value} {Ts:List Tl} (h:RwT w N kv Ts) (hb:kv.ownBlock=some b):b < w.heap.size:=by
 obtain ⟨xs,h1,_⟩:=h
 exact (own_geK h1 hb).2
/-- a list, an element of class 2, a truth that is true -/
def listT (ks:List Tl):Tl:=.mk 0 16 true [] ks
/-- the bytes of an element, or none -/
noncomputable def wrB (T:Tl):List Int:=if wrN T=0 then bytesT T else []
noncomputable def orT:Option Tl→Tl
 | some T=>T
 | none=>.mk 0 0 false [] []
/-- what a function tells that makes an element, or an error -/
def ElR (w:World) (r:Option Tl) (e:Ending) (w':World):Prop:=Below w.heap.size w w'∧(r=none→∃ c:Int,e=.returned (.tuple #[.agg #[.int .i64 0,.int .i64 0,.bool false,.slice none 0 0,.slice none 0 0],.iface 38 (.int .i64 c)]))∧(∀ T,r=some T→∃ cs:List Value,e=.returned (.tuple #[.agg cs.toArray,.nilIface])∧Dep (fun g=>w.heap.size≤g) w' T cs)
theorem ElR.bad {w w':World} {r:Option Tl} {c:Int} (h:r=none) (hb:Below w.heap.size w w'):ElR w r (.returned (.tuple #[.agg #[.int .i64 0,.int .i64 0,.bool false,.slice none 0 0,.slice none 0 0],.iface 38 (.int .i64 c)])) w':=⟨hb,fun _=>⟨c,rfl⟩,fun T k=>(by rw [h] at k;cases k)⟩
theorem ElR.ok {w w':World} {r:Option Tl} {T:Tl} {cs:List Value} (h:r=some T) (hd:Dep (fun g=>w.heap.size≤g) w' T cs) (hb:Below w.heap.size w w'):ElR w r (.returned (.tuple #[.agg cs.toArray,.nilIface])) w':=⟨hb,fun k=>(by rw [h] at k;cases k),fun T' k=>(by rw [h] at k;cases k;exact ⟨cs,rfl,hd⟩)⟩
theorem RwT.cell {w:World} {N c k:Nat} {kv v:Value} {Ts:List Tl} (h:RwT w N kv Ts) (hc:c < N):RwT (w.setCell ⟨c,k,none⟩ v) N kv Ts:=by
 obtain ⟨xs,h1,h2⟩:=h
 exact ⟨xs,own_agr (S:=fun b=>N≤b) h1 ((Agr.refl _ _).cell (by omega)) (fun g hg=>(own_geK h1 hg).1),fun i t ht=>(h2 i t ht).next ((Agr.refl _ _).cell (fun h=>by have:=h.1;omega)) (fun _ h _=>h)⟩
/-- two blocks that are known whole -/
def Two (w:World) (g:Nat) (X:List Value) (h:Nat) (Y:List Value):Prop:=Blk w g X∧Blk w h Y
theorem Two.later {w w':World} {g h:Nat} {X Y:List Value} (B:Two w g X h Y) (hb:Below w.heap.size w w'):Two w' g X h Y:=⟨B.1.later hb,B.2.later hb⟩
theorem Two.alloc {w:World} {g h:Nat} {X Y:List Value} (B:Two w g X h Y) (o:Obj):Two (w.alloc o) g X h Y:=⟨B.1.alloc o,B.2.alloc o⟩
theorem Two.grown {w w':World} {row:Option Nat} {g h:Nat} {X Y:List Value} (B:Two w g X h Y) (hg:w.grownBy w' row) (hr:∀ k,row=some k→¬ (k=g∨k=h)):Two w' g X h Y:=⟨B.1.grown hg (fun k hk e=>hr k hk (.inl e)),B.2.grown hg (fun k hk e=>hr k hk (.inr e))⟩
theorem Two.other {w:World} {g h:Nat} {X Y:List Value} (B:Two w g X h Y) (a:Addr) (v:Value) (hne:¬ (g=a.block∨h=a.block)):Two (w.setCell a v) g X h Y:=⟨B.1.other a v (fun e=>hne (.inl e)),B.2.other a v (fun e=>hne (.inr e))⟩
end Go.Proofs.Ytnkipgbnnhahbaa
