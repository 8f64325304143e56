/- A name's element: what the program answers. What each part of a body is, or none. -/
import Derived.Test.YtnkipgbnnhahbaaDoorNlSet
import Derived.Test.YtnkipgbnnhahbaaDoorRwT
import Derived.Test.YtnkipgbnnhahbaaDoorNmBase
import Derived.Test.YtnkipgbnnhahbaaDoorCtBase
import Derived.Test.YtnkipgbnnhahbaaDoorPmNum
import Derived.Test.YtnkipgbnnhahbaaDoorPrOidOf
import Derived.Test.YtnkipgbnnhahbaaDoorPut
import Derived.Test.YtnkipgbnnhahbaaDoorDrPar
import Derived.Test.YtnkipgbnnhahbaaDoorByt
import Derived.Test.YtnkipgbnnhahbaaDoorCPt
import Derived.Test.YtnkipgbnnhahbaaDoorDrDep
import Derived.Test.YtnkipgbnnhahbaaDoorRows
import Derived.Deep.OwnRows
import Derived.Deep.AppendLies
import Derived.Great.BuildSlice
import Derived.Laws.Rows
import Derived.BigQuiet
import Derived.Deep.WholeRow
import Derived.Deep.RegionHeld3
import Derived.Deep.DeepCutAuto
import Derived.Deep.DeepFit
namespace Go.Proofs.YtnkipgbnnhahbaaDoor
open Go.RowKit
theorem ElemR.bad {w w':World} {n:List Pn} (h:mayN n=false) (hb:Below w.heap.size w w'):ElemR w n (.returned (.tuple #[.agg #[.int .i64 0,.int .i64 0,.bool false,.slice none 0 0,.slice none 0 0],.iface 39 (.int .i64 1)])) w':=⟨fun _=>⟨rfl,hb⟩,fun k=>(by rw [h] at k;cases k)⟩
theorem ElemR.ok {w w':World} {n:List Pn} {kv:Value} (h:mayN n=true) (hr:RwT w' w.heap.size kv (n.map setN)) (hb:Below w.heap.size w w'):ElemR w n (.returned (.tuple #[.agg #[.int .i64 0,.int .i64 16,.bool true,.slice none 0 0,kv],.nilIface])) w':=by
 obtain ⟨xs,h1,h2⟩:=hr
 rw [List.length_map] at h1
 exact ⟨fun k=>(by rw [h] at k;cases k),fun _=>⟨kv,xs,rfl,h1,h2,hb⟩⟩
theorem RwT.below {w:World} {N b:Nat} {kv:Value} {Ts:List Tl} (h:RwT w N kv Ts) (hb:kv.ownBlock=some b):b < w.heap.size:=by
 obtain ⟨xs,h1,_⟩:=h
 exact (own_geK h1 hb).2
/-- what a function tells that makes an element, or an error -/
def ElR (w:World) (r:Option Tl) (e:Ending) (w':World):Prop:=Below w.heap.size w w'∧(r=none→∃ c:Int,e=.returned (.tuple #[.agg #[.int .i64 0,.int .i64 0,.bool false,.slice none 0 0,.slice none 0 0],.iface 39 (.int .i64 c)]))∧(∀ T,r=some T→∃ cs:List Value,e=.returned (.tuple #[.agg cs.toArray,.nilIface])∧Dep (fun g=>w.heap.size≤g) w' T cs)
theorem ElR.bad {w w':World} {r:Option Tl} {c:Int} (h:r=none) (hb:Below w.heap.size w w'):ElR w r (.returned (.tuple #[.agg #[.int .i64 0,.int .i64 0,.bool false,.slice none 0 0,.slice none 0 0],.iface 39 (.int .i64 c)])) w':=⟨hb,fun _=>⟨c,rfl⟩,fun T k=>(by rw [h] at k;cases k)⟩
theorem ElR.ok {w w':World} {r:Option Tl} {T:Tl} {cs:List Value} (h:r=some T) (hd:Dep (fun g=>w.heap.size≤g) w' T cs) (hb:Below w.heap.size w w'):ElR w r (.returned (.tuple #[.agg cs.toArray,.nilIface])) w':=⟨hb,fun k=>(by rw [h] at k;cases k),fun T' k=>(by rw [h] at k;cases k;exact ⟨cs,rfl,hd⟩)⟩
theorem RwT.cell {w:World} {N c k:Nat} {kv v:Value} {Ts:List Tl} (h:RwT w N kv Ts) (hc:c < N):RwT (w.setCell ⟨c,k,none⟩ v) N kv Ts:=by
 obtain ⟨xs,h1,h2⟩:=h
 exact ⟨xs,own_agr (S:=fun b=>N≤b) h1 ((Agr.refl _ _).cell (by omega)) (fun g hg=>(own_geK h1 hg).1),fun i t ht=>(h2 i t ht).next ((Agr.refl _ _).cell (fun h=>by have:=h.1;omega)) (fun _ h _=>h)⟩
/-- two blocks that are known whole -/
def Two (w:World) (g:Nat) (X:List Value) (h:Nat) (Y:List Value):Prop:=Blk w g X∧Blk w h Y
theorem Two.later {w w':World} {g h:Nat} {X Y:List Value} (B:Two w g X h Y) (hb:Below w.heap.size w w'):Two w' g X h Y:=⟨B.1.later hb,B.2.later hb⟩
theorem Two.alloc {w:World} {g h:Nat} {X Y:List Value} (B:Two w g X h Y) (o:Obj):Two (w.alloc o) g X h Y:=⟨B.1.alloc o,B.2.alloc o⟩
theorem Two.grown {w w':World} {row:Option Nat} {g h:Nat} {X Y:List Value} (B:Two w g X h Y) (hg:w.grownBy w' row) (hr:∀ k,row=some k→¬ (k=g∨k=h)):Two w' g X h Y:=⟨B.1.grown hg (fun k hk e=>hr k hk (.inl e)),B.2.grown hg (fun k hk e=>hr k hk (.inr e))⟩
theorem Two.other {w:World} {g h:Nat} {X Y:List Value} (B:Two w g X h Y) (a:Addr) (v:Value) (hne:¬ (g=a.block∨h=a.block)):Two (w.setCell a v) g X h Y:=⟨B.1.other a v (fun e=>hne (.inl e)),B.2.other a v (fun e=>hne (.inr e))⟩
end Go.Proofs.YtnkipgbnnhahbaaDoor
