/- What the document reads of elements. -/
import Derived.Test.YtnkipgbnnhahbaaDoorRdSpec
import Derived.Test.YtnkipgbnnhahbaaDoorPmNumR
import Derived.Test.YtnkipgbnnhahbaaDoorPrOidOf
import Derived.Test.YtnkipgbnnhahbaaDoorNmBase
import Derived.Test.YtnkipgbnnhahbaaDoorCPt
import Derived.Test.YtnkipgbnnhahbaaDoorPut
import Derived.Test.YtnkipgbnnhahbaaDoorRwT
import Derived.Test.YtnkipgbnnhahbaaDoorDrDep
import Derived.Test.YtnkipgbnnhahbaaDoorRows
import Derived.Deep.OwnRows
import Derived.Deep.AppendLies
import Derived.Deep.WholeRow
import Derived.Deep.RegionHeld3
import Derived.Deep.DeepCutAuto
import Derived.Deep.DeepFit
import Derived.Great.BuildSlice
import Derived.Laws.Rows
import Derived.BigQuiet
namespace Go.Proofs.YtnkipgbnnhahbaaDoor
open Go.RowKit
/-- bytes, and whether they are what was asked -/
def BytB (w:World) (r:Option (List Int)) (e:Ending) (w':World):Prop:=Below w.heap.size w w'∧(r=none→∃ (ao:Option Addr) (n k:Nat) (nb:List Int),e=.returned (.tuple #[.slice ao n k,.bool false])∧Bs w' (.slice ao n k) nb∧byt nb∧nb.length=n)∧(∀ nb,r=some nb→∃ (ao:Option Addr) (n k:Nat),e=.returned (.tuple #[.slice ao n k,.bool true])∧Bs w' (.slice ao n k) nb∧byt nb∧nb.length=n)
theorem BytB.no {w w':World} {r:Option (List Int)} {ao:Option Addr} {n k:Nat} {nb:List Int} (h:r=none) (hv:Bs w' (.slice ao n k) nb) (hy:byt nb) (hl:nb.length=n) (hb:Below w.heap.size w w'):BytB w r (.returned (.tuple #[.slice ao n k,.bool false])) w':=⟨hb,fun _=>⟨ao,n,k,nb,rfl,hv,hy,hl⟩,fun m q=>(by rw [h] at q;cases q)⟩
theorem BytB.yes {w w':World} {r:Option (List Int)} {ao:Option Addr} {n k:Nat} {nb:List Int} (h:r=some nb) (hv:Bs w' (.slice ao n k) nb) (hy:byt nb) (hl:nb.length=n) (hb:Below w.heap.size w w'):BytB w r (.returned (.tuple #[.slice ao n k,.bool true])) w':=⟨hb,fun q=>(by rw [h] at q;cases q),fun m q=>(by rw [h] at q;cases q;exact ⟨ao,n,k,rfl,hv,hy,hl⟩)⟩
/-- the same, new -/
def BytN (w:World) (r:Option (List Int)) (e:Ending) (w':World):Prop:=Below w.heap.size w w'∧∃ (ao:Option Addr) (n k:Nat) (nb:List Int),Bs w' (.slice ao n k) nb∧byt nb∧nb.length=n∧NewV w (.slice ao n k)∧(r=none→e=.returned (.tuple #[.slice ao n k,.bool false]))∧(∀ b,r=some b→b=nb∧e=.returned (.tuple #[.slice ao n k,.bool true]))
theorem BytN.no {w w':World} {r:Option (List Int)} {ao:Option Addr} {n k:Nat} {nb:List Int} (h:r=none) (hv:Bs w' (.slice ao n k) nb) (hy:byt nb) (hl:nb.length=n) (hn:NewV w (.slice ao n k)) (hb:Below w.heap.size w w'):BytN w r (.returned (.tuple #[.slice ao n k,.bool false])) w':=⟨hb,ao,n,k,nb,hv,hy,hl,hn,fun _=>rfl,fun m q=>(by rw [h] at q;cases q)⟩
theorem BytN.yes {w w':World} {r:Option (List Int)} {ao:Option Addr} {n k:Nat} {nb:List Int} (h:r=some nb) (hv:Bs w' (.slice ao n k) nb) (hy:byt nb) (hl:nb.length=n) (hn:NewV w (.slice ao n k)) (hb:Below w.heap.size w w'):BytN w r (.returned (.tuple #[.slice ao n k,.bool true])) w':=⟨hb,ao,n,k,nb,hv,hy,hl,hn,fun q=>(by rw [h] at q;cases q),fun m q=>(by rw [h] at q;cases q;exact ⟨rfl,rfl⟩)⟩
/-- an int, and whether it is what was asked -/
def IntB (w:World) (r:Option Int) (e:Ending) (w':World):Prop:=Below w.heap.size w w'∧(r=none→∃ x:Int,e=.returned (.tuple #[.int .i64 x,.bool false]))∧(∀ x,r=some x→e=.returned (.tuple #[.int .i64 x,.bool true]))
theorem IntB.no {w w':World} {r:Option Int} {x:Int} (h:r=none) (hb:Below w.heap.size w w'):IntB w r (.returned (.tuple #[.int .i64 x,.bool false])) w':=⟨hb,fun _=>⟨x,rfl⟩,fun m q=>(by rw [h] at q;cases q)⟩
theorem IntB.yes {w w':World} {r:Option Int} {x:Int} (h:r=some x) (hb:Below w.heap.size w w'):IntB w r (.returned (.tuple #[.int .i64 x,.bool true])) w':=⟨hb,fun q=>(by rw [h] at q;cases q),fun m q=>(by rw [h] at q;cases q;rfl)⟩
end Go.Proofs.YtnkipgbnnhahbaaDoor
