/- Names and their elements. The kinds that there are, and their identifiers: what the program answers. A part's element: what the program answers. -/
import Derived.Test.YtnkipgbnnhahbaaDoorNmBase
import Derived.Test.YtnkipgbnnhahbaaDoorDrTree
import Derived.Test.YtnkipgbnnhahbaaDoorDrPar
import Derived.Test.YtnkipgbnnhahbaaDoorDrDep
import Derived.Test.YtnkipgbnnhahbaaDoorPmNum
import Derived.Test.YtnkipgbnnhahbaaDoorCtBase
import Derived.Test.YtnkipgbnnhahbaaDoorRwT
import Derived.Test.YtnkipgbnnhahbaaDoorPrOidOf
import Derived.Test.YtnkipgbnnhahbaaDoorRows
import Derived.Deep.WholeRow
import Derived.Deep.RegionHeld3
import Derived.Deep.DeepCutAuto
import Derived.Deep.DeepFit
import Derived.Deep.OwnRows
import Derived.Deep.AppendLies
import Derived.Great.BuildSlice
import Derived.Laws.Rows
import Derived.BigQuiet
import Derived.ChangeArms
import Derived.ChangeOld
import Derived.Lib.ConvBytes
import Derived.Laws.AppendOwn
namespace Go.Proofs.YtnkipgbnnhahbaaDoor
open Go.RowKit
/-- kinds of parts -/
def kindN (k:Int):Bool:=decide (k=3) || decide (k=6) || decide (k=10) || decide (k=11)
/-- may it be a part? -/
def partN (p:Pn):Bool:=kindN p.1 && (match textP p.2 with|.ok _=>true|.error _=>false)
/-- is it a name? -/
def mayN (n:List Pn):Bool:=decide (n.length≤8) && n.all partN
/-- a part's element, a name's -/
def setN (p:Pn):Tl:=.mk 0 17 true [] [.mk 0 16 true [] [.mk 0 6 false [85,4,p.1] [],.mk 0 12 false p.2 []]]
/-- what Element tells: the kids lie in a row of its own, which may be written -/
def ElemR (w:World) (n:List Pn) (e:Ending) (w':World):Prop :=
 (mayN n=false→e=.returned (.tuple #[.agg #[.int .i64 0,.int .i64 0,.bool false,.slice none 0 0,.slice none 0 0],.iface 39 (.int .i64 1)])∧Below w.heap.size w w') ∧
 (mayN n=true→∃ (kv:Value) (xs:List Value),e=.returned (.tuple #[.agg #[.int .i64 0,.int .i64 16,.bool true,.slice none 0 0,kv],.nilIface])∧w'.ownsRow w.heap.size 32 5 kv n.length xs∧(∀ (i:Nat) (t:Tl),(n.map setN)[i]?=some t→Dep (fun b=>w.heap.size≤b∧kv.ownBlock≠some b) w' t ((xs.drop (5 * i)).take 5))∧Below w.heap.size w w')
theorem ne_codeL (c:Int):∀ w:World,(binOp .neq 27 (.iface 39 (.int .i64 c)) .nilIface).run Tryd.prog w=.ok (.bool true) w:=fun _=>by kernel_rfl
theorem ne_nilL:∀ w:World,(binOp .neq 27 .nilIface .nilIface).run Tryd.prog w=.ok (.bool false) w:=fun _=>by kernel_rfl
/-- what setOf tells -/
def SetR (w:World) (p:Pn) (e:Ending) (w':World):Prop:=Below w.heap.size w w'∧(partN p=false→e=.returned (.tuple #[.agg #[.int .i64 0,.int .i64 0,.bool false,.slice none 0 0,.slice none 0 0],.iface 39 (.int .i64 1)]))∧(partN p=true→∃ cs:List Value,e=.returned (.tuple #[.agg cs.toArray,.nilIface])∧Dep (fun b=>w.heap.size≤b) w' (setN p) cs)
theorem SetR.bad {w w':World} {p:Pn} (h:partN p=false) (hb:Below w.heap.size w w'):SetR w p (.returned (.tuple #[.agg #[.int .i64 0,.int .i64 0,.bool false,.slice none 0 0,.slice none 0 0],.iface 39 (.int .i64 1)])) w':=⟨hb,fun _=>rfl,fun k=>(by rw [h] at k;cases k)⟩
theorem SetR.ok {w w':World} {p:Pn} {cs:List Value} (h:partN p=true) (hd:Dep (fun b=>w.heap.size≤b) w' (setN p) cs) (hb:Below w.heap.size w w'):SetR w p (.returned (.tuple #[.agg cs.toArray,.nilIface])) w':=⟨hb,fun k=>(by rw [h] at k;cases k),fun _=>⟨cs,rfl,hd⟩⟩
end Go.Proofs.YtnkipgbnnhahbaaDoor
