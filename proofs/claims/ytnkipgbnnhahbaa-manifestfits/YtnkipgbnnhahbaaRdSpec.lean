/- Certificates as they are read, as functions. The document's lists. What is read, or an error. -/
import Derived.Test.YtnkipgbnnhahbaaClOpt
import Derived.Test.YtnkipgbnnhahbaaPrOidOf
import Derived.Test.YtnkipgbnnhahbaaCPt
import Derived.Test.YtnkipgbnnhahbaaCtBase
import Derived.Test.YtnkipgbnnhahbaaApBs
import Derived.Test.YtnkipgbnnhahbaaDrDep
import Derived.Test.YtnkipgbnnhahbaaRwT
import Derived.Test.YtnkipgbnnhahbaaEdDecode
import Derived.Test.YtnkipgbnnhahbaaDcOut
import Derived.Test.YtnkipgbnnhahbaaRows
import Derived.Deep.OwnRows
import Derived.Deep.AppendLies
import Derived.Deep.WholeRow
import Derived.Deep.RegionHeld3
import Derived.Deep.DeepCutAuto
import Derived.Deep.DeepFit
import Derived.Great.BuildSlice
import Derived.Laws.Rows
import Derived.BigQuiet
namespace Go.Proofs.Ytnkipgbnnhahbaa
open Go.RowKit
open Classical
/-- an answer that is no error -/
def okO {α:Type}:Except Nat α→Option α
 | .ok a=>some a
 | .error _=>none
def smlD:Tl→Option Int
 | .mk c t m b _=>if c=0∧t=2∧m=false then okO (smallP b) else none
def isList:Tl→Bool
 | .mk c t m _ _=>decide (c=0∧t=16∧m=true)
set_option linter.unusedSimpArgs false in
set_option maxRecDepth 100000 in
set_option maxHeartbeats 400000 in
theorem r16_List {ka:Option Addr} {n kc:Nat} {w:World}:Calls Try.prog 16 #[.slice ka n kc] w fun e w'=>e=.returned (.agg #[.int .i64 0,.int .i64 16,.bool true,.slice none 0 0,.slice ka n kc])∧Below w.heap.size w w':=by
 have R0:=Blk.new w [.int .i64 0,.int .i64 0,.bool false,.slice none 0 0,.slice none 0 0] 42 w.heap.size rfl
 have bel:Below w.heap.size w (w.alloc (.cells #[.int .i64 0,.int .i64 0,.bool false,.slice none 0 0,.slice none 0 0] 42)):=(Below.refl _ _).alloc (Nat.le_refl _) _
 have hz:=zero_tlv.out
 go_enter Try.func16,Try.ntmps16
 go_upto_region 1 with fail
 have lW:=bel.size
 generalize w.alloc (.cells #[.int .i64 0,.int .i64 0,.bool false,.slice none 0 0,.slice none 0 0] 42)=W at *
 obtain ⟨tR,hR⟩:=R0
 have HR1:Hid _:=hR
 clear hR
 go_wp2_with (first|((with_reducible show wpList _ _ _ ({ dst:=_,op:=.store _ _ _,type:=_,pos:=_,after:=_,guard:=_ } :: _) _ _);refine wpList_store_row rfl 42 _ _ rfl w.heap.size #[.int .i64 0,.int .i64 16,.bool true,.slice none 0 0,.slice ka n kc] rfl rfl tR _ HR1.out (by rw [size_tlv];rfl) rfl (by simp [Value.oneCell']) ?_)|fail)
 refine bodyPost_ret (results_cell_row rfl _ _ w.heap.size tR #[.int .i64 0,.int .i64 16,.bool true,.slice none 0 0,.slice ka n kc] (0,0) _ rfl (setRow_heap _ _ _ _ _ _ HR1.out) Try.underlying42 rfl (by rw [size_tlv];rfl)) rfl ?_
 exact ⟨rfl,below_setRow bel (by omega) _⟩
/-- an error, whichever it is -/
def ErrV (er:Value):Prop:=(∃ ty pv,er=.iface ty pv)∧∀ w:World,(binOp .neq 27 er .nilIface).run Try.prog w=.ok (.bool true) w
theorem errV_code (c:Int):ErrV (.iface 38 (.int .i64 c)):=⟨⟨_,_,rfl⟩,ne_codeL c⟩
/-- bytes, or an error -/
def BytO (w:World) (r:Option (List Int)) (e:Ending) (w':World):Prop:=Below w.heap.size w w'∧(r=none→∃ er,ErrV er∧e=.returned (.tuple #[.slice none 0 0,er]))∧(∀ n,r=some n→∃ v,e=.returned (.tuple #[v,.nilIface])∧Bs w' v n∧NewV w v)
theorem BytO.bad {w w':World} {r:Option (List Int)} {er:Value} (h:r=none) (k:ErrV er) (hb:Below w.heap.size w w'):BytO w r (.returned (.tuple #[.slice none 0 0,er])) w':=⟨hb,fun _=>⟨er,k,rfl⟩,fun n q=>(by rw [h] at q;cases q)⟩
theorem BytO.ok {w w':World} {r:Option (List Int)} {n:List Int} {v:Value} (h:r=some n) (hv:Bs w' v n) (hn:NewV w v) (hb:Below w.heap.size w w'):BytO w r (.returned (.tuple #[v,.nilIface])) w':=⟨hb,fun q=>(by rw [h] at q;cases q),fun m q=>(by rw [h] at q;cases q;exact ⟨v,rfl,hv,hn⟩)⟩
/-- an int, or an error -/
def IntO (w:World) (r:Option Int) (e:Ending) (w':World):Prop:=Below w.heap.size w w'∧(r=none→∃ er,ErrV er∧e=.returned (.tuple #[.int .i64 0,er]))∧(∀ n,r=some n→e=.returned (.tuple #[.int .i64 n,.nilIface]))
theorem IntO.bad {w w':World} {r:Option Int} {er:Value} (h:r=none) (k:ErrV er) (hb:Below w.heap.size w w'):IntO w r (.returned (.tuple #[.int .i64 0,er])) w':=⟨hb,fun _=>⟨er,k,rfl⟩,fun n q=>(by rw [h] at q;cases q)⟩
theorem IntO.ok {w w':World} {r:Option Int} {n:Int} (h:r=some n) (hb:Below w.heap.size w w'):IntO w r (.returned (.tuple #[.int .i64 n,.nilIface])) w':=⟨hb,fun q=>(by rw [h] at q;cases q),fun m q=>(by rw [h] at q;cases q;rfl)⟩
/-- a signature, or an error -/
def SigO8 (w:World) (r:Option (Int × Int)) (e:Ending) (w':World):Prop:=Below w.heap.size w w'∧(r=none→∃ er,ErrV er∧e=.returned (.tuple #[.agg #[.int .u64 0,.int .u64 0,.int .u64 0,.int .u64 0,.int .u64 0,.int .u64 0,.int .u64 0,.int .u64 0,.int .u64 0,.int .u64 0,.int .u64 0,.int .u64 0],er]))∧(∀ x y,r=some (x,y)→∃ rs ss:List Value,e=.returned (.tuple #[.agg (rs++ss).toArray,.nilIface])∧U6 rs x∧U6 ss y)
theorem SigO8.bad {w w':World} {r:Option (Int × Int)} {er:Value} (h:r=none) (k:ErrV er) (hb:Below w.heap.size w w'):SigO8 w r (.returned (.tuple #[.agg #[.int .u64 0,.int .u64 0,.int .u64 0,.int .u64 0,.int .u64 0,.int .u64 0,.int .u64 0,.int .u64 0,.int .u64 0,.int .u64 0,.int .u64 0,.int .u64 0],er])) w':=⟨hb,fun _=>⟨er,k,rfl⟩,fun x y q=>(by rw [h] at q;cases q)⟩
theorem SigO8.ok {w w':World} {r:Option (Int × Int)} {x y:Int} {rs ss:List Value} (h:r=some (x,y)) (h1:U6 rs x) (h2:U6 ss y) (hb:Below w.heap.size w w'):SigO8 w r (.returned (.tuple #[.agg (rs++ss).toArray,.nilIface])) w':=⟨hb,fun q=>(by rw [h] at q;cases q),fun x' y' q=>(by rw [h] at q;cases q;exact ⟨rs,ss,rfl,h1,h2⟩)⟩
end Go.Proofs.Ytnkipgbnnhahbaa
