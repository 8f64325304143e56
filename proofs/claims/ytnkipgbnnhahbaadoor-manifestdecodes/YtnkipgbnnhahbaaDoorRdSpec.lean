/- Certificates as they are read, as functions. The document's lists. What is read, or an error. -/
import Derived.Test.YtnkipgbnnhahbaaDoorCtBase
import Derived.Test.YtnkipgbnnhahbaaDoorNlSet
import Derived.Test.YtnkipgbnnhahbaaDoorPmNum
import Derived.Test.YtnkipgbnnhahbaaDoorPrOidOf
import Derived.Test.YtnkipgbnnhahbaaDoorPut
import Derived.Test.YtnkipgbnnhahbaaDoorDrPar
import Derived.Test.YtnkipgbnnhahbaaDoorByt
import Derived.Test.YtnkipgbnnhahbaaDoorCPt
import Derived.Test.YtnkipgbnnhahbaaDoorDrDep
import Derived.Test.YtnkipgbnnhahbaaDoorRwT
import Derived.Test.YtnkipgbnnhahbaaDoorClOpt
import Derived.Test.YtnkipgbnnhahbaaDoorEdDecode
import Derived.Test.YtnkipgbnnhahbaaDoorCtTl
import Derived.Test.YtnkipgbnnhahbaaDoorRows
import Derived.Deep.OwnRows
import Derived.Deep.AppendLies
import Derived.Deep.WholeRow
import Derived.Deep.RegionHeld3
import Derived.Deep.DeepCutAuto
import Derived.Deep.DeepFit
import Derived.Great.BuildSlice
import Derived.Laws.Rows
import Derived.BigQuiet
namespace Go.Proofs.YtnkipgbnnhahbaaDoor
open Go.RowKit
open Classical
/-- an answer that is no error -/
def okO {α:Type}:Except Nat α→Option α
 | .ok a=>some a
 | .error _=>none
def smlD:Tl→Option Int
 | .mk c t m b _=>if c=0∧t=2∧m=false then okO (smallP b) else none
def isList:Tl→Bool
 | .mk c t m _ _=>decide (c=0∧t=16∧m=true)
set_option linter.unusedSimpArgs false in
set_option maxRecDepth 100000 in
set_option maxHeartbeats 400000 in
theorem r16_IsList {c t:Int} {m:Bool} {b:List Int} {ks:List Tl} {cs:List Value} {w:World} (h:TlAt w (.mk c t m b ks) cs) :
  Calls Tryd.prog 16 #[.agg cs.toArray] w fun e w'=>e=.returned (.bool (isList (.mk c t m b ks)))∧Below w.heap.size w w':=by
 rw [TlAt] at h
 obtain ⟨bv,ka,kc,rfl,hbv,-,-,-⟩:=h
 obtain ⟨ba,bc,rfl,-,-,-⟩:=hbv
 have B0:=Blk.new w [.int .i64 c,.int .i64 t,.bool m,.slice ba b.length bc,.slice ka ks.length kc] 32 w.heap.size rfl
 have bel:Below w.heap.size w (w.alloc (.cells #[.int .i64 c,.int .i64 t,.bool m,.slice ba b.length bc,.slice ka ks.length kc] 32)):=(Below.refl _ _).alloc (Nat.le_refl _) _
 go_enter Tryd.func16,Tryd.ntmps16
 go_upto_region 1 with fail
 generalize w.alloc (.cells #[.int .i64 c,.int .i64 t,.bool m,.slice ba b.length bc,.slice ka ks.length kc] 32)=W at *
 have e0:=B0.cell 0 _ rfl
 have e1:=B0.cell 1 _ rfl
 have e2:=B0.cell 2 _ rfl
 have lt0:=B0.lt
 by_cases c1:c=0
 rotate_left
 ·have H:Hid (isList (.mk c t m b ks)=false):=decide_eq_false (fun h=>c1 h.1)
  have d1:(c == 0)=false:=by rw [beq_eq_false_iff_ne];exact c1
  clear c1
  go_wp2_with fail
  go_ret
  exact ⟨by rw [H.out];rfl,bel⟩
 subst c1
 by_cases c2:t=16
 rotate_left
 ·have H:Hid (isList (.mk 0 t m b ks)=false):=decide_eq_false (fun h=>c2 h.2.1)
  have d2:(t == 16)=false:=by rw [beq_eq_false_iff_ne];exact c2
  clear c2
  go_wp2_with fail
  go_ret
  exact ⟨by rw [H.out];rfl,bel⟩
 subst c2
 cases m
 all_goals
  go_wp2_with fail
  go_ret
  exact ⟨rfl,bel⟩
/-- an error, whichever it is -/
def ErrV (er:Value):Prop:=(∃ ty pv,er=.iface ty pv)∧∀ w:World,(binOp .neq 27 er .nilIface).run Tryd.prog w=.ok (.bool true) w
theorem errV_code (c:Int):ErrV (.iface 39 (.int .i64 c)):=⟨⟨_,_,rfl⟩,ne_codeL c⟩
/-- bytes, or an error -/
def BytO (w:World) (r:Option (List Int)) (e:Ending) (w':World):Prop:=Below w.heap.size w w'∧(r=none→∃ er,ErrV er∧e=.returned (.tuple #[.slice none 0 0,er]))∧(∀ n,r=some n→∃ v,e=.returned (.tuple #[v,.nilIface])∧Bs w' v n∧NewV w v)
theorem BytO.bad {w w':World} {r:Option (List Int)} {er:Value} (h:r=none) (k:ErrV er) (hb:Below w.heap.size w w'):BytO w r (.returned (.tuple #[.slice none 0 0,er])) w':=⟨hb,fun _=>⟨er,k,rfl⟩,fun n q=>(by rw [h] at q;cases q)⟩
theorem BytO.ok {w w':World} {r:Option (List Int)} {n:List Int} {v:Value} (h:r=some n) (hv:Bs w' v n) (hn:NewV w v) (hb:Below w.heap.size w w'):BytO w r (.returned (.tuple #[v,.nilIface])) w':=⟨hb,fun q=>(by rw [h] at q;cases q),fun m q=>(by rw [h] at q;cases q;exact ⟨v,rfl,hv,hn⟩)⟩
/-- an int, or an error -/
def IntO (w:World) (r:Option Int) (e:Ending) (w':World):Prop:=Below w.heap.size w w'∧(r=none→∃ er,ErrV er∧e=.returned (.tuple #[.int .i64 0,er]))∧(∀ n,r=some n→e=.returned (.tuple #[.int .i64 n,.nilIface]))
theorem IntO.bad {w w':World} {r:Option Int} {er:Value} (h:r=none) (k:ErrV er) (hb:Below w.heap.size w w'):IntO w r (.returned (.tuple #[.int .i64 0,er])) w':=⟨hb,fun _=>⟨er,k,rfl⟩,fun n q=>(by rw [h] at q;cases q)⟩
theorem IntO.ok {w w':World} {r:Option Int} {n:Int} (h:r=some n) (hb:Below w.heap.size w w'):IntO w r (.returned (.tuple #[.int .i64 n,.nilIface])) w':=⟨hb,fun q=>(by rw [h] at q;cases q),fun m q=>(by rw [h] at q;cases q;rfl)⟩
/-- a signature, or an error -/
def SigO8 (w:World) (r:Option (Int × Int)) (e:Ending) (w':World):Prop:=Below w.heap.size w w'∧(r=none→∃ er,ErrV er∧e=.returned (.tuple #[.agg #[.int .u64 0,.int .u64 0,.int .u64 0,.int .u64 0,.int .u64 0,.int .u64 0,.int .u64 0,.int .u64 0,.int .u64 0,.int .u64 0,.int .u64 0,.int .u64 0],er]))∧(∀ x y,r=some (x,y)→∃ rs ss:List Value,e=.returned (.tuple #[.agg (rs++ss).toArray,.nilIface])∧U6 rs x∧U6 ss y)
theorem SigO8.bad {w w':World} {r:Option (Int × Int)} {er:Value} (h:r=none) (k:ErrV er) (hb:Below w.heap.size w w'):SigO8 w r (.returned (.tuple #[.agg #[.int .u64 0,.int .u64 0,.int .u64 0,.int .u64 0,.int .u64 0,.int .u64 0,.int .u64 0,.int .u64 0,.int .u64 0,.int .u64 0,.int .u64 0,.int .u64 0],er])) w':=⟨hb,fun _=>⟨er,k,rfl⟩,fun x y q=>(by rw [h] at q;cases q)⟩
theorem SigO8.ok {w w':World} {r:Option (Int × Int)} {x y:Int} {rs ss:List Value} (h:r=some (x,y)) (h1:U6 rs x) (h2:U6 ss y) (hb:Below w.heap.size w w'):SigO8 w r (.returned (.tuple #[.agg (rs++ss).toArray,.nilIface])) w':=⟨hb,fun q=>(by rw [h] at q;cases q),fun x' y' q=>(by rw [h] at q;cases q;exact ⟨rs,ss,rfl,h1,h2⟩)⟩
end Go.Proofs.YtnkipgbnnhahbaaDoor
