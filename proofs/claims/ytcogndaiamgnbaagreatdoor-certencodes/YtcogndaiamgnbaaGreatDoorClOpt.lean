/- The kinds that there are, and their identifiers: what the program answers. Elements made and looked at: what the program answers. A part's element: what the program answers. Names, part by part. A name's element: what the program answers. Certificates and their elements, as functions. What each part of a body is, or none. -/
import Derived.Test.YtcogndaiamgnbaaGreatDoorNmConvT
import Derived.Test.YtcogndaiamgnbaaGreatDoorCtBase
import Derived.Test.YtcogndaiamgnbaaGreatDoorDrTG
import Derived.Test.YtcogndaiamgnbaaGreatDoorDrDG
import Derived.Test.YtcogndaiamgnbaaGreatDoorCtRG
import Derived.Test.YtcogndaiamgnbaaGreatDoorPrOidOf
import Derived.Test.YtcogndaiamgnbaaGreatDoorPmNG
import Derived.Test.YtcogndaiamgnbaaGreatDoorPmOidN
import Derived.Test.YtcogndaiamgnbaaGreatDoorBase
import Derived.Test.YtcogndaiamgnbaaGreatDoorFrom
import Derived.Test.YtcogndaiamgnbaaGreatDoorCCode
import Derived.Test.YtcogndaiamgnbaaGreatDoorRows
import Derived.Deep.OwnRows
import Derived.Deep.AppendLies
import Derived.Great.BuildSlice
import Derived.Laws.Rows
import Derived.BigQuiet
import Derived.Deep.WholeRow
import Derived.Deep.RegionHeld3
import Derived.Deep.DeepCutAuto
import Derived.Deep.DeepFit
namespace Go.Proofs.YtcogndaiamgnbaaGreatDoor
open Go.RowKit
theorem ne_codeL (c:Int):∀ w:World,(binOp .neq 39 (.iface 57 (.int .i64 c)) .nilIface).run Tryz.prog w=.ok (.bool true) w:=fun _=>by kernel_rfl
theorem ne_nilL:∀ w:World,(binOp .neq 39 .nilIface .nilIface).run Tryz.prog w=.ok (.bool false) w:=fun _=>by kernel_rfl
/-- what setOf tells -/
def SetR (w:World) (p:Pn) (e:Ending) (w':World):Prop:=Below w.heap.size w w'∧(partN p=false→e=.returned (.tuple #[.agg #[.int .i64 0,.int .i64 0,.bool false,.slice none 0 0,.slice none 0 0],.iface 57 (.int .i64 1)]))∧(partN p=true→∃ cs:List Value,e=.returned (.tuple #[.agg cs.toArray,.nilIface])∧Dep (fun b=>w.heap.size≤b) w' (setN p) cs)
theorem SetR.bad {w w':World} {p:Pn} (h:partN p=false) (hb:Below w.heap.size w w'):SetR w p (.returned (.tuple #[.agg #[.int .i64 0,.int .i64 0,.bool false,.slice none 0 0,.slice none 0 0],.iface 57 (.int .i64 1)])) w':=⟨hb,fun _=>rfl,fun k=>(by rw [h] at k;cases k)⟩
theorem SetR.ok {w w':World} {p:Pn} {cs:List Value} (h:partN p=true) (hd:Dep (fun b=>w.heap.size≤b) w' (setN p) cs) (hb:Below w.heap.size w w'):SetR w p (.returned (.tuple #[.agg cs.toArray,.nilIface])) w':=⟨hb,fun k=>(by rw [h] at k;cases k),fun _=>⟨cs,rfl,hd⟩⟩
theorem take_one {n m:List Pn} {i:Nat} {p q:Pn} (h:n.take i=m.take i) (hp:n[i]?=some p) (hq:m[i]?=some q):n.take (i + 1)=m.take (i + 1)↔p=q:=by
 rw [List.take_add_one,List.take_add_one,hp,hq,h]
 constructor
 ·intro e
  have:=List.append_cancel_left e
  simpa using this
 ·rintro rfl
  rfl
theorem ElemR.bad {w w':World} {n:List Pn} (h:mayN n=false) (hb:Below w.heap.size w w'):ElemR w n (.returned (.tuple #[.agg #[.int .i64 0,.int .i64 0,.bool false,.slice none 0 0,.slice none 0 0],.iface 57 (.int .i64 1)])) w':=⟨fun _=>⟨rfl,hb⟩,fun k=>(by rw [h] at k;cases k)⟩
theorem ElemR.ok {w w':World} {n:List Pn} {kv:Value} (h:mayN n=true) (hr:RwT w' w.heap.size kv (n.map setN)) (hb:Below w.heap.size w w'):ElemR w n (.returned (.tuple #[.agg #[.int .i64 0,.int .i64 16,.bool true,.slice none 0 0,kv],.nilIface])) w':=by
 obtain ⟨xs,h1,h2⟩:=hr
 rw [List.length_map] at h1
 exact ⟨fun k=>(by rw [h] at k;cases k),fun _=>⟨kv,xs,rfl,h1,h2,hb⟩⟩
theorem RwT.below {w:World} {N b:Nat} {kv:Value} {Ts:List Tl} (h:RwT w N kv Ts) (hb:kv.ownBlock=some b):b < w.heap.size:=by
 obtain ⟨xs,h1,_⟩:=h
 exact (own_geK h1 hb).2
/-- a list, an element of class 2, a truth that is true -/
def listT (ks:List Tl):Tl:=.mk 0 16 true [] ks
/-- what is answered, or no bytes -/
def orNil:Except Nat (List Int)→List Int
 | .ok b=>b
 | .error _=>[]
/-- an identifier's element -/
def oidT (l:List Int):Tl:=.mk 0 6 false (orNil (oidOf l)) []
def algT:Tl:=listT [oidT [1,2,840,10045,4,3,3]]
/-- the bytes of an element, or none -/
noncomputable def wrB (T:Tl):List Int:=if wrN T=0 then bytesT T else []
/-- a serial number's element, a time's; or none -/
def serT (n:List Int):Option Tl:=if n.length < 1∨20 < n.length∨n.getD 0 0=0 then none else some (.mk 0 2 false (orNil (numOf n)) [])
/-- what a function tells that makes an element, or an error -/
def ElR (w:World) (r:Option Tl) (e:Ending) (w':World):Prop:=Below w.heap.size w w'∧(r=none→∃ c:Int,e=.returned (.tuple #[.agg #[.int .i64 0,.int .i64 0,.bool false,.slice none 0 0,.slice none 0 0],.iface 57 (.int .i64 c)]))∧(∀ T,r=some T→∃ cs:List Value,e=.returned (.tuple #[.agg cs.toArray,.nilIface])∧Dep (fun g=>w.heap.size≤g) w' T cs)
theorem ElR.bad {w w':World} {r:Option Tl} {c:Int} (h:r=none) (hb:Below w.heap.size w w'):ElR w r (.returned (.tuple #[.agg #[.int .i64 0,.int .i64 0,.bool false,.slice none 0 0,.slice none 0 0],.iface 57 (.int .i64 c)])) w':=⟨hb,fun _=>⟨c,rfl⟩,fun T k=>(by rw [h] at k;cases k)⟩
theorem ElR.ok {w w':World} {r:Option Tl} {T:Tl} {cs:List Value} (h:r=some T) (hd:Dep (fun g=>w.heap.size≤g) w' T cs) (hb:Below w.heap.size w w'):ElR w r (.returned (.tuple #[.agg cs.toArray,.nilIface])) w':=⟨hb,fun k=>(by rw [h] at k;cases k),fun T' k=>(by rw [h] at k;cases k;exact ⟨cs,rfl,hd⟩)⟩
theorem RwT.cell {w:World} {N c k:Nat} {kv v:Value} {Ts:List Tl} (h:RwT w N kv Ts) (hc:c < N):RwT (w.setCell ⟨c,k,none⟩ v) N kv Ts:=by
 obtain ⟨xs,h1,h2⟩:=h
 exact ⟨xs,own_agr (S:=fun b=>N≤b) h1 ((Agr.refl _ _).cell (by omega)) (fun g hg=>(own_geK h1 hg).1),fun i t ht=>(h2 i t ht).next ((Agr.refl _ _).cell (fun h=>by have:=h.1;omega)) (fun _ h _=>h)⟩
/-- may it be a serial number? -/
def serB (n:List Int):Bool:=decide (¬ (n.length < 1∨20 < n.length∨n.getD 0 0=0))
theorem serT_no {n:List Int} (h:serB n=false):serT n=none:=by
 unfold serB at h
 unfold serT
 rw [if_pos (Decidable.not_not.1 (of_decide_eq_false h))]
theorem serT_yes {n:List Int} (h:serB n=true):∃ b,numOf n=.ok b∧serT n=some (.mk 0 2 false b []):=by
 have h1:=of_decide_eq_true h
 unfold serT
 rw [if_neg h1]
 cases hn:numOf n with
 | ok b=>exact ⟨b,rfl,rfl⟩
 | error c =>
  exfalso
  unfold numOf at hn
  have hz:∀ X:List Int,(lessZ X).length≤X.length:=by
   intro X
   induction X with
   | nil=>simp [lessZ]
   | cons x X ih =>
    rw [lessZ]
    split
    ·rw [List.length_cons];omega
    ·exact Nat.le_refl _
  have:=hz n
  rw [if_neg (by omega)] at hn
  split at hn<;>cases hn
end Go.Proofs.YtcogndaiamgnbaaGreatDoor
