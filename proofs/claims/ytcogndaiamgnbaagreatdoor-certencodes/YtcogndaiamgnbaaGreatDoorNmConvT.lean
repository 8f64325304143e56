/- Names and their elements. A text as bytes. -/
import Derived.Test.YtcogndaiamgnbaaGreatDoorCtBase
import Derived.Test.YtcogndaiamgnbaaGreatDoorDrTG
import Derived.Test.YtcogndaiamgnbaaGreatDoorDrDG
import Derived.Test.YtcogndaiamgnbaaGreatDoorPmNG
import Derived.Test.YtcogndaiamgnbaaGreatDoorRows
import Derived.Deep.WholeRow
import Derived.Deep.RegionHeld3
import Derived.Deep.DeepCutAuto
import Derived.Deep.DeepFit
import Derived.ChangeArms
import Derived.ChangeOld
import Derived.Lib.ConvBytes
import Derived.Laws.AppendOwn
namespace Go.Proofs.YtcogndaiamgnbaaGreatDoor
open Go.RowKit
/-- kinds of parts -/
def kindN (k:Int):Bool:=decide (k=3) || decide (k=6) || decide (k=10) || decide (k=11)
/-- may it be a part? -/
def partN (p:Pn):Bool:=kindN p.1 && (match textP p.2 with|.ok _=>true|.error _=>false)
/-- is it a name? -/
def mayN (n:List Pn):Bool:=decide (n.length≤8) && n.all partN
/-- a part's element, a name's -/
def setN (p:Pn):Tl:=.mk 0 17 true [] [.mk 0 16 true [] [.mk 0 6 false [85,4,p.1] [],.mk 0 12 false p.2 []]]
/-- what Element tells: the kids lie in a row of its own, which may be written -/
def ElemR (w:World) (n:List Pn) (e:Ending) (w':World):Prop :=
 (mayN n=false→e=.returned (.tuple #[.agg #[.int .i64 0,.int .i64 0,.bool false,.slice none 0 0,.slice none 0 0],.iface 57 (.int .i64 1)])∧Below w.heap.size w w') ∧
 (mayN n=true→∃ (kv:Value) (xs:List Value),e=.returned (.tuple #[.agg #[.int .i64 0,.int .i64 16,.bool true,.slice none 0 0,kv],.nilIface])∧w'.ownsRow w.heap.size 60 5 kv n.length xs∧(∀ (i:Nat) (t:Tl),(n.map setN)[i]?=some t→Dep (fun b=>w.heap.size≤b∧kv.ownBlock≠some b) w' t ((xs.drop (5 * i)).take 5))∧Below w.heap.size w w')
theorem str_sizeN (A:List Int):(strOfNums A).size=A.length:=by simp [strOfNums,ByteArray.size]
theorem str_getN {A:List Int} (h:byt A) {j:Nat} (hj:j < A.length):(((strOfNums A).data.toList.getD j 0).toNat:Int)=A.getD j 0:=by
 have h0:=h j
 have e:(strOfNums A).data.toList=A.map fun n=>UInt8.ofNat n.toNat:=by simp [strOfNums]
 rw [e,List.getD_eq_getElem?_getD,List.getElem?_map,List.getElem?_eq_getElem hj]
 rw [List.getD_eq_getElem?_getD,List.getElem?_eq_getElem hj] at h0 ⊢
 simp only [Option.map_some,Option.getD_some] at h0 ⊢
 rw [UInt8.toNat_ofNat_of_lt' (by have:UInt8.size=256:=rfl;omega)]
 omega
/-- a text's bytes, in a row of their own -/
theorem conv_text {bs:List Int} (b:byt bs) (hl:bs.length≤maxLen) (w:World):∃ cap w',(convert 9 22 (.string (strOfNums bs))).run Tryz.prog w=.ok (.slice (some ⟨w.heap.size,0,none⟩) bs.length cap) w'∧Bs w' (.slice (some ⟨w.heap.size,0,none⟩) bs.length cap) bs∧Below w.heap.size w w':=by
 have hc:=Lib.run_convert_string_bytes (P:=Tryz.prog) w 9 22 5 (strOfNums bs) Tryz.underlying9 Tryz.underlying22 Tryz.underlying5
 rw [str_sizeN] at hc
 refine ⟨_,_,hc,⟨_,_,rfl,grownCap_le_maxLen _ _ _ _ hl,grownCap_ge _ _ _ _,fun _=>⟨w.heap.size,0,rfl,by rw [Lib.bytesWorld_size];omega,fun j hj=>?_⟩⟩,?_⟩
 ·rw [Nat.zero_add,Lib.bytesWorld_cell _ _ _ _ (by rw [str_sizeN];exact hj),str_getN b hj]
 ·exact ⟨rfl,rfl,rfl,by rw [Lib.bytesWorld_size];omega,fun j hj=>Lib.bytesWorld_at_old _ _ _ j hj⟩
end Go.Proofs.YtcogndaiamgnbaaGreatDoor
