/- One operation of a drawn region by a rule for rows of operations. Identifiers, read and told as the program does it. Plain facts. The program's slices.Reverse and numberBytes of layer 13. The program's isOid and OidOf of layer 13. -/
import Derived.Test.YtcogndaiamgnbaaGreatDoorPmOidN
import Derived.Test.YtcogndaiamgnbaaGreatDoorPrG
import Derived.Test.YtcogndaiamgnbaaGreatDoorCtBase
import Derived.Test.YtcogndaiamgnbaaGreatDoorArrG
import Derived.Test.YtcogndaiamgnbaaGreatDoorRows
import Derived.Deep.OwnRows
import Derived.Deep.AppendLies
import Derived.Deep.RegionHeld3
import Derived.Great.BuildSlice
import Derived.Deep.WholeRow
import Derived.Deep.DeepCutAuto
import Derived.Deep.DeepFit
namespace Go.Proofs.YtcogndaiamgnbaaGreatDoor
open Go.RowKit
theorem wp_of_list {P:Program} {ops:Array Oper} {o:Oper} {a:Act} {w:World} {K:Act→World→Prop} {Q:Exit→Act→World→Prop} (hgd:o.guard=none) (h:wpList P ops (fun e a w=>e=.normal∧K a w) [o] a w):o.wp P a w K Q:=by
 have hw:Region.wanted o (yielded ops a.tmps)=true:=by unfold Region.wanted;rw [hgd]
 unfold wpList at h
 rw [if_pos hw] at h
 rcases h with h|⟨_,a',w',h,_⟩
 ·unfold Oper.wp at *
  generalize (execOp a.eval o).run P w=r at *
  cases r with
  | ok n w' =>
   cases n with
   | value v=>exact h.2
   | skip=>exact h.2
   | defer d=>exact h.2
   | enter f args =>
    refine Calls.mono h (fun e w'' he=>?_)
    cases e with
    | returned v=>exact he.2
    | panicked c=>exact absurd he.1 (by simp)
    | outgrown=>obtain ⟨_,_,he,_⟩:=he;cases he
   | row row args=>exact Rows.mono h (fun v w'' he=>he.2)
   | _=>exact h.elim
  | halt s w' =>
   cases s with
   | panic v=>cases h.1
   | _=>exact h.elim
 ·cases h
theorem getD_left {L m:List Int} {j:Nat} (hj:j < L.length):(L++m).getD j 0=L.getD j 0:=by
 simp [List.getD_eq_getElem?_getD,List.getElem?_append_left hj]
/-- values that may be told -/
def GoodL (L:List Int):Prop:=¬ 4294967375 < L.getD 0 0∧∀ j,j < L.length→0 < j→¬ 4294967295 < L.getD j 0
theorem GoodL.one {x:Int} (h:¬ 4294967375 < x):GoodL [x]:=⟨h,fun j h1 h2=>absurd h1 (by show ¬ j < 1;omega)⟩
theorem getD_last {L:List Int} {n:Int}:(L++[n]).getD L.length 0=n:=by simp [List.getD_eq_getElem?_getD]
theorem GoodL.add {L:List Int} {n:Int} (h:GoodL L) (h0:0 < L.length) (hn:¬ 4294967295 < n):GoodL (L++[n]):=by
 refine ⟨by rw [getD_left h0];exact h.1,fun j h1 h2=>?_⟩
 by_cases k:j < L.length
 ·rw [getD_left k];exact h.2 j k h2
 ·rw [List.length_append] at h1
  replace h1:j < L.length + 1:=h1
  rw [show j=L.length by omega,getD_last]
  exact hn
/-- a block known whole, with its type -/
def BlT (w:World) (g:Nat) (cs:List Value) (t:TypeId):Prop:=w.heap[g]?=some (.cells cs.toArray t)
theorem BlT.set {w:World} {g:Nat} {cs:List Value} {t:TypeId} (h:BlT w g cs t) (k:Nat) (v:Value):BlT (w.setCell ⟨g,k,none⟩ v) g (cs.set k v) t:=by
 unfold BlT at *
 simp [World.setCell,Array.getElem?_modify,h]
theorem BlT.drew {w:World} {g:Nat} {cs:List Value} {t:TypeId} (h:BlT w g cs t):BlT w.drew g cs t:=h
/-- whether words are an identifier -/
def RetI (w:World) (L:List Int) (e:Ending) (w':World):Prop:=((oidOf L=.ok (b7s (valsO L))∧2≤L.length∧L.length≤16∧L.getD 0 0≤2∧∀ j,j < L.length→L.getD j 0≤4294967295)∧e=.returned (.bool true)∧w'=w)∨(oidOf L=.error 1∧e=.returned (.bool false)∧w'=w)
theorem RetI.no {w:World} {L:List Int} (h:oidOf L=.error 1):RetI w L (.returned (.bool false)) w:=.inr ⟨h,rfl,rfl⟩
theorem RetI.yes {w:World} {L:List Int} (h:¬ (L.length < 2∨16 < L.length∨2 < L.getD 0 0∨(L.getD 0 0 < 2∧39 < L.getD 1 0))) (h2:∀ j,j < L.length→L.getD j 0≤4294967295):RetI w L (.returned (.bool true)) w:=by
 refine .inl ⟨⟨?_,by omega,by omega,by omega,h2⟩,rfl,rfl⟩
 unfold oidOf
 rw [if_neg h,if_neg (by rintro ⟨j,hj,k⟩;have:=h2 j hj;omega)]
end Go.Proofs.YtcogndaiamgnbaaGreatDoor
