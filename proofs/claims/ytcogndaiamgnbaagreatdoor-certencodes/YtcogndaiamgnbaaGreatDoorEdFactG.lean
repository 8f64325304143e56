/- A signature's bytes. A signature's bytes: what was written is read as it was. Plain facts. Numbers in elements: plain facts. -/
import Derived.Test.YtcogndaiamgnbaaGreatDoorEdG
import Derived.Test.YtcogndaiamgnbaaGreatDoorCCode
import Derived.Test.YtcogndaiamgnbaaGreatDoorFrom
import Derived.Test.YtcogndaiamgnbaaGreatDoorLimb
import Derived.Test.YtcogndaiamgnbaaGreatDoorDrTG
import Derived.Test.YtcogndaiamgnbaaGreatDoorPmNG
import Derived.Test.YtcogndaiamgnbaaGreatDoorRows
import Derived.Deep.WholeRow
import Derived.Deep.RegionHeld3
import Derived.Deep.DeepCutAuto
import Derived.Deep.DeepFit
namespace Go.Proofs.YtcogndaiamgnbaaGreatDoor
open Go.RowKit
/-- a signature's element, of two numbers' bodies -/
def sigT (x y:List Int):Tl:=.mk 0 16 true [] [.mk 0 2 false x [],.mk 0 2 false y []]
/-- a number in an element -/
def partP:Tl→Option (List Int)
 | .mk c t m b _=>if c=0∧t=2∧m=false then (match numP b with|.ok n=>some n|.error _=>none) else none
/-- two numbers in a list -/
def sigP:Tl→Option (List Int × List Int)
 | .mk c t m _ [a,b]=>if c=0∧t=16∧m=true then (match partP a,partP b with|some x,some y=>some (x,y)|_,_=>none) else none
 | _=>none
/-- 48 bytes of a number -/
def Is48 (X:List Int) (r:Int):Prop:=X.length=48∧byt X∧beN X=r
theorem num48 {X:List Int} (hl:X.length=48):∃ x,numOf X=.ok x∧x.length≤49:=by
 have h1:(lessZ X).length≤48:=by
  rw [lessZ_drop,List.length_drop]
  omega
 unfold numOf
 rw [if_neg (by omega)]
 by_cases c:(lessZ X).length=0∨127 < (lessZ X).getD 0 0
 ·exact ⟨_,by rw [if_pos c],by rw [List.length_cons];omega⟩
 ·exact ⟨_,by rw [if_neg c],by omega⟩
theorem numOf_byt {X x:List Int} (b:byt X) (h:numOf X=.ok x):byt x:=by
 have hl:byt (lessZ X):=by rw [lessZ_drop];exact byt_dropM b _
 unfold numOf at h
 split at h
 ·cases h
 ·split at h
  ·cases h
   exact byt_consP (by decide) hl
  ·cases h
   exact hl
theorem lenB_small {n:Nat} (h:n < 128):(lenB n).length=1:=by
 unfold lenB
 rw [if_pos h]
 rfl
theorem sig_len {x y:List Int} (hx:x.length≤49) (hy:y.length≤49):(bytesT (sigT x y)).length≤200:=by
 have k1:(bytesT (.mk 0 2 false x [])).length=x.length + 2:=by
  rw [bytesT_len,bytesL,List.append_nil,lenB_small (by omega)]
  omega
 have k2:(bytesT (.mk 0 2 false y [])).length=y.length + 2:=by
  rw [bytesT_len,bytesL,List.append_nil,lenB_small (by omega)]
  omega
 unfold sigT
 rw [bytesT_len]
 simp only [bytesL,List.nil_append,List.append_nil,List.length_append,k1,k2]
 rw [lenB_small (by omega)]
 omega
theorem sig_fine (x y:List Int):fineT (sigT x y)=true:=by
 simp [sigT,fineT,fineL,fine1]
theorem sig_dep (x y:List Int):depT (sigT x y)=2:=by
 simp [sigT,depT,depL]
theorem sig_sz (x y:List Int):szT (sigT x y)=3:=by
 simp [sigT,szT,szL]
theorem sig_wr {x y:List Int} (hx:x.length≤49) (hy:y.length≤49):wrN (sigT x y)=0:=by
 have:=sig_len hx hy
 unfold wrN
 rw [if_pos (sig_fine x y),if_neg (by rw [sig_dep];omega),if_neg (by omega)]
theorem sig_wf {x y:List Int} (bx:byt x) (bY:byt y):WfT (sigT x y):=by
 simp only [sigT,WfT,WfL]
 exact ⟨by omega,by omega,byt_nilP,⟨by omega,by omega,bx,trivial⟩,⟨by omega,by omega,bY,trivial⟩,trivial⟩
/-- a signature's element, as it lies -/
theorem sig_at {w:World} {g:Nat} {xv yv:Value} {x y:List Int} (hx:Bs w xv x) (hy:Bs w yv y) (B:Blk w g [.int .i64 0,.int .i64 2,.bool false,xv,.slice none 0 0,.int .i64 0,.int .i64 2,.bool false,yv,.slice none 0 0]):TlAt w (sigT x y) [.int .i64 0,.int .i64 16,.bool true,.slice none 0 0,.slice (some ⟨g,0,none⟩) 2 2]:=by
 have z0:Bs w (.slice none 0 0) []:=⟨none,0,rfl,by decide,by decide,fun h=>by simp at h⟩
 unfold sigT
 rw [TlAt]
 refine ⟨_,_,_,rfl,z0,by show 2≤2;omega,by decide,fun _=>⟨g,0,rfl,?_⟩⟩
 rw [KidsAt]
 refine ⟨⟨[.int .i64 0,.int .i64 2,.bool false,xv,.slice none 0 0],⟨B.lt,fun j v hj=>?_⟩,?_⟩,?_⟩
 ·rw [Nat.zero_add]
  refine B.cell j v ?_
  match j,hj with
  | 0,h=>exact h
  | 1,h=>exact h
  | 2,h=>exact h
  | 3,h=>exact h
  | 4,h=>exact h
  | j + 5,h=>simp at h
 ·rw [TlAt]
  exact ⟨_,_,_,rfl,hx,by decide,by decide,fun h=>absurd h (by simp)⟩
 ·rw [KidsAt]
  refine ⟨⟨[.int .i64 0,.int .i64 2,.bool false,yv,.slice none 0 0],⟨B.lt,fun j v hj=>?_⟩,?_⟩,?_⟩
  ·rw [Nat.zero_add]
   refine B.cell (5 + j) v ?_
   match j,hj with
   | 0,h=>exact h
   | 1,h=>exact h
   | 2,h=>exact h
   | 3,h=>exact h
   | 4,h=>exact h
   | j + 5,h=>simp at h
  ·rw [TlAt]
   exact ⟨_,_,_,rfl,hy,by decide,by decide,fun h=>absurd h (by simp)⟩
  ·rw [KidsAt];trivial
end Go.Proofs.YtcogndaiamgnbaaGreatDoor
