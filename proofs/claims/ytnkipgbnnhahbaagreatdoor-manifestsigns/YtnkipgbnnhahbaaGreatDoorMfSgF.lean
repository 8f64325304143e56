/- What was signed is opened as it was. -/
import Derived.Test.YtnkipgbnnhahbaaGreatDoorMfSgd
import Derived.Test.YtnkipgbnnhahbaaGreatDoorCtSig
import Derived.Test.YtnkipgbnnhahbaaGreatDoorEdFact
import Derived.Test.YtnkipgbnnhahbaaGreatDoorMfPln
import Derived.Test.YtnkipgbnnhahbaaGreatDoorCtPl
import Derived.Test.YtnkipgbnnhahbaaGreatDoorDrPar
import Derived.Test.YtnkipgbnnhahbaaGreatDoorDcOut
import Derived.Test.YtnkipgbnnhahbaaGreatDoorRows
import Derived.Deep.OwnRows
import Derived.Deep.AppendLies
import Derived.Great.BuildSlice
import Derived.Laws.Rows
import Derived.BigQuiet
import Derived.Deep.WholeRow
import Derived.Deep.RegionHeld3
import Derived.Deep.DeepCutAuto
import Derived.Deep.DeepFit
namespace Go.Proofs.YtnkipgbnnhahbaaGreatDoor
open Go.RowKit
theorem bits_made20 (sig:List Int):bitD (.mk 0 3 false (0 :: sig) [])=some sig:=by
 have h:bitsP (0 :: sig)=.ok (sig,0):=by
  have e0:((0:Int) :: sig).getD 0 0=0:=rfl
  have e1:(2:Int) ^ (0:Int).toNat=1:=rfl
  unfold bitsP
  rw [e0,e1,if_neg (by
   rintro (h|h|⟨-,h⟩)
   ·simp at h
   ·omega
   ·exact h rfl),if_pos (by omega)]
  rfl
 rw [bitD_plain h,if_pos rfl]
theorem sig_made20 {r s:Int} {X Y x y:List Int} (h:SigB r s X Y x y) (hr:isSc r) (hs:isSc s):sigD (bytesT (sigT x y))=some (r,s):=by
 obtain ⟨⟨l1,b1,e1⟩,⟨l2,b2,e2⟩,n1,n2⟩:=h
 have k1:=numOf_len n1
 have k2:=numOf_len n2
 rw [sigD_s (sig_parse (by omega) (by omega)) (sigP_back b1 b2 n1 n2) (by rw [beN_less,beN_less,e1,e2];exact ⟨hr,hs⟩),beN_less,beN_less,e1,e2]
theorem seal20_is (T:Tl) (sg:List Int):sealP true T sg=.mk 0 16 true [] [T,.mk 0 3 false (0 :: sg) []]:=rfl
theorem seal20_open {T:Tl} {r s:Int} {X Y x y:List Int} (hS:SigB r s X Y x y) (h:isSc r∧isSc s):opnD true (sealP true T (bytesT (sigT x y)))=some (T,r,s):=by
 rw [seal20_is,sgd_two ⟨rfl,rfl,rfl⟩,bits_made20,Option.bind_some,sig_made20 hS h.1 h.2]
 rfl
theorem wr0_all {N:Tl} (h:wrN N=0):fineT N=true∧depT N≤16∧(bytesT N).length≤1048576:=by
 unfold wrN at h
 split at h
 ·split at h
  ·cases h
  ·split at h
   ·cases h
   ·exact ⟨by assumption,by omega,by omega⟩
 ·cases h
theorem wr0_parse {N:Tl} (h:wrN N=0):parseP (bytesT N)=.ok N:=by
 obtain ⟨h1,h2,h3⟩:=wr0_all h
 have:=parse_of (T:=N) (Y:=[]) h1 h2 (by rw [List.append_nil];exact h3)
 rw [List.append_nil] at this
 rw [this]
 rfl
theorem seal20_byt {T:Tl} {B:List Int} {r s:Int} {X Y x y:List Int} (b:byt B) (hp:parseP B=.ok T) (hS:SigB r s X Y x y) (hw:wrN (sealP true T (bytesT (sigT x y)))=0):byt (bytesT (sealP true T (bytesT (sigT x y)))):=by
 refine bytesT_byt (wr0_all hw).1 ?_
 obtain ⟨-,-,-,hT,-⟩:=parse_ok b hp
 obtain ⟨⟨-,b1,-⟩,⟨-,b2,-⟩,n1,n2⟩:=hS
 have bs:=sig_byt (numOf_byt b1 n1) (numOf_byt b2 n2)
 rw [seal20_is,WfT]
 refine ⟨by omega,by omega,fun j=>by simp,?_⟩
 simp only [WfL,WfT]
 refine ⟨hT,⟨by omega,by omega,fun j=>?_,trivial⟩,trivial⟩
 cases j with
 | zero=>show (0:Int)≤0∧(0:Int) < 256;omega
 | succ j=>exact bs j
end Go.Proofs.YtnkipgbnnhahbaaGreatDoor
