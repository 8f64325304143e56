/- The program's own small helpers of layer 13: noughts ahead are left out, bytes are copied; a byte behind a number. -/
import Derived.Test.YtnkipgbnnhahbaaDoorPrOidOf
import Derived.Test.YtnkipgbnnhahbaaDoorRwT
import Derived.Test.YtnkipgbnnhahbaaDoorRows
import Derived.Deep.OwnRows
import Derived.Deep.AppendLies
import Derived.Great.BuildSlice
import Derived.Laws.BitsAllLaws
import Derived.Deep.WholeRow
import Derived.Deep.RegionHeld3
import Derived.Deep.DeepCutAuto
import Derived.Deep.DeepFit
namespace Go.Proofs.YtnkipgbnnhahbaaDoor
open Go.RowKit
theorem newV_none (w:World) (n c:Nat):NewV w (.slice none n c):=fun a m k h _=>by cases h
theorem NewV.up {w w1:World} {v:Value} (h:NewV w1 v) (hs:w.heap.size≤w1.heap.size):NewV w v:=fun a n c e h0=>Nat.le_trans hs (h a n c e h0)
theorem num_less {B:List Int} (h:¬ (B.length=0∨127 < B.getD 0 0∨(1 < B.length∧B.getD 0 0=0∧B.getD 1 0 < 128))):(if B.getD 0 0=0 then B.drop 1 else B)=lessZ B:=by
 rcases B with _|⟨a,_|⟨c,t⟩⟩
 ·exact absurd (Or.inl rfl) h
 ·show (if a=0 then [] else [a])=lessZ [a]
  rw [lessZ]
  rfl
 ·show (if a=0 then c :: t else a :: c :: t)=lessZ (a :: c :: t)
  rw [lessZ]
  by_cases k:a=0
  ·rw [if_pos k,if_pos k,lessZ,if_neg]
   intro k2
   refine h (.inr (.inr ⟨?_,k,?_⟩))
   ·show 1 < t.length + 1 + 1;omega
   ·show c < 128;omega
  ·rw [if_neg k,if_neg k]
theorem num_is {B:List Int} (h:¬ (B.length=0∨127 < B.getD 0 0∨(1 < B.length∧B.getD 0 0=0∧B.getD 1 0 < 128))):numP B=if 64 < (lessZ B).length then .error 2 else .ok (lessZ B):=by
 unfold numP
 rw [if_neg h,num_less h]
theorem i64_or_natP (a b:Nat) (ha:a < 9223372036854775808) (hb:b < 9223372036854775808):bits .or .i64 (a:Int) (b:Int)=((a ||| b:Nat):Int):=by
 have hx:a ||| b < 2 ^ 63:=Nat.or_lt_two_pow (by omega) (by omega)
 show IntKind.i64.wrap ((BitVec.ofInt 64 (a:Int) ||| BitVec.ofInt 64 (b:Int)).toNat:Int)=_
 rw [BitVec.toNat_or,ofInt_u64 a (by omega),ofInt_u64 b (by omega),IntKind.wrap_i64]
 omega
theorem or_byteP {n x:Nat} (hn:n < 16777216) (hx:x < 256):bits .or .i64 ((256 * n:Nat):Int) (x:Int)=((256 * n + x:Nat):Int):=by
 rw [i64_or_natP _ _ (by omega) (by omega)]
 have:=Nat.two_pow_add_eq_or_of_lt (i:=8) (b:=x) (by omega) n
 rw [show (2:Nat) ^ 8=256 from rfl] at this
 rw [this]
set_option linter.unusedSimpArgs false in
set_option maxRecDepth 100000 in
set_option maxHeartbeats 1000000 in
theorem c13_Clone {v:Value} {X:List Int} {w:World} (hv:Bs w v X) (hl:X.length≤140737488355328):Calls Tryd.prog 29 #[v] w fun e w'=>∃ v',e=.returned v'∧Bs w' v' X∧NewV w v'∧Below w.heap.size w w':=by
 have HV:Hid (Bs w v X):=hv
 obtain ⟨ao,cap,rfl,h1,h2,h3⟩:=hv
 go_enter Tryd.func29,Tryd.ntmps29
 cases ao with
 | none =>
  have hX:X.length=0:=by
   by_cases q:0 < X.length
   ·obtain ⟨_,_,e,_⟩:=h3 q
    cases e
   ·omega
  obtain rfl:X=[]:=List.eq_nil_of_length_eq_zero hX
  clear h3
  have e0:(binOp .eql 22 (.slice none 0 cap) (.slice none 0 0)).run Tryd.prog w=.ok (.bool true) w:=by kernel_rfl
  go_wp2_with fail
  go_ret
  exact ⟨_,rfl,⟨none,0,rfl,by decide,by decide,fun h=>by simp at h⟩,newV_none _ _ _,Below.refl _ _⟩
 | some ad =>
  clear h3
  have e0:(binOp .eql 22 (.slice (some ad) X.length cap) (.slice none 0 0)).run Tryd.prog w=.ok (.bool false) w:=by kernel_rfl
  have own0:=own_nilM w
  have hb0:=HV.out.later ((Below.refl _ _).alloc (Nat.le_refl _) (.cells #[] 5))
  go_wp2_with (first|(at_builtin;refine wpList_append_bs (by rfl) _ _ (by rfl) w.heap.size _ 0 ([]) (by rfl) own0 _ X (by rfl) hb0 (by omega) (by simp) ?_;intro v1 w1 own1 hgrow hat)|fail)
  have hb1:=below_own (base:=w.heap.size) ((Below.refl w.heap.size w).alloc (Nat.le_refl _) (.cells #[] 5)) hgrow (by simp) (fun g hg=>own_geM own0 hg) (Nat.le_refl _)
  rw [Nat.zero_add,List.nil_append] at own1
  go_ret
  exact ⟨v1,rfl,Bs.of_own own1,newV_own own1,hb1⟩
end Go.Proofs.YtnkipgbnnhahbaaDoor
