/- The law's told. The law's told, shortly; a signature's bytes are one. The law's told, and how two signatures are the same. -/
import Derived.Test.YtnkipgbnnhahbaaGreatDoorClWr
import Derived.Test.YtnkipgbnnhahbaaGreatDoorErLaw
import Derived.Test.YtnkipgbnnhahbaaGreatDoorCtSeal
import Derived.Test.YtnkipgbnnhahbaaGreatDoorEdEncode
import Derived.Test.YtnkipgbnnhahbaaGreatDoorMfSgd
import Derived.Test.YtnkipgbnnhahbaaGreatDoorEdDecode
import Derived.Test.YtnkipgbnnhahbaaGreatDoorRows
import Derived.Deep.OwnRows
import Derived.Deep.AppendLies
import Derived.Great.BuildSlice
import Derived.Laws.Rows
import Derived.BigQuiet
import Derived.Deep.WholeRow
import Derived.Deep.RegionHeld3
import Derived.Deep.DeepCutAuto
import Derived.Deep.DeepFit
namespace Go.Proofs.YtnkipgbnnhahbaaGreatDoor
open Go.RowKit
set_option linter.unusedSimpArgs false in
set_option maxRecDepth 100000 in
set_option maxHeartbeats 400000 in
theorem con_toldN {n:Nat} {w:World} (h:n≤21):Calls Tryz.prog 8 #[erN n,.int .i64 (n:Int),.int .i64 (-1)] w fun e w'=>e=.returned (.bool true)∧Below w.heap.size w w':=by
 by_cases c:n=0
 ·subst c
  rw [erN_0]
  go_enter Tryz.func8,Tryz.ntmps8
  go_wp2_with fail
  refine con_CodeNil.mono ?_
  rintro e w' ⟨rfl,rfl⟩
  go_wp2_with fail
  go_ret
  exact ⟨rfl,Below.refl _ _⟩
 ·rw [erN_s c]
  go_enter Tryz.func8,Tryz.ntmps8
  go_wp2_with fail
  refine (con_CodeOf (by omega) h).mono ?_
  rintro e w' ⟨rfl,rfl⟩
  have d:((n:Int) == (n:Int))=true:=beq_self_eq_true _
  go_wp2_with fail
  go_ret
  exact ⟨rfl,Below.refl _ _⟩
set_option linter.unusedSimpArgs false in
set_option maxRecDepth 100000 in
set_option maxHeartbeats 400000 in
theorem con_toldE {c p:Nat} {er:Value} {w:World} (G:GlsE w) (h:ErAt w c p er) (h1:1≤c) (h2:c≤21):Calls Tryz.prog 8 #[er,.int .i64 (c:Int),.int .i64 (atP c p)] w fun e w'=>e=.returned (.bool true)∧Below w.heap.size w w':=by
 unfold atP
 rcases h with ⟨rfl,rfl⟩|⟨hc,g,rfl,B⟩
 ·rw [if_pos rfl]
  have k:=con_toldN (n:=2) (w:=w) (by omega)
  rw [erN_s (by omega)] at k
  exact k
 ·rw [if_neg hc]
  have HB:Hid (Blk w g [.int .i64 (p:Int),.iface 46 (.int .i64 (c:Int))]):=B
  have HG:Hid (GlsE w):=G
  clear B G
  have g1:¬ (p:Int) < 0:=by omega
  go_enter Tryz.func8,Tryz.ntmps8
  go_wp2_with fail
  refine (con_IsSpot HG.out HB.out).mono ?_
  rintro e w' ⟨rfl,hb⟩
  rw [show (decide ((c:Int)=(c:Int)) && decide ((p:Int)=(p:Int)))=true by simp]
  go_wp2_with fail
  go_ret
  exact ⟨rfl,hb⟩
theorem con_toldY {er:Value} {w:World} (h:erN 3=er):Calls Tryz.prog 8 #[er,.int .i64 3,.int .i64 (-1)] w fun e w'=>e=.returned (.bool true)∧Below w.heap.size w w':=by
 subst h
 exact con_toldN (n:=3) (by omega)
theorem con_toldZ {n:Nat} {er:Value} {w:World} (h:erN n=er) (hn:n≤21):Calls Tryz.prog 8 #[er,.int .i64 (n:Int),.int .i64 (-1)] w fun e w'=>e=.returned (.bool true)∧Below w.heap.size w w':=by
 subst h
 exact con_toldN hn
theorem sigB_one {r s:Int} {X Y x y X' Y' x' y':List Int} (h:SigB r s X Y x y) (k:SigB r s X' Y' x' y'):x=x'∧y=y':=by
 have h1:=is48_one h.1 k.1
 have h2:=is48_one h.2.1 k.2.1
 subst h1 h2
 have e1:=h.2.2.1.symm.trans k.2.2.1
 have e2:=h.2.2.2.symm.trans k.2.2.2
 cases e1
 cases e2
 exact ⟨rfl,rfl⟩
theorem con_toldS20 {c p:Nat} {a:Int} {er:Value} {w:World} (ha:atP c p=a) (G:GlsE w) (h:ErAt w c p er) (h1:1≤c) (h2:c≤21):Calls Tryz.prog 8 #[er,.int .i64 (c:Int),.int .i64 a] w fun e w'=>e=.returned (.bool true)∧Below w.heap.size w w':=by
 subst ha
 exact con_toldE G h h1 h2
theorem sig_same20 {es fs:List Value} {r1 s1 r2 s2:List Value} {a b:Int} (h1:r1++s1=es) (h2:r2++s2=fs) (u1:U6 r1 a) (u2:U6 s1 b) (u3:U6 r2 a) (u4:U6 s2 b):∀ w:World,(Op.equalIn 10000 27 (.agg es.toArray) (.agg fs.toArray)).run Tryz.prog w=.ok true w:=fun w=>by
 subst h1 h2
 exact (eqS u1 u2 u3 u4 w).trans (by rw [decide_eq_true ⟨rfl,rfl⟩])
theorem bld_sg20:∀ w:World,(Instr.build 27 #[]).run Tryz.prog w=.ok (.agg #[.int .u64 0,.int .u64 0,.int .u64 0,.int .u64 0,.int .u64 0,.int .u64 0,.int .u64 0,.int .u64 0,.int .u64 0,.int .u64 0,.int .u64 0,.int .u64 0]) w:=fun w=>by kernel_rfl
end Go.Proofs.YtnkipgbnnhahbaaGreatDoor
