import Derived.Test.YtohcdbifhnfcbaaGreatDoorKrEl
import Derived.Test.YtohcdbifhnfcbaaGreatDoorErG
import Derived.Test.YtohcdbifhnfcbaaGreatDoorRdSgn
import Derived.Test.YtohcdbifhnfcbaaGreatDoorRows
import Derived.Deep.OwnRows
import Derived.Deep.AppendLies
import Derived.Great.BuildSlice
import Derived.Laws.Rows
import Derived.BigQuiet
import Derived.Deep.WholeRow
import Derived.Deep.RegionHeld3
import Derived.Deep.DeepCutAuto
import Derived.Deep.DeepFit
namespace Go.Proofs.YtohcdbifhnfcbaaGreatDoor
open Go.RowKit
set_option linter.unusedSimpArgs false in
set_option maxRecDepth 100000 in
set_option maxHeartbeats 400000 in
theorem ZhE {n:Nat} {w:World} (h:n≤21):Calls Tryz.prog 8 #[erN n,.int .i64 (n:Int),.int .i64 (-1)] w fun e w'=>e=.returned (.bool true)∧Below w.heap.size w w':=by
 by_cases c:n=0
 ·subst c
  rw[Zos];go_enter Tryz.func8,Tryz.ntmps8;go_wp2_with fail;refine Ziq.mono ?_;rintro e w' ⟨rfl,rfl⟩;go_wp2_with fail;go_ret;exact ⟨rfl,Below.refl _ _⟩
 ·rw[Zqv c]
  go_enter Tryz.func8,Tryz.ntmps8;go_wp2_with fail;refine (Zkm (by omega) h).mono ?_;rintro e w' ⟨rfl,rfl⟩;have d:((n:Int) == (n:Int))=true:=beq_self_eq_true _;go_wp2_with fail;go_ret;exact ⟨rfl,Below.refl _ _⟩
set_option linter.unusedSimpArgs false in
set_option maxRecDepth 100000 in
set_option maxHeartbeats 400000 in
theorem ZlO {c p:Nat} {er:Value} {w:World} (G:ZjW w) (h:ZdT w c p er) (h1:1≤c) (h2:c≤21):Calls Tryz.prog 8 #[er,.int .i64 (c:Int),.int .i64 (atP c p)] w fun e w'=>e=.returned (.bool true)∧Below w.heap.size w w':=by
 unfold atP;rcases h with ⟨rfl,rfl⟩|⟨hc,g,rfl,B⟩
 ·rw[if_pos rfl]
  have k:=ZhE (n:=2) (w:=w) (by omega);rw[Zqv (by omega)] at k;exact k
 ·rw[if_neg hc]
  have HB:Hid (Blk w g [.int .i64 (p:Int),.iface 46 (.int .i64 (c:Int))]):=B;have HG:Hid (ZjW w):=G;clear B G;have g1:¬ (p:Int)<0:=by omega
  go_enter Tryz.func8,Tryz.ntmps8;go_wp2_with fail;refine (Zko HG.out HB.out).mono ?_;rintro e w' ⟨rfl,hb⟩;rw[show (decide ((c:Int)=(c:Int)) && decide ((p:Int)=(p:Int)))=true by simp];go_wp2_with fail;go_ret;exact ⟨rfl,hb⟩
end Go.Proofs.YtohcdbifhnfcbaaGreatDoor
