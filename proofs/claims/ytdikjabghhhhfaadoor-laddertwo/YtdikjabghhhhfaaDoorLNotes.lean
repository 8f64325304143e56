/- ladder's notes of steps: none, or one at a row's end. -/
import Derived.Test.YtdikjabghhhhfaaDoorRows
import Derived.Test.YtdikjabghhhhfaaDoorShape
import Derived.Deep.WholeRow
import Derived.Deep.RegionHeld3
import Derived.Deep.DeepCutAuto
import Derived.Deep.DeepFit
namespace Go.Proofs.YtdikjabghhhhfaaDoor
open Go.RowKit

set_option maxRecDepth 100000 in
theorem con_nMul {w : World} {d : Int} :
    Calls Tryd.prog 28 #[.int .i64 d] w fun e w' => e = .returned (.tuple #[]) ∧ w' = w := by
  go_enter Tryd.func28, Tryd.ntmps28
  go_wp2
  exact bodyPost_end (v := .tuple #[]) (by simp [results, Tryd.results28, go_sem]) rfl ⟨rfl, rfl⟩

set_option maxRecDepth 100000 in
theorem con_nBase {w : World} {d : Int} :
    Calls Tryd.prog 40 #[.int .i64 d] w fun e w' => e = .returned (.tuple #[]) ∧ w' = w := by
  go_enter Tryd.func40, Tryd.ntmps40
  go_wp2
  exact bodyPost_end (v := .tuple #[]) (by simp [results, Tryd.results40, go_sem]) rfl ⟨rfl, rfl⟩

set_option maxRecDepth 100000 in
theorem con_nTr {w : World} {d : Int} {b r k : Nat} {cs : List Value} (Bb : Blk w b [.slice (some ⟨r, 0, none⟩) k 1152]) (Br : Blk w r cs) (l : cs.length = 1152) (hk : k < 1152) (hne : r ≠ b) :
    Calls Tryd.prog 52 #[.int .i64 d, .pointer (some ⟨b, 0, none⟩)] w fun e w' => e = .returned (.tuple #[]) ∧ w' = (((w.setCell ⟨r, k, none⟩ (.int .i64 d)).setCell ⟨b, 0, none⟩ (.slice (some ⟨r, 0, none⟩) (k + 1) 1152)).alloc (.cells #[.int .i64 d] 3)) := by
  obtain ⟨v, hv⟩ : ∃ v, cs[k]? = some v := ⟨_, List.getElem?_eq_getElem (by omega)⟩
  have c0 := Bb.cell 0 _ rfl
  have f0 := Bb.frozen 0
  have lb := Bb.lt
  have lr := Br.lt
  have c1 := (Br.alloc (.cells #[.int .i64 d] 3)).cell k _ hv
  have f1 := (Br.alloc (.cells #[.int .i64 d] 3)).frozen k
  have k1 : k ≤ 1151 := by omega
  have k2 : k + 1 ≤ 1152 := by omega
  go_enter Tryd.func52, Tryd.ntmps52
  go_wp2
  exact bodyPost_end (v := .tuple #[]) (by simp [results, Tryd.results52, go_sem]) rfl ⟨rfl, rfl⟩

end Go.Proofs.YtdikjabghhhhfaaDoor
