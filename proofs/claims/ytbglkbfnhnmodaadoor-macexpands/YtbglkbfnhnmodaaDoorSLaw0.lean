/- The laws on digests: the tables, as letters. -/
import Derived.Test.YtbglkbfnhnmodaaDoorRows
import Derived.Test.YtbglkbfnhnmodaaDoorSCodeD
import Derived.Test.YtbglkbfnhnmodaaDoorSStr
import Derived.Test.YtbglkbfnhnmodaaDoorEqEight
import Derived.Test.YtbglkbfnhnmodaaDoorShape
import Derived.Deep.WholeRow
import Derived.Deep.RegionHeld3
import Derived.Deep.DeepCutAuto
import Derived.Deep.DeepFit
namespace Go.Proofs.YtbglkbfnhnmodaaDoor
open Go.RowKit

theorem fits_HS : fits HS := by
  intro j
  by_cases hj : j < 8
  · have : ∀ j : Fin 8, 0 ≤ HS.getD j.1 0 ∧ HS.getD j.1 0 < 18446744073709551616 := by decide
    exact this ⟨j, hj⟩
  · rw [List.getD_eq_getElem?_getD, List.getElem?_eq_none (by show 8 ≤ j; omega)]; exact ⟨by simp, by simp⟩
theorem Bs.alloc {w : World} {v : Value} {bs : List Int} (h : Bs w v bs) (o : Obj) : Bs (w.alloc o) v bs := h.later ((Below.refl _ _).alloc (Nat.le_refl _) o)
/-- the document's constants lie there -/
def KAt (w : World) (kb : Nat) : Prop := ∀ j, j < 80 → w.cell? ⟨kb, j, none⟩ = some (.int .u64 (KS.getD j 0))
theorem KAt.later {w w' : World} {kb : Nat} (h : KAt w kb) (hb : Below w.heap.size w w') : KAt w' kb := fun j hj => cell_later (h j hj) hb
theorem KAt.alloc {w : World} {kb : Nat} (h : KAt w kb) (o : Obj) : KAt (w.alloc o) kb := h.later ((Below.refl _ _).alloc (Nat.le_refl _) o)
theorem un_drew {w w' : World} (h : Below w.drew.heap.size w.drew w') : Below w.heap.size w w' := ⟨h.os, h.tape, h.output, h.size, h.block⟩
theorem con_BeginL {w : World} (G : GlsS w) :
    Calls Tryd.prog 21 #[] w fun e w' => e = .returned (.agg #[.int .u64 14680500436340154072, .int .u64 7105036623409894663, .int .u64 10473403895298186519, .int .u64 1526699215303891257, .int .u64 7436329637833083697, .int .u64 10282925794625328401, .int .u64 15784041429090275239, .int .u64 5167115440072839076]) ∧ Below w.heap.size w w' := con_Begin G
theorem r7_MadeL {w : World} :
    Calls Tryd.prog 9 #[] w fun e w' => ∃ kb kc : Nat, e = .returned (.agg #[.slice (some ⟨kb, 0, none⟩) 80 kc, .int .u64 14680500436340154072, .int .u64 7105036623409894663, .int .u64 10473403895298186519, .int .u64 1526699215303891257, .int .u64 7436329637833083697, .int .u64 10282925794625328401, .int .u64 15784041429090275239, .int .u64 5167115440072839076]) ∧ KAt w' kb ∧ Below w.heap.size w w' := by
  refine r7_Made.mono ?_
  rintro e w' ⟨kv, rfl, hs, hb⟩
  rcases hs with ⟨_, h⟩ | ⟨b, cap, h1, h2, h3, h4, h5⟩
  · exact absurd h (by decide)
  · rw [h1]
    exact ⟨b, cap, rfl, h5, hb⟩

end Go.Proofs.YtbglkbfnhnmodaaDoor
