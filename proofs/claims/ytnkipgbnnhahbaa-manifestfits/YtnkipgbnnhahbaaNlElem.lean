/- A name's element: what the program answers. -/
import Derived.Test.YtnkipgbnnhahbaaNlSet
import Derived.Test.YtnkipgbnnhahbaaRwT
import Derived.Test.YtnkipgbnnhahbaaNmBase
import Derived.Test.YtnkipgbnnhahbaaNmSm0
import Derived.Test.YtnkipgbnnhahbaaRows
import Derived.Deep.OwnRows
import Derived.Deep.AppendLies
import Derived.Great.BuildSlice
import Derived.Laws.Rows
import Derived.BigQuiet
import Derived.Deep.WholeRow
import Derived.Deep.RegionHeld3
import Derived.Deep.DeepCutAuto
import Derived.Deep.DeepFit
namespace Go.Proofs.Ytnkipgbnnhahbaa
open Go.RowKit
theorem ElemR.bad {w w' : World} {n : List Pn} (h : mayN n = false) (hb : Below w.heap.size w w') : ElemR w n (.returned (.tuple #[.agg #[.int .i64 0, .int .i64 0, .bool false, .slice none 0 0, .slice none 0 0], .iface 38 (.int .i64 1)])) w' := ⟨fun _ => ⟨rfl, hb⟩, fun k => (by rw [h] at k; cases k)⟩
theorem ElemR.ok {w w' : World} {n : List Pn} {kv : Value} (h : mayN n = true) (hr : RwT w' w.heap.size kv (n.map setN)) (hb : Below w.heap.size w w') : ElemR w n (.returned (.tuple #[.agg #[.int .i64 0, .int .i64 16, .bool true, .slice none 0 0, kv], .nilIface])) w' := by
  obtain ⟨xs, h1, h2⟩ := hr
  rw [List.length_map] at h1
  exact ⟨fun k => (by rw [h] at k; cases k), fun _ => ⟨kv, xs, rfl, h1, h2, hb⟩⟩
theorem own_lowR {w : World} {base b2 size : Nat} {e : TypeId} {v : Value} {n : Nat} {xs : List Value} (h : w.ownsRow base e size v n xs) (hb : b2 ≤ base) : w.ownsRow b2 e size v n xs := by
  obtain ⟨hl, h⟩ := h
  rcases h with h | ⟨g, cap, cur, h1, h2, h3⟩
  · exact ⟨hl, .inl h⟩
  · exact ⟨hl, .inr ⟨g, cap, cur, h1, Nat.le_trans hb h2, h3⟩⟩
theorem RwT.ret {w : World} {N M g : Nat} {kv : Value} {Ts : List Tl} {X : Array Value} (h : RwT w N kv Ts) (hg : g < N) (hM : M ≤ N) : RwT (w.setRow g X) M kv Ts := by
  obtain ⟨xs, h1, h2⟩ := h
  exact ⟨xs, own_lowR (own_agr (S := fun b => N ≤ b) h1 ((Agr.refl _ _).row (by omega)) (fun g hg => (own_geK h1 hg).1)) hM, fun i t ht => (h2 i t ht).next ((Agr.refl _ _).row (fun h => by have := h.1; omega)) (fun b hb _ => ⟨Nat.le_trans hM hb.1, hb.2⟩)⟩
theorem RwT.below {w : World} {N b : Nat} {kv : Value} {Ts : List Tl} (h : RwT w N kv Ts) (hb : kv.ownBlock = some b) : b < w.heap.size := by
  obtain ⟨xs, h1, _⟩ := h
  exact (own_geK h1 hb).2
theorem may_at {n : List Pn} {i : Nat} {p : Pn} (hp : n[i]? = some p) (h : partN p = false) : mayN n = false := by
  unfold mayN
  rw [Bool.and_eq_false_iff]
  right
  rw [List.all_eq_false]
  exact ⟨p, List.mem_of_getElem? hp, by rw [h]; decide⟩
theorem all_next {n : List Pn} {i : Nat} {p : Pn} (h : (n.take i).all partN = true) (hp : n[i]? = some p) (k : partN p = true) : (n.take (i + 1)).all partN = true := by
  rw [List.take_add_one, hp, List.all_append, h]
  simp [k]
end Go.Proofs.Ytnkipgbnnhahbaa
