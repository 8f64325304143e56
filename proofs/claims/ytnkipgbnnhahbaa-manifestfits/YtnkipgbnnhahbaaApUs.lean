/- Words of 64 bits in slices; append of any of them, also of none, to a row of one's own. -/
import Derived.Test.YtnkipgbnnhahbaaApBs
import Derived.Test.YtnkipgbnnhahbaaRows
namespace Go.Proofs.Ytnkipgbnnhahbaa
open Go.RowKit
/-- the slice value v, in the world w, holds the words L -/
def Us (w : World) (v : Value) (L : List Int) : Prop :=
  ∃ ao cap, v = .slice ao L.length cap ∧ cap ≤ maxLen ∧ L.length ≤ cap ∧ (0 < L.length → ∃ b o, ao = some ⟨b, o, none⟩ ∧ b < w.heap.size ∧ ∀ j, j < L.length → w.cell? ⟨b, o + j, none⟩ = some (.int .u64 (L.getD j 0)))
theorem Us.later {w w' : World} {v : Value} {L : List Int} (h : Us w v L) (hb : Below w.heap.size w w') : Us w' v L := by
  obtain ⟨ao, cap, h1, h2, h3, h4⟩ := h
  refine ⟨ao, cap, h1, h2, h3, fun hp => ?_⟩
  obtain ⟨b, o, e1, e2, e3⟩ := h4 hp
  exact ⟨b, o, e1, Nat.lt_of_lt_of_le e2 hb.size, fun j hj => (hb.cell e2).trans (e3 j hj)⟩
theorem Us.of_own {w : World} {base : Nat} {e : TypeId} {v : Value} {n : Nat} {D : List Int} (h : w.ownsRow base e 1 v n (us D)) : Us w v D := by
  obtain ⟨hl, h⟩ := h
  have hn : D.length = n := by simpa using hl
  rcases h with ⟨h1, h2⟩ | ⟨g, cap, cur, h1, h2, h3, h4, h5, h6, h7⟩
  · exact ⟨none, 0, by rw [h1, hn, h2], Nat.zero_le _, by omega, fun h => by omega⟩
  · refine ⟨_, cap, by rw [hn]; exact h1, h5, by omega, fun _ => ⟨g, 0, rfl, (Array.getElem?_eq_some_iff.1 h3).1, fun j hj => ?_⟩⟩
    have e1 : (cur.toList.take (n * 1))[j]? = some (.int .u64 (D.getD j 0)) := by rw [h7]; exact us_get D j hj
    rw [List.getElem?_take, if_pos (by omega)] at e1
    rw [Nat.zero_add]
    simp only [World.cell?, h3, Option.isSome_none, Bool.false_eq_true, if_false]
    simpa using e1
theorem us_none (w : World) : Us w (.slice none 0 0) [] := ⟨none, 0, rfl, by decide, Nat.le_refl _, fun h => absurd h (by decide)⟩
theorem us_blk {w : World} {g q : Nat} {P : List Int} (B : Blk w g (us P)) (l : P.length = q) (h : q ≤ maxLen) : Us w (.slice (some ⟨g, 0, none⟩) q q) P :=
  ⟨some ⟨g, 0, none⟩, q, by rw [l], h, by omega, fun _ => ⟨g, 0, rfl, B.lt, fun j hj => by rw [Nat.zero_add]; exact B.cell j _ (us_get P j hj)⟩⟩
theorem us_cut {w : World} {g o n cap r m k : Nat} {ad : Option Addr} {B : List Int} (h : Us w (.slice (some ⟨g, o, none⟩) n cap) B) (hn : B.length = n) (hr : r ≤ n) (hm : m = n - r) (ha : 0 < m → ad = some ⟨g, o + r, none⟩) (hk : k = cap - r) : Us w (.slice ad m k) (B.drop r) := by
  obtain ⟨a, c, e, h1, h2, h3⟩ := h
  obtain ⟨rfl, _, rfl⟩ : some ⟨g, o, none⟩ = a ∧ n = B.length ∧ cap = c := by simpa using e
  have el : (B.drop r).length = m := by rw [List.length_drop, hn, hm]
  refine ⟨ad, k, by rw [el], by rw [hk]; exact Nat.le_trans (Nat.sub_le _ _) h1, by rw [el, hm, hk]; exact Nat.sub_le_sub_right (by rw [← hn]; exact h2) r, fun h0 => ?_⟩
  rw [el] at h0 ⊢
  obtain ⟨b', o', e', k1, k2⟩ := h3 (by rw [hn]; exact Nat.lt_of_lt_of_le h0 (by rw [hm]; exact Nat.sub_le _ _))
  simp only [Option.some.injEq, Addr.mk.injEq] at e'
  obtain ⟨rfl, rfl, -⟩ := e'
  refine ⟨g, o + r, ha h0, k1, fun j hj => ?_⟩
  rw [Nat.add_assoc, k2 (r + j) (by omega), List.getD_eq_getElem?_getD, List.getD_eq_getElem?_getD, List.getElem?_drop]
theorem info_uA : (Try.prog.info? 87).map (fun i => (i.zero, i.size, i.bytes)) = some (some (.int .u64 0), 1, 8) := by kernel_rfl
end Go.Proofs.Ytnkipgbnnhahbaa
