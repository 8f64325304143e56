/- Words of 64 bits in slices; append of any of them, also of none, to a row of one's own. -/
import Derived.Test.YtineihnipidmfaaRows
import Derived.Test.YtineihnipidmfaaApBs
namespace Go.Proofs.Ytineihnipidmfaa
open Go.RowKit

/-- the slice value v, in the world w, holds the words L -/
def Us (w : World) (v : Value) (L : List Int) : Prop :=
  ∃ ao cap, v = .slice ao L.length cap ∧ cap ≤ maxLen ∧ L.length ≤ cap ∧ (0 < L.length → ∃ b o, ao = some ⟨b, o, none⟩ ∧ b < w.heap.size ∧ ∀ j, j < L.length → w.cell? ⟨b, o + j, none⟩ = some (.int .u64 (L.getD j 0)))
theorem Us.later {w w' : World} {v : Value} {L : List Int} (h : Us w v L) (hb : Below w.heap.size w w') : Us w' v L := by
  obtain ⟨ao, cap, h1, h2, h3, h4⟩ := h
  refine ⟨ao, cap, h1, h2, h3, fun hp => ?_⟩
  obtain ⟨b, o, e1, e2, e3⟩ := h4 hp
  exact ⟨b, o, e1, Nat.lt_of_lt_of_le e2 hb.size, fun j hj => (hb.cell e2).trans (e3 j hj)⟩
theorem Us.of_own {w : World} {base : Nat} {e : TypeId} {v : Value} {n : Nat} {D : List Int} (h : w.ownsRow base e 1 v n (us D)) : Us w v D := by
  obtain ⟨hl, h⟩ := h
  have hn : D.length = n := by simpa using hl
  rcases h with ⟨h1, h2⟩ | ⟨g, cap, cur, h1, h2, h3, h4, h5, h6, h7⟩
  · exact ⟨none, 0, by rw [h1, hn, h2], Nat.zero_le _, by omega, fun h => by omega⟩
  · refine ⟨_, cap, by rw [hn]; exact h1, h5, by omega, fun _ => ⟨g, 0, rfl, (Array.getElem?_eq_some_iff.1 h3).1, fun j hj => ?_⟩⟩
    have e1 : (cur.toList.take (n * 1))[j]? = some (.int .u64 (D.getD j 0)) := by rw [h7]; exact us_get D j hj
    rw [List.getElem?_take, if_pos (by omega)] at e1
    rw [Nat.zero_add]
    simp only [World.cell?, h3, Option.isSome_none, Bool.false_eq_true, if_false]
    simpa using e1
theorem us_none (w : World) : Us w (.slice none 0 0) [] := ⟨none, 0, rfl, by decide, Nat.le_refl _, fun h => absurd h (by decide)⟩
theorem us_blk {w : World} {g q : Nat} {P : List Int} (B : Blk w g (us P)) (l : P.length = q) (h : q ≤ maxLen) : Us w (.slice (some ⟨g, 0, none⟩) q q) P :=
  ⟨some ⟨g, 0, none⟩, q, by rw [l], h, by omega, fun _ => ⟨g, 0, rfl, B.lt, fun j hj => by rw [Nat.zero_add]; exact B.cell j _ (us_get P j hj)⟩⟩
theorem us_cut {w : World} {g o n cap r m k : Nat} {ad : Option Addr} {B : List Int} (h : Us w (.slice (some ⟨g, o, none⟩) n cap) B) (hn : B.length = n) (hr : r ≤ n) (hm : m = n - r) (ha : 0 < m → ad = some ⟨g, o + r, none⟩) (hk : k = cap - r) : Us w (.slice ad m k) (B.drop r) := by
  obtain ⟨a, c, e, h1, h2, h3⟩ := h
  obtain ⟨rfl, _, rfl⟩ : some ⟨g, o, none⟩ = a ∧ n = B.length ∧ cap = c := by simpa using e
  have el : (B.drop r).length = m := by rw [List.length_drop, hn, hm]
  refine ⟨ad, k, by rw [el], by rw [hk]; exact Nat.le_trans (Nat.sub_le _ _) h1, by rw [el, hm, hk]; exact Nat.sub_le_sub_right (by rw [← hn]; exact h2) r, fun h0 => ?_⟩
  rw [el] at h0 ⊢
  obtain ⟨b', o', e', k1, k2⟩ := h3 (by rw [hn]; exact Nat.lt_of_lt_of_le h0 (by rw [hm]; exact Nat.sub_le _ _))
  simp only [Option.some.injEq, Addr.mk.injEq] at e'
  obtain ⟨rfl, rfl, -⟩ := e'
  refine ⟨g, o + r, ha h0, k1, fun j hj => ?_⟩
  rw [Nat.add_assoc, k2 (r + j) (by omega), List.getD_eq_getElem?_getD, List.getD_eq_getElem?_getD, List.getElem?_drop]
theorem info_uA : (Try.prog.info? 70).map (fun i => (i.zero, i.size, i.bytes)) = some (some (.int .u64 0), 1, 8) := by kernel_rfl
theorem run_append_emptyU {w : World} {base ao : Option Addr} {n cap c : Nat} {ty : TypeId} (h : n ≤ cap) :
    (Builtin.append_ #[61, 61] ty #[.slice base n cap, .slice ao 0 c]).run Try.prog w = .ok (.slice base n cap) w := by
  have hu : ∀ w : World, (underlying 61).run Try.prog w = .ok (.slice 70) w := run_underlying Try.underlying61
  have hs : ∀ w : World, (Go.sizeOf 70).run Try.prog w = .ok 1 w := fun w => by kernel_rfl
  have hl : ∀ (a : Addr) (w : World), (loadCells a 0).run Try.prog w = .ok #[] w := fun _ _ => rfl
  cases base <;> cases ao <;> simp [hl, Builtin.append_, hu, hs, h, Builtin.firstCells, Builtin.lenOf, Result.andThen, storeCells]

/-- words behind a row of one's own, be they none -/
theorem wpList_append_us {ops : Array Oper} {rest : List Oper} {o : Oper} {a : Act} {w : World} {Q : Exit → Act → World → Prop} (hgd : o.guard = none) (s x : Operand)
    (ho : o.op = .call { callee := .builtin .append, args := #[s, x], argTypes := #[61, 61] })
    (base : Nat) (v : Value) (n : Nat) (xs : List Int) (hs : a.eval s = v) (hown : w.ownsRow base 70 1 v n (us xs))
    (u : Value) (B : List Int) (hx : a.eval x = u) (hB : Us w u B) (h47 : n + B.length ≤ 17592186044416) (hbase : base ≤ w.heap.size)
    (h : ∀ v' w', w'.ownsRow base 70 1 v' (n + B.length) (us (xs ++ B)) → w.grownBy w' v.ownBlock → (v'.ownBlock = v.ownBlock ∨ v'.ownBlock = some w.heap.size) → wpList Try.prog ops Q rest (a.put o.dst v') w') :
    wpList Try.prog ops Q (o :: rest) a w := by
  obtain ⟨ao, cap, rfl, c1, c2, c3⟩ := hB
  by_cases h0 : B.length = 0
  · obtain rfl : B = [] := List.eq_nil_of_length_eq_zero h0
    obtain ⟨bo, cp, rfl, k1, k2⟩ := own_slice hown
    refine Lib.wpList_append_run_sl w hgd s x 61 ho _ _ hs hx (run_append_emptyU k1) ?_
    exact h _ w (by simpa using hown) (grown_same _ _) (.inl rfl)
  · obtain ⟨b, of, rfl, hb0, hc0⟩ := c3 (by omega)
    obtain ⟨i0, hi0, hz0, hz1, hz2⟩ := info_parts info_uA
    refine wpList_append_lies _ hgd s x _ ho base 70 i0 _ 1 8 Try.underlying61 hi0 hz0 hz1 hz2 rfl (by omega) v n (us xs) hs hown ⟨b, of, none⟩ B.length cap (us B) hx (by simp [us]) ?_ (by simp [us, Value.oneCell']) (by omega) (by unfold maxLen; omega) (by omega) hbase w.heap.size rfl ?_
    · intro j z hz
      have hj : j < B.length := by
        have := (List.getElem?_eq_some_iff.1 hz).1
        simpa [us] using this
      have e : (⟨b, of, none⟩ : Addr).add j = ⟨b, of + j, none⟩ := by unfold Addr.add; split <;> simp_all
      rw [us_get B j hj] at hz
      rw [e, ← hz]
      exact hc0 j hj
    · intro g cap1 w' hown1 hgrow hat hlt
      refine h _ w' (by simpa [us] using hown1) hgrow ?_
      rcases hat with e | e
      · exact .inl (by rw [e]; rfl)
      · exact .inr (by rw [← e]; rfl)
end Go.Proofs.Ytineihnipidmfaa
