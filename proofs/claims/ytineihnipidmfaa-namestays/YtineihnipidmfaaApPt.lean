/- append of names, also of none, to a row of one's own. -/
import Derived.Test.YtineihnipidmfaaRows
import Derived.Test.YtineihnipidmfaaApBs
import Derived.Test.YtineihnipidmfaaNmRd
import Derived.Test.YtineihnipidmfaaNmPt
import Derived.Test.YtineihnipidmfaaDrDG
namespace Go.Proofs.Ytineihnipidmfaa
open Go.RowKit

theorem run_append_emptyP {w : World} {base ao : Option Addr} {n cap c : Nat} {ty : TypeId} (h : n ≤ cap) :
    (Builtin.append_ #[23, 23] ty #[.slice base n cap, .slice ao 0 c]).run Try.prog w = .ok (.slice base n cap) w := by
  have hu : ∀ w : World, (underlying 23).run Try.prog w = .ok (.slice 47) w := run_underlying Try.underlying23
  have hs : ∀ w : World, (Go.sizeOf 47).run Try.prog w = .ok 2 w := fun w => by kernel_rfl
  have hl : ∀ (a : Addr) (w : World), (loadCells a 0).run Try.prog w = .ok #[] w := fun _ _ => rfl
  cases base <;> cases ao <;> simp [hl, Builtin.append_, hu, hs, h, Builtin.firstCells, Builtin.lenOf, Result.andThen, storeCells]
theorem own_cap {w : World} {base size : Nat} {e : TypeId} {v : Value} {n : Nat} {xs : List Value} (h : w.ownsRow base e size v n xs) : ∃ ao cap, v = .slice ao n cap ∧ n ≤ cap := by
  rcases h.2 with ⟨h1, h2⟩ | ⟨g, cap, cur, h1, _, _, h4, _⟩
  · exact ⟨none, 0, by rw [h1, h2], by omega⟩
  · exact ⟨_, cap, h1, h4⟩
theorem ptC_at {n : List Pn} {j : Nat} {u : Value} (h : (ptC n)[j]? = some u) : ∃ i p, n[i]? = some p ∧ ((j = i * 2 ∧ u = .int .i64 p.1) ∨ (j = i * 2 + 1 ∧ u = .string (strOfNums p.2))) := by
  have hj := (List.getElem?_eq_some_iff.1 h).1
  rw [ptC_len] at hj
  have hi : j / 2 < n.length := by omega
  obtain ⟨p, hp⟩ : ∃ p, n[j / 2]? = some p := ⟨_, List.getElem?_eq_getElem hi⟩
  obtain ⟨h1, h2⟩ := ptC_get hp
  rcases Nat.mod_two_eq_zero_or_one j with m | m
  · have e : j = j / 2 * 2 := by omega
    rw [← e, h] at h1
    exact ⟨j / 2, p, hp, .inl ⟨e, Option.some.inj h1⟩⟩
  · have e : j = j / 2 * 2 + 1 := by omega
    rw [← e, h] at h2
    exact ⟨j / 2, p, hp, .inr ⟨e, Option.some.inj h2⟩⟩
theorem ptC_ones (n : List Pn) : ∀ u ∈ ptC n, u.oneCell' = true := fun u hu => by
  obtain ⟨j, hj⟩ := List.mem_iff_getElem?.1 hu
  obtain ⟨i, p, -, ⟨-, rfl⟩ | ⟨-, rfl⟩⟩ := ptC_at hj <;> rfl
/-- a name behind a row of one's own, be it none -/
theorem wpList_append_pt {ops : Array Oper} {rest : List Oper} {o : Oper} {a : Act} {w : World} {Q : Exit → Act → World → Prop} (hgd : o.guard = none) (s x : Operand)
    (ho : o.op = .call { callee := .builtin .append, args := #[s, x], argTypes := #[23, 23] })
    (base : Nat) (v : Value) (n : Nat) (xs : List Pn) (hs : a.eval s = v) (hown : w.ownsRow base 47 2 v n (ptC xs))
    (u : Value) (B : List Pn) (hx : a.eval x = u) (hB : NmAt w u B) (h47 : (n + B.length) * 24 ≤ 140737488355328) (hbase : base ≤ w.heap.size)
    (h : ∀ v' w', w'.ownsRow base 47 2 v' (n + B.length) (ptC (xs ++ B)) → w.grownBy w' v.ownBlock → (v'.ownBlock = v.ownBlock ∨ v'.ownBlock = some w.heap.size) → wpList Try.prog ops Q rest (a.put o.dst v') w') :
    wpList Try.prog ops Q (o :: rest) a w := by
  obtain ⟨ao, cap, rfl, c1, c2, c3⟩ := hB
  by_cases h0 : B.length = 0
  · obtain rfl : B = [] := List.eq_nil_of_length_eq_zero h0
    obtain ⟨bo, cp, rfl, k1⟩ := own_cap hown
    refine Lib.wpList_append_run_sl w hgd s x 23 ho _ _ hs hx (run_append_emptyP k1) ?_
    exact h _ w (by simpa using hown) (grown_same _ _) (.inl rfl)
  · obtain ⟨b, of, rfl, hb0, hc0⟩ := c3 (by omega)
    obtain ⟨i0, hi0, hz0, hz1, hz2⟩ := info_partsD info_pt
    refine wpList_append_lies _ hgd s x _ ho base 47 i0 _ 2 24 Try.underlying23 hi0 hz0 hz1 hz2 rfl (by omega) v n (ptC xs) hs hown ⟨b, of, none⟩ B.length cap (ptC B) hx (ptC_len B) ?_ (ptC_ones B) (by omega) (by unfold maxLen; omega) (by omega) hbase w.heap.size rfl ?_
    · intro j z hz
      have e : (⟨b, of, none⟩ : Addr).add j = ⟨b, of + j, none⟩ := by unfold Addr.add; split <;> simp_all
      rw [e]
      obtain ⟨i, p, hp, ⟨rfl, rfl⟩ | ⟨rfl, rfl⟩⟩ := ptC_at hz
      · exact (hc0 i p hp).1
      · rw [← Nat.add_assoc]
        exact (hc0 i p hp).2
    · intro g cap1 w' hown1 hgrow hat hlt
      refine h _ w' (by rw [ptC_app]; exact hown1) hgrow ?_
      rcases hat with e | e
      · exact .inl (by rw [e]; rfl)
      · exact .inr (by rw [← e]; rfl)
end Go.Proofs.Ytineihnipidmfaa
