/- append of any bytes, also of none, to a row of one's own; rows apart. -/
import Derived.Test.YtnkipgbnnhahbaaPrime
import Derived.Test.YtnkipgbnnhahbaaByt
import Derived.Test.YtnkipgbnnhahbaaRows
import Derived.Lib.SlFresh
import Derived.Deep.AppendLies
import Derived.Deep.OwnRows
namespace Go.Proofs.Ytnkipgbnnhahbaa
open Go.RowKit
theorem info_bA : (Try.prog.info? 5).map (fun i => (i.zero, i.size, i.bytes)) = some (some (.int .u8 0), 1, 1) := by kernel_rfl
theorem run_append_empty {w : World} {base ao : Option Addr} {n cap c : Nat} {ty : TypeId} (h : n ≤ cap) :
    (Builtin.append_ #[22, 22] ty #[.slice base n cap, .slice ao 0 c]).run Try.prog w = .ok (.slice base n cap) w := by
  have hu : ∀ w : World, (underlying 22).run Try.prog w = .ok (.slice 5) w := run_underlying Try.underlying22
  have hs : ∀ w : World, (Go.sizeOf 5).run Try.prog w = .ok 1 w := fun w => by kernel_rfl
  have hl : ∀ (a : Addr) (w : World), (loadCells a 0).run Try.prog w = .ok #[] w := fun _ _ => rfl
  cases base <;> cases ao <;> simp [hl, Builtin.append_, hu, hs, h, Builtin.firstCells, Builtin.lenOf, Result.andThen, storeCells]
/-- a row of one's own is a slice -/
theorem own_slice {w : World} {base : Nat} {e : TypeId} {v : Value} {n : Nat} {xs : List Value} (h : w.ownsRow base e 1 v n xs) : ∃ ao cap, v = .slice ao n cap ∧ n ≤ cap ∧ cap ≤ maxLen := by
  rcases h.2 with ⟨h1, h2⟩ | ⟨g, cap, cur, h1, h2, h3, h4, h5, h6, h7⟩
  · subst h2; exact ⟨none, 0, h1, Nat.le_refl _, Nat.zero_le _⟩
  · exact ⟨_, cap, h1, h4, h5⟩
theorem grown_same (w : World) (row : Option Nat) : w.grownBy w row := ⟨rfl, rfl, rfl, Nat.le_refl _, fun _ _ _ => rfl⟩
/-- bytes behind a row of one's own, be they none -/
theorem wpList_append_bs {ops : Array Oper} {rest : List Oper} {o : Oper} {a : Act} {w : World} {Q : Exit → Act → World → Prop} (hgd : o.guard = none) (s x : Operand)
    (ho : o.op = .call { callee := .builtin .append, args := #[s, x], argTypes := #[22, 22] })
    (base : Nat) (v : Value) (n : Nat) (xs : List Int) (hs : a.eval s = v) (hown : w.ownsRow base 5 1 v n (u8s xs))
    (u : Value) (B : List Int) (hx : a.eval x = u) (hB : Bs w u B) (h47 : n + B.length ≤ 140737488355328) (hbase : base ≤ w.heap.size)
    (h : ∀ v' w', w'.ownsRow base 5 1 v' (n + B.length) (u8s (xs ++ B)) → w.grownBy w' v.ownBlock → (v'.ownBlock = v.ownBlock ∨ v'.ownBlock = some w.heap.size) → wpList Try.prog ops Q rest (a.put o.dst v') w') :
    wpList Try.prog ops Q (o :: rest) a w := by
  obtain ⟨ao, cap, rfl, c1, c2, c3⟩ := hB
  by_cases h0 : B.length = 0
  · obtain rfl : B = [] := List.eq_nil_of_length_eq_zero h0
    obtain ⟨bo, cp, rfl, k1, k2⟩ := own_slice hown
    refine Lib.wpList_append_run_sl w hgd s x 22 ho _ _ hs hx (run_append_empty k1) ?_
    exact h _ w (by simpa using hown) (grown_same _ _) (.inl rfl)
  · obtain ⟨b, of, rfl, hb0, hc0⟩ := c3 (by omega)
    obtain ⟨i0, hi0, hz0, hz1, hz2⟩ := info_parts info_bA
    refine wpList_append_lies _ hgd s x _ ho base 5 i0 _ 1 1 Try.underlying22 hi0 hz0 hz1 hz2 rfl (by omega) v n (u8s xs) hs hown ⟨b, of, none⟩ B.length cap (u8s B) hx (by simp [u8s]) ?_ (by simp [u8s, Value.oneCell']) (by omega) (by unfold maxLen; omega) (by omega) hbase w.heap.size rfl ?_
    · intro j z hz
      have hj : j < B.length := by
        have := (List.getElem?_eq_some_iff.1 hz).1
        simpa [u8s] using this
      have e : (⟨b, of, none⟩ : Addr).add j = ⟨b, of + j, none⟩ := by unfold Addr.add; split <;> simp_all
      rw [u8s_get B j hj] at hz
      rw [e, ← hz]
      exact hc0 j hj
    · intro g cap1 w' hown1 hgrow hat hlt
      refine h _ w' (by simpa [u8s] using hown1) hgrow ?_
      rcases hat with e | e
      · exact .inl (by rw [e]; rfl)
      · exact .inr (by rw [← e]; rfl)
theorem bs_one (w : World) (y : Int) : Bs (w.alloc (.cells #[.int .u8 y] 5)) (.slice (some ⟨w.heap.size, 0, none⟩) 1 1) [y] := by
  have B := Blk.new w [.int .u8 y] 5 w.heap.size rfl
  exact ⟨_, 1, rfl, by decide, Nat.le_refl _, fun _ => ⟨w.heap.size, 0, rfl, B.lt, fun j hj => by
    have e : j = 0 := by simp at hj; exact hj
    subst e
    exact B.cell 0 _ rfl⟩⟩
theorem own_under {w : World} {base : Nat} {e : TypeId} {v : Value} {n : Nat} {xs : List Value} (h : w.ownsRow base e 1 v n xs) {g : Nat} (hg : v.ownBlock = some g) : g < w.heap.size := by
  rcases h.2 with ⟨h1, h2⟩ | ⟨g', cap, cur, h1, h2, h3, h4⟩
  · rw [h1] at hg; simp [Value.ownBlock] at hg
  · rw [h1] at hg
    simp only [Value.ownBlock, Option.some.injEq] at hg
    subst hg
    exact (Array.getElem?_eq_some_iff.1 h3).1
/-- two rows apart -/
def Apart (v u : Value) : Prop := ∀ g, v.ownBlock = some g → u.ownBlock = some g → False
theorem Apart.swap {v u : Value} (h : Apart v u) : Apart u v := fun g a b => h g b a
theorem Apart.kept {v u : Value} (h : Apart u v) : u.ownBlock = none ∨ u.ownBlock ≠ v.ownBlock := by
  cases e : u.ownBlock with
  | none => exact .inl rfl
  | some g => exact .inr (fun k => h g e k.symm)
theorem Apart.new {w : World} {base : Nat} {e : TypeId} {v u v' : Value} {n : Nat} {xs : List Value} (h : Apart v u) (ho : w.ownsRow base e 1 u n xs) (hv : v'.ownBlock = v.ownBlock ∨ v'.ownBlock = some w.heap.size) : Apart v' u := by
  intro g a b
  rcases hv with k | k
  · exact h g (by rw [← k]; exact a) b
  · rw [k] at a
    have := own_under ho b
    simp only [Option.some.injEq] at a
    omega
theorem apart_nil (u : Value) : Apart (.slice none 0 0) u := fun g a _ => by simp [Value.ownBlock] at a
theorem take_next {k : List Int} {i : Nat} (h : i < k.length) : k.take i ++ [k.getD i 0] = k.take (i + 1) := by
  rw [List.take_add_one, List.getD_eq_getElem?_getD]
  simp [h]
theorem below_own {w w' : World} {base : Nat} {row : Option Nat} {B : Nat} {a : World} (hb : Below B a w) (hg : w.grownBy w' row) (hs : B ≤ w.heap.size) (hr : ∀ g, row = some g → base ≤ g) (h : B ≤ base) : Below B a w' := Below.grown hb hg hs (fun j hj => Nat.le_trans h (hr j hj))
theorem own_bytes {w : World} {base : Nat} {e : TypeId} {v : Value} {n : Nat} {D : List Int} (h : w.ownsRow base e 1 v n (u8s D)) (h0 : 0 < n) : ∃ g cap cur, v = .slice (some ⟨g, 0, none⟩) n cap ∧ base ≤ g ∧ Blk w g cur ∧ n ≤ cap ∧ cap ≤ maxLen ∧ ∀ j, j < n → cur[j]? = some (.int .u8 (D.getD j 0)) := by
  obtain ⟨hl, h⟩ := h
  have hn : D.length = n := by simpa using hl
  rcases h with ⟨h1, h2⟩ | ⟨g, cap, cur, h1, h2, h3, h4, h5, h6, h7⟩
  · omega
  · refine ⟨g, cap, cur.toList, h1, h2, ⟨e, by simpa using h3⟩, h4, h5, fun j hj => ?_⟩
    have e1 : (cur.toList.take (n * 1))[j]? = some (.int .u8 (D.getD j 0)) := by rw [h7]; exact u8s_get D j (by omega)
    rw [List.getElem?_take, if_pos (by omega)] at e1
    exact e1
end Go.Proofs.Ytnkipgbnnhahbaa
