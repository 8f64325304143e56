/- Elements that are made: what they lean on. -/
import Derived.Test.YtnkipgbnnhahbaaPmOidN
import Derived.Test.YtnkipgbnnhahbaaPmNew
import Derived.Test.YtnkipgbnnhahbaaDrTlv
import Derived.Test.YtnkipgbnnhahbaaDrDep
import Derived.Test.YtnkipgbnnhahbaaDrOwn
import Derived.Test.YtnkipgbnnhahbaaRows
import Derived.Deep.OwnRows
import Derived.Deep.AppendLies
import Derived.Great.BuildSlice
import Derived.Laws.Rows
import Derived.BigQuiet
import Derived.Deep.WholeRow
import Derived.Deep.RegionHeld3
import Derived.Deep.DeepCutAuto
import Derived.Deep.DeepFit
namespace Go.Proofs.Ytnkipgbnnhahbaa
open Go.RowKit
theorem bs_agrC {S : Nat → Prop} {w w' : World} {v : Value} {n : List Int} (h : Bs w v n) (hv : ∀ a m c, v = .slice (some a) m c → 0 < m → S a.block) (ha : Agr S w w') : Bs w' v n := by
  obtain ⟨ao, cp, e, h1, h2, h3⟩ := h
  refine ⟨ao, cp, e, h1, h2, fun h0 => ?_⟩
  obtain ⟨b, o, e2, hb, hc⟩ := h3 h0
  have hs : S b := hv ⟨b, o, none⟩ _ _ (by rw [e, e2]) h0
  refine ⟨b, o, e2, Nat.lt_of_lt_of_le hb ha.1, fun j hj => ?_⟩
  rw [← hc j hj]
  have := ha.2 b hs hb
  unfold World.cell?
  simp only [this]
/-- an element without kids whose bytes are new -/
theorem leaf_new {w0 w : World} {v : Value} {b : List Int} (h : Bs w v b) (hn : NewV w0 v) (c t : Int) (m : Bool) : Dep (fun g => w0.heap.size ≤ g) w (.mk c t m b []) [.int .i64 c, .int .i64 t, .bool m, v, .slice none 0 0] := fun w' ha => by
  rw [TlAt]
  exact ⟨v, none, 0, rfl, bs_agrC h hn ha, Nat.le_refl _, Nat.zero_le _, fun h => absurd h (Nat.lt_irrefl 0)⟩
/-- stored into a cell that it does not lean on -/
theorem dep_ret {w : World} {T : Tl} {cs : List Value} {N M g : Nat} {X : Array Value} (h : Dep (fun b => N ≤ b) w T cs) (hg : g < N) (hM : M ≤ N) : Dep (fun b => M ≤ b) (w.setRow g X) T cs :=
  h.next ((Agr.refl _ _).row (by omega)) (fun b hb _ => Nat.le_trans hM hb)
/-- a new row of elements, as the kids of one -/
theorem list_dep {w : World} {N : Nat} {ks : List Tl} {xs : List Value} (hl : xs.length = ks.length * 5) (hN : N ≤ w.heap.size) (hm : ks.length ≤ maxLen) (hk : ∀ i k, ks[i]? = some k → Dep (fun b => N ≤ b) w k ((xs.drop (5 * i)).take 5)) (c t : Int) (m : Bool) :
    Dep (fun b => N ≤ b) (w.alloc (.cells xs.toArray 42)) (.mk c t m [] ks) [.int .i64 c, .int .i64 t, .bool m, .slice none 0 0, .slice (some ⟨w.heap.size, 0, none⟩) ks.length ks.length] := by
  have own : (w.alloc (.cells xs.toArray 42)).ownsRow N 42 5 (.slice (some ⟨w.heap.size, 0, none⟩) ks.length ks.length) ks.length xs :=
    ⟨hl, .inr ⟨w.heap.size, ks.length, xs.toArray, rfl, hN, by show (w.heap.push _)[w.heap.size]? = _; simp, Nat.le_refl _, hm, by simpa using hl, by rw [List.take_of_length_le (by simp; omega)]⟩⟩
  refine kids_own own (fun i k hi => (hk i k hi).next (Agr.below ((Below.refl _ _).alloc (Nat.le_refl _) _)) (fun _ h _ => h)) c t m (fun _ h => h) (fun g hg => ?_)
  simp only [Value.ownBlock, Option.some.injEq] at hg
  omega
theorem one_kid {P : Tl → List Value → Prop} {T : Tl} {cs : List Value} (h : P T cs) (l : cs.length = 5) : ∀ i k, [T][i]? = some k → P k ((cs.drop (5 * i)).take 5) := fun i k hk => by
  match i, hk with
  | 0, hk =>
    simp only [List.getElem?_cons_zero, Option.some.injEq] at hk
    subst hk
    rw [Nat.mul_zero, List.drop_zero, List.take_of_length_le (by omega)]
    exact h
  | i + 1, hk => simp at hk
theorem two_kids {P : Tl → List Value → Prop} {T U : Tl} {cs ds : List Value} (h : P T cs) (k : P U ds) (l : cs.length = 5) (m : ds.length = 5) : ∀ i x, [T, U][i]? = some x → P x (((cs ++ ds).drop (5 * i)).take 5) := fun i x hx => by
  match i, hx with
  | 0, hx =>
    simp only [List.getElem?_cons_zero, Option.some.injEq] at hx
    subst hx
    rw [Nat.mul_zero, List.drop_zero, List.take_append_of_le_length (by omega), List.take_of_length_le (by omega)]
    exact h
  | 1, hx =>
    simp only [List.getElem?_cons_succ, List.getElem?_cons_zero, Option.some.injEq] at hx
    subst hx
    rw [Nat.mul_one, List.drop_append_of_le_length (by omega), List.drop_of_length_le (by omega), List.nil_append, List.take_of_length_le (by omega)]
    exact k
  | i + 2, hx => simp at hx
theorem fill_10 {cs ds : List Value} (h : cs.length = 5) (k : ds.length = 5) : Instr.fill (fun i => some (i * 5, 5)) ((Array.range (2 * 5)).map ((Value.agg #[.int .i64 0, .int .i64 0, .bool false, .slice none 0 0, .slice none 0 0]).cells[· % (Value.agg #[.int .i64 0, .int .i64 0, .bool false, .slice none 0 0, .slice none 0 0]).cells.size]!)) [(0, .agg cs.toArray), (1, .agg ds.toArray)] = some (cs ++ ds).toArray := by
  obtain ⟨a, b, c, d, e, rfl⟩ := five h
  obtain ⟨a', b', c', d', e', rfl⟩ := five k
  kernel_rfl
theorem wrd_mem {L : List Int} (h : ∀ x ∈ L, 0 ≤ x ∧ x < 18446744073709551616) : wrd L := fun j => by
  by_cases hj : j < L.length
  · rw [List.getD_eq_getElem?_getD, List.getElem?_eq_getElem hj]
    exact h _ (List.getElem_mem hj)
  · rw [List.getD_eq_getElem?_getD, List.getElem?_eq_none (by omega)]
    decide
end Go.Proofs.Ytnkipgbnnhahbaa
