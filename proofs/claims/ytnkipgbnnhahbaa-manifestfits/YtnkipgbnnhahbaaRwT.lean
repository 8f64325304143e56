/- Rows of elements that grow one by one. -/
import Derived.Test.YtnkipgbnnhahbaaDrDep
import Derived.Test.YtnkipgbnnhahbaaDrOwn
import Derived.Test.YtnkipgbnnhahbaaCtPl
import Derived.Test.YtnkipgbnnhahbaaRows
import Derived.Deep.OwnRows
import Derived.Deep.AppendLies
namespace Go.Proofs.Ytnkipgbnnhahbaa
open Go.RowKit
/-- a row of one's own that holds these elements, none of which leans on the row -/
def RwT (w : World) (base : Nat) (kv : Value) (Ts : List Tl) : Prop := ∃ xs, w.ownsRow base 42 5 kv Ts.length xs ∧ ∀ i t, Ts[i]? = some t → Dep (fun b => base ≤ b ∧ kv.ownBlock ≠ some b) w t ((xs.drop (5 * i)).take 5)
theorem RwT.nil0 (w : World) (base : Nat) : RwT w base (.slice none 0 0) [] := ⟨[], ⟨rfl, .inl ⟨rfl, rfl⟩⟩, fun i t h => by simp at h⟩
theorem RwT.later {w w' : World} {base : Nat} {kv : Value} {Ts : List Tl} (h : RwT w base kv Ts) (hb : Below w.heap.size w w') : RwT w' base kv Ts := by
  obtain ⟨xs, h1, h2⟩ := h
  exact ⟨xs, own_agr (S := fun _ => True) h1 (Agr.below hb) (fun _ _ => trivial), fun i t ht => (h2 i t ht).next (Agr.below hb) (fun _ h _ => h)⟩
theorem RwT.dep {w : World} {base : Nat} {kv : Value} {Ts : List Tl} (h : RwT w base kv Ts) (c t : Int) (m : Bool) : Dep (fun b => base ≤ b) w (.mk c t m [] Ts) [.int .i64 c, .int .i64 t, .bool m, .slice none 0 0, kv] := by
  obtain ⟨xs, h1, h2⟩ := h
  exact kids_own h1 h2 c t m (fun _ h => h.1) (fun g hg => (own_geK h1 hg).1)
theorem RwT.sl {w : World} {base : Nat} {kv : Value} {Ts : List Tl} (h : RwT w base kv Ts) : ∃ ao cap, kv = .slice ao Ts.length cap := by
  obtain ⟨xs, h1, _⟩ := h
  rcases h1.2 with ⟨e1, e2⟩ | ⟨g, cap, cur, e1, _⟩
  · exact ⟨none, 0, by rw [e1, e2]⟩
  · exact ⟨_, cap, e1⟩
/-- an element without kids, whose bytes lie where S says -/
theorem leaf_S {S : Nat → Prop} {w : World} {v : Value} {b : List Int} (h : Bs w v b) (hS : ∀ a m c, v = .slice (some a) m c → 0 < m → S a.block) (c t : Int) (m : Bool) : Dep S w (.mk c t m b []) [.int .i64 c, .int .i64 t, .bool m, v, .slice none 0 0] := fun w' ha => by
  rw [TlAt]
  exact ⟨v, none, 0, rfl, bs_agrC h hS ha, Nat.le_refl _, Nat.zero_le _, fun h => absurd h (Nat.lt_irrefl 0)⟩
/-- a literal of one element -/
theorem RwT.lit {w : World} {base : Nat} {T : Tl} {cs : List Value} (h : Dep (fun b => base ≤ b) w T cs) (l : cs.length = 5) (hb : base ≤ w.heap.size) : RwT (w.alloc (.cells cs.toArray 42)) base (.slice (some ⟨w.heap.size, 0, none⟩) 1 1) [T] := by
  refine ⟨cs, ⟨l, .inr ⟨w.heap.size, 1, cs.toArray, rfl, hb, by show (w.heap.push _)[w.heap.size]? = _; simp, Nat.le_refl _, by decide, by simpa using l, by rw [List.take_of_length_le (by simp; omega)]⟩⟩, ?_⟩
  refine one_kid (P := Dep (fun b => base ≤ b ∧ (Value.slice (some ⟨w.heap.size, 0, none⟩) 1 1).ownBlock ≠ some b) (w.alloc (.cells cs.toArray 42))) ?_ l
  refine h.next (Agr.below ((Below.refl _ _).alloc (Nat.le_refl _) _)) (fun b hb hl => ⟨hb, fun e => ?_⟩)
  simp only [Value.ownBlock, Option.some.injEq] at e
  omega
/-- one element more -/
theorem wpList_append_tlv {ops : Array Oper} {rest : List Oper} {o : Oper} {a : Act} {w : World} {Q : Exit → Act → World → Prop} (hgd : o.guard = none) (s x : Operand)
    (ho : o.op = .call { callee := .builtin .append, args := #[s, x], argTypes := #[40, 40] })
    (base : Nat) (kv : Value) (Ts : List Tl) (hs : a.eval s = kv) (hr : RwT w base kv Ts) (g : Nat) (hx : a.eval x = .slice (some ⟨g, 0, none⟩) 1 1) (cs : List Value) (B : Blk w g cs) (l5 : cs.length = 5) (ones : OneC cs)
    (T : Tl) (hd : Dep (fun b => base ≤ b ∧ kv.ownBlock ≠ some b) w T cs) (hn : Ts.length ≤ 1000000) (hbase : base ≤ w.heap.size)
    (h : ∀ kv' w', RwT w' base kv' (Ts ++ [T]) → w.grownBy w' kv.ownBlock → (∀ b, kv.ownBlock = some b → base ≤ b) → (kv'.ownBlock = kv.ownBlock ∨ kv'.ownBlock = some w.heap.size) → wpList Try.prog ops Q rest (a.put o.dst kv') w') :
    wpList Try.prog ops Q (o :: rest) a w := by
  obtain ⟨xs, h1, h2⟩ := hr
  obtain ⟨jt, hjt, ht0, ht1, ht2⟩ := info_partsD info_tlv
  refine wpList_append_lies _ hgd s x _ ho base 42 jt _ 5 72 Try.underlying40 hjt ht0 ht1 ht2 rfl (by omega) kv Ts.length xs hs h1 ⟨g, 0, none⟩ 1 1 cs hx l5 ?_ (fun u hu => (Array.all_eq_true_iff_forall_mem.1 ones) u (by simpa using hu)) (by omega) (by unfold maxLen; omega) (by omega) hbase w.heap.size rfl ?_
  · intro j u hu
    rw [Addr.add_mid, Nat.zero_add]
    exact B.cell j u hu
  · intro g' cap1 w' hown hgrow hat hlt
    have hl : xs.length = Ts.length * 5 := h1.1
    refine h _ w' ⟨xs ++ cs, by rw [List.length_append]; exact hown, fun i t ht => ?_⟩ hgrow (fun b hb => (own_geK h1 hb).1) (by rcases hat with e | e; exact .inl (by rw [e]; rfl); exact .inr (by rw [← e]; rfl))
    have hag : Agr (fun b => base ≤ b ∧ kv.ownBlock ≠ some b) w w' := Agr.grown hgrow (fun b hb => hb.2)
    have hS : ∀ b, (base ≤ b ∧ kv.ownBlock ≠ some b) → b < w.heap.size → (base ≤ b ∧ (Value.slice (some ⟨g', 0, none⟩) (Ts.length + 1) cap1).ownBlock ≠ some b) := fun b hb hlb => ⟨hb.1, fun e => by
      simp only [Value.ownBlock, Option.some.injEq] at e
      rcases hat with e2 | e2
      · exact hb.2 (by rw [e2, e])
      · omega⟩
    by_cases hi : i < Ts.length
    · rw [List.getElem?_append_left hi] at ht
      rw [List.drop_append_of_le_length (by omega), List.take_append_of_le_length (by rw [List.length_drop]; omega)]
      exact (h2 i t ht).next hag hS
    · have hi2 := (List.getElem?_eq_some_iff.1 ht).1
      rw [List.length_append] at hi2
      obtain rfl : i = Ts.length := by simp at hi2; omega
      rw [List.getElem?_append_right (Nat.le_refl _), Nat.sub_self] at ht
      simp only [List.getElem?_cons_zero, Option.some.injEq] at ht
      subst ht
      rw [List.drop_append_of_le_length (by omega), List.drop_of_length_le (by omega), List.nil_append, List.take_of_length_le (by omega)]
      exact hd.next hag hS
theorem RwTL {w w' : World} {N : Nat} {kv : Value} {Ts : List Tl} (h : Hid (RwT w N kv Ts)) (hb : Below w.heap.size w w') : Hid (RwT w' N kv Ts) := h.out.later hb
theorem RwT.lt {w : World} {base : Nat} {kv : Value} {Ts : List Tl} (h : RwT w base kv Ts) : ∀ b, kv.ownBlock = some b → b < w.heap.size := fun b hb => by
  obtain ⟨xs, h1, _⟩ := h
  exact (own_geK h1 hb).2
end Go.Proofs.Ytnkipgbnnhahbaa
