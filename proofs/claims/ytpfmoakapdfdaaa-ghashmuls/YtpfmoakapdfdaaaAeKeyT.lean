/- Round keys as they lie. -/
import Derived.Test.YtpfmoakapdfdaaaRows
import Derived.Test.YtpfmoakapdfdaaaAeKeyN
import Derived.Test.YtpfmoakapdfdaaaApBs
import Derived.Test.YtpfmoakapdfdaaaShape
import Derived.Great.BuildSlice
import Derived.Deep.WholeRow
import Derived.Deep.RegionHeld3
import Derived.Deep.DeepCutAuto
import Derived.Deep.DeepFit
namespace Go.Proofs.Ytpfmoakapdfdaaa
open Go.RowKit

theorem info_sl : (Try.prog.info? 27).map (fun i => (i.zero, i.size, i.bytes)) = some (some (.slice none 0 0), 1, 24) := by kernel_rfl
/-- the words lie in a row of slices, none of them in the row itself -/
def WordsAt (w : World) (wv : Value) (i : Nat) (vs : List Value) (K : List Int) : Prop := ∀ j, j < i → ∃ g o c, vs[j]? = some (.slice (some ⟨g, o, none⟩) 4 c) ∧ 4 ≤ c ∧ c ≤ maxLen ∧ g < w.heap.size ∧ (∀ gb, wv.ownBlock = some gb → g ≠ gb) ∧ ∀ k, k < 4 → w.cell? ⟨g, o + k, none⟩ = some (.int .u8 ((WN K j).getD k 0))
theorem WordsAt.later {w w' : World} {wv : Value} {i : Nat} {vs : List Value} {K : List Int} (h : WordsAt w wv i vs K) (hb : Below w.heap.size w w') : WordsAt w' wv i vs K := fun j hj => by
  obtain ⟨g, o, c, h1, h2, h3, h4, h5, h6⟩ := h j hj
  exact ⟨g, o, c, h1, h2, h3, Nat.lt_of_lt_of_le h4 hb.size, h5, fun k hk => cell_later (h6 k hk) hb⟩
theorem WordsAt.step {w w' : World} {wv v' : Value} {i : Nat} {vs : List Value} {K : List Int} (h : WordsAt w wv i vs K) (hl : vs.length = i) (hg : w.grownBy w' wv.ownBlock) (hv : v'.ownBlock = wv.ownBlock ∨ ∃ H, v'.ownBlock = some H ∧ w.heap.size ≤ H) {g o c : Nat} (c1 : 4 ≤ c) (c2 : c ≤ maxLen) (g1 : g < w.heap.size) (g2 : ∀ gb, wv.ownBlock = some gb → g ≠ gb) (hc : ∀ k, k < 4 → w.cell? ⟨g, o + k, none⟩ = some (.int .u8 ((WN K i).getD k 0))) : WordsAt w' v' (i + 1) (vs ++ [.slice (some ⟨g, o, none⟩) 4 c]) K := by
  have key : ∀ g, g < w.heap.size → (∀ gb, wv.ownBlock = some gb → g ≠ gb) → g < w'.heap.size ∧ (∀ gb, v'.ownBlock = some gb → g ≠ gb) ∧ ∀ o y, w.cell? ⟨g, o, none⟩ = some y → w'.cell? ⟨g, o, none⟩ = some y := by
    intro g a1 a2
    refine ⟨Nat.lt_of_lt_of_le a1 hg.size, fun gb hb => ?_, fun o y hy => hg.cell hy (fun e => a2 g e.symm rfl)⟩
    rcases hv with e | ⟨H, e, hH⟩
    · exact a2 gb (by rw [← e]; exact hb)
    · rw [e] at hb
      simp only [Option.some.injEq] at hb
      omega
  intro j hj
  by_cases e : j < i
  · obtain ⟨g', o', c', h1, h2, h3, h4, h5, h6⟩ := h j e
    obtain ⟨k1, k2, k3⟩ := key g' h4 h5
    exact ⟨g', o', c', by rw [List.getElem?_append_left (by omega)]; exact h1, h2, h3, k1, k2, fun k hk => k3 _ _ (h6 k hk)⟩
  · obtain rfl : j = i := by omega
    obtain ⟨k1, k2, k3⟩ := key g g1 g2
    exact ⟨g, o, c, by rw [List.getElem?_append_right (by omega), hl, Nat.sub_self]; rfl, c1, c2, k1, k2, fun k hk => k3 _ _ (hc k hk)⟩
theorem own_rows {w : World} {base : Nat} {e : TypeId} {v : Value} {n : Nat} {xs : List Value} (h : w.ownsRow base e 1 v n xs) (h0 : 0 < n) : ∃ g cap cur, v = .slice (some ⟨g, 0, none⟩) n cap ∧ base ≤ g ∧ Blk w g cur ∧ n ≤ cap ∧ cap ≤ maxLen ∧ ∀ j, j < n → cur[j]? = xs[j]? := by
  obtain ⟨hl, h⟩ := h
  rcases h with ⟨h1, h2⟩ | ⟨g, cap, cur, h1, h2, h3, h4, h5, h6, h7⟩
  · omega
  · refine ⟨g, cap, cur.toList, h1, h2, ⟨e, by simpa using h3⟩, h4, h5, fun j hj => ?_⟩
    rw [← h7, List.getElem?_take, if_pos (by omega)]
/-- what stays below while rows above grow -/
theorem held_row {B : Nat} {W0 W : World} (h : Below B W0 W) :
    ∃ S : World → Prop, Hd S W ∧ Hid (∀ w1, Hd S w1 → Hd S w1.drew) ∧ Hid (∀ w1 o, Hd S w1 → B ≤ w1.heap.size → Hd S (w1.alloc o)) ∧ Hid (∀ w1 w2 row, Hd S w1 → w1.grownBy w2 row → (∀ g, row = some g → B ≤ g) → B ≤ w1.heap.size → Hd S w2) ∧ Hid (∀ w1, Hd S w1 → Below B W0 w1) :=
  ⟨fun wx => Below B W0 wx, h, fun _ h => h.drew, fun _ o h hs => h.alloc hs o, fun _ _ _ h hg hr hs => Below.grown h hg hs hr, fun _ h => h⟩
theorem own_laterA {w w' : World} {base : Nat} {e : TypeId} {v : Value} {n : Nat} {xs : List Value} (h : w.ownsRow base e 1 v n xs) (hb : Below w.heap.size w w') : w'.ownsRow base e 1 v n xs := by
  obtain ⟨hl, h⟩ := h
  rcases h with h | ⟨g, cap, cur, h1, h2, h3, h4⟩
  · exact ⟨hl, .inl h⟩
  · exact ⟨hl, .inr ⟨g, cap, cur, h1, h2, by rw [hb.block g (Array.getElem?_eq_some_iff.1 h3).1]; exact h3, h4⟩⟩
theorem own_underA {w : World} {base : Nat} {e : TypeId} {v : Value} {n : Nat} {xs : List Value} (h : w.ownsRow base e 1 v n xs) {g : Nat} (hg : v.ownBlock = some g) : g < w.heap.size := own_under h hg
theorem info_16 : (Try.prog.info? 22).map (fun i => (i.zero, i.size, i.bytes)) = some (some (.agg (u8s (List.replicate 16 0)).toArray), 16, 16) := by kernel_rfl
theorem info_parts16 {i : Option TypeInfo} {z : Value} {n m : Nat} (h : i.map (fun i => (i.zero, i.size, i.bytes)) = some (some z, n, m)) : ∃ j, i = some j ∧ j.zero = some z ∧ j.size = n ∧ j.bytes = m := by
  obtain ⟨j, hj, e⟩ := Option.map_eq_some_iff.1 h
  simp only [Prod.mk.injEq] at e
  exact ⟨j, hj, e.1, e.2.1, e.2.2⟩
theorem own_ge16 {w : World} {base size : Nat} {e : TypeId} {v : Value} {n : Nat} {xs : List Value} {j : Nat} (h : w.ownsRow base e size v n xs) (hj : v.ownBlock = some j) : base ≤ j := by
  rcases h.2 with ⟨h1, _⟩ | ⟨g, c, cur, h1, h2, _⟩
  · rw [h1] at hj; simp [Value.ownBlock] at hj
  · rw [h1] at hj; simp [Value.ownBlock] at hj; omega
theorem own_part16 {w w' : World} {g base size : Nat} {e : TypeId} {v : Value} {n : Nat} {xs : List Value} (h : w.ownsRow base e size v n xs) (hb : Below g w w') (hg : ∀ x, v.ownBlock = some x → x < g) : w'.ownsRow base e size v n xs := by
  obtain ⟨hl, h⟩ := h
  rcases h with h | ⟨b, cap, cur, h1, h2, h3, h4⟩
  · exact ⟨hl, .inl h⟩
  · exact ⟨hl, .inr ⟨b, cap, cur, h1, h2, by rw [hb.block b (hg b (by rw [h1]; rfl))]; exact h3, h4⟩⟩
theorem own_under16 {w : World} {base size : Nat} {e : TypeId} {v : Value} {n : Nat} {xs : List Value} (h : w.ownsRow base e size v n xs) {g : Nat} (hg : v.ownBlock = some g) : g < w.heap.size := by
  rcases h.2 with ⟨h1, h2⟩ | ⟨g', cap, cur, h1, h2, h3, h4⟩
  · rw [h1] at hg; simp [Value.ownBlock] at hg
  · rw [h1] at hg
    simp only [Value.ownBlock, Option.some.injEq] at hg
    subst hg
    exact (Array.getElem?_eq_some_iff.1 h3).1
/-- a round key: the first k bytes -/
def keyZ (K : List Int) (r k : Nat) : List Int := (List.range 16).map fun j => if j < k then (WN K (4 * r + j / 4)).getD (j % 4) 0 else 0
theorem keyZ_len (K : List Int) (r k : Nat) : (keyZ K r k).length = 16 := by simp [keyZ]
theorem keyZ_0 (K : List Int) (r : Nat) : keyZ K r 0 = List.replicate 16 0 := by simp [keyZ]; rfl
theorem keyZ_16 (K : List Int) (r : Nat) : keyZ K r 16 = keyN K r := by
  unfold keyZ keyN
  apply List.map_congr_left
  intro j hj
  rw [if_pos (List.mem_range.1 hj)]
theorem keyZ_set {K : List Int} {r k : Nat} (_ : k < 16) : (keyZ K r k).set k ((WN K (4 * r + k / 4)).getD (k % 4) 0) = keyZ K r (k + 1) := by
  apply List.ext_getElem?
  intro j
  by_cases hj : j < 16
  · by_cases e : k = j
    · subst e
      rw [List.getElem?_set_self (by rw [keyZ_len]; exact hj)]
      simp [keyZ, hj]
    · rw [List.getElem?_set_ne e]
      simp only [keyZ, List.getElem?_map, List.getElem?_range hj, Option.map_some, Option.some.injEq]
      by_cases l : j < k
      · rw [if_pos l, if_pos (by omega)]
      · rw [if_neg l, if_neg (by omega)]
  · rw [List.getElem?_eq_none (by simp [keyZ]; omega), List.getElem?_eq_none (by simp [keyZ]; omega)]
/-- the first r round keys, one behind the other -/
def allN (K : List Int) : Nat → List Int
  | 0 => []
  | r + 1 => allN K r ++ keyN K r
theorem allN_len (K : List Int) : ∀ r, (allN K r).length = 16 * r
  | 0 => rfl
  | r + 1 => by rw [allN, List.length_append, allN_len K r, keyN_len]; omega
theorem allN_get {K : List Int} {i k : Nat} (hk : k < 16) : ∀ {r : Nat}, i < r → (allN K r).getD (16 * i + k) 0 = (keyN K i).getD k 0
  | 0, h => absurd h (by omega)
  | r + 1, h => by
    by_cases e : i = r
    · subst e
      rw [allN, List.getD_eq_getElem?_getD, List.getElem?_append_right (by rw [allN_len]; omega), allN_len, ← List.getD_eq_getElem?_getD, show 16 * i + k - 16 * i = k by omega]
    · rw [allN, List.getD_eq_getElem?_getD, List.getElem?_append_left (by rw [allN_len]; omega), ← List.getD_eq_getElem?_getD]
      exact allN_get hk (by omega)
theorem sixteen {A : List Int} (h : A.length = 16) : ∃ x0 x1 x2 x3 x4 x5 x6 x7 x8 x9 x10 x11 x12 x13 x14 x15, A = [x0, x1, x2, x3, x4, x5, x6, x7, x8, x9, x10, x11, x12, x13, x14, x15] := by
  match A, h with
  | [x0, x1, x2, x3, x4, x5, x6, x7, x8, x9, x10, x11, x12, x13, x14, x15], _ => exact ⟨x0, x1, x2, x3, x4, x5, x6, x7, x8, x9, x10, x11, x12, x13, x14, x15, rfl⟩
theorem fill_16 {S : List Int} (h : S.length = 16) : Instr.fill (fun i => some (i * 16, 16)) ((Array.range (1 * 16)).map ((Value.agg (u8s (List.replicate 16 0)).toArray).cells[· % (Value.agg (u8s (List.replicate 16 0)).toArray).cells.size]!)) [(0, .agg (u8s S).toArray)] = some (u8s S).toArray := by
  obtain ⟨x0, x1, x2, x3, x4, x5, x6, x7, x8, x9, x10, x11, x12, x13, x14, x15, rfl⟩ := sixteen h
  kernel_rfl
theorem box_at {w : World} {b o : Nat} (h : ∀ j, j < 256 → w.cell? ⟨b, o + j, none⟩ = some (.int .u8 ((boxN 256).getD j 0))) {x : Int} (hx : 0 ≤ x ∧ x < 256) : w.cell? ⟨b, o + x.toNat, none⟩ = some (.int .u8 (sbN x)) := by
  have := h x.toNat (by omega)
  rw [boxN_get (by omega)] at this
  exact this

/-- the round keys as they lie -/
def KeysAt (w : World) (v : Value) (K : List Int) : Prop := ∃ g cap, v = .slice (some ⟨g, 0, none⟩) 15 cap ∧ 15 ≤ cap ∧ cap ≤ maxLen ∧ g < w.heap.size ∧ ∀ i k, i < 15 → k < 16 → w.cell? ⟨g, 16 * i + k, none⟩ = some (.int .u8 ((keyN K i).getD k 0))
theorem keys_at {w : World} {base : Nat} {e : TypeId} {v : Value} {K : List Int} (h : w.ownsRow base e 16 v 15 (u8s (allN K 15))) : KeysAt w v K := by
  obtain ⟨hl, h⟩ := h
  rcases h with ⟨_, h2⟩ | ⟨g, cap, cur, h1, h2, h3, h4, h5, h6, h7⟩
  · exact absurd h2 (by decide)
  · have B : Blk w g cur.toList := ⟨e, by simpa using h3⟩
    refine ⟨g, cap, h1, h4, h5, B.lt, fun i k hi hk => B.cell _ _ ?_⟩
    have e1 : (cur.toList.take (15 * 16))[16 * i + k]? = some (.int .u8 ((keyN K i).getD k 0)) := by
      rw [h7, u8s_get _ _ (by rw [allN_len]; omega), allN_get hk hi]
    rw [List.getElem?_take, if_pos (by omega)] at e1
    exact e1
end Go.Proofs.Ytpfmoakapdfdaaa
