/- The document's tables: primes by trial, and their roots. -/
import Derived.Test.YtbglkbfnhnmodaaDoorRows
import Derived.Test.YtbglkbfnhnmodaaDoorSRoot
import Derived.Test.YtbglkbfnhnmodaaDoorSSched
import Derived.Test.YtbglkbfnhnmodaaDoorRefA
import Derived.Deep.RegionHeld3
import Derived.Deep.DeepCutAuto
import Derived.Deep.DeepFit
namespace Go.Proofs.YtbglkbfnhnmodaaDoor
open Go.RowKit

abbrev is64 (A : List Int) : List Value := A.map (Value.int .i64)
theorem is64_get (A : List Int) (j : Nat) (h : j < A.length) : (is64 A)[j]? = some (.int .i64 (A.getD j 0)) := by
  simp [is64, h]
theorem info_i64 : (Tryd.prog.info? 3).map (fun i => (i.zero, i.size, i.bytes)) = some (some (.int .i64 0), 1, 8) := by kernel_rfl

theorem prs_succ {k : Nat} (h : 2 ≤ k) : prs (k + 1) = if (prs k).all (fun p => (k : Int) % p != 0) then prs k ++ [(k : Int)] else prs k := by
  rw [prs, if_neg (by omega)]
theorem prs_bd : ∀ (k : Nat) (p : Int), p ∈ prs k → 2 ≤ p ∧ p < k
  | 0, p, h => by simp [prs] at h
  | k + 1, p, h => by
    by_cases hk : k < 2
    · rw [prs, if_pos hk] at h; simp at h
    · rw [prs_succ (by omega)] at h
      have old : p ∈ prs k → 2 ≤ p ∧ p < ((k + 1 : Nat) : Int) := fun h => by have := prs_bd k p h; omega
      split at h
      · rcases List.mem_append.1 h with h | h
        · exact old h
        · have e : p = (k : Int) := by simpa using h
          omega
      · exact old h
theorem prs_get {k j : Nat} (h : j < (prs k).length) : 2 ≤ (prs k).getD j 0 ∧ (prs k).getD j 0 < k := by
  apply prs_bd
  rw [List.getD_eq_getElem?_getD, List.getElem?_eq_getElem h]
  exact List.getElem_mem h
/-- whether none of the first i divides k -/
def nonN (k i : Nat) : Bool := ((prs k).take i).all (fun p => (k : Int) % p != 0)
theorem nonN_succ {k i : Nat} (h : i < (prs k).length) : nonN k (i + 1) = (nonN k i && ((k : Int) % (prs k).getD i 0 != 0)) := by
  unfold nonN
  rw [List.take_succ_eq_append_getElem h, List.all_append]
  simp [List.getD_eq_getElem?_getD, List.getElem?_eq_getElem h]
theorem nonN_all {k i : Nat} (h : (prs k).length ≤ i) : nonN k i = (prs k).all (fun p => (k : Int) % p != 0) := by
  unfold nonN
  rw [List.take_of_length_le h]

theorem row_i64 {w : World} {base : Nat} {e : TypeId} {v : Value} {n : Nat} {D : List Int} (h : w.ownsRow base e 1 v n (is64 D)) : D.length = n ∧ ((v = .slice none 0 0 ∧ n = 0) ∨ ∃ g cap cur, v = .slice (some ⟨g, 0, none⟩) n cap ∧ base ≤ g ∧ Blk w g cur ∧ ∀ j, j < n → cur[j]? = some (.int .i64 (D.getD j 0))) := by
  obtain ⟨hl, h⟩ := h
  have hn : D.length = n := by simpa using hl
  refine ⟨hn, ?_⟩
  rcases h with ⟨h1, h2⟩ | ⟨g, cap, cur, h1, h2, h3, h4, h5, h6, h7⟩
  · exact .inl ⟨h1, h2⟩
  · refine .inr ⟨g, cap, cur.toList, h1, h2, ⟨e, by simpa using h3⟩, fun j hj => ?_⟩
    have e1 : (cur.toList.take (n * 1))[j]? = some (.int .i64 (D.getD j 0)) := by rw [h7]; exact is64_get D j (by omega)
    rw [List.getElem?_take, if_pos (by omega)] at e1
    exact e1

theorem blk_grown {w w' : World} {b base : Nat} {X : List Value} {row : Option Nat} (h : Blk w b X) (hg : w.grownBy w' row) (hb : b < base) (hr : ∀ j, row = some j → base ≤ j) : Blk w' b X := by
  obtain ⟨t, h⟩ := h
  exact ⟨t, by rw [hg.block b (Array.getElem?_eq_some_iff.1 h).1 (fun e => by have := hr b e.symm; omega)]; exact h⟩

theorem ks_len : KS.length = 80 := by decide +kernel
theorem ks_get {i : Nat} (h : i < 80) : rootN ((prs 410).getD i 0) true = KS.getD i 0 := by
  rw [← ks_is, List.getD_eq_getElem?_getD, List.getD_eq_getElem?_getD, List.getElem?_map, List.getElem?_eq_getElem (by rw [prs_410]; exact h)]
  rfl
def hsN (i : Nat) : List Int := HS.take i ++ List.replicate (8 - i) 0
theorem hs_get {i : Nat} (h : i < 8) : rootN ((prs 410).getD (i + 8) 0) false = HS.getD i 0 := by
  rw [← hs_is, List.getD_eq_getElem?_getD, List.getD_eq_getElem?_getD, List.getElem?_map, List.getElem?_take, if_pos h, List.getElem?_drop, Nat.add_comm 8 i, List.getElem?_eq_getElem (by rw [prs_410]; omega)]
  rfl
theorem hs_cases {P : Nat → Prop} (h : P 0 ∧ P 1 ∧ P 2 ∧ P 3 ∧ P 4 ∧ P 5 ∧ P 6 ∧ P 7) {i : Nat} (hi : i < 8) : P i := by
  obtain ⟨h0, h1, h2, h3, h4, h5, h6, h7⟩ := h
  match i, hi with
  | 0, _ => exact h0
  | 1, _ => exact h1
  | 2, _ => exact h2
  | 3, _ => exact h3
  | 4, _ => exact h4
  | 5, _ => exact h5
  | 6, _ => exact h6
  | 7, _ => exact h7
theorem hs_cell (kv : Value) {i : Nat} (_ : i ≤ 8) (hi : i < 8) : (kv :: us (hsN i))[1 + i]? = some (.int .u64 0) :=
  hs_cases (P := fun i => (kv :: us (hsN i))[1 + i]? = some (.int .u64 0)) ⟨rfl, rfl, rfl, rfl, rfl, rfl, rfl, rfl⟩ hi
theorem hs_set (kv : Value) {i : Nat} (hi : i < 8) {x : Int} (hx : x = HS.getD i 0) : (kv :: us (hsN i)).set (1 + i) (.int .u64 x) = kv :: us (hsN (i + 1)) := by
  subst hx
  exact hs_cases (P := fun i => (kv :: us (hsN i)).set (1 + i) (.int .u64 (HS.getD i 0)) = kv :: us (hsN (i + 1))) ⟨rfl, rfl, rfl, rfl, rfl, rfl, rfl, rfl⟩ hi
theorem hs_8 : us (hsN 8) = [.int .u64 14680500436340154072, .int .u64 7105036623409894663, .int .u64 10473403895298186519, .int .u64 1526699215303891257, .int .u64 7436329637833083697, .int .u64 10282925794625328401, .int .u64 15784041429090275239, .int .u64 5167115440072839076] := rfl
theorem own_set {w : World} {base b j : Nat} {e : TypeId} {v y : Value} {n : Nat} {xs : List Value} (h : w.ownsRow base e 1 v n xs) (hb : b < base) : (w.setCell ⟨b, j, none⟩ y).ownsRow base e 1 v n xs := by
  obtain ⟨hl, h⟩ := h
  rcases h with h | ⟨g, cap, cur, h1, h2, h3, h4⟩
  · exact ⟨hl, .inl h⟩
  · exact ⟨hl, .inr ⟨g, cap, cur, h1, h2, by rw [Below.heap_setCell _ _ _ _ (by show g ≠ b; omega)]; exact h3, h4⟩⟩

theorem own_put9 {w : World} {base b : Nat} {e : TypeId} {v : Value} {y0 y1 y2 y3 y4 y5 y6 y7 y8 : Value} {n : Nat} {xs : List Value} (h : w.ownsRow base e 1 v n xs) (hb : b < base) : ((((((((((w.setCell ⟨b, 0, none⟩ y0).setCell ⟨b, 1, none⟩ y1).setCell ⟨b, 2, none⟩ y2).setCell ⟨b, 3, none⟩ y3).setCell ⟨b, 4, none⟩ y4).setCell ⟨b, 5, none⟩ y5).setCell ⟨b, 6, none⟩ y6).setCell ⟨b, 7, none⟩ y7).setCell ⟨b, 8, none⟩ y8)).ownsRow base e 1 v n xs := (own_set (own_set (own_set (own_set (own_set (own_set (own_set (own_set (own_set h hb) hb) hb) hb) hb) hb) hb) hb) hb)
theorem below_put9 {B b : Nat} {a w : World} {y0 y1 y2 y3 y4 y5 y6 y7 y8 : Value} (h : Below B a w) (hb : B ≤ b) : Below B a ((((((((((w.setCell ⟨b, 0, none⟩ y0).setCell ⟨b, 1, none⟩ y1).setCell ⟨b, 2, none⟩ y2).setCell ⟨b, 3, none⟩ y3).setCell ⟨b, 4, none⟩ y4).setCell ⟨b, 5, none⟩ y5).setCell ⟨b, 6, none⟩ y6).setCell ⟨b, 7, none⟩ y7).setCell ⟨b, 8, none⟩ y8)) := (((((((((h.setCell hb _).setCell hb _).setCell hb _).setCell hb _).setCell hb _).setCell hb _).setCell hb _).setCell hb _).setCell hb _)

def Z9 : List Value := [.slice none 0 0, .int .u64 0, .int .u64 0, .int .u64 0, .int .u64 0, .int .u64 0, .int .u64 0, .int .u64 0, .int .u64 0]

set_option linter.unusedSimpArgs false in
set_option maxRecDepth 100000 in
set_option maxHeartbeats 4000000 in
theorem r7_Made {w : World} :
    Calls Tryd.prog 9 #[] w fun e w' => ∃ kv : Value, e = .returned (.agg (kv :: us HS).toArray) ∧ Sl w' kv KS ∧ Below w.heap.size w w' := by
  obtain ⟨i0, hi0, hz0, hz1, hz2⟩ := info_parts info_i64
  have B0 := (Blk.new w Z9 29 w.heap.size rfl).alloc (.cells Z9.toArray 29)
  have B1 := Blk.new (w.alloc (.cells Z9.toArray 29)) Z9 29 (w.heap.size + 1) (by simp)
  have bel : Below w.heap.size w ((w.alloc (.cells Z9.toArray 29)).alloc (.cells Z9.toArray 29)) := ((Below.refl _ _).alloc (Nat.le_refl _) _).alloc (by simp) _
  unfold Z9 at B0 B1 bel
  go_enter Tryd.func9, Tryd.ntmps9
  go_wp2
  generalize (w.alloc (Obj.cells #[.slice none 0 0, .int .u64 0, .int .u64 0, .int .u64 0, .int .u64 0, .int .u64 0, .int .u64 0, .int .u64 0, .int .u64 0] 29)).alloc (Obj.cells #[.slice none 0 0, .int .u64 0, .int .u64 0, .int .u64 0, .int .u64 0, .int .u64 0, .int .u64 0, .int .u64 0, .int .u64 0] 29) = W at *
  go_loopw [2, 3] (fun lv kv wr => ∃ k : Nat, 2 ≤ k ∧ k ≤ 410 ∧ kv = .int .i64 k ∧ wr.ownsRow (w.heap.size + 1 + 1) 3 1 lv (prs k).length (is64 (prs k)) ∧ Blk wr w.heap.size [.slice none 0 0, .int .u64 0, .int .u64 0, .int .u64 0, .int .u64 0, .int .u64 0, .int .u64 0, .int .u64 0, .int .u64 0] ∧ Blk wr (w.heap.size + 1) [.slice none 0 0, .int .u64 0, .int .u64 0, .int .u64 0, .int .u64 0, .int .u64 0, .int .u64 0, .int .u64 0, .int .u64 0] ∧ Below w.heap.size w wr)
    (fun _ kv _ => 410 - (intOf kv).toNat)
  case atStart => exact ⟨2, by omega, by omega, rfl, World.ownsRow_nil _ _ _ _, B0, B1, bel⟩
  case round =>
    clear B0 B1 bel
    obtain ⟨k, hk2, hk, rfl, hown, B0, B1, bel⟩ := hrel
    obtain ⟨n, hn⟩ : ∃ n, (prs k).length = n := ⟨_, rfl⟩
    have lt1 := B1.lt
    by_cases hlt : k < 410
    · have n80 := prs_below k hlt
      rw [hn] at n80 hown
      have HL : Hid ((prs k).length = n) := hn
      have g0 : (n : Int) < 80 := by omega
      have RW := row_i64 hown
      obtain ⟨_, RW⟩ := RW
      have HA : Hid (nonN k n = (prs k).all (fun p => (k : Int) % p != 0)) := nonN_all (by rw [hn]; exact Nat.le_refl _)
      have HP : Hid _ := prs_succ hk2
      rw [← HA.out] at HP
      have gk : IntKind.i64.wrap ((k : Int) + 1) = (k : Int) + 1 := by rw [IntKind.wrap_i64]; omega
      clear hn HA
      rcases RW with ⟨rfl, rfl⟩ | ⟨g, cap, cur, rfl, hg, BG, hcur⟩
      · go_wp2_with fail
        go_loop [4, 5] (fun ov iv => ∃ i : Nat, i ≤ 0 ∧ iv = .int .i64 i ∧ ov = .bool (nonN k i)) (fun _ iv => 0 - (intOf iv).toNat)
        case atStart => exact ⟨0, by omega, rfl, rfl⟩
        case round =>
          obtain ⟨i, hi, rfl, rfl⟩ := hrel
          have i0' : i = 0 := by omega
          subst i0'
          obtain ⟨ok, hok⟩ : ∃ x, nonN k 0 = x := ⟨_, rfl⟩
          rw [hok] at HP ⊢
          clear hok
          cases ok with
          | true =>
            rw [if_pos rfl] at HP
            have HT : Hid (is64 (prs k) ++ [.int .i64 (k : Int)] = is64 (prs (k + 1))) := by rw [HP.out]; simp [is64, Hid]
            have HN : Hid (0 + 1 = (prs (k + 1)).length) := by rw [HP.out, List.length_append, HL.out]; rfl
            go_wp2_with (first
              | (at_builtin; refine wpList_append_lies _ (by rfl) _ _ _ (by rfl) (w.heap.size + 1 + 1) 3 i0 _ 1 8 Tryd.underlying45 hi0 hz0 hz1 hz2 rfl (by omega) _ _ _ (by rfl) (hown.alloc _) ⟨wr.heap.size, 0, none⟩ 1 1 [.int .i64 (k : Int)] (by rfl) (by rfl) (World.news_of_block (cs := #[.int .i64 (k : Int)]) (t := 3) (fr := (0, 0)) (heap_alloc_new wr _)) (by simp [Value.oneCell']) (by omega) (by unfold maxLen; omega) (by omega) (by simp; omega) (wr.heap.size + 1) (by simp) ?_; intro gg cap1 w1 hown1 hgrow hat hlt1)
              | fail)
            go_roundw
            case rel => exact ⟨k + 1, by omega, by omega, by go_num, by rw [HT.out] at hown1; rw [← HN.out]; exact hown1, blk_grown (base := w.heap.size + 1 + 1) (B0.alloc _) hgrow (by omega) (fun j hj => own_ge hown hj), blk_grown (base := w.heap.size + 1 + 1) (B1.alloc _) hgrow (by omega) (fun j hj => own_ge hown hj), bel.trans (Below.grown ((Below.refl _ _).alloc (by omega) _) hgrow (by simp; omega) (fun j hj => Nat.le_trans (by omega) (own_ge hown hj)))⟩
            case measure => simp [intOf]; omega
          | false =>
            rw [if_neg (by simp)] at HP
            go_wp2_with fail
            go_roundw
            case rel => exact ⟨k + 1, by omega, by omega, by go_num, by rw [HP.out, HL.out]; exact hown, B0, B1, bel⟩
            case measure => simp [intOf]; omega
      · go_wp2_with fail
        go_loop [4, 5] (fun ov iv => ∃ i : Nat, i ≤ n ∧ iv = .int .i64 i ∧ ov = .bool (nonN k i)) (fun _ iv => n - (intOf iv).toNat)
        case atStart => exact ⟨0, by omega, rfl, rfl⟩
        case round =>
          obtain ⟨i, hi, rfl, rfl⟩ := hrel
          by_cases hil : i < n
          · have g1 : (i : Int) < (n : Int) := by omega
            have gi : IntKind.i64.wrap ((i : Int) + 1) = (i : Int) + 1 := by rw [IntKind.wrap_i64]; omega
            have g2 : (0 : Int) ≤ (i : Int) := by omega
            have HS : Hid _ := nonN_succ (k := k) (i := i) (by rw [HL.out]; exact hil)
            have pb := prs_get (k := k) (j := i) (by rw [HL.out]; exact hil)
            have cg := BG.cell i _ (hcur i hil)
            obtain ⟨p, hp⟩ : ∃ p, (prs k).getD i 0 = p := ⟨_, rfl⟩
            rw [hp] at HS pb cg
            obtain ⟨p2, pk⟩ := pb
            have p0 : ¬ p = 0 := by omega
            have p1 : p ≠ 0 := by omega
            have pm : (k : Int).tmod p = (k : Int) % p := Int.tmod_eq_emod_of_nonneg (by omega)
            obtain ⟨r, hr⟩ : ∃ r, (k : Int) % p = r := ⟨_, rfl⟩
            rw [hr] at HS pm
            clear hp hr hcur
            obtain ⟨ok, hok⟩ : ∃ x, nonN k i = x := ⟨_, rfl⟩
            rw [hok] at HS ⊢
            clear hok
            cases ok with
            | true =>
              go_wp2
              go_round
              case rel => exact ⟨i + 1, by omega, by go_num, by rw [HS.out]; rfl⟩
              case measure => simp [intOf]; omega
            | false =>
              go_wp2
              go_round
              case rel => exact ⟨i + 1, by omega, by go_num, by rw [HS.out]; rfl⟩
              case measure => simp [intOf]; omega
          · have hin : i = n := by omega
            subst hin
            have g1 : ¬ (i : Int) < (i : Int) := by omega
            obtain ⟨ok, hok⟩ : ∃ x, nonN k i = x := ⟨_, rfl⟩
            rw [hok] at HP ⊢
            clear hok
            cases ok with
            | true =>
              rw [if_pos rfl] at HP
              have HT : Hid (is64 (prs k) ++ [.int .i64 (k : Int)] = is64 (prs (k + 1))) := by rw [HP.out]; simp [is64, Hid]
              have HN : Hid (i + 1 = (prs (k + 1)).length) := by rw [HP.out, List.length_append, HL.out]; rfl
              go_wp2_with (first
                | (at_builtin; refine wpList_append_lies _ (by rfl) _ _ _ (by rfl) (w.heap.size + 1 + 1) 3 i0 _ 1 8 Tryd.underlying45 hi0 hz0 hz1 hz2 rfl (by omega) _ _ _ (by rfl) (hown.alloc _) ⟨wr.heap.size, 0, none⟩ 1 1 [.int .i64 (k : Int)] (by rfl) (by rfl) (World.news_of_block (cs := #[.int .i64 (k : Int)]) (t := 3) (fr := (0, 0)) (heap_alloc_new wr _)) (by simp [Value.oneCell']) (by omega) (by unfold maxLen; omega) (by omega) (by simp; omega) (wr.heap.size + 1) (by simp) ?_; intro gg cap1 w1 hown1 hgrow hat hlt1)
                | fail)
              go_roundw
              case rel => exact ⟨k + 1, by omega, by omega, by go_num, by rw [HT.out] at hown1; rw [← HN.out]; exact hown1, blk_grown (base := w.heap.size + 1 + 1) (B0.alloc _) hgrow (by omega) (fun j hj => own_ge hown hj), blk_grown (base := w.heap.size + 1 + 1) (B1.alloc _) hgrow (by omega) (fun j hj => own_ge hown hj), bel.trans (Below.grown ((Below.refl _ _).alloc (by omega) _) hgrow (by simp; omega) (fun j hj => Nat.le_trans (by omega) (own_ge hown hj)))⟩
              case measure => simp [intOf]; omega
            | false =>
              rw [if_neg (by simp)] at HP
              go_wp2_with fail
              go_roundw
              case rel => exact ⟨k + 1, by omega, by omega, by go_num, by rw [HP.out, HL.out]; exact hown, B0, B1, bel⟩
              case measure => simp [intOf]; omega
    · have hk410 : k = 410 := by omega
      subst hk410
      rw [prs_410] at hown
      clear hn hlt
      obtain ⟨_, RW⟩ := row_i64 hown
      rcases RW with ⟨_, h⟩ | ⟨g, cap, cur, rfl, hg, BG, hcur⟩
      · exact absurd h (by decide)
      obtain ⟨j0, hj0, hj1, hj2⟩ := info_parts info_num
      have g0 : ¬ ((80 : Nat) : Int) < 80 := by omega
      have HC : Hid (∀ j, j < 80 → cur[j]? = some (.int .i64 ((prs 410).getD j 0))) := hcur
      clear hcur hown
      go_wp2_with fail
      obtain ⟨W2, hW2⟩ : ∃ z, z = wr := ⟨_, rfl⟩
      rw [← hW2] at BG B0 B1 bel lt1 ⊢
      clear hW2
      have ltg := BG.lt
      go_loopw [6] (fun iv wx => ∃ (i : Nat) (kv : Value), i ≤ 80 ∧ iv = .int .i64 i ∧ wx.ownsRow W2.heap.size 26 1 kv i (us (KS.take i)) ∧ Blk wx (w.heap.size + 1) [kv, .int .u64 0, .int .u64 0, .int .u64 0, .int .u64 0, .int .u64 0, .int .u64 0, .int .u64 0, .int .u64 0] ∧ Blk wx w.heap.size [.slice none 0 0, .int .u64 0, .int .u64 0, .int .u64 0, .int .u64 0, .int .u64 0, .int .u64 0, .int .u64 0, .int .u64 0] ∧ Blk wx g cur ∧ Below w.heap.size w wx ∧ W2.heap.size ≤ wx.heap.size) (fun iv _ => 80 - (intOf iv).toNat)
      case atStart => exact ⟨0, .slice none 0 0, by omega, rfl, World.ownsRow_nil _ _ _ _, B1, B0, BG, bel, Nat.le_refl _⟩
      case round =>
        clear B0 B1 BG bel
        obtain ⟨i, kv, hi, rfl, hown, B1, B0, BG, bel, hsz⟩ := hrel
        by_cases hlt : i < 80
        · have g1 : (i : Int) < 80 := by omega
          have g2 : (0 : Int) ≤ (i : Int) := by omega
          have gi : IntKind.i64.wrap ((i : Int) + 1) = (i : Int) + 1 := by rw [IntKind.wrap_i64]; omega
          have pb := prs_get (k := 410) (j := i) (by rw [prs_410]; exact hlt)
          have HK : Hid _ := ks_get hlt
          have HV : Hid _ := HC.out i hlt
          obtain ⟨p, hp⟩ : ∃ p, (prs 410).getD i 0 = p := ⟨_, rfl⟩
          rw [hp] at HK pb HV
          obtain ⟨p2, p4⟩ := pb
          clear hp
          obtain ⟨x, hx⟩ : ∃ x, rootN p true = x := ⟨_, rfl⟩
          rw [hx] at HK
          have HX : Hid (rootN p true = x) := hx
          have HT : Hid (us (KS.take i) ++ [.int .u64 x] = us (KS.take (i + 1))) := by rw [HK.out]; exact us_take KS i (by rw [ks_len]; exact hlt)
          clear hx HK
          go_upto_region 16 with fail
          obtain ⟨ST, hT⟩ : ∃ S : World → Prop, ∀ w, Hd S w := ⟨fun _ => True, fun _ => trivial⟩
          have B1d := B1.drew
          have B0d := B0.drew
          have BGd := BG.drew
          have hod := hown.drew
          have beld := bel.drew
          have hsd : W2.heap.size ≤ wr.drew.heap.size := hsz
          clear B1 B0 BG hown bel hsz
          refine wp_region_noPanic ?_
          refine wp_region_held_drew (S := Hd ST) (by kernel_rfl) (hT _) (fun hHeld => ?_)
          generalize World.drew _ = wd at *
          refine wpAnyH_take (i := 0) (v := ?_) rfl (by kernel_rfl) (by kernel_rfl) (by kernel_rfl) (fun _ _ _ h => h) (Or.inl ⟨by rfl, ?_⟩) (by assumption) ?_
          rotate_left
          · intro w hSw
            go_simp
            with_reducible rfl
          try simp only [Act.put, List.setIfInBounds_toArray, List.set_cons_zero, List.set_cons_succ]
          refine wpAnyH_take (i := 2) (v := ?_) rfl (by kernel_rfl) (by kernel_rfl) (by kernel_rfl) (fun _ _ _ h => h) (Or.inl ⟨by rfl, ?_⟩) (by assumption) ?_
          rotate_left
          · intro w hSw
            go_simp
            with_reducible rfl
          try simp only [Act.put, List.setIfInBounds_toArray, List.set_cons_zero, List.set_cons_succ]
          refine wpAnyH_take (i := 3) (v := ?_) rfl (by kernel_rfl) (by kernel_rfl) (by kernel_rfl) (fun _ _ _ h => h) (Or.inl ⟨by rfl, ?_⟩) (by assumption) ?_
          rotate_left
          · intro w hSw
            go_simp
            with_reducible rfl
          try simp only [Act.put, List.setIfInBounds_toArray, List.set_cons_zero, List.set_cons_succ]
          refine wpAnyH_take (i := 4) (v := ?_) rfl (by kernel_rfl) (by kernel_rfl) (by kernel_rfl) (fun _ _ _ h => h) (Or.inl ⟨by rfl, ?_⟩) (by assumption) ?_
          rotate_left
          · intro w hSw
            go_simp
            with_reducible rfl
          try simp only [Act.put, List.setIfInBounds_toArray, List.set_cons_zero, List.set_cons_succ]
          refine wpAnyH_ready (rs := [1, 5]) (by kernel_rfl) (by simp) ?_
          refine AllReadyH.cons rfl (fun K hK => ?_) ?_
          · have c0 := B1d.cell 0 _ rfl
            have l1 := B1d.lt
            go_simp
            refine hK.out _ _ (hT _) (fun _ => ?_)
            clear hK K
            try simp only [Act.put, List.setIfInBounds_toArray, List.set_cons_zero, List.set_cons_succ]
            clear c0 l1
            refine wpAnyH_ready (rs := [5]) (by kernel_rfl) (by simp) ?_
            refine AllReadyH.cons rfl (fun K hK => ?_) ?_
            · have c5 := BGd.cell i _ HV.out
              have l5 := BGd.lt
              go_simp
              refine hK.out _ _ (hT _) (fun _ => ?_)
              clear hK K
              try simp only [Act.put, List.setIfInBounds_toArray, List.set_cons_zero, List.set_cons_succ]
              clear c5 l5
              refine wpAnyH_ready (rs := [6]) (by kernel_rfl) (by simp) ?_
              refine AllReadyH.cons rfl (fun K hK => ?_) ?_
              · go_simp
                go_fit (r7_root_true (by omega) (by omega))
                rintro e w6 ⟨rfl, hb⟩
                refine hK.out _ _ (hT _) (fun _ => ?_)
                clear hK K
                try simp only [Act.put, List.setIfInBounds_toArray, List.set_cons_zero, List.set_cons_succ]
                rw [HX.out]
                replace B1d := B1d.later hb
                replace B0d := B0d.later hb
                replace BGd := BGd.later hb
                replace hod := own_later hod hb
                replace hsd := Nat.le_trans hsd hb.size
                replace beld := below_step beld hb
                clear hb
                refine wpAnyH_ready (rs := [7]) (by kernel_rfl) (by simp) ?_
                refine AllReadyH.cons rfl (fun K hK => ?_) ?_
                · go_simp
                  refine hK.out _ _ (hT _) (fun _ => ?_)
                  clear hK K
                  try simp only [Act.put, List.setIfInBounds_toArray, List.set_cons_zero, List.set_cons_succ]
                  refine wpAnyH_ready (rs := [8]) (by kernel_rfl) (by simp) ?_
                  refine AllReadyH.cons rfl (fun K hK => ?_) ?_
                  · refine step_append_lies _ (by rfl) _ _ _ (by rfl) W2.heap.size 26 j0 _ 1 8 Tryd.underlying25 hj0 hj1 hj2.1 hj2.2 rfl (by omega) _ _ _ (by rfl) (hod.alloc _) ⟨w6.heap.size, 0, none⟩ 1 1 [.int .u64 x] (by rfl) (by rfl) (World.news_of_block (cs := #[.int .u64 x]) (t := 26) (fr := (0, 0)) (heap_alloc_new w6 _)) (by simp [Value.oneCell']) (by omega) (by unfold maxLen; omega) (by omega) (by simp; omega) (w6.heap.size + 1) (by simp) ?_
                    intro gg cap1 w1 hown1 hgrow hat hlt1
                    refine hK.out _ _ (hT _) (fun _ => ?_)
                    clear hK K
                    try simp only [Act.put, List.setIfInBounds_toArray, List.set_cons_zero, List.set_cons_succ]
                    have B1e := blk_grown (base := W2.heap.size) (B1d.alloc _) hgrow (by omega) (fun j hj => own_ge hod hj)
                    have B0e := blk_grown (base := W2.heap.size) (B0d.alloc _) hgrow (by omega) (fun j hj => own_ge hod hj)
                    have BGe := blk_grown (base := W2.heap.size) (BGd.alloc _) hgrow (by omega) (fun j hj => own_ge hod hj)
                    have bele := beld.trans (Below.grown ((Below.refl _ _).alloc beld.size _) hgrow (by have := beld.size; simp; omega) (fun j hj => Nat.le_trans (by omega) (own_ge hod hj)))
                    have hsze : W2.heap.size ≤ w1.heap.size := Nat.le_trans (Nat.le_trans hsd (by simp)) hgrow.size
                    clear B1d B0d BGd beld hsd hgrow hat
                    refine wpAnyH_ready (rs := [9]) (by kernel_rfl) (by simp) ?_
                    refine AllReadyH.cons rfl (fun K hK => ?_) ?_
                    · go_simp
                      refine hK.out _ _ (hT _) (fun _ => ?_)
                      clear hK K
                      try simp only [Act.put, List.setIfInBounds_toArray, List.set_cons_zero, List.set_cons_succ]
                      refine wpAnyH_ready (rs := [10]) (by kernel_rfl) (by simp) ?_
                      refine AllReadyH.cons rfl (fun K hK => ?_) ?_
                      · have c0 := B1e.cell 0 _ rfl
                        have f0 := B1e.frozen 0
                        have l1 := B1e.lt
                        go_simp
                        refine hK.out _ _ (hT _) (fun _ => ?_)
                        clear hK K
                        try simp only [Act.put, List.setIfInBounds_toArray, List.set_cons_zero, List.set_cons_succ]
                        clear c0 f0 l1
                        refine wpAnyH_done (by kernel_rfl) ?_ _
                        refine NoPanic.normal ?_
                        go_wp2_with fail
                        go_roundw
                        case rel => exact ⟨i + 1, _, by omega, by go_num, by rw [HT.out] at hown1; exact own_set hown1 (by omega), B1e.set 0 _, B0e.other _ _ (by show w.heap.size ≠ w.heap.size + 1; omega), BGe.other _ _ (by show g ≠ w.heap.size + 1; omega), bele.setCell (by show w.heap.size ≤ w.heap.size + 1; omega) _, by simpa using hsze⟩
                        case measure => simp [intOf]; omega
                      exact AllReadyH.nil
                    exact AllReadyH.nil
                  exact AllReadyH.nil
                exact AllReadyH.nil
              exact AllReadyH.nil
            exact AllReadyH.nil
          refine AllReadyH.cons rfl (fun K hK => ?_) ?_
          · have c5 := BGd.cell i _ HV.out
            have l5 := BGd.lt
            go_simp
            refine hK.out _ _ (hT _) (fun _ => ?_)
            clear hK K
            try simp only [Act.put, List.setIfInBounds_toArray, List.set_cons_zero, List.set_cons_succ]
            clear c5 l5
            refine wpAnyH_ready (rs := [1, 6]) (by kernel_rfl) (by simp) ?_
            refine AllReadyH.cons rfl (fun K hK => ?_) ?_
            · have c0 := B1d.cell 0 _ rfl
              have l1 := B1d.lt
              go_simp
              refine hK.out _ _ (hT _) (fun _ => ?_)
              clear hK K
              try simp only [Act.put, List.setIfInBounds_toArray, List.set_cons_zero, List.set_cons_succ]
              clear c0 l1
              refine wpAnyH_ready (rs := [6]) (by kernel_rfl) (by simp) ?_
              refine AllReadyH.cons rfl (fun K hK => ?_) ?_
              · go_simp
                go_fit (r7_root_true (by omega) (by omega))
                rintro e w6 ⟨rfl, hb⟩
                refine hK.out _ _ (hT _) (fun _ => ?_)
                clear hK K
                try simp only [Act.put, List.setIfInBounds_toArray, List.set_cons_zero, List.set_cons_succ]
                rw [HX.out]
                replace B1d := B1d.later hb
                replace B0d := B0d.later hb
                replace BGd := BGd.later hb
                replace hod := own_later hod hb
                replace hsd := Nat.le_trans hsd hb.size
                replace beld := below_step beld hb
                clear hb
                refine wpAnyH_ready (rs := [7]) (by kernel_rfl) (by simp) ?_
                refine AllReadyH.cons rfl (fun K hK => ?_) ?_
                · go_simp
                  refine hK.out _ _ (hT _) (fun _ => ?_)
                  clear hK K
                  try simp only [Act.put, List.setIfInBounds_toArray, List.set_cons_zero, List.set_cons_succ]
                  refine wpAnyH_ready (rs := [8]) (by kernel_rfl) (by simp) ?_
                  refine AllReadyH.cons rfl (fun K hK => ?_) ?_
                  · refine step_append_lies _ (by rfl) _ _ _ (by rfl) W2.heap.size 26 j0 _ 1 8 Tryd.underlying25 hj0 hj1 hj2.1 hj2.2 rfl (by omega) _ _ _ (by rfl) (hod.alloc _) ⟨w6.heap.size, 0, none⟩ 1 1 [.int .u64 x] (by rfl) (by rfl) (World.news_of_block (cs := #[.int .u64 x]) (t := 26) (fr := (0, 0)) (heap_alloc_new w6 _)) (by simp [Value.oneCell']) (by omega) (by unfold maxLen; omega) (by omega) (by simp; omega) (w6.heap.size + 1) (by simp) ?_
                    intro gg cap1 w1 hown1 hgrow hat hlt1
                    refine hK.out _ _ (hT _) (fun _ => ?_)
                    clear hK K
                    try simp only [Act.put, List.setIfInBounds_toArray, List.set_cons_zero, List.set_cons_succ]
                    have B1e := blk_grown (base := W2.heap.size) (B1d.alloc _) hgrow (by omega) (fun j hj => own_ge hod hj)
                    have B0e := blk_grown (base := W2.heap.size) (B0d.alloc _) hgrow (by omega) (fun j hj => own_ge hod hj)
                    have BGe := blk_grown (base := W2.heap.size) (BGd.alloc _) hgrow (by omega) (fun j hj => own_ge hod hj)
                    have bele := beld.trans (Below.grown ((Below.refl _ _).alloc beld.size _) hgrow (by have := beld.size; simp; omega) (fun j hj => Nat.le_trans (by omega) (own_ge hod hj)))
                    have hsze : W2.heap.size ≤ w1.heap.size := Nat.le_trans (Nat.le_trans hsd (by simp)) hgrow.size
                    clear B1d B0d BGd beld hsd hgrow hat
                    refine wpAnyH_ready (rs := [9]) (by kernel_rfl) (by simp) ?_
                    refine AllReadyH.cons rfl (fun K hK => ?_) ?_
                    · go_simp
                      refine hK.out _ _ (hT _) (fun _ => ?_)
                      clear hK K
                      try simp only [Act.put, List.setIfInBounds_toArray, List.set_cons_zero, List.set_cons_succ]
                      refine wpAnyH_ready (rs := [10]) (by kernel_rfl) (by simp) ?_
                      refine AllReadyH.cons rfl (fun K hK => ?_) ?_
                      · have c0 := B1e.cell 0 _ rfl
                        have f0 := B1e.frozen 0
                        have l1 := B1e.lt
                        go_simp
                        refine hK.out _ _ (hT _) (fun _ => ?_)
                        clear hK K
                        try simp only [Act.put, List.setIfInBounds_toArray, List.set_cons_zero, List.set_cons_succ]
                        clear c0 f0 l1
                        refine wpAnyH_done (by kernel_rfl) ?_ _
                        refine NoPanic.normal ?_
                        go_wp2_with fail
                        go_roundw
                        case rel => exact ⟨i + 1, _, by omega, by go_num, by rw [HT.out] at hown1; exact own_set hown1 (by omega), B1e.set 0 _, B0e.other _ _ (by show w.heap.size ≠ w.heap.size + 1; omega), BGe.other _ _ (by show g ≠ w.heap.size + 1; omega), bele.setCell (by show w.heap.size ≤ w.heap.size + 1; omega) _, by simpa using hsze⟩
                        case measure => simp [intOf]; omega
                      exact AllReadyH.nil
                    exact AllReadyH.nil
                  exact AllReadyH.nil
                exact AllReadyH.nil
              exact AllReadyH.nil
            refine AllReadyH.cons rfl (fun K hK => ?_) ?_
            · go_simp
              go_fit (r7_root_true (by omega) (by omega))
              rintro e w6 ⟨rfl, hb⟩
              refine hK.out _ _ (hT _) (fun _ => ?_)
              clear hK K
              try simp only [Act.put, List.setIfInBounds_toArray, List.set_cons_zero, List.set_cons_succ]
              rw [HX.out]
              replace B1d := B1d.later hb
              replace B0d := B0d.later hb
              replace BGd := BGd.later hb
              replace hod := own_later hod hb
              replace hsd := Nat.le_trans hsd hb.size
              replace beld := below_step beld hb
              clear hb
              refine wpAnyH_ready (rs := [1, 7]) (by kernel_rfl) (by simp) ?_
              refine AllReadyH.cons rfl (fun K hK => ?_) ?_
              · have c0 := B1d.cell 0 _ rfl
                have l1 := B1d.lt
                go_simp
                refine hK.out _ _ (hT _) (fun _ => ?_)
                clear hK K
                try simp only [Act.put, List.setIfInBounds_toArray, List.set_cons_zero, List.set_cons_succ]
                clear c0 l1
                refine wpAnyH_ready (rs := [7]) (by kernel_rfl) (by simp) ?_
                refine AllReadyH.cons rfl (fun K hK => ?_) ?_
                · go_simp
                  refine hK.out _ _ (hT _) (fun _ => ?_)
                  clear hK K
                  try simp only [Act.put, List.setIfInBounds_toArray, List.set_cons_zero, List.set_cons_succ]
                  refine wpAnyH_ready (rs := [8]) (by kernel_rfl) (by simp) ?_
                  refine AllReadyH.cons rfl (fun K hK => ?_) ?_
                  · refine step_append_lies _ (by rfl) _ _ _ (by rfl) W2.heap.size 26 j0 _ 1 8 Tryd.underlying25 hj0 hj1 hj2.1 hj2.2 rfl (by omega) _ _ _ (by rfl) (hod.alloc _) ⟨w6.heap.size, 0, none⟩ 1 1 [.int .u64 x] (by rfl) (by rfl) (World.news_of_block (cs := #[.int .u64 x]) (t := 26) (fr := (0, 0)) (heap_alloc_new w6 _)) (by simp [Value.oneCell']) (by omega) (by unfold maxLen; omega) (by omega) (by simp; omega) (w6.heap.size + 1) (by simp) ?_
                    intro gg cap1 w1 hown1 hgrow hat hlt1
                    refine hK.out _ _ (hT _) (fun _ => ?_)
                    clear hK K
                    try simp only [Act.put, List.setIfInBounds_toArray, List.set_cons_zero, List.set_cons_succ]
                    have B1e := blk_grown (base := W2.heap.size) (B1d.alloc _) hgrow (by omega) (fun j hj => own_ge hod hj)
                    have B0e := blk_grown (base := W2.heap.size) (B0d.alloc _) hgrow (by omega) (fun j hj => own_ge hod hj)
                    have BGe := blk_grown (base := W2.heap.size) (BGd.alloc _) hgrow (by omega) (fun j hj => own_ge hod hj)
                    have bele := beld.trans (Below.grown ((Below.refl _ _).alloc beld.size _) hgrow (by have := beld.size; simp; omega) (fun j hj => Nat.le_trans (by omega) (own_ge hod hj)))
                    have hsze : W2.heap.size ≤ w1.heap.size := Nat.le_trans (Nat.le_trans hsd (by simp)) hgrow.size
                    clear B1d B0d BGd beld hsd hgrow hat
                    refine wpAnyH_ready (rs := [9]) (by kernel_rfl) (by simp) ?_
                    refine AllReadyH.cons rfl (fun K hK => ?_) ?_
                    · go_simp
                      refine hK.out _ _ (hT _) (fun _ => ?_)
                      clear hK K
                      try simp only [Act.put, List.setIfInBounds_toArray, List.set_cons_zero, List.set_cons_succ]
                      refine wpAnyH_ready (rs := [10]) (by kernel_rfl) (by simp) ?_
                      refine AllReadyH.cons rfl (fun K hK => ?_) ?_
                      · have c0 := B1e.cell 0 _ rfl
                        have f0 := B1e.frozen 0
                        have l1 := B1e.lt
                        go_simp
                        refine hK.out _ _ (hT _) (fun _ => ?_)
                        clear hK K
                        try simp only [Act.put, List.setIfInBounds_toArray, List.set_cons_zero, List.set_cons_succ]
                        clear c0 f0 l1
                        refine wpAnyH_done (by kernel_rfl) ?_ _
                        refine NoPanic.normal ?_
                        go_wp2_with fail
                        go_roundw
                        case rel => exact ⟨i + 1, _, by omega, by go_num, by rw [HT.out] at hown1; exact own_set hown1 (by omega), B1e.set 0 _, B0e.other _ _ (by show w.heap.size ≠ w.heap.size + 1; omega), BGe.other _ _ (by show g ≠ w.heap.size + 1; omega), bele.setCell (by show w.heap.size ≤ w.heap.size + 1; omega) _, by simpa using hsze⟩
                        case measure => simp [intOf]; omega
                      exact AllReadyH.nil
                    exact AllReadyH.nil
                  exact AllReadyH.nil
                exact AllReadyH.nil
              refine AllReadyH.cons rfl (fun K hK => ?_) ?_
              · go_simp
                refine hK.out _ _ (hT _) (fun _ => ?_)
                clear hK K
                try simp only [Act.put, List.setIfInBounds_toArray, List.set_cons_zero, List.set_cons_succ]
                refine wpAnyH_ready (rs := [1]) (by kernel_rfl) (by simp) ?_
                refine AllReadyH.cons rfl (fun K hK => ?_) ?_
                · have c0 := B1d.cell 0 _ rfl
                  have l1 := B1d.lt
                  go_simp
                  refine hK.out _ _ (hT _) (fun _ => ?_)
                  clear hK K
                  try simp only [Act.put, List.setIfInBounds_toArray, List.set_cons_zero, List.set_cons_succ]
                  clear c0 l1
                  refine wpAnyH_ready (rs := [8]) (by kernel_rfl) (by simp) ?_
                  refine AllReadyH.cons rfl (fun K hK => ?_) ?_
                  · refine step_append_lies _ (by rfl) _ _ _ (by rfl) W2.heap.size 26 j0 _ 1 8 Tryd.underlying25 hj0 hj1 hj2.1 hj2.2 rfl (by omega) _ _ _ (by rfl) (hod.alloc _) ⟨w6.heap.size, 0, none⟩ 1 1 [.int .u64 x] (by rfl) (by rfl) (World.news_of_block (cs := #[.int .u64 x]) (t := 26) (fr := (0, 0)) (heap_alloc_new w6 _)) (by simp [Value.oneCell']) (by omega) (by unfold maxLen; omega) (by omega) (by simp; omega) (w6.heap.size + 1) (by simp) ?_
                    intro gg cap1 w1 hown1 hgrow hat hlt1
                    refine hK.out _ _ (hT _) (fun _ => ?_)
                    clear hK K
                    try simp only [Act.put, List.setIfInBounds_toArray, List.set_cons_zero, List.set_cons_succ]
                    have B1e := blk_grown (base := W2.heap.size) (B1d.alloc _) hgrow (by omega) (fun j hj => own_ge hod hj)
                    have B0e := blk_grown (base := W2.heap.size) (B0d.alloc _) hgrow (by omega) (fun j hj => own_ge hod hj)
                    have BGe := blk_grown (base := W2.heap.size) (BGd.alloc _) hgrow (by omega) (fun j hj => own_ge hod hj)
                    have bele := beld.trans (Below.grown ((Below.refl _ _).alloc beld.size _) hgrow (by have := beld.size; simp; omega) (fun j hj => Nat.le_trans (by omega) (own_ge hod hj)))
                    have hsze : W2.heap.size ≤ w1.heap.size := Nat.le_trans (Nat.le_trans hsd (by simp)) hgrow.size
                    clear B1d B0d BGd beld hsd hgrow hat
                    refine wpAnyH_ready (rs := [9]) (by kernel_rfl) (by simp) ?_
                    refine AllReadyH.cons rfl (fun K hK => ?_) ?_
                    · go_simp
                      refine hK.out _ _ (hT _) (fun _ => ?_)
                      clear hK K
                      try simp only [Act.put, List.setIfInBounds_toArray, List.set_cons_zero, List.set_cons_succ]
                      refine wpAnyH_ready (rs := [10]) (by kernel_rfl) (by simp) ?_
                      refine AllReadyH.cons rfl (fun K hK => ?_) ?_
                      · have c0 := B1e.cell 0 _ rfl
                        have f0 := B1e.frozen 0
                        have l1 := B1e.lt
                        go_simp
                        refine hK.out _ _ (hT _) (fun _ => ?_)
                        clear hK K
                        try simp only [Act.put, List.setIfInBounds_toArray, List.set_cons_zero, List.set_cons_succ]
                        clear c0 f0 l1
                        refine wpAnyH_done (by kernel_rfl) ?_ _
                        refine NoPanic.normal ?_
                        go_wp2_with fail
                        go_roundw
                        case rel => exact ⟨i + 1, _, by omega, by go_num, by rw [HT.out] at hown1; exact own_set hown1 (by omega), B1e.set 0 _, B0e.other _ _ (by show w.heap.size ≠ w.heap.size + 1; omega), BGe.other _ _ (by show g ≠ w.heap.size + 1; omega), bele.setCell (by show w.heap.size ≤ w.heap.size + 1; omega) _, by simpa using hsze⟩
                        case measure => simp [intOf]; omega
                      exact AllReadyH.nil
                    exact AllReadyH.nil
                  exact AllReadyH.nil
                exact AllReadyH.nil
              exact AllReadyH.nil
            exact AllReadyH.nil
          exact AllReadyH.nil
        · have hi80 : i = 80 := by omega
          subst hi80
          rw [List.take_of_length_le (by rw [ks_len]; exact Nat.le_refl _)] at hown
          have g1 : ¬ ((80 : Nat) : Int) < 80 := by omega
          go_wp2_with fail
          go_loopw [7] (fun iv wx => ∃ i : Nat, i ≤ 8 ∧ iv = .int .i64 i ∧ wx.ownsRow W2.heap.size 26 1 kv 80 (us KS) ∧ Blk wx (w.heap.size + 1) (kv :: us (hsN i)) ∧ Blk wx w.heap.size [.slice none 0 0, .int .u64 0, .int .u64 0, .int .u64 0, .int .u64 0, .int .u64 0, .int .u64 0, .int .u64 0, .int .u64 0] ∧ Blk wx g cur ∧ Below w.heap.size w wx ∧ W2.heap.size ≤ wx.heap.size) (fun iv _ => 8 - (intOf iv).toNat)
          case atStart => exact ⟨0, by omega, rfl, hown, B1, B0, BG, bel, hsz⟩
          case round =>
            clear B0 B1 BG bel hown hsz
            obtain ⟨i, hi, rfl, hown, B1, B0, BG, bel, hsz⟩ := hrel
            by_cases hlt : i < 8
            · have g1 : (i : Int) < 8 := by omega
              have g2 : (0 : Int) ≤ (i : Int) := by omega
              have gi : IntKind.i64.wrap ((i : Int) + 1) = (i : Int) + 1 := by rw [IntKind.wrap_i64]; omega
              have g8 : IntKind.i64.wrap ((i : Int) + 8) = (i : Int) + 8 := by rw [IntKind.wrap_i64]; omega
              have g3 : (0 : Int) ≤ (i : Int) + 8 := by omega
              have g4 : (i : Int) + 8 < 80 := by omega
              have g5 : ((i : Int) + 8).toNat = i + 8 := by omega
              have g6 : (i : Int).toNat = i := by omega
              have pb := prs_get (k := 410) (j := i + 8) (by rw [prs_410]; omega)
              have HK : Hid _ := hs_get hlt
              have cg := BG.cell (i + 8) _ (HC.out (i + 8) (by omega))
              obtain ⟨p, hp⟩ : ∃ p, (prs 410).getD (i + 8) 0 = p := ⟨_, rfl⟩
              rw [hp] at HK pb cg
              obtain ⟨p2, p4⟩ := pb
              clear hp
              obtain ⟨x, hx⟩ : ∃ x, rootN p false = x := ⟨_, rfl⟩
              rw [hx] at HK
              have HX : Hid (rootN p false = x) := hx
              clear hx
              have lg := BG.lt
              go_wp2_with fail
              refine (r7_root_false (by omega) (by omega)).mono ?_
              rintro e w6 ⟨rfl, hb⟩
              rw [HX.out]
              replace B1 := B1.later hb
              replace B0 := B0.later hb
              replace BG := BG.later hb
              replace hown := own_later hown hb
              replace hsz := Nat.le_trans hsz hb.size
              replace bel := below_step bel hb
              clear hb cg lg
              have c1 := B1.cell (1 + i) _ (hs_cell kv hi hlt)
              have f1 := B1.frozen (1 + i)
              have l1 := B1.lt
              go_wp2_with fail
              go_roundw
              case rel => exact ⟨i + 1, by omega, by go_num, own_set hown (by omega), by have := B1.set (1 + i) (.int .u64 x); rw [hs_set kv hlt HK.out] at this; exact this, B0.other _ _ (by show w.heap.size ≠ w.heap.size + 1; omega), BG.other _ _ (by show g ≠ w.heap.size + 1; omega), bel.setCell (by show w.heap.size ≤ w.heap.size + 1; omega) _, by simpa using hsz⟩
              case measure => simp [intOf]; omega
            · have hi8 : i = 8 := by omega
              subst hi8
              rw [hs_8] at B1
              obtain ⟨gk, ck, rfl⟩ : ∃ gk ck, kv = .slice (some ⟨gk, 0, none⟩) 80 ck := by
                rcases hown.2 with ⟨_, h⟩ | ⟨g', c', cur', h1, _⟩
                · exact absurd h (by decide)
                · exact ⟨g', c', h1⟩
              have g1 : ¬ ((8 : Nat) : Int) < 8 := by omega
              have l1 := B1.lt
              have c0 := B1.cell 0 _ rfl
              have c1 := B1.cell 1 _ rfl
              have c2 := B1.cell 2 _ rfl
              have c3 := B1.cell 3 _ rfl
              have c4 := B1.cell 4 _ rfl
              have c5 := B1.cell 5 _ rfl
              have c6 := B1.cell 6 _ rfl
              have c7 := B1.cell 7 _ rfl
              have c8 := B1.cell 8 _ rfl
              have l0 := B0.lt
              have d0 := B0.cell 0 _ rfl; have f0 := B0.frozen 0; have d1 := B0.cell 1 _ rfl; have f1 := B0.frozen 1; have d2 := B0.cell 2 _ rfl; have f2 := B0.frozen 2; have d3 := B0.cell 3 _ rfl; have f3 := B0.frozen 3; have d4 := B0.cell 4 _ rfl; have f4 := B0.frozen 4; have d5 := B0.cell 5 _ rfl; have f5 := B0.frozen 5; have d6 := B0.cell 6 _ rfl; have f6 := B0.frozen 6; have d7 := B0.cell 7 _ rfl; have f7 := B0.frozen 7; have d8 := B0.cell 8 _ rfl; have f8 := B0.frozen 8
              go_wp2_with fail
              exact bodyPost_ret (v := .agg #[.slice (some ⟨gk, 0, none⟩) 80 ck, .int .u64 14680500436340154072, .int .u64 7105036623409894663, .int .u64 10473403895298186519, .int .u64 1526699215303891257, .int .u64 7436329637833083697, .int .u64 10282925794625328401, .int .u64 15784041429090275239, .int .u64 5167115440072839076]) (by simp [results, Tryd.results9, go_sem, d0, d1, d2, d3, d4, d5, d6, d7, d8]) rfl ⟨_, rfl, Sl.of_own (own_put9 hown (by omega)), below_put9 bel (Nat.le_refl _)⟩
end Go.Proofs.YtbglkbfnhnmodaaDoor
