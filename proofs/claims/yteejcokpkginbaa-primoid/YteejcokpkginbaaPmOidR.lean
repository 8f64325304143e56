/- The document's Oid of layer 13. -/
import Derived.Test.YteejcokpkginbaaRows
import Derived.Test.YteejcokpkginbaaPmOid
import Derived.Test.YteejcokpkginbaaPmCut
import Derived.Test.YteejcokpkginbaaApUs
import Derived.Deep.OwnRows
import Derived.Deep.AppendLies
import Derived.Deep.WholeRow
import Derived.Deep.RegionHeld3
import Derived.Deep.DeepCutAuto
import Derived.Deep.DeepFit
namespace Go.Proofs.Yteejcokpkginbaa
open Go.RowKit

theorem own_geU {w : World} {base : Nat} {e : TypeId} {v : Value} {n : Nat} {xs : List Value} {j : Nat} (h : w.ownsRow base e 1 v n xs) (hj : v.ownBlock = some j) : base ≤ j := by
  rcases h.2 with ⟨h1, _⟩ | ⟨g, c, cur, h1, h2, _⟩
  · rw [h1] at hj; simp [Value.ownBlock] at hj
  · rw [h1] at hj; simp [Value.ownBlock] at hj; omega
theorem own_noneU (w : World) : w.ownsRow w.heap.size 44 1 (.slice none 0 0) 0 (us []) := ⟨rfl, .inl ⟨rfl, rfl⟩⟩
theorem drop_consU {B : List Int} {i : Nat} (h : i < B.length) : B.drop i = B.getD i 0 :: B.drop (i + 1) := by
  rw [List.drop_eq_getElem_cons h]
  simp [List.getD_eq_getElem?_getD, h]
theorem raw_next {B L : List Int} {i : Nat} {x y c : Int} {beg : Bool} (h : i < B.length) (hy : B.getD i 0 = y) (hn : ¬ (beg = true ∧ y = 128)) (hc : min (128 * x + y % 128) 1099511627776 = c) : rawP (B.drop i) L x beg = if y < 128 then rawP (B.drop (i + 1)) (L ++ [c]) 0 true else rawP (B.drop (i + 1)) L c false := by
  rw [drop_consU h, hy, rawP, if_neg hn, hc]
theorem raw_stop {B L : List Int} {i : Nat} {x y : Int} (h : i < B.length) (hy : B.getD i 0 = y) (hn : y = 128) : rawP (B.drop i) L x true = .error 7 := by
  rw [drop_consU h, hy, rawP, if_pos ⟨rfl, hn⟩]
/-- the words of a row, each at most 2^40 -/
def wds (L : List Int) : Prop := ∀ j, 0 ≤ L.getD j 0 ∧ L.getD j 0 ≤ 1099511627776
theorem wds_nil : wds [] := fun j => by simp
theorem wds_add {L : List Int} {c : Int} (h : wds L) (hc : 0 ≤ c ∧ c ≤ 1099511627776) : wds (L ++ [c]) := fun j => by
  by_cases k : j < L.length
  · have e : (L ++ [c]).getD j 0 = L.getD j 0 := by simp [List.getD_eq_getElem?_getD, List.getElem?_append_left k]
    rw [e]; exact h j
  · by_cases k2 : j = L.length
    · have e : (L ++ [c]).getD j 0 = c := by rw [k2]; simp [List.getD_eq_getElem?_getD]
      rw [e]; exact hc
    · rw [List.getD_eq_getElem?_getD, List.getElem?_eq_none (by simp; omega)]
      exact ⟨by decide, by decide⟩
theorem fin_bad {L : List Int} {i : Nat} (hi : i < L.length) (h : (i = 0 ∧ 4294967375 < L.getD i 0) ∨ (0 < i ∧ 4294967295 < L.getD i 0)) : oidFin L = .error 3 := by
  unfold oidFin
  rw [if_pos]
  rcases h with ⟨rfl, h⟩ | ⟨h1, h2⟩
  · exact .inl h
  · exact .inr ⟨i, hi, h1, h2⟩
theorem fin_good {L : List Int} (h0 : ¬ 4294967375 < L.getD 0 0) (h : ∀ j, j < L.length → 0 < j → ¬ 4294967295 < L.getD j 0) : oidFin L = if 16 < (first2 (L.getD 0 0) ++ L.drop 1).length then .error 2 else .ok (first2 (L.getD 0 0) ++ L.drop 1) := by
  unfold oidFin
  rw [if_neg]
  rintro (k | ⟨j, k1, k2, k3⟩)
  · exact h0 k
  · exact h j k1 k2 k3
theorem first2_len (x : Int) : (first2 x).length = 2 := by
  unfold first2
  split
  · rfl
  · split <;> rfl
set_option linter.unusedSimpArgs false in
set_option maxRecDepth 100000 in
set_option maxHeartbeats 2000000 in
theorem r13_Oid {v : Value} {B : List Int} {w : World} (hv : Bs w v B) (b : byt B) (hl : B.length ≤ 1099511627776) :
    Calls Try.prog 19 #[v] w fun e w' => (∀ n, oidP B = .ok n → ∃ v' : Value, e = .returned (.tuple #[v', .int .i64 0]) ∧ Us w' v' n ∧ Below w.heap.size w w') ∧ (∀ c, oidP B = .error c → e = .returned (.tuple #[.slice none 0 0, .int .i64 (c : Int)]) ∧ Below w.heap.size w w') := by
  have HV : Hid (Bs w v B) := hv
  have HB : Hid (byt B) := b
  clear b
  obtain ⟨ao, cap, rfl, h1, h2, h3⟩ := hv
  obtain ⟨N, hN⟩ : ∃ N, B.length = N := ⟨_, rfl⟩
  have HN : Hid (B.length = N) := hN
  rw [hN] at hl h2 h3 ⊢
  have HC : Hid (∀ j, j < N → ∃ g o, ao = some ⟨g, o, none⟩ ∧ w.cell? ⟨g, o + j, none⟩ = some (.int .u8 (B.getD j 0)) ∧ g < w.heap.size) := fun j hj => by
    obtain ⟨g, o, e1, e2, e3⟩ := h3 (by omega)
    exact ⟨g, o, e1, e3 j hj, e2⟩
  clear h3 hN
  unfold maxLen at h1
  go_enter Try.func19, Try.ntmps19
  go_wp2_with fail
  go_loopw [4, 5, 6, 7] (fun lv xv bv iv wx => ∃ (i : Nat) (L : List Int) (x : Int) (beg : Bool), i ≤ N ∧ L.length ≤ i ∧ xv = .int .u64 x ∧ bv = .bool beg ∧ iv = .int .i64 (i : Int) ∧ (0 ≤ x ∧ x ≤ 1099511627776) ∧ wx.ownsRow w.heap.size 44 1 lv L.length (us L) ∧ Below w.heap.size w wx ∧ Hid (wds L) ∧ Hid (rawP B [] 0 true = rawP (B.drop i) L x beg)) (fun _ _ _ iv _ => N - (intOf iv).toNat)
  case atStart => exact ⟨0, [], 0, true, by omega, Nat.le_refl _, rfl, rfl, rfl, by omega, own_noneU w, Below.refl _ _, wds_nil, rfl⟩
  case round =>
    obtain ⟨i, L, x, beg, hi, hL, rfl, rfl, rfl, hx, hown, bel, HW, HE⟩ := hrel
    by_cases hil : i < N
    · have g1 : (i : Int) < (N : Int) := by omega
      have g2 : (0 : Int) ≤ (i : Int) := by omega
      have gi : IntKind.i64.wrap ((i : Int) + 1) = (i : Int) + 1 := by rw [IntKind.wrap_i64]; omega
      obtain ⟨g, o, rfl, cy, lg⟩ := HC.out i hil
      have yb := HB.out i
      obtain ⟨y, hy⟩ : ∃ y, B.getD i 0 = y := ⟨_, rfl⟩
      have HY : Hid (B.getD i 0 = y) := hy
      rw [hy] at cy yb
      replace cy := (bel.cell (p := ⟨g, o + i, none⟩) lg).trans cy
      replace lg := Nat.lt_of_lt_of_le lg bel.size
      clear hy
      obtain ⟨z, hz⟩ : ∃ z, y % 128 = z := ⟨_, rfl⟩
      have HZ : Hid (y % 128 = z) := hz
      have zb : 0 ≤ z ∧ z < 128 := by omega
      have m1 : y.tmod 128 = z := by rw [Int.tmod_eq_emod_of_nonneg (by omega)]; omega
      have m2 : IntKind.u8.wrap z = z := by rw [IntKind.wrap_u8]; omega
      have m3 : IntKind.u64.wrap z = z := by rw [IntKind.wrap_u64]; omega
      have m4 : IntKind.u64.wrap (128 * x) = 128 * x := by rw [IntKind.wrap_u64]; omega
      have m5 : IntKind.u64.wrap (128 * x + z) = 128 * x + z := by rw [IntKind.wrap_u64]; omega
      clear hz
      cases beg with
      | true =>
        by_cases c0 : y = 128
        · have H : Hid (oidP B = .error 7) := by show _ = _; unfold oidP; rw [HE.out, raw_stop (by rw [HN.out]; exact hil) HY.out c0]
          go_wp2_with fail
          refine bodyPost_ret (results_tmp2 rfl _ _ _) rfl ?_
          exact ⟨fun n h => (by rw [H.out] at h; cases h), fun c h => (by rw [H.out] at h; cases h; exact ⟨rfl, bel⟩)⟩
        · by_cases c1 : 1099511627776 < 128 * x + z
          · by_cases c2 : y < 128
            · have HN2 : Hid (rawP B [] 0 true = rawP (B.drop (i + 1)) (L ++ [1099511627776]) 0 true) := by
                show _ = _
                rw [HE.out, raw_next (by rw [HN.out]; exact hil) HY.out (by rintro ⟨_, k⟩; omega) (c := 1099511627776) (by rw [HZ.out]; omega), if_pos c2]
              clear HE
              have HW2 : Hid (wds (L ++ [1099511627776])) := wds_add HW.out (by omega)
              have o0 := hown.alloc (.cells #[.int .u64 (1099511627776)] 44)
              have b0 := us_blk (q := 1) (Blk.new wr (us [1099511627776]) 44 wr.heap.size rfl) rfl (by decide)
              have hbl := below_alloc (o := .cells #[.int .u64 (1099511627776)] 44) bel
              have hsz : w.heap.size ≤ (wr.alloc (.cells #[.int .u64 (1099511627776)] 44)).heap.size := hbl.size
              go_wp2_with (first | (at_builtin; refine wpList_append_us (by rfl) _ _ (by rfl) w.heap.size _ L.length L (by rfl) o0 _ [1099511627776] (by rfl) b0 (by show L.length + 1 ≤ _; omega) hsz ?_; intro v5 w5 own5 hgrow hat) | fail)
              have bel5 := below_own (base := w.heap.size) hbl hgrow hsz (fun g hg => own_geU hown hg) (Nat.le_refl _)
              go_roundw
              case rel => exact ⟨i + 1, L ++ [1099511627776], 0, true, by omega, by rw [List.length_append]; show L.length + 1 ≤ _; omega, rfl, rfl, by go_num, by omega, by rw [List.length_append]; exact own5, bel5, HW2, HN2⟩
              case measure => simp [intOf]; omega
            · have HN2 : Hid (rawP B [] 0 true = rawP (B.drop (i + 1)) L (1099511627776) false) := by
                show _ = _
                rw [HE.out, raw_next (by rw [HN.out]; exact hil) HY.out (by rintro ⟨_, k⟩; omega) (c := 1099511627776) (by rw [HZ.out]; omega), if_neg c2]
              clear HE
              go_wp2_with fail
              go_roundw
              case rel => exact ⟨i + 1, L, 1099511627776, false, by omega, by omega, rfl, rfl, by go_num, by omega, hown, bel, HW, HN2⟩
              case measure => simp [intOf]; omega
          · by_cases c2 : y < 128
            · have HN2 : Hid (rawP B [] 0 true = rawP (B.drop (i + 1)) (L ++ [128 * x + z]) 0 true) := by
                show _ = _
                rw [HE.out, raw_next (by rw [HN.out]; exact hil) HY.out (by rintro ⟨_, k⟩; omega) (c := 128 * x + z) (by rw [HZ.out]; omega), if_pos c2]
              clear HE
              have HW2 : Hid (wds (L ++ [128 * x + z])) := wds_add HW.out (by omega)
              have o0 := hown.alloc (.cells #[.int .u64 (128 * x + z)] 44)
              have b0 := us_blk (q := 1) (Blk.new wr (us [128 * x + z]) 44 wr.heap.size rfl) rfl (by decide)
              have hbl := below_alloc (o := .cells #[.int .u64 (128 * x + z)] 44) bel
              have hsz : w.heap.size ≤ (wr.alloc (.cells #[.int .u64 (128 * x + z)] 44)).heap.size := hbl.size
              go_wp2_with (first | (at_builtin; refine wpList_append_us (by rfl) _ _ (by rfl) w.heap.size _ L.length L (by rfl) o0 _ [128 * x + z] (by rfl) b0 (by show L.length + 1 ≤ _; omega) hsz ?_; intro v5 w5 own5 hgrow hat) | fail)
              have bel5 := below_own (base := w.heap.size) hbl hgrow hsz (fun g hg => own_geU hown hg) (Nat.le_refl _)
              go_roundw
              case rel => exact ⟨i + 1, L ++ [128 * x + z], 0, true, by omega, by rw [List.length_append]; show L.length + 1 ≤ _; omega, rfl, rfl, by go_num, by omega, by rw [List.length_append]; exact own5, bel5, HW2, HN2⟩
              case measure => simp [intOf]; omega
            · have HN2 : Hid (rawP B [] 0 true = rawP (B.drop (i + 1)) L (128 * x + z) false) := by
                show _ = _
                rw [HE.out, raw_next (by rw [HN.out]; exact hil) HY.out (by rintro ⟨_, k⟩; omega) (c := 128 * x + z) (by rw [HZ.out]; omega), if_neg c2]
              clear HE
              go_wp2_with fail
              go_roundw
              case rel => exact ⟨i + 1, L, 128 * x + z, false, by omega, by omega, rfl, rfl, by go_num, by omega, hown, bel, HW, HN2⟩
              case measure => simp [intOf]; omega
      | false =>
        by_cases c1 : 1099511627776 < 128 * x + z
        · by_cases c2 : y < 128
          · have HN2 : Hid (rawP B [] 0 true = rawP (B.drop (i + 1)) (L ++ [1099511627776]) 0 true) := by
              show _ = _
              rw [HE.out, raw_next (by rw [HN.out]; exact hil) HY.out (by rintro ⟨k, _⟩; cases k) (c := 1099511627776) (by rw [HZ.out]; omega), if_pos c2]
            clear HE
            have HW2 : Hid (wds (L ++ [1099511627776])) := wds_add HW.out (by omega)
            have o0 := hown.alloc (.cells #[.int .u64 (1099511627776)] 44)
            have b0 := us_blk (q := 1) (Blk.new wr (us [1099511627776]) 44 wr.heap.size rfl) rfl (by decide)
            have hbl := below_alloc (o := .cells #[.int .u64 (1099511627776)] 44) bel
            have hsz : w.heap.size ≤ (wr.alloc (.cells #[.int .u64 (1099511627776)] 44)).heap.size := hbl.size
            go_wp2_with (first | (at_builtin; refine wpList_append_us (by rfl) _ _ (by rfl) w.heap.size _ L.length L (by rfl) o0 _ [1099511627776] (by rfl) b0 (by show L.length + 1 ≤ _; omega) hsz ?_; intro v5 w5 own5 hgrow hat) | fail)
            have bel5 := below_own (base := w.heap.size) hbl hgrow hsz (fun g hg => own_geU hown hg) (Nat.le_refl _)
            go_roundw
            case rel => exact ⟨i + 1, L ++ [1099511627776], 0, true, by omega, by rw [List.length_append]; show L.length + 1 ≤ _; omega, rfl, rfl, by go_num, by omega, by rw [List.length_append]; exact own5, bel5, HW2, HN2⟩
            case measure => simp [intOf]; omega
          · have HN2 : Hid (rawP B [] 0 true = rawP (B.drop (i + 1)) L (1099511627776) false) := by
              show _ = _
              rw [HE.out, raw_next (by rw [HN.out]; exact hil) HY.out (by rintro ⟨k, _⟩; cases k) (c := 1099511627776) (by rw [HZ.out]; omega), if_neg c2]
            clear HE
            go_wp2_with fail
            go_roundw
            case rel => exact ⟨i + 1, L, 1099511627776, false, by omega, by omega, rfl, rfl, by go_num, by omega, hown, bel, HW, HN2⟩
            case measure => simp [intOf]; omega
        · by_cases c2 : y < 128
          · have HN2 : Hid (rawP B [] 0 true = rawP (B.drop (i + 1)) (L ++ [128 * x + z]) 0 true) := by
              show _ = _
              rw [HE.out, raw_next (by rw [HN.out]; exact hil) HY.out (by rintro ⟨k, _⟩; cases k) (c := 128 * x + z) (by rw [HZ.out]; omega), if_pos c2]
            clear HE
            have HW2 : Hid (wds (L ++ [128 * x + z])) := wds_add HW.out (by omega)
            have o0 := hown.alloc (.cells #[.int .u64 (128 * x + z)] 44)
            have b0 := us_blk (q := 1) (Blk.new wr (us [128 * x + z]) 44 wr.heap.size rfl) rfl (by decide)
            have hbl := below_alloc (o := .cells #[.int .u64 (128 * x + z)] 44) bel
            have hsz : w.heap.size ≤ (wr.alloc (.cells #[.int .u64 (128 * x + z)] 44)).heap.size := hbl.size
            go_wp2_with (first | (at_builtin; refine wpList_append_us (by rfl) _ _ (by rfl) w.heap.size _ L.length L (by rfl) o0 _ [128 * x + z] (by rfl) b0 (by show L.length + 1 ≤ _; omega) hsz ?_; intro v5 w5 own5 hgrow hat) | fail)
            have bel5 := below_own (base := w.heap.size) hbl hgrow hsz (fun g hg => own_geU hown hg) (Nat.le_refl _)
            go_roundw
            case rel => exact ⟨i + 1, L ++ [128 * x + z], 0, true, by omega, by rw [List.length_append]; show L.length + 1 ≤ _; omega, rfl, rfl, by go_num, by omega, by rw [List.length_append]; exact own5, bel5, HW2, HN2⟩
            case measure => simp [intOf]; omega
          · have HN2 : Hid (rawP B [] 0 true = rawP (B.drop (i + 1)) L (128 * x + z) false) := by
              show _ = _
              rw [HE.out, raw_next (by rw [HN.out]; exact hil) HY.out (by rintro ⟨k, _⟩; cases k) (c := 128 * x + z) (by rw [HZ.out]; omega), if_neg c2]
            clear HE
            go_wp2_with fail
            go_roundw
            case rel => exact ⟨i + 1, L, 128 * x + z, false, by omega, by omega, rfl, rfl, by go_num, by omega, hown, bel, HW, HN2⟩
            case measure => simp [intOf]; omega
    · have HI : Hid (i = N) := by show i = N; omega
      have g1 : ¬ (i : Int) < (N : Int) := by omega
      have HE2 : Hid (rawP B [] 0 true = if beg = false ∨ L.length = 0 then .error 7 else .ok L) := by
        show _ = _
        rw [HE.out, List.drop_of_length_le (by rw [HN.out, HI.out]; exact Nat.le_refl _), rawP]
      clear HE
      have hL2 : L.length ≤ 1099511627776 := by omega
      have HL0 := Us.of_own hown
      cases beg with
      | false =>
        have H : Hid (oidP B = .error 7) := by show _ = _; unfold oidP; rw [HE2.out, if_pos (.inl rfl)]
        go_wp2_with fail
        refine bodyPost_ret (results_tmp2 rfl _ _ _) rfl ?_
        exact ⟨fun n h => (by rw [H.out] at h; cases h), fun c h => (by rw [H.out] at h; cases h; exact ⟨rfl, bel⟩)⟩
      | true =>
        have HL1 := HL0
        obtain ⟨lo, lc, rfl, l1, l2, l3⟩ := HL1
        have HL : Hid (Us wr (.slice lo L.length lc) L) := HL0
        clear HL0
        unfold maxLen at l1
        obtain ⟨M, hM⟩ : ∃ M, L.length = M := ⟨_, rfl⟩
        have HM : Hid (L.length = M) := hM
        rw [hM] at l2 l3 HL hL2 ⊢
        clear hown hM hL
        by_cases c0 : M = 0
        · have H : Hid (oidP B = .error 7) := by show _ = _; unfold oidP; rw [HE2.out, if_pos (.inr (by rw [HM.out]; exact c0))]
          have k0 : (M : Int) = 0 := by omega
          go_wp2_with fail
          refine bodyPost_ret (results_tmp2 rfl _ _ _) rfl ?_
          exact ⟨fun n h => (by rw [H.out] at h; cases h), fun c h => (by rw [H.out] at h; cases h; exact ⟨rfl, bel⟩)⟩
        · have k0 : ¬ (M : Int) = 0 := by omega
          have HE3 : Hid (oidP B = oidFin L) := by show _ = _; unfold oidP; rw [HE2.out, if_neg (fun k => by rcases k with k | k; exact absurd k (by decide); exact c0 (by rw [← HM.out]; exact k))]
          obtain ⟨bb, bo, rfl, bl, bc⟩ := l3 (by omega)
          have HCL : Hid _ := bc
          clear bc l3 HE2
          go_wp2_with fail
          go_loop [8] (fun iv => ∃ i : Nat, i ≤ M ∧ iv = .int .i64 (i : Int) ∧ Hid (∀ j, j < i → ¬ ((j = 0 ∧ 4294967375 < L.getD j 0) ∨ (0 < j ∧ 4294967295 < L.getD j 0)))) (fun iv => M - (intOf iv).toNat)
          case atStart => exact ⟨0, by omega, rfl, fun j hj => absurd hj (by omega)⟩
          case round =>
            obtain ⟨i, hi, rfl, HO⟩ := hrel
            by_cases hiM : i < M
            · have q1 : (i : Int) < (M : Int) := by omega
              have q2 : (0 : Int) ≤ (i : Int) := by omega
              have gi : IntKind.i64.wrap ((i : Int) + 1) = (i : Int) + 1 := by rw [IntKind.wrap_i64]; omega
              have cq := HCL.out i hiM
              have qb := HW.out i
              obtain ⟨q, hq⟩ : ∃ q, L.getD i 0 = q := ⟨_, rfl⟩
              have HQ : Hid (L.getD i 0 = q) := hq
              rw [hq] at cq qb
              clear hq
              by_cases i0 : i = 0
              · subst i0
                rw [Nat.add_zero] at cq
                by_cases k : 4294967375 < q
                · have H : Hid (oidP B = .error 3) := by show _ = _; rw [HE3.out]; exact fin_bad (by rw [HM.out]; exact hiM) (.inl ⟨rfl, by rw [HQ.out]; exact k⟩)
                  go_wp2_with fail
                  refine bodyPost_ret (results_tmp2 rfl _ _ _) rfl ?_
                  exact ⟨fun n h => (by rw [H.out] at h; cases h), fun c h => (by rw [H.out] at h; cases h; exact ⟨rfl, bel⟩)⟩
                · have HO2 : Hid (∀ j, j < 0 + 1 → ¬ ((j = 0 ∧ 4294967375 < L.getD j 0) ∨ (0 < j ∧ 4294967295 < L.getD j 0))) := fun j hj => by
                    have hj0 : j = 0 := by omega
                    rw [hj0, HQ.out]
                    omega
                  clear HO
                  go_wp2_with fail
                  go_round
                  case rel => exact ⟨0 + 1, by omega, by go_num, HO2⟩
                  case measure => simp [intOf]; omega
              · have q3 : ¬ (i : Int) = 0 := by omega
                have q4 : (0 : Int) < (i : Int) := by omega
                by_cases k : 4294967295 < q
                · have H : Hid (oidP B = .error 3) := by show _ = _; rw [HE3.out]; exact fin_bad (by rw [HM.out]; exact hiM) (.inr ⟨by omega, by rw [HQ.out]; exact k⟩)
                  go_wp2_with fail
                  refine bodyPost_ret (results_tmp2 rfl _ _ _) rfl ?_
                  exact ⟨fun n h => (by rw [H.out] at h; cases h), fun c h => (by rw [H.out] at h; cases h; exact ⟨rfl, bel⟩)⟩
                · have HO2 : Hid (∀ j, j < i + 1 → ¬ ((j = 0 ∧ 4294967375 < L.getD j 0) ∨ (0 < j ∧ 4294967295 < L.getD j 0))) := fun j hj => by
                    by_cases e : j < i
                    · exact HO.out j e
                    · have hj0 : j = i := by omega
                      rw [hj0, HQ.out]
                      omega
                  clear HO
                  go_wp2_with fail
                  go_round
                  case rel => exact ⟨i + 1, by omega, by go_num, HO2⟩
                  case measure => simp [intOf]; omega
            · have HI9 : Hid (i = M) := by show i = M; omega
              have q1 : ¬ (i : Int) < (M : Int) := by omega
              have o1 := HO.out 0 (by omega)
              have HE4 : Hid (oidP B = if 16 < 2 + (M - 1) then .error 2 else .ok (first2 (L.getD 0 0) ++ L.drop 1)) := by
                show _ = _
                rw [HE3.out, fin_good (by omega) (fun j hj h0 => by have := HO.out j (by have := HM.out; have := HI9.out; omega); omega), List.length_append, first2_len, List.length_drop, HM.out]
              have cq := HCL.out 0 (by omega)
              rw [Nat.add_zero] at cq
              have qb := HW.out 0
              obtain ⟨q, hq⟩ : ∃ q, L.getD 0 0 = q := ⟨_, rfl⟩
              rw [hq] at cq qb HE4 o1
              clear hq HO HE3
              by_cases k1 : q < 40
              · have HF2 : Hid (first2 q = [0, q]) := by show _ = _; unfold first2; rw [if_pos k1]
                have o0 := (own_noneU wr).alloc (.cells #[.int .u64 0, .int .u64 (q)] 44)
                have b0 := us_blk (q := 2) (Blk.new wr (us [0, q]) 44 wr.heap.size rfl) rfl (by decide)
                have hsz : wr.heap.size ≤ (wr.alloc (.cells #[.int .u64 0, .int .u64 (q)] 44)).heap.size := by simp
                have st : Below wr.heap.size wr (wr.alloc (.cells #[.int .u64 0, .int .u64 (q)] 44)) := (Below.refl wr.heap.size wr).alloc (Nat.le_refl _) _
                go_upto_region 29 with (first | (at_builtin; refine wpList_append_us (by rfl) _ _ (by rfl) wr.heap.size _ 0 [] (by rfl) o0 _ [0, q] (by rfl) b0 (by show 0 + 2 ≤ _; omega) hsz ?_; intro v5 w5 own5 hgrow hat) | fail)
                have st5 : Below wr.heap.size wr w5 := below_own (base := wr.heap.size) st hgrow hsz (fun g hg => own_geU (own_noneU wr) hg) (Nat.le_refl _)
                have sz5 := st5.size
                clear st hgrow hat hsz b0 o0 cq
                have HCut : Hid (∀ ad m k, m = M - 1 → k = lc - 1 → (0 < m → ad = some ⟨bb, bo + 1, none⟩) → Us w5 (.slice ad m k) (L.drop 1)) := fun ad m k hm hk ha => us_cut (HL.out.later st5) HM.out (by omega) hm ha hk
                have HLe : Hid ((L.drop 1).length = M - 1) := by show _ = _; rw [List.length_drop, HM.out]
                have y1 : 1 ≤ M := by omega
                have y2 : 1 ≤ lc := by omega
                go_upto_region 30 with (first | (at_builtin; refine wpList_append_us (by rfl) _ _ (by rfl) wr.heap.size _ (0 + 2) ([] ++ [0, q]) (by rfl) own5 _ (L.drop 1) (by rfl) (HCut.out _ _ _ (by first | rfl | omega) (by first | rfl | omega) (by intro h0; first | rfl | (rw [if_neg (by omega)]) | omega)) (by rw [HLe.out]; omega) sz5 ?_; intro v6 w6 own6 hgrow6 hat6) | fail)
                all_goals rw [HLe.out, List.nil_append, ← HF2.out] at own6
                all_goals have st6 : Below wr.heap.size wr w6 := below_own (base := wr.heap.size) st5 hgrow6 sz5 (fun g hg => own_geU own5 hg) (Nat.le_refl _)
                all_goals have U6 := Us.of_own own6
                all_goals replace bel := below_step bel st6
                all_goals clear own5 own6 st5 st6 hgrow6 hat6 HCut
                all_goals obtain ⟨T, hT⟩ : ∃ T, first2 q ++ L.drop 1 = T := ⟨_, rfl⟩
                all_goals have HTl : Hid (T.length = 0 + 2 + (M - 1)) := by rw [← hT]; show (first2 q ++ L.drop 1).length = _; rw [List.length_append, first2_len, HLe.out]
                all_goals rw [hT] at U6 HE4
                all_goals have U7 := U6
                all_goals obtain ⟨tv, tc, rfl, t1, t2, -⟩ := U7
                all_goals have HU : Hid (Us w6 (.slice tv T.length tc) T) := U6
                all_goals unfold maxLen at t1
                all_goals clear U6 hT HF2
                all_goals obtain ⟨P, hP⟩ : ∃ P, T.length = P := ⟨_, rfl⟩
                all_goals rw [hP] at HTl t2 HU ⊢
                all_goals clear hP
                all_goals by_cases k9 : 16 < P
                all_goals first
                  | (have H : Hid (oidP B = .error 2) := by show _ = _; rw [HE4.out, if_pos (by have := HTl.out; omega)]
                     have k8 : (16 : Int) < (P : Int) := by omega
                     go_wp2_with fail
                     all_goals refine bodyPost_ret (results_tmp2 rfl _ _ _) rfl ?_
                     all_goals exact ⟨fun n h => (by rw [H.out] at h; cases h), fun c h => (by rw [H.out] at h; cases h; exact ⟨rfl, bel⟩)⟩)
                  | (have H : Hid (oidP B = .ok T) := by show _ = _; rw [HE4.out, if_neg (by have := HTl.out; omega)]
                     have k8 : ¬ (16 : Int) < (P : Int) := by omega
                     go_wp2_with fail
                     all_goals refine bodyPost_ret (results_tmp2 rfl _ _ _) rfl ?_
                     all_goals exact ⟨fun n h => (by rw [H.out] at h; cases h; exact ⟨_, rfl, HU.out, bel⟩), fun c h => (by rw [H.out] at h; cases h)⟩)
              · by_cases k2 : q < 80
                · have HF2 : Hid (first2 q = [1, q - 40]) := by show _ = _; unfold first2; rw [if_neg k1, if_pos k2]
                  have kw : IntKind.u64.wrap (q - 40) = q - 40 := by rw [IntKind.wrap_u64]; omega
                  have o0 := (own_noneU wr).alloc (.cells #[.int .u64 1, .int .u64 (q - 40)] 44)
                  have b0 := us_blk (q := 2) (Blk.new wr (us [1, q - 40]) 44 wr.heap.size rfl) rfl (by decide)
                  have hsz : wr.heap.size ≤ (wr.alloc (.cells #[.int .u64 1, .int .u64 (q - 40)] 44)).heap.size := by simp
                  have st : Below wr.heap.size wr (wr.alloc (.cells #[.int .u64 1, .int .u64 (q - 40)] 44)) := (Below.refl wr.heap.size wr).alloc (Nat.le_refl _) _
                  go_upto_region 29 with (first | (at_builtin; refine wpList_append_us (by rfl) _ _ (by rfl) wr.heap.size _ 0 [] (by rfl) o0 _ [1, q - 40] (by rfl) b0 (by show 0 + 2 ≤ _; omega) hsz ?_; intro v5 w5 own5 hgrow hat) | fail)
                  have st5 : Below wr.heap.size wr w5 := below_own (base := wr.heap.size) st hgrow hsz (fun g hg => own_geU (own_noneU wr) hg) (Nat.le_refl _)
                  have sz5 := st5.size
                  clear st hgrow hat hsz b0 o0 cq
                  have HCut : Hid (∀ ad m k, m = M - 1 → k = lc - 1 → (0 < m → ad = some ⟨bb, bo + 1, none⟩) → Us w5 (.slice ad m k) (L.drop 1)) := fun ad m k hm hk ha => us_cut (HL.out.later st5) HM.out (by omega) hm ha hk
                  have HLe : Hid ((L.drop 1).length = M - 1) := by show _ = _; rw [List.length_drop, HM.out]
                  have y1 : 1 ≤ M := by omega
                  have y2 : 1 ≤ lc := by omega
                  go_upto_region 30 with (first | (at_builtin; refine wpList_append_us (by rfl) _ _ (by rfl) wr.heap.size _ (0 + 2) ([] ++ [1, q - 40]) (by rfl) own5 _ (L.drop 1) (by rfl) (HCut.out _ _ _ (by first | rfl | omega) (by first | rfl | omega) (by intro h0; first | rfl | (rw [if_neg (by omega)]) | omega)) (by rw [HLe.out]; omega) sz5 ?_; intro v6 w6 own6 hgrow6 hat6) | fail)
                  all_goals rw [HLe.out, List.nil_append, ← HF2.out] at own6
                  all_goals have st6 : Below wr.heap.size wr w6 := below_own (base := wr.heap.size) st5 hgrow6 sz5 (fun g hg => own_geU own5 hg) (Nat.le_refl _)
                  all_goals have U6 := Us.of_own own6
                  all_goals replace bel := below_step bel st6
                  all_goals clear own5 own6 st5 st6 hgrow6 hat6 HCut
                  all_goals obtain ⟨T, hT⟩ : ∃ T, first2 q ++ L.drop 1 = T := ⟨_, rfl⟩
                  all_goals have HTl : Hid (T.length = 0 + 2 + (M - 1)) := by rw [← hT]; show (first2 q ++ L.drop 1).length = _; rw [List.length_append, first2_len, HLe.out]
                  all_goals rw [hT] at U6 HE4
                  all_goals have U7 := U6
                  all_goals obtain ⟨tv, tc, rfl, t1, t2, -⟩ := U7
                  all_goals have HU : Hid (Us w6 (.slice tv T.length tc) T) := U6
                  all_goals unfold maxLen at t1
                  all_goals clear U6 hT HF2
                  all_goals obtain ⟨P, hP⟩ : ∃ P, T.length = P := ⟨_, rfl⟩
                  all_goals rw [hP] at HTl t2 HU ⊢
                  all_goals clear hP
                  all_goals by_cases k9 : 16 < P
                  all_goals first
                    | (have H : Hid (oidP B = .error 2) := by show _ = _; rw [HE4.out, if_pos (by have := HTl.out; omega)]
                       have k8 : (16 : Int) < (P : Int) := by omega
                       go_wp2_with fail
                       all_goals refine bodyPost_ret (results_tmp2 rfl _ _ _) rfl ?_
                       all_goals exact ⟨fun n h => (by rw [H.out] at h; cases h), fun c h => (by rw [H.out] at h; cases h; exact ⟨rfl, bel⟩)⟩)
                    | (have H : Hid (oidP B = .ok T) := by show _ = _; rw [HE4.out, if_neg (by have := HTl.out; omega)]
                       have k8 : ¬ (16 : Int) < (P : Int) := by omega
                       go_wp2_with fail
                       all_goals refine bodyPost_ret (results_tmp2 rfl _ _ _) rfl ?_
                       all_goals exact ⟨fun n h => (by rw [H.out] at h; cases h; exact ⟨_, rfl, HU.out, bel⟩), fun c h => (by rw [H.out] at h; cases h)⟩)
                · have HF2 : Hid (first2 q = [2, q - 80]) := by show _ = _; unfold first2; rw [if_neg k1, if_neg k2]
                  have kw : IntKind.u64.wrap (q - 80) = q - 80 := by rw [IntKind.wrap_u64]; omega
                  have o0 := (own_noneU wr).alloc (.cells #[.int .u64 2, .int .u64 (q - 80)] 44)
                  have b0 := us_blk (q := 2) (Blk.new wr (us [2, q - 80]) 44 wr.heap.size rfl) rfl (by decide)
                  have hsz : wr.heap.size ≤ (wr.alloc (.cells #[.int .u64 2, .int .u64 (q - 80)] 44)).heap.size := by simp
                  have st : Below wr.heap.size wr (wr.alloc (.cells #[.int .u64 2, .int .u64 (q - 80)] 44)) := (Below.refl wr.heap.size wr).alloc (Nat.le_refl _) _
                  go_upto_region 29 with (first | (at_builtin; refine wpList_append_us (by rfl) _ _ (by rfl) wr.heap.size _ 0 [] (by rfl) o0 _ [2, q - 80] (by rfl) b0 (by show 0 + 2 ≤ _; omega) hsz ?_; intro v5 w5 own5 hgrow hat) | fail)
                  have st5 : Below wr.heap.size wr w5 := below_own (base := wr.heap.size) st hgrow hsz (fun g hg => own_geU (own_noneU wr) hg) (Nat.le_refl _)
                  have sz5 := st5.size
                  clear st hgrow hat hsz b0 o0 cq
                  have HCut : Hid (∀ ad m k, m = M - 1 → k = lc - 1 → (0 < m → ad = some ⟨bb, bo + 1, none⟩) → Us w5 (.slice ad m k) (L.drop 1)) := fun ad m k hm hk ha => us_cut (HL.out.later st5) HM.out (by omega) hm ha hk
                  have HLe : Hid ((L.drop 1).length = M - 1) := by show _ = _; rw [List.length_drop, HM.out]
                  have y1 : 1 ≤ M := by omega
                  have y2 : 1 ≤ lc := by omega
                  go_upto_region 30 with (first | (at_builtin; refine wpList_append_us (by rfl) _ _ (by rfl) wr.heap.size _ (0 + 2) ([] ++ [2, q - 80]) (by rfl) own5 _ (L.drop 1) (by rfl) (HCut.out _ _ _ (by first | rfl | omega) (by first | rfl | omega) (by intro h0; first | rfl | (rw [if_neg (by omega)]) | omega)) (by rw [HLe.out]; omega) sz5 ?_; intro v6 w6 own6 hgrow6 hat6) | fail)
                  all_goals rw [HLe.out, List.nil_append, ← HF2.out] at own6
                  all_goals have st6 : Below wr.heap.size wr w6 := below_own (base := wr.heap.size) st5 hgrow6 sz5 (fun g hg => own_geU own5 hg) (Nat.le_refl _)
                  all_goals have U6 := Us.of_own own6
                  all_goals replace bel := below_step bel st6
                  all_goals clear own5 own6 st5 st6 hgrow6 hat6 HCut
                  all_goals obtain ⟨T, hT⟩ : ∃ T, first2 q ++ L.drop 1 = T := ⟨_, rfl⟩
                  all_goals have HTl : Hid (T.length = 0 + 2 + (M - 1)) := by rw [← hT]; show (first2 q ++ L.drop 1).length = _; rw [List.length_append, first2_len, HLe.out]
                  all_goals rw [hT] at U6 HE4
                  all_goals have U7 := U6
                  all_goals obtain ⟨tv, tc, rfl, t1, t2, -⟩ := U7
                  all_goals have HU : Hid (Us w6 (.slice tv T.length tc) T) := U6
                  all_goals unfold maxLen at t1
                  all_goals clear U6 hT HF2
                  all_goals obtain ⟨P, hP⟩ : ∃ P, T.length = P := ⟨_, rfl⟩
                  all_goals rw [hP] at HTl t2 HU ⊢
                  all_goals clear hP
                  all_goals by_cases k9 : 16 < P
                  all_goals first
                    | (have H : Hid (oidP B = .error 2) := by show _ = _; rw [HE4.out, if_pos (by have := HTl.out; omega)]
                       have k8 : (16 : Int) < (P : Int) := by omega
                       go_wp2_with fail
                       all_goals refine bodyPost_ret (results_tmp2 rfl _ _ _) rfl ?_
                       all_goals exact ⟨fun n h => (by rw [H.out] at h; cases h), fun c h => (by rw [H.out] at h; cases h; exact ⟨rfl, bel⟩)⟩)
                    | (have H : Hid (oidP B = .ok T) := by show _ = _; rw [HE4.out, if_neg (by have := HTl.out; omega)]
                       have k8 : ¬ (16 : Int) < (P : Int) := by omega
                       go_wp2_with fail
                       all_goals refine bodyPost_ret (results_tmp2 rfl _ _ _) rfl ?_
                       all_goals exact ⟨fun n h => (by rw [H.out] at h; cases h; exact ⟨_, rfl, HU.out, bel⟩), fun c h => (by rw [H.out] at h; cases h)⟩)
end Go.Proofs.Yteejcokpkginbaa
