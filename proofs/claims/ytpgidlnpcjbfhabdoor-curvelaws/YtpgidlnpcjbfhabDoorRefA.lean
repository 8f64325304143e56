/- The reference's To6: the lowest six limbs. -/
import Derived.Test.YtpgidlnpcjbfhabDoorRows
import Derived.Test.YtpgidlnpcjbfhabDoorBase
import Derived.Deep.RegionHeld3
namespace Go.Proofs.YtpgidlnpcjbfhabDoor
open Go.RowKit

/-- a digit among the first k -/
def dg (D : List Int) (k i : Nat) : Int := if i < k then D.getD i 0 else 0

theorem dg_bd {D : List Int} (h : dig D) (k i : Nat) : 0 ≤ dg D k i ∧ dg D k i < 4294967296 := by
  unfold dg
  split
  · exact h i
  · decide

/-- the limbs that the first k digits make -/
def joined (D : List Int) (k : Nat) (S : List Int) : Prop := ∀ j, j < 6 → S.getD j 0 = dg D k (2 * j) + dg D k (2 * j + 1) * 4294967296

theorem getD_set_other (S : List Int) (k j : Nat) (s : Int) (h : k ≠ j) : (S.set k s).getD j 0 = S.getD j 0 := by simp [List.getD_eq_getElem?_getD, h]

theorem joined_even (D S : List Int) (k : Nat) (lS : S.length = 6) (hk : k < 12) (he : k % 2 = 0) (h : joined D k S) : joined D (k + 1) (S.set (k / 2) (D.getD k 0)) := by
  intro j hj
  by_cases hjk : k / 2 = j
  · subst hjk
    rw [getD_set_same _ _ _ (by omega)]
    have e1 : 2 * (k / 2) = k := by omega
    rw [e1]
    simp [dg]
  · rw [getD_set_other _ _ _ _ hjk, h j hj]
    have e1 : dg D (k + 1) (2 * j) = dg D k (2 * j) := by
      unfold dg
      by_cases q : 2 * j < k
      · rw [if_pos q, if_pos (by omega)]
      · rw [if_neg q, if_neg (by omega)]
    have e2 : dg D (k + 1) (2 * j + 1) = dg D k (2 * j + 1) := by
      unfold dg
      by_cases q : 2 * j + 1 < k
      · rw [if_pos q, if_pos (by omega)]
      · rw [if_neg q, if_neg (by omega)]
    rw [e1, e2]

theorem joined_odd (D S : List Int) (k : Nat) (lS : S.length = 6) (hk : k < 12) (he : k % 2 = 1) (h : joined D k S) : joined D (k + 1) (S.set (k / 2) (S.getD (k / 2) 0 + D.getD k 0 * 4294967296)) := by
  intro j hj
  by_cases hjk : k / 2 = j
  · subst hjk
    rw [getD_set_same _ _ _ (by omega), h _ hj]
    have e1 : 2 * (k / 2) + 1 = k := by omega
    rw [e1]
    have e2 : 2 * (k / 2) < k := by omega
    simp [dg, e2, show 2 * (k / 2) < k + 1 by omega]
  · rw [getD_set_other _ _ _ _ hjk, h j hj]
    have e1 : dg D (k + 1) (2 * j) = dg D k (2 * j) := by
      unfold dg
      by_cases q : 2 * j < k
      · rw [if_pos q, if_pos (by omega)]
      · rw [if_neg q, if_neg (by omega)]
    have e2 : dg D (k + 1) (2 * j + 1) = dg D k (2 * j + 1) := by
      unfold dg
      by_cases q : 2 * j + 1 < k
      · rw [if_pos q, if_pos (by omega)]
      · rw [if_neg q, if_neg (by omega)]
    rw [e1, e2]

theorem pvt (D : List Int) (k : Nat) : v32 (D.take (k + 1)) = v32 (D.take k) + 4294967296 ^ k * D.getD k 0 := by
  by_cases h : k < D.length
  · exact pv_take _ D k h
  · rw [List.take_of_length_le (by omega), List.take_of_length_le (by omega), getD_none D k (by omega)]; simp

theorem v32_twelve (D : List Int) : v32 (D.take 12) = D.getD 0 0 + 4294967296 ^ 1 * D.getD 1 0 + 4294967296 ^ 2 * D.getD 2 0 + 4294967296 ^ 3 * D.getD 3 0 + 4294967296 ^ 4 * D.getD 4 0 + 4294967296 ^ 5 * D.getD 5 0 + 4294967296 ^ 6 * D.getD 6 0 + 4294967296 ^ 7 * D.getD 7 0 + 4294967296 ^ 8 * D.getD 8 0 + 4294967296 ^ 9 * D.getD 9 0 + 4294967296 ^ 10 * D.getD 10 0 + 4294967296 ^ 11 * D.getD 11 0 := by
  rw [pvt D 11, pvt D 10, pvt D 9, pvt D 8, pvt D 7, pvt D 6, pvt D 5, pvt D 4, pvt D 3, pvt D 2, pvt D 1, pvt D 0]
  simp [v32, pv]

theorem joined_end (D S : List Int) (k : Nat) (lS : S.length = 6) (hk : k = 12 ∨ (k = D.length ∧ k ≤ 12)) (hD : dig D) (h : joined D k S) : fits S ∧ v64 S = v32 D % 18446744073709551616 ^ 6 := by
  have hg : ∀ i, i < 12 → dg D k i = D.getD i 0 := by
    intro i hi
    unfold dg
    by_cases q : i < k
    · rw [if_pos q]
    · rw [if_neg q, getD_none D i (by omega)]
  obtain ⟨s0, s1, s2, s3, s4, s5, rfl⟩ := six lS
  have j0 := h 0 (by omega)
  have j1 := h 1 (by omega)
  have j2 := h 2 (by omega)
  have j3 := h 3 (by omega)
  have j4 := h 4 (by omega)
  have j5 := h 5 (by omega)
  rw [hg _ (by omega), hg _ (by omega)] at j0 j1 j2 j3 j4 j5
  simp only [List.getD_cons_zero, List.getD_cons_succ, Nat.mul_zero, Nat.zero_add, Nat.reduceMul, Nat.reduceAdd] at j0 j1 j2 j3 j4 j5
  have ht := v32_twelve D
  have b := v32_bound (D.take 12) (dig_take hD 12)
  have d0 := hD 0
  have d1 := hD 1
  have d2 := hD 2
  have d3 := hD 3
  have d4 := hD 4
  have d5 := hD 5
  have d6 := hD 6
  have d7 := hD 7
  have d8 := hD 8
  have d9 := hD 9
  have d10 := hD 10
  have d11 := hD 11
  have hf : fits [s0, s1, s2, s3, s4, s5] := by
    intro j
    match j with
    | 0 => show 0 ≤ s0 ∧ s0 < _; omega
    | 1 => show 0 ≤ s1 ∧ s1 < _; omega
    | 2 => show 0 ≤ s2 ∧ s2 < _; omega
    | 3 => show 0 ≤ s3 ∧ s3 < _; omega
    | 4 => show 0 ≤ s4 ∧ s4 < _; omega
    | 5 => show 0 ≤ s5 ∧ s5 < _; omega
    | _ + 6 => exact ⟨by simp, by simp⟩
  refine ⟨hf, ?_⟩
  have bS := v64_bound _ hf
  have hS : v64 [s0, s1, s2, s3, s4, s5] = v32 (D.take 12) := by
    rw [ht]
    simp only [v64, pv]
    rw [j0, j1, j2, j3, j4, j5]
    generalize D.getD 0 0 = a0
    generalize D.getD 1 0 = a1
    generalize D.getD 2 0 = a2
    generalize D.getD 3 0 = a3
    generalize D.getD 4 0 = a4
    generalize D.getD 5 0 = a5
    generalize D.getD 6 0 = a6
    generalize D.getD 7 0 = a7
    generalize D.getD 8 0 = a8
    generalize D.getD 9 0 = a9
    generalize D.getD 10 0 = a10
    generalize D.getD 11 0 = a11
    omega
  have hsplit : v32 D = v32 (D.take 12) + 18446744073709551616 ^ 6 * v32 (D.drop 12) := by
    have e := pv_append 4294967296 (D.take 12) (D.drop 12)
    rw [List.take_append_drop] at e
    simp only [v32]
    by_cases hl : 12 ≤ D.length
    · have : (D.take 12).length = 12 := by simp; omega
      rw [this] at e
      rw [e]
      have : (4294967296 : Int) ^ 12 = 18446744073709551616 ^ 6 := by decide
      rw [this]
    · have : D.drop 12 = [] := List.drop_eq_nil_of_le (by omega)
      rw [this] at e ⊢
      simp only [pv] at e ⊢
      omega
  rw [hS, lS] at bS
  rw [hS]
  rw [hsplit, Int.add_mul_emod_self_left, Int.emod_eq_of_lt bS.1 bS.2]

set_option maxRecDepth 100000 in
set_option maxHeartbeats 1000000 in
theorem to6_any (v : Value) (N : Int) (w : World) (hv : NumIs w v N) :
    Calls Tryd.prog 17 #[v] w fun e w' => ∃ S : List Int, e = .returned (.agg (us S).toArray) ∧ S.length = 6 ∧ fits S ∧ v64 S = N % 18446744073709551616 ^ 6 ∧ Below w.heap.size w w' := by
  obtain ⟨D, sD, dD, -, rfl⟩ := hv
  obtain ⟨ao, cap, rfl, m1, k1, f1⟩ := sD.form
  unfold maxLen at m1
  have JE := fun S k => joined_end D S k
  obtain ⟨N, hN⟩ : ∃ N, v32 D % 18446744073709551616 ^ 6 = N := ⟨_, rfl⟩
  rw [hN] at JE ⊢
  have HJ : Hid _ := JE
  clear JE hN
  obtain ⟨l, hl⟩ : ∃ l, D.length = l := ⟨_, rfl⟩
  rw [hl] at k1 f1 HJ ⊢
  clear sD hl
  have b2 := (Blk.new w (us [0, 0, 0, 0, 0, 0]) 23 w.heap.size rfl).alloc (.cells (us [0, 0, 0, 0, 0, 0]).toArray 23)
  have b3 := Blk.new (w.alloc (.cells (us [0, 0, 0, 0, 0, 0]).toArray 23)) (us [0, 0, 0, 0, 0, 0]) 23 (w.heap.size + 1) (by simp)
  have hbel : Below w.heap.size w ((w.alloc (.cells (us [0, 0, 0, 0, 0, 0]).toArray 23)).alloc (.cells (us [0, 0, 0, 0, 0, 0]).toArray 23)) := ((Below.refl _ _).alloc (Nat.le_refl _) _).alloc (by simp) _
  go_enter Tryd.func17, Tryd.ntmps17
  go_wp2
  go_loopw [4] (fun i wr => ∃ (k : Nat) (S : List Int), k ≤ 12 ∧ k ≤ l ∧ i = .int .i64 k ∧ S.length = 6 ∧ Hid (joined D k S) ∧ Blk wr w.heap.size (us [0, 0, 0, 0, 0, 0]) ∧ Blk wr (w.heap.size + 1) (us S) ∧ Below w.heap.size w wr)
    (fun i _ => 12 - (intOf i).toNat)
  case atStart => exact ⟨0, [0, 0, 0, 0, 0, 0], by omega, by omega, rfl, rfl, by
    show joined _ _ _
    intro j hj
    match j, hj with
    | 0, _ => rfl
    | 1, _ => rfl
    | 2, _ => rfl
    | 3, _ => rfl
    | 4, _ => rfl
    | 5, _ => rfl, b2, b3, hbel⟩
  case round =>
    obtain ⟨k, S, hk, hkl, rfl, lS, hJ, hZ, hS, hbel⟩ := hrel
    clear b2 b3
    by_cases hlt : k < 12 ∧ k < l
    · obtain ⟨hlt, hll⟩ := hlt
      obtain ⟨b, rfl, hb, hc⟩ := f1 (by omega)
      clear f1
      obtain ⟨d, hd⟩ : ∃ d, D.getD k 0 = d := ⟨_, rfl⟩
      obtain ⟨s, hs⟩ : ∃ s, S.getD (k / 2) 0 = s := ⟨_, rfl⟩
      have x1 := (hbel.cell (p := ⟨b, k, none⟩) hb).trans (hc k hll)
      rw [hd] at x1
      have bd := dD k
      rw [hd] at bd
      have bd0 := bd.1
      have bd1 := bd.2
      have x2 := hS.cell (k / 2) _ (us_get S (k / 2) (by omega))
      rw [hs] at x2
      have fz := hS.frozen (k / 2)
      have g1 : (k : Int) < 12 := by omega
      have g2 : (k : Int) < (l : Int) := by omega
      have g3 : (0 : Int) ≤ (k : Int) := by omega
      have g4 : (0 : Int) ≤ (k : Int) / 2 := by omega
      have g5 : (k : Int) / 2 < 6 := by omega
      clear hc bd
      by_cases hp : k % 2 = 0
      · have J : Hid (joined D (k + 1) (S.set (k / 2) d)) := by rw [← hd]; exact joined_even D S k lS hlt hp hJ.out
        have g6 : ((k : Int) % 2 == 0) = true := by simp; omega
        clear hd hs
        go_wp2
        go_roundw
        case rel => exact ⟨k + 1, S.set (k / 2) d, by omega, by omega, by go_num, by simpa using lS, J, hZ.other _ _ (by simp), hS.setu _ _, hbel.setCell (by simp) _⟩
        case measure => simp [intOf]; omega
      · have J : Hid (joined D (k + 1) (S.set (k / 2) (s + d * 4294967296))) := by rw [← hd, ← hs]; exact joined_odd D S k lS hlt (by omega) hJ.out
        have bs : 0 ≤ s ∧ s < 4294967296 := by
          have := hJ.out (k / 2) (by omega)
          rw [hs] at this
          have e1 : dg D k (2 * (k / 2) + 1) = 0 := by unfold dg; rw [if_neg (by omega)]
          have e2 := dg_bd dD k (2 * (k / 2))
          omega
        have bs0 := bs.1
        have bs1 := bs.2
        have g6 : ((k : Int) % 2 == 0) = false := by simp; omega
        have m1 : IntKind.u64.wrap (d * 4294967296) = d * 4294967296 := by rw [IntKind.wrap_u64]; omega
        have m2 : IntKind.u64.wrap (s + d * 4294967296) = s + d * 4294967296 := by rw [IntKind.wrap_u64]; omega
        have t1 : IntKind.i64.wrap ((k : Int).tdiv 2) = (k : Int) / 2 := by rw [Int.tdiv_eq_ediv_of_nonneg (by omega), IntKind.wrap_i64]; omega
        have t2 : ((k : Int) / 2).toNat = k / 2 := by omega
        clear hd hs bs
        go_wp2
        go_region
        all_goals go_wp2
        go_roundw
        case rel => exact ⟨k + 1, S.set (k / 2) (s + d * 4294967296), by omega, by omega, by go_num, by simpa using lS, J, (hZ.other _ _ (by simp)).drew, (hS.setu _ _).drew, (hbel.setCell (by simp) _).drew⟩
        case measure => simp [intOf]; omega
    · have HQ : Hid (fits S ∧ v64 S = N) := HJ.out S k lS (by omega) dD hJ.out
      have hfit := HQ.out.1
      obtain ⟨s0, s1, s2, s3, s4, s5, rfl⟩ := six lS
      obtain ⟨c0, c1, c2, c3, c4, c5⟩ := hS.cells6
      obtain ⟨z0, z1, z2, z3, z4, z5⟩ := hZ.cells6
      have f0 := hZ.frozen 0
      have f1' := hZ.frozen 1
      have f2 := hZ.frozen 2
      have f3 := hZ.frozen 3
      have f4 := hZ.frozen 4
      have f5 := hZ.frozen 5
      clear hJ
      have gd : (12 : Int) ≤ (k : Int) ∨ ((k : Int) < 12 ∧ ¬ (k : Int) < (l : Int)) := by omega
      rcases gd with g1 | ⟨g1, g2⟩
      all_goals
        go_wp2
        exact bodyPost_ret (v := .agg #[.int .u64 s0, .int .u64 s1, .int .u64 s2, .int .u64 s3, .int .u64 s4, .int .u64 s5]) (by simp [results, Tryd.results17, go_sem, z0, z1, z2, z3, z4, z5]) rfl
          ⟨[s0, s1, s2, s3, s4, s5], rfl, rfl, HQ.out.1, HQ.out.2, (((((hbel.setCell (by simp) _).setCell (by simp) _).setCell (by simp) _).setCell (by simp) _).setCell (by simp) _).setCell (by simp) _⟩
end Go.Proofs.YtpgidlnpcjbfhabDoor
