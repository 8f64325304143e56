/- The program's areNumbers and cutNumber of layer 13. -/
import Derived.Test.YtineihnipidmfaaRows
import Derived.Test.YtineihnipidmfaaPrG
import Derived.Test.YtineihnipidmfaaPrOidN
import Derived.Deep.OwnRows
import Derived.Deep.AppendLies
import Derived.Great.BuildSlice
import Derived.Deep.WholeRow
import Derived.Deep.RegionHeld3
import Derived.Deep.DeepCutAuto
import Derived.Deep.DeepFit
namespace Go.Proofs.Ytineihnipidmfaa
open Go.RowKit

set_option linter.unusedSimpArgs false in
set_option maxRecDepth 100000 in
set_option maxHeartbeats 1000000 in
theorem c13_are {v : Value} {B : List Int} {w : World} (hv : Bs w v B) (b : byt B) :
    Calls Try.prog 42 #[v] w fun e w' => e = .returned (.bool (okF B true && decide (0 < B.length))) ∧ w' = w := by
  have HB : Hid (byt B) := b
  obtain ⟨ao, cap, rfl, h1, h2, h3⟩ := hv
  obtain ⟨N, hN⟩ : ∃ N, B.length = N := ⟨_, rfl⟩
  have HN : Hid (B.length = N) := hN
  rw [hN] at h2 h3 ⊢
  have HC : Hid (∀ j, j < N → ∃ g o, ao = some ⟨g, o, none⟩ ∧ w.cell? ⟨g, o + j, none⟩ = some (.int .u8 (B.getD j 0)) ∧ g < w.heap.size) := fun j hj => by
    obtain ⟨g, o, e1, e2, e3⟩ := h3 (by omega)
    exact ⟨g, o, e1, e3 j hj, e2⟩
  unfold maxLen at h1
  clear b h3 hN
  have hD : decide (0 < N) = decide ((0 : Int) < (N : Int)) := by
    by_cases c : 0 < N
    · rw [decide_eq_true c, decide_eq_true (by omega)]
    · rw [decide_eq_false c, decide_eq_false (by omega)]
  rw [hD]
  obtain ⟨r, hr⟩ : ∃ r, (okF B true && decide ((0 : Int) < (N : Int))) = r := ⟨_, rfl⟩
  have HR : Hid ((okF B true && decide ((0 : Int) < (N : Int))) = r) := hr
  rw [hr]
  clear hr hD
  go_enter Try.func42, Try.ntmps42
  go_wp2_with fail
  go_loop [3, 8] (fun ev iv => ∃ (i : Nat) (beg : Bool), i ≤ N ∧ iv = .int .i64 (i : Int) ∧ ev = .bool beg ∧ Hid (okF B true = okF (B.drop i) beg)) (fun _ iv => N - (intOf iv).toNat)
  case atStart => exact ⟨0, true, by omega, rfl, rfl, rfl⟩
  case round =>
    obtain ⟨i, beg, hi, rfl, rfl, HE⟩ := hrel
    by_cases hil : i < N
    · have k1 : (i : Int) < (N : Int) := by omega
      have k2 : (0 : Int) ≤ (i : Int) := by omega
      have gi : IntKind.i64.wrap ((i : Int) + 1) = (i : Int) + 1 := by rw [IntKind.wrap_i64]; omega
      obtain ⟨g, o, rfl, cy, lg⟩ := HC.out i hil
      have yb := HB.out i
      have HNx : Hid (¬ (beg = true ∧ B.getD i 0 = 128) → okF (B.drop i) beg = okF (B.drop (i + 1)) (decide (B.getD i 0 < 128))) := fun h => okF_next (by rw [HN.out]; exact hil) h
      have HSt : Hid (B.getD i 0 = 128 → okF (B.drop i) true = false) := fun h => okF_stop (by rw [HN.out]; exact hil) h
      obtain ⟨y, hy⟩ : ∃ y, B.getD i 0 = y := ⟨_, rfl⟩
      rw [hy] at cy yb HNx HSt
      clear hy
      cases beg with
      | true =>
        by_cases c1 : y = 128
        · have H : r = false := by rw [← HR.out, HE.out, HSt.out c1]; rfl
          subst H
          clear HNx HSt
          have c2 : (y == 128) = true := by rw [c1]; rfl
          go_wp2_with fail
          go_ret
          exact ⟨rfl, rfl⟩
        · have HE2 : Hid (okF B true = okF (B.drop (i + 1)) (decide (y < 128))) := by show _ = _; rw [HE.out, HNx.out (fun h => c1 h.2)]
          clear HNx HSt HE
          have c2 : (y == 128) = false := by rw [beq_eq_false_iff_ne]; exact c1
          go_wp2_with fail
          go_round
          case rel => exact ⟨i + 1, decide (y < 128), by omega, by go_num, rfl, HE2⟩
          case measure => simp [intOf]; omega
      | false =>
        have HE2 : Hid (okF B true = okF (B.drop (i + 1)) (decide (y < 128))) := by show _ = _; rw [HE.out, HNx.out (fun h => absurd h.1 (by decide))]
        clear HNx HSt HE
        go_wp2_with fail
        go_round
        case rel => exact ⟨i + 1, decide (y < 128), by omega, by go_num, rfl, HE2⟩
        case measure => simp [intOf]; omega
    · have k1 : ¬ (i : Int) < (N : Int) := by omega
      have HK : Hid (okF B true = beg) := by show _ = _; rw [HE.out, List.drop_of_length_le (by rw [HN.out]; omega), okF]
      have H : r = (beg && decide ((0 : Int) < (N : Int))) := by rw [← HR.out, HK.out]
      clear HE HK HR
      subst H
      cases beg with
      | true =>
        go_wp2_with fail
        go_ret
        exact ⟨rfl, rfl⟩
      | false =>
        go_wp2_with fail
        go_ret
        exact ⟨rfl, rfl⟩
theorem u64_or_natP (a b : Nat) (ha : a < 18446744073709551616) (hb : b < 18446744073709551616) : bits .or .u64 (a : Int) (b : Int) = ((a ||| b : Nat) : Int) := by
  have hx : a ||| b < 2 ^ 64 := Nat.or_lt_two_pow (by omega) (by omega)
  show IntKind.u64.wrap ((BitVec.ofInt 64 (a : Int) ||| BitVec.ofInt 64 (b : Int)).toNat : Int) = _
  rw [BitVec.toNat_or, ofInt_u64 a (by omega), ofInt_u64 b (by omega), IntKind.wrap_u64]
  omega
theorem or_seven {n x : Nat} (hn : n ≤ 1099511627776) (hx : x < 128) : bits .or .u64 ((128 * n : Nat) : Int) (x : Int) = ((128 * n + x : Nat) : Int) := by
  rw [u64_or_natP _ _ (by omega) (by omega)]
  have := Nat.two_pow_add_eq_or_of_lt (i := 7) (b := x) (by omega) n
  rw [show (2 : Nat) ^ 7 = 128 from rfl] at this
  rw [this]
set_option linter.unusedSimpArgs false in
set_option maxRecDepth 100000 in
set_option maxHeartbeats 2000000 in
theorem c13_cut {v : Value} {B : List Int} {w : World} (hv : Bs w v B) (b : byt B) :
    Calls Try.prog 43 #[v] w fun e w' => ∃ v', e = .returned (.tuple #[.int .u64 (cutV B 0).1, v']) ∧ (∀ wx, Bs wx v B → Bs wx v' (B.drop (cutV B 0).2)) ∧ Below w.heap.size w w' := by
  have HB : Hid (byt B) := b
  have HV : Hid (Bs w v B) := hv
  obtain ⟨ao, cap, rfl, h1, h2, h3⟩ := hv
  obtain ⟨N, hN⟩ : ∃ N, B.length = N := ⟨_, rfl⟩
  have HN : Hid (B.length = N) := hN
  rw [hN] at h2 h3 HV ⊢
  have HC : Hid (∀ j, j < N → ∃ g o, ao = some ⟨g, o, none⟩ ∧ w.cell? ⟨g, o + j, none⟩ = some (.int .u8 (B.getD j 0)) ∧ g < w.heap.size) := fun j hj => by
    obtain ⟨g, o, e1, e2, e3⟩ := h3 (by omega)
    exact ⟨g, o, e1, e3 j hj, e2⟩
  unfold maxLen at h1
  clear b h3 hN
  go_enter Try.func43, Try.ntmps43
  go_wp2_with fail
  go_loop [4, 5, 10] (fun nv sv iv => ∃ (i x : Nat), i ≤ N ∧ iv = .int .i64 (i : Int) ∧ sv = .int .i64 (i : Int) ∧ nv = .int .u64 (x : Int) ∧ x ≤ 1099511627776 ∧ Hid (cutV B 0 = ((cutV (B.drop i) (x : Int)).1, (cutV (B.drop i) (x : Int)).2 + i))) (fun _ _ iv => N - (intOf iv).toNat)
  case atStart => exact ⟨0, 0, by omega, rfl, rfl, rfl, by omega, rfl⟩
  case round =>
    obtain ⟨i, x, hi, rfl, rfl, rfl, hx, HE⟩ := hrel
    by_cases hil : i < N
    · have k1 : (i : Int) < (N : Int) := by omega
      have k2 : (0 : Int) ≤ (i : Int) := by omega
      have gi : IntKind.i64.wrap ((i : Int) + 1) = (i : Int) + 1 := by rw [IntKind.wrap_i64]; omega
      obtain ⟨g, o, rfl, cy, lg⟩ := HC.out i hil
      have yb := HB.out i
      have HNx : Hid (¬ B.getD i 0 < 128 → cutV (B.drop i) (x : Int) = ((cutV (B.drop (i + 1)) (min (128 * (x : Int) + B.getD i 0 % 128) 1099511627776)).1, (cutV (B.drop (i + 1)) (min (128 * (x : Int) + B.getD i 0 % 128) 1099511627776)).2 + 1)) := fun h => cutV_next (by rw [HN.out]; exact hil) h
      have HSt : Hid (B.getD i 0 < 128 → cutV (B.drop i) (x : Int) = (min (128 * (x : Int) + B.getD i 0 % 128) 1099511627776, 1)) := fun h => cutV_stop (by rw [HN.out]; exact hil) h
      obtain ⟨y', hy⟩ : ∃ y, B.getD i 0 = y := ⟨_, rfl⟩
      rw [hy] at cy yb HNx HSt
      clear hy
      obtain ⟨y, rfl⟩ := Int.eq_ofNat_of_zero_le yb.1
      have hu : y % 128 < 128 := by omega
      have t1 : (y : Int).tmod 128 = ((y % 128 : Nat) : Int) := by rw [Int.tmod_eq_emod_of_nonneg (by omega)]; omega
      have t2 : (y : Int) % 128 = ((y % 128 : Nat) : Int) := by omega
      rw [t2] at HNx HSt
      obtain ⟨u, hu2⟩ : ∃ u, y % 128 = u := ⟨_, rfl⟩
      rw [hu2] at hu t1 t2 HNx HSt
      clear hu2
      have w1 : IntKind.u64.wrap (u : Int) = (u : Int) := by rw [IntKind.wrap_u64]; omega
      have w3 := or_seven (n := x) (x := u) hx hu
      obtain ⟨m, hm⟩ : ∃ m, 128 * x = m := ⟨_, rfl⟩
      have w2 : IntKind.u64.wrap ((x : Int) * 128) = (m : Int) := by rw [IntKind.wrap_u64]; omega
      rw [hm] at w3
      obtain ⟨z, hz⟩ : ∃ z, m + u = z := ⟨_, rfl⟩
      rw [hz] at w3
      obtain ⟨q, hq⟩ : ∃ q, min z 1099511627776 = q := ⟨_, rfl⟩
      have w4 : min (z : Int) 1099511627776 = (q : Int) := by omega
      have hq2 : q ≤ 1099511627776 := by omega
      have HQ : Hid (min (128 * (x : Int) + (u : Int)) 1099511627776 = (q : Int)) := by show _ = _; omega
      rw [HQ.out] at HNx HSt
      clear HQ hm hz hq
      by_cases c1 : y < 128
      · have g1 : (y : Int) < 128 := by omega
        have HF : Hid (cutV B 0 = ((q : Int), i + 1)) := by show _ = _; rw [HE.out, HSt.out g1, Nat.add_comm 1 i]
        obtain ⟨s, hs⟩ : ∃ s, i + 1 = s := ⟨_, rfl⟩
        have gs : IntKind.i64.wrap ((i : Int) + 1) = (s : Int) := by rw [IntKind.wrap_i64]; omega
        rw [hs] at HF
        clear HE HNx HSt gi
        have HCut : Hid (∀ (wx : World) c ad m k, Bs wx (.slice (some ⟨g, o, none⟩) N c) B → m = N - s → k = c - s → (0 < m → ad = some ⟨g, o + s, none⟩) → Bs wx (.slice ad m k) (B.drop s)) := fun wx c ad m k hb hm hk ha => bs_cutM hb HN.out (by omega) hm ha hk
        have q1 : (0 : Int) ≤ (s : Int) := by omega
        have q2 : (s : Int) ≤ (N : Int) := by omega
        have q3 : s ≤ N := by omega
        have q4 : s ≤ cap := by omega
        go_upto_region 9 with fail
        go_region
        all_goals go_wp2_with fail
        all_goals refine bodyPost_ret (results_tmp2 rfl _ _ _) rfl ?_
        all_goals refine ⟨_, (by rw [HF.out]; rfl), ?_, (Below.refl _ _).drew⟩
        all_goals rw [HF.out]
        all_goals exact fun wx hwx => (HCut.out wx _ _ _ _ hwx (by first | rfl | omega) (by first | rfl | omega) (by intro h0; first | rfl | (rw [if_neg (by omega)]) | omega))
      · have g1 : ¬ (y : Int) < 128 := by omega
        have HE2 : Hid (cutV B 0 = ((cutV (B.drop (i + 1)) (q : Int)).1, (cutV (B.drop (i + 1)) (q : Int)).2 + (i + 1))) := by
          show _ = _
          rw [HE.out, HNx.out g1]
          show (_, _ + 1 + i) = _
          rw [Nat.add_assoc, Nat.add_comm 1 i]
        clear HE HNx HSt
        go_wp2_with fail
        go_round
        case rel => exact ⟨i + 1, q, by omega, by go_num, by go_num, rfl, hq2, HE2⟩
        case measure => simp [intOf]; omega
    · have k1 : ¬ (i : Int) < (N : Int) := by omega
      have HF : Hid (cutV B 0 = ((x : Int), i)) := by
        show _ = _
        rw [HE.out, List.drop_of_length_le (by rw [HN.out]; omega), cutV, Nat.zero_add]
      have hiN : i = N := by omega
      have HCut : Hid (∀ (wx : World) ad m k, m = N - i → k = cap - i → Bs wx (.slice ad m k) (B.drop i)) := fun wx ad m k hm hk => by
        have el : (B.drop i).length = m := by rw [List.length_drop, HN.out, hm]
        exact ⟨ad, k, by rw [el], by unfold maxLen; omega, by omega, fun h0 => by omega⟩
      have q1 : (0 : Int) ≤ (i : Int) := by omega
      have q2 : (i : Int) ≤ (N : Int) := by omega
      have q3 : i ≤ N := by omega
      have q4 : i ≤ cap := by omega
      clear HE HC hiN hi
      go_upto_region 9 with fail
      go_region
      all_goals go_wp2_with fail
      all_goals refine bodyPost_ret (results_tmp2 rfl _ _ _) rfl ?_
      all_goals refine ⟨_, (by rw [HF.out]; rfl), ?_, (Below.refl _ _).drew⟩
      all_goals rw [HF.out]
      all_goals exact fun wx hwx => (HCut.out wx _ _ _ (by first | rfl | omega) (by first | rfl | omega))
end Go.Proofs.Ytineihnipidmfaa
