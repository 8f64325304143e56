/- The document's Small and SmallOf of layer 13. -/
import Derived.Test.YteejcokpkginbaaRows
import Derived.Test.YteejcokpkginbaaPmNumR
import Derived.Test.YteejcokpkginbaaPmNumO
import Derived.Deep.OwnRows
import Derived.Deep.AppendLies
import Derived.Deep.WholeRow
import Derived.Deep.RegionHeld3
import Derived.Deep.DeepCutAuto
import Derived.Deep.DeepFit
namespace Go.Proofs.Yteejcokpkginbaa
open Go.RowKit

theorem num_bad {B : List Int} {c : Nat} (h : numP B = .error c) : c = 7 ∨ c = 2 := by
  unfold numP at h
  obtain ⟨R, hR⟩ : ∃ R, (if B.getD 0 0 = 0 then B.drop 1 else B) = R := ⟨_, rfl⟩
  rw [hR] at h
  by_cases g : B.length = 0 ∨ 127 < B.getD 0 0 ∨ (1 < B.length ∧ B.getD 0 0 = 0 ∧ B.getD 1 0 < 128)
  · rw [if_pos g] at h; cases h; exact .inl rfl
  · rw [if_neg g] at h
    by_cases g2 : 64 < R.length
    · rw [if_pos g2] at h; cases h; exact .inr rfl
    · rw [if_neg g2] at h; cases h
theorem num_good {B n : List Int} (b : byt B) (h : numP B = .ok n) : byt n ∧ n.length ≤ 64 := by
  unfold numP at h
  obtain ⟨R, hR⟩ : ∃ R, (if B.getD 0 0 = 0 then B.drop 1 else B) = R := ⟨_, rfl⟩
  rw [hR] at h
  have hb : byt R := by
    rw [← hR]
    split
    · exact byt_dropM b 1
    · exact b
  by_cases g : B.length = 0 ∨ 127 < B.getD 0 0 ∨ (1 < B.length ∧ B.getD 0 0 = 0 ∧ B.getD 1 0 < 128)
  · rw [if_pos g] at h; cases h
  · rw [if_neg g] at h
    by_cases g2 : 64 < R.length
    · rw [if_pos g2] at h; cases h
    · rw [if_neg g2] at h; cases h; exact ⟨hb, by omega⟩
theorem drop_next {n : List Int} {i : Nat} (h : i < n.length) (v : Int) : beW (n.drop i) v = beW (n.drop (i + 1)) (256 * v + n.getD i 0) := by
  rw [List.drop_eq_getElem_cons h, beW]
  congr 2
  simp [List.getD_eq_getElem?_getD, h]

set_option linter.unusedSimpArgs false in
set_option maxRecDepth 100000 in
set_option maxHeartbeats 1000000 in
theorem r13_Small {v : Value} {B : List Int} {w : World} (hv : Bs w v B) (b : byt B) (hl : B.length ≤ 140737488355328) :
    Calls Try.prog 15 #[v] w fun e w' => (∀ n, smallP B = .ok n → e = .returned (.tuple #[.int .i64 n, .int .i64 0]) ∧ Below w.heap.size w w') ∧ (∀ c, smallP B = .error c → e = .returned (.tuple #[.int .i64 0, .int .i64 (c : Int)]) ∧ Below w.heap.size w w') := by
  have HV : Hid (Bs w v B) := hv
  have HB : Hid (byt B) := b
  clear hv b
  go_enter Try.func15, Try.ntmps15
  go_wp2_with fail
  refine (r13_Number HV.out HB.out hl).mono ?_
  rintro e w1 ⟨hok, hbad⟩
  cases hp : numP B with
  | error c =>
    obtain ⟨rfl, bel⟩ := hbad c hp
    have hc := num_bad hp
    have H : Hid (smallP B = .error c) := by show _ = _; unfold smallP; rw [hp]
    have g1 : ¬ (c : Int) = 0 := by omega
    clear hok hbad hp
    go_wp2_with fail
    refine bodyPost_ret (results_tmp2 rfl _ _ _) rfl ?_
    exact ⟨fun n h => (by rw [H.out] at h; cases h), fun c h => (by rw [H.out] at h; cases h; exact ⟨rfl, bel⟩)⟩
  | ok n =>
    obtain ⟨v', rfl, bs, bel⟩ := hok n hp
    obtain ⟨hb, hn⟩ := num_good HB.out hp
    have H0 : Hid (smallP B = if 2147483647 < beW n 0 then .error 3 else .ok (beW n 0)) := by show _ = _; unfold smallP; rw [hp]
    have HBn : Hid (byt n) := hb
    obtain ⟨ao, cap, rfl, h1, h2, h3⟩ := bs
    obtain ⟨N, hN⟩ : ∃ N, n.length = N := ⟨_, rfl⟩
    have HN : Hid (n.length = N) := hN
    rw [hN] at hn h2 h3 ⊢
    have HC : Hid (∀ j, j < N → ∃ g o, ao = some ⟨g, o, none⟩ ∧ w1.cell? ⟨g, o + j, none⟩ = some (.int .u8 (n.getD j 0)) ∧ g < w1.heap.size) := fun j hj => by
      obtain ⟨g, o, e1, e2, e3⟩ := h3 (by omega)
      exact ⟨g, o, e1, e3 j hj, e2⟩
    clear hok hbad hp hb h3 hN
    unfold maxLen at h1
    go_wp2_with fail
    go_loop [6, 7] (fun vv iv => ∃ (i : Nat) (x : Int), i ≤ N ∧ iv = .int .i64 (i : Int) ∧ vv = .int .i64 x ∧ (0 ≤ x ∧ x ≤ 2147483647) ∧ Hid (beW n 0 = beW (n.drop i) x)) (fun _ iv => N - (intOf iv).toNat)
    case atStart => exact ⟨0, 0, by omega, rfl, rfl, by omega, rfl⟩
    case round =>
      obtain ⟨i, x, hi, rfl, rfl, hx, HE⟩ := hrel
      by_cases hil : i < N
      · have g1 : (i : Int) < (N : Int) := by omega
        have g2 : (0 : Int) ≤ (i : Int) := by omega
        have gi : IntKind.i64.wrap ((i : Int) + 1) = (i : Int) + 1 := by rw [IntKind.wrap_i64]; omega
        obtain ⟨g, o, rfl, cy, lg⟩ := HC.out i hil
        have yb := HBn.out i
        have HE2 : Hid (beW n 0 = beW (n.drop (i + 1)) (256 * x + n.getD i 0)) := by show _ = _; rw [HE.out, drop_next (by rw [HN.out]; exact hil)]
        obtain ⟨y, hy⟩ : ∃ y, n.getD i 0 = y := ⟨_, rfl⟩
        rw [hy] at cy yb HE2
        have w1' : IntKind.i64.wrap (256 * x) = 256 * x := by rw [IntKind.wrap_i64]; omega
        have w2' : IntKind.i64.wrap y = y := by rw [IntKind.wrap_i64]; omega
        have w3' : IntKind.i64.wrap (256 * x + y) = 256 * x + y := by rw [IntKind.wrap_i64]; omega
        clear hy HE
        by_cases c1 : 2147483647 < 256 * x + y
        · have H : Hid (smallP B = .error 3) := by
            have := beW_le (n.drop (i + 1)) (256 * x + y) (byt_dropM HBn.out _) (by omega)
            show _ = _
            rw [H0.out, if_pos (by rw [HE2.out]; omega)]
          go_wp2_with fail
          refine bodyPost_ret (results_tmp2 rfl _ _ _) rfl ?_
          exact ⟨fun n h => (by rw [H.out] at h; cases h), fun c h => (by rw [H.out] at h; cases h; exact ⟨rfl, bel⟩)⟩
        · go_wp2_with fail
          go_round
          case rel => exact ⟨i + 1, 256 * x + y, by omega, by go_num, rfl, by omega, HE2⟩
          case measure => simp [intOf]; omega
      · have g1 : ¬ (i : Int) < (N : Int) := by omega
        have H : Hid (smallP B = .ok x) := by
          have e : beW n 0 = x := by
            have := HE.out
            rw [List.drop_of_length_le (by rw [HN.out]; omega), beW] at this
            exact this
          show _ = _
          rw [H0.out, e, if_neg (by omega)]
        go_wp2_with fail
        refine bodyPost_ret (results_tmp2 rfl _ _ _) rfl ?_
        exact ⟨fun n h => (by rw [H.out] at h; cases h; exact ⟨rfl, bel⟩), fun c h => (by rw [H.out] at h; cases h)⟩

set_option linter.unusedSimpArgs false in
set_option maxRecDepth 100000 in
set_option maxHeartbeats 1000000 in
theorem r13_SmallOf {x : Int} {w : World} (hx : -9223372036854775808 ≤ x ∧ x ≤ 9223372036854775807) :
    Calls Try.prog 17 #[.int .i64 x] w fun e w' => (∀ n, smallOf x = .ok n → ∃ v' : Value, e = .returned (.tuple #[v', .int .i64 0]) ∧ Bs w' v' n ∧ Below w.heap.size w w') ∧ (∀ c, smallOf x = .error c → e = .returned (.tuple #[.slice none 0 0, .int .i64 (c : Int)]) ∧ Below w.heap.size w w') := by
  by_cases c1 : x < 0
  · have H : Hid (smallOf x = .error 3) := by show _ = _; unfold smallOf; rw [if_pos (.inl c1)]
    go_enter Try.func17, Try.ntmps17
    go_wp2_with fail
    refine bodyPost_ret (results_tmp2 rfl _ _ _) rfl ?_
    exact ⟨fun n h => (by rw [H.out] at h; cases h), fun c h => (by rw [H.out] at h; cases h; exact ⟨rfl, Below.refl _ _⟩)⟩
  by_cases c2 : 2147483647 < x
  · have H : Hid (smallOf x = .error 3) := by show _ = _; unfold smallOf; rw [if_pos (.inr c2)]
    go_enter Try.func17, Try.ntmps17
    go_wp2_with fail
    refine bodyPost_ret (results_tmp2 rfl _ _ _) rfl ?_
    exact ⟨fun n h => (by rw [H.out] at h; cases h), fun c h => (by rw [H.out] at h; cases h; exact ⟨rfl, Below.refl _ _⟩)⟩
  have H0 : Hid (smallOf x = numOf (digF 4 x.toNat [])) := by show _ = _; unfold smallOf; rw [if_neg (by omega)]
  obtain ⟨n, rfl⟩ := Int.eq_ofNat_of_zero_le (by omega : 0 ≤ x)
  rw [Int.toNat_natCast] at H0
  have hn : n < 256 ^ 4 := by
    have : (256 : Nat) ^ 4 = 4294967296 := by decide
    omega
  have HN : Hid (n < 256 ^ 4) := hn
  clear hn hx
  go_enter Try.func17, Try.ntmps17
  go_wp2_with fail
  obtain ⟨W, hW⟩ : ∃ z, z = w := ⟨_, rfl⟩
  rw [← hW]
  have HW : Hid (W = w) := hW
  clear hW
  go_loopw [0, 4] (fun nv lv wx => ∃ (m f : Nat) (X : List Int), m ≤ 2147483647 ∧ f ≤ 4 ∧ nv = .int .i64 (m : Int) ∧ Bs wx lv X ∧ Hid (byt X) ∧ X.length + f ≤ 4 ∧ Hid (m < 256 ^ f) ∧ Hid (digF 4 n [] = digF f m X) ∧ Below W.heap.size W wx) (fun nv _ _ => (intOf nv).toNat)
  case atStart => exact ⟨n, 4, [], by omega, by omega, rfl, ⟨none, 0, rfl, by decide, by decide, fun h => by simp at h⟩, fun j => by simp, by simp, HN, rfl, Below.refl _ _⟩
  case round =>
    obtain ⟨m, f, X, hm, hf, rfl, bs, HX, hXl, HM, HE, bel⟩ := hrel
    by_cases h0 : 0 < m
    · have g1 : (0 : Int) < (m : Int) := by omega
      have q1 : (m : Int).tmod 256 = ((m % 256 : Nat) : Int) := by rw [Int.tmod_eq_emod_of_nonneg (by omega)]; omega
      have q2 : (m : Int).tdiv 256 = ((m / 256 : Nat) : Int) := by rw [Int.tdiv_eq_ediv_of_nonneg (by omega)]; omega
      have q3 : IntKind.i64.wrap ((m / 256 : Nat) : Int) = ((m / 256 : Nat) : Int) := by rw [IntKind.wrap_i64]; omega
      have q4 : IntKind.u8.wrap ((m % 256 : Nat) : Int) = ((m % 256 : Nat) : Int) := by rw [IntKind.wrap_u8]; omega
      obtain ⟨f', rfl⟩ : ∃ f', f = f' + 1 := ⟨f - 1, by have := HM.out; cases f with | zero => simp at this; omega | succ f => omega⟩
      have HE2 : Hid (digF 4 n [] = digF f' (m / 256) (((m % 256 : Nat) : Int) :: X)) := by show _ = _; rw [HE.out, digF, if_neg (by omega)]
      have HM2 : Hid (m / 256 < 256 ^ f') := by have := HM.out; rw [Nat.pow_succ] at this; show _ < _; omega
      have hme : m / 256 < m := by omega
      have yb : m % 256 < 256 := by omega
      obtain ⟨y, hy⟩ : ∃ y, m % 256 = y := ⟨_, rfl⟩
      obtain ⟨d, hd⟩ : ∃ d, m / 256 = d := ⟨_, rfl⟩
      rw [hy] at q1 q4 HE2 yb
      rw [hd] at q2 q3 HE2 HM2 hme
      clear hy hd HE HM
      have own4 := own_made wr [.int .u8 (y : Int)] 5 1 wr.heap.size rfl (Nat.le_refl _) (by decide)
      have hbl : Below wr.heap.size wr (wr.alloc (.cells #[.int .u8 (y : Int)] 5)) := (Below.refl _ _).alloc (Nat.le_refl _) _
      have bs4 := bs.later hbl
      have HX2 : Hid (byt ((y : Int) :: X)) := fun j => by
        cases j with
        | zero => rw [List.getD_cons_zero]; omega
        | succ j => rw [List.getD_cons_succ]; exact HX.out j
      go_upto_region 6 with (first | (at_builtin; refine wpList_append_bs (by rfl) _ _ (by rfl) wr.heap.size _ 1 [(y : Int)] (by rfl) own4 _ X (by rfl) bs4 (by omega) (by simp) ?_; intro v5 w5 own5 hgrow hat) | fail)
      have hb5 := below_own (base := wr.heap.size) hbl hgrow (by simp) (fun g hg => own_geM own4 hg) (Nat.le_refl _)
      have b5 := Bs.of_own own5
      replace bel := bel.trans (hb5.mono bel.size)
      clear own4 hbl bs4 hgrow hat own5 hb5 bs
      go_wp2_with fail
      go_roundw
      case rel => exact ⟨d, f', (y : Int) :: X, by omega, by omega, rfl, b5, HX2, by rw [List.length_cons]; omega, HM2, HE2, bel⟩
      case measure => simp [intOf]; omega
    · have g1 : ¬ (0 : Int) < (m : Int) := by omega
      have hm0 : m = 0 := by omega
      subst hm0
      have H1 : Hid (smallOf (n : Int) = numOf X) := by show _ = _; rw [H0.out, HE.out, digF_0]
      go_wp2_with fail
      refine (r13_NumberOf bs HX.out (by omega)).mono ?_
      rintro e w6 ⟨hok, hbad⟩
      cases hp : numOf X with
      | ok k =>
        obtain ⟨v6, rfl, b6, hb6⟩ := hok k hp
        have H : Hid (smallOf (n : Int) = .ok k) := by show _ = _; rw [H1.out, hp]
        replace bel := bel.trans (hb6.mono bel.size)
        go_wp2_with fail
        refine bodyPost_ret (results_tmp2 rfl _ _ _) rfl ?_
        exact ⟨fun n h => (by rw [H.out] at h; cases h; exact ⟨_, rfl, b6, by rw [← HW.out]; exact bel⟩), fun c h => (by rw [H.out] at h; cases h)⟩
      | error k =>
        obtain ⟨rfl, hb6⟩ := hbad k hp
        have H : Hid (smallOf (n : Int) = .error k) := by show _ = _; rw [H1.out, hp]
        replace bel := bel.trans (hb6.mono bel.size)
        go_wp2_with fail
        refine bodyPost_ret (results_tmp2 rfl _ _ _) rfl ?_
        exact ⟨fun n h => (by rw [H.out] at h; cases h), fun c h => (by rw [H.out] at h; cases h; exact ⟨rfl, by rw [← HW.out]; exact bel⟩)⟩
end Go.Proofs.Yteejcokpkginbaa
