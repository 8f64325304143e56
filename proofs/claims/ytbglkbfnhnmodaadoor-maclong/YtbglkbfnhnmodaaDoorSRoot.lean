/- The document's powers of 2, and its roots. -/
import Derived.Test.YtbglkbfnhnmodaaDoorRows
import Derived.Test.YtbglkbfnhnmodaaDoorRefB
import Derived.Test.YtbglkbfnhnmodaaDoorRefA
import Derived.Test.YtbglkbfnhnmodaaDoorSNum
import Derived.Deep.WholeRow
import Derived.Deep.RegionHeld3
import Derived.Deep.DeepCutAuto
import Derived.Deep.DeepFit
namespace Go.Proofs.YtbglkbfnhnmodaaDoor
open Go.RowKit

/-- digits that are a number's -/
def NumD (D : List Int) (X : Int) : Prop := dig D ∧ trd D ∧ v32 D = X

theorem two_le {r s : Nat} (h : r ≤ s) : (2 : Int) ^ r ≤ 2 ^ s := by
  have k := Nat.pow_le_pow_right (show 0 < 2 by decide) h
  have e : ∀ t : Nat, ((2 ^ t : Nat) : Int) = (2 : Int) ^ t := fun t => by rw [Int.natCast_pow]; rfl
  rw [← e r, ← e s]; exact Int.ofNat_le.2 k

theorem pow_dig (q r : Nat) (hr : r < 32) : NumD (List.replicate q 0 ++ [2 ^ r]) (2 ^ (32 * q + r)) := by
  refine ⟨?_, ?_, ?_⟩
  · have h1 : (2 : Int) ^ r ≤ 2 ^ 31 := two_le (by omega)
    have h0 : (0 : Int) < 2 ^ r := Int.pow_pos (by decide)
    have h2 : (2 : Int) ^ 31 = 2147483648 := by decide
    intro j
    by_cases hj : j < q
    · rw [List.getD_eq_getElem?_getD, List.getElem?_append_left (by simpa using hj)]
      simp [hj]
    · by_cases e : j = q
      · subst e
        rw [List.getD_eq_getElem?_getD, List.getElem?_append_right (by simp)]
        simp
        omega
      · rw [List.getD_eq_getElem?_getD, List.getElem?_eq_none (by simp; omega)]
        decide
  · intro _
    have h0 : (0 : Int) < 2 ^ r := Int.pow_pos (by decide)
    rw [List.length_append, List.length_replicate, List.length_singleton, Nat.add_sub_cancel, List.getD_eq_getElem?_getD, List.getElem?_append_right (by simp)]
    simp
    omega
  · induction q with
    | zero => simp [v32, pv]
    | succ q ih =>
      rw [List.replicate_succ, List.cons_append]
      show 0 + 4294967296 * v32 (List.replicate q 0 ++ [2 ^ r]) = _
      have e : (2 : Int) ^ (32 * (q + 1) + r) = 4294967296 * 2 ^ (32 * q + r) := by
        rw [show (4294967296 : Int) = 2 ^ 32 from rfl, ← Int.pow_add]
        congr 1; omega
      rw [ih, e]; omega

theorem info_pw : (Tryd.prog.info? 26).map (fun i => (i.zero, i.size, i.bytes)) = some (some (.int .u64 0), 1, 8) := by kernel_rfl
theorem made_pw (n : Nat) : madeCells #[.int .u64 0] n = (us (List.replicate n 0)).toArray := by
  apply Array.ext
  · simp [size_madeCells]
  · intro i h1 h2
    simp [madeCells, Nat.mod_one]
theorem blk_num {w : World} {b : Nat} {D : List Int} {X : Int} {n : Nat} (h : Blk w b (us D)) (hD : NumD D X) (l : D.length = n) (hn : n ≤ 1000) : NumIs w (.slice (some ⟨b, 0, none⟩) n n) X := by
  subst l
  exact ⟨D, .inr ⟨b, D.length, rfl, Nat.le_refl _, by unfold maxLen; omega, h.lt, fun j hj => h.cell j _ (us_get D j hj)⟩, hD⟩
theorem rep_set (q : Nat) (x : Int) : (List.replicate (q + 1) 0).set q x = List.replicate q 0 ++ [x] := by
  rw [List.replicate_succ', List.set_append_right _ _ (by simp)]
  simp

set_option maxRecDepth 100000 in
set_option maxHeartbeats 1000000 in
theorem r7_power {n : Nat} {w : World} (hn : n < 320) :
    Calls Tryd.prog 26 #[.int .i64 (n : Int)] w fun e w' => ∃ v', e = .returned v' ∧ NumIs w' v' (2 ^ n) ∧ Below w.heap.size w w' := by
  obtain ⟨q, hq⟩ : ∃ q, n / 32 = q := ⟨_, rfl⟩
  obtain ⟨r, hr⟩ : ∃ r, n % 32 = r := ⟨_, rfl⟩
  have hN : n = 32 * q + r := by omega
  have hr2 : r < 32 := by omega
  have HD : Hid _ := pow_dig q r hr2
  rw [← hN] at HD
  have hmk := run_make_row' 53 26 (.int .u64 0) 8 Tryd.underlying53 info_pw rfl .i64 .i64 (q + 1) (by omega) (by omega)
  rw [made_pw] at hmk
  have ec : ((q + 1 : Nat) : Int) = (q : Int) + 1 := by omega
  rw [ec] at hmk
  have B0 := Blk.new w (us (List.replicate (q + 1) 0)) 26 w.heap.size rfl
  have c0 := B0.cell q _ (us_get _ q (by simp))
  have f0 := B0.frozen q
  have x0 : (List.replicate (q + 1) (0 : Int)).getD q 0 = 0 := getD_rep _ _
  rw [x0] at c0
  have bel0 : Below w.heap.size w (w.alloc (.cells (us (List.replicate (q + 1) 0)).toArray 26)) := (Below.refl _ _).alloc (Nat.le_refl _) _
  generalize (us (List.replicate (q + 1) 0)).toArray = cs at hmk B0 bel0 c0 f0
  have g1 : (n : Int).tdiv 32 = (q : Int) := by rw [Int.tdiv_eq_ediv_of_nonneg (by omega)]; omega
  have g2 : (n : Int).tmod 32 = (r : Int) := by rw [Int.tmod_eq_emod_of_nonneg (by omega)]; omega
  have g1' : (n : Int) / 32 = (q : Int) := by omega
  have g2' : (n : Int) % 32 = (r : Int) := by omega
  have g3 : IntKind.i64.wrap (q : Int) = (q : Int) := by rw [IntKind.wrap_i64]; omega
  have g4 : IntKind.i64.wrap ((q : Int) + 1) = (q : Int) + 1 := by rw [IntKind.wrap_i64]; omega
  have g5 : (0 : Int) ≤ (q : Int) := by omega
  have g6 : (q : Int) < (q : Int) + 1 := by omega
  have g7 : ¬ (r : Int) < 0 := by omega
  have p1 : (2 : Int) ^ r ≤ 2 ^ 31 := two_le (by omega)
  have p0 : (0 : Int) < 2 ^ r := Int.pow_pos (by decide)
  have p2 : (2 : Int) ^ 31 = 2147483648 := by decide
  have g8 : IntKind.u64.wrap (2 ^ r) = 2 ^ r := by rw [IntKind.wrap_u64]; omega
  have g9 : IntKind.u64.wrap (1 * 2 ^ r) = 2 ^ r := by rw [Int.one_mul]; exact g8
  clear p1 p0 p2 hN hq hr x0 ec
  have hmk1 := hmk w
  obtain ⟨W, hW⟩ : ∃ W, W = w.alloc (.cells cs 26) := ⟨_, rfl⟩
  rw [← hW] at hmk1 B0 bel0 c0 f0
  have lW := B0.lt
  clear hmk hW
  go_enter Tryd.func26, Tryd.ntmps26
  go_wp2
  go_ret
  have B1 := B0.setu q (2 ^ r)
  rw [rep_set] at B1
  exact ⟨_, rfl, blk_num B1 HD.out (by simp) (by omega), bel0.setCell (Nat.le_refl _) _⟩

theorem cmp_le0 {X Y : Int} (h : X ≤ Y) : cmpN X Y ≤ 0 := by
  unfold cmpN
  by_cases k : X < Y
  · rw [if_pos k]; decide
  · rw [if_neg k, if_pos (by omega)]; decide
theorem cmp_gt0 {X Y : Int} (h : ¬ X ≤ Y) : ¬ cmpN X Y ≤ 0 := by
  unfold cmpN
  rw [if_neg (by omega), if_neg (by omega)]; decide
theorem root_bd {X q : Int} (h0 : 0 ≤ X) (h1 : 0 < q) (h : X + q ≤ 4722366482869645213696) : X < 4294967296 ^ 30 ∧ q < 4294967296 ^ 30 ∧ X + q < 4294967296 ^ 30 ∧ (X + q) * (X + q) < 4294967296 ^ 30 := by
  have e : (4722366482869645213696 : Int) * 4722366482869645213696 < 4294967296 ^ 30 := by decide
  have f : (4722366482869645213696 : Int) < 4294967296 ^ 30 := by decide
  have m : (X + q) * (X + q) ≤ 4722366482869645213696 * 4722366482869645213696 := Int.mul_le_mul h h (by omega) (by decide)
  generalize (4294967296 : Int) ^ 30 = T at *
  generalize (X + q) * (X + q) = U at *
  refine ⟨by omega, by omega, by omega, by omega⟩
theorem lim_true {p l : Int} (h0 : 0 < p) (h1 : p < 4294967296) (h : p * 2 ^ 192 = l) : NumD [0, 0, 0, 0, 0, 0, p] l := by
  refine ⟨?_, fun _ => by show p ≠ 0; omega, ?_⟩
  · intro j
    match j with
    | 0 | 1 | 2 | 3 | 4 | 5 => exact ⟨by show (0 : Int) ≤ 0; decide, by show (0 : Int) < _; decide⟩
    | 6 => exact ⟨by show 0 ≤ p; omega, h1⟩
    | _ + 7 => exact ⟨by simp, by simp⟩
  · rw [← h]; simp [v32, pv]; omega
theorem lim_false {p l : Int} (h0 : 0 < p) (h1 : p < 4294967296) (h : p * 2 ^ 128 = l) : NumD [0, 0, 0, 0, p] l := by
  refine ⟨?_, fun _ => by show p ≠ 0; omega, ?_⟩
  · intro j
    match j with
    | 0 | 1 | 2 | 3 => exact ⟨by show (0 : Int) ≤ 0; decide, by show (0 : Int) < _; decide⟩
    | 4 => exact ⟨by show 0 ≤ p; omega, h1⟩
    | _ + 5 => exact ⟨by simp, by simp⟩
  · rw [← h]; simp [v32, pv]; omega

set_option maxRecDepth 100000 in
set_option maxHeartbeats 4000000 in
theorem r7_root_true {p : Int} {w : World} (h0 : 0 < p) (h1 : p < 4294967296) :
    Calls Tryd.prog 17 #[.int .i64 p, .bool true] w fun e w' => e = .returned (.int .u64 (rootN p true)) ∧ Below w.heap.size w w' := by
  obtain ⟨lim, hlim⟩ : ∃ l, p * 2 ^ 192 = l := ⟨_, rfl⟩
  obtain ⟨R, hR⟩ : ∃ R, rtN true lim 72 0 = R := ⟨_, rfl⟩
  have HV : Hid (rootN p true = R % 18446744073709551616) := by
    show _ = _
    rw [← hR, ← hlim]; rfl
  have HR : Hid _ := hR
  have ND : Hid _ := lim_true h0 h1 hlim
  have g1 : IntKind.u64.wrap p = p := by rw [IntKind.wrap_u64]; omega
  clear hR hlim
  have NL : NumIs ((w.alloc (.cells #[.int .u64 0, .int .u64 0, .int .u64 0, .int .u64 0, .int .u64 p] 26)).alloc (.cells #[.int .u64 0, .int .u64 0, .int .u64 0, .int .u64 0, .int .u64 0, .int .u64 0, .int .u64 p] 26)) (.slice (some ⟨w.heap.size + 1, 0, none⟩) 7 7) lim := blk_num (D := [0, 0, 0, 0, 0, 0, p]) (Blk.new _ (us [0, 0, 0, 0, 0, 0, p]) 26 _ (by simp)) ND.out rfl (by decide)
  have bel : Below w.heap.size w ((w.alloc (.cells #[.int .u64 0, .int .u64 0, .int .u64 0, .int .u64 0, .int .u64 p] 26)).alloc (.cells #[.int .u64 0, .int .u64 0, .int .u64 0, .int .u64 0, .int .u64 0, .int .u64 0, .int .u64 p] 26)) := ((Below.refl _ _).alloc (Nat.le_refl _) _).alloc (by simp) _
  go_enter Tryd.func17, Tryd.ntmps17
  go_wp2
  generalize ((w.alloc (.cells #[.int .u64 0, .int .u64 0, .int .u64 0, .int .u64 0, .int .u64 p] 26)).alloc (.cells #[.int .u64 0, .int .u64 0, .int .u64 0, .int .u64 0, .int .u64 0, .int .u64 0, .int .u64 p] 26)) = W at *
  go_loopw [5, 7] (fun xv iv wr => ∃ (k : Nat) (X : Int), k ≤ 72 ∧ iv = .int .i64 ((k : Int) - 1) ∧ NumIs wr xv X ∧ 0 ≤ X ∧ X ≤ 4722366482869645213696 - 2 ^ k ∧ Hid (rtN true lim k X = R) ∧ NumIs wr (.slice (some ⟨w.heap.size + 1, 0, none⟩) 7 7) lim ∧ Below w.heap.size w wr) (fun _ iv _ => (intOf iv + 1).toNat)
  case atStart => exact ⟨72, 0, by omega, rfl, ⟨[], .inl ⟨rfl, rfl⟩, fun j => by simp, fun h => absurd h (by simp), rfl⟩, by omega, by decide, HR, NL, bel⟩
  case round =>
    clear NL bel HR
    obtain ⟨k, X, hk, rfl, hX, x0, x1, HR, NL, bel⟩ := hrel
    by_cases hk0 : k = 0
    · subst hk0
      have e : X = R := HR.out
      subst e
      obtain ⟨D, sD, dD, _, rfl⟩ := hX
      have g2 : ¬ (0 : Int) ≤ ((0 : Nat) : Int) - 1 := by omega
      have g3 : decide ((0 : Int) ≤ ((0 : Nat) : Int) - 1) = false := by decide
      rcases sD with ⟨rfl, rfl⟩ | ⟨b, cap, rfl, l1, l2, l3, l4⟩
      · have HW : Hid (rootN p true = 0) := by rw [HV.out]; rfl
        go_wp2
        go_ret
        exact ⟨ret_int HW.out.symm, bel⟩
      · match D, dD, l1, l4, HV with
        | [], _, _, _, HV =>
          have HW : Hid (rootN p true = 0) := by rw [HV.out]; rfl
          go_wp2
          go_ret
          exact ⟨ret_int HW.out.symm, bel⟩
        | [a], dD, _, l4, HV =>
          have a0 : 0 ≤ a ∧ a < 4294967296 := dD 0
          have c0 : wr.cell? ⟨b, 0, none⟩ = some (.int .u64 a) := l4 0 (by simp)
          have HW : Hid (rootN p true = a) := by
            rw [HV.out]
            show (a + 4294967296 * 0) % 18446744073709551616 = a
            omega
          clear dD l4 HV
          go_wp2
          go_ret
          exact ⟨ret_int HW.out.symm, bel⟩
        | a :: a1 :: D, dD, _, l4, HV =>
          have b0 : 0 ≤ a ∧ a < 4294967296 := dD 0
          have b1 : 0 ≤ a1 ∧ a1 < 4294967296 := dD 1
          have c0 : wr.cell? ⟨b, 0, none⟩ = some (.int .u64 a) := l4 0 (by simp)
          have c1 : wr.cell? ⟨b, 1, none⟩ = some (.int .u64 a1) := l4 1 (by simp)
          have HW : Hid (rootN p true = a + a1 * 4294967296) := by
            rw [HV.out]
            show (a + 4294967296 * (a1 + 4294967296 * v32 D)) % 18446744073709551616 = _
            generalize v32 D = V
            omega
          have w1 : IntKind.u64.wrap (a1 * 4294967296) = a1 * 4294967296 := by rw [IntKind.wrap_u64]; omega
          have w2 : IntKind.u64.wrap (a + a1 * 4294967296) = a + a1 * 4294967296 := by rw [IntKind.wrap_u64]; omega
          obtain ⟨m, hm⟩ : ∃ m, (a :: a1 :: D).length = m + 2 := ⟨D.length, rfl⟩
          rw [hm]
          have n1 : (0 : Int) < ((m + 2 : Nat) : Int) := by omega
          have n2 : (1 : Int) < ((m + 2 : Nat) : Int) := by omega
          clear dD l4 HV hm
          go_wp2
          go_ret
          exact ⟨ret_int HW.out.symm, bel⟩
    · obtain ⟨j, rfl⟩ : ∃ j, k = j + 1 := ⟨k - 1, by omega⟩
      have ej : ((j + 1 : Nat) : Int) - 1 = (j : Int) := by omega
      rw [ej]
      have g2 : (0 : Int) ≤ (j : Int) := by omega
      have gj : IntKind.i64.wrap ((j : Int) - 1) = (j : Int) - 1 := by rw [IntKind.wrap_i64]; omega
      have p0 : (0 : Int) < 2 ^ j := Int.pow_pos (by decide)
      have p1 : (2 : Int) ^ (j + 1) = 2 * 2 ^ j := by rw [Int.pow_succ]; omega
      have p2 : (2 : Int) ^ j ≤ 2 ^ 71 := two_le (by omega)
      have p3 : (2 : Int) ^ 71 = 2361183241434822606848 := by decide
      obtain ⟨q, hq⟩ : ∃ q, (2 : Int) ^ j = q := ⟨_, rfl⟩
      rw [p1, hq] at x1
      rw [hq] at p0 p2
      have y1 : X + q ≤ 4722366482869645213696 - q := by omega
      have HQ : Hid ((2 : Int) ^ j = q) := hq
      have XB : Hid (X < 4294967296 ^ 30 ∧ q < 4294967296 ^ 30 ∧ X + q < 4294967296 ^ 30 ∧ (X + q) * (X + q) < 4294967296 ^ 30) := root_bd x0 p0 (by omega)
      clear hk0 ej p1 p2 p3 hq x1
      go_wp2_with fail
      refine (r7_power (n := j) (by omega)).mono ?_
      rintro e w1 ⟨v1, rfl, N1, hb⟩
      rw [HQ.out] at N1
      replace hX := hX.later hb
      replace NL := NL.later hb
      replace bel := below_step bel hb
      clear hb
      go_wp2_with fail
      refine (radd_any _ _ _ _ _ hX N1 XB.out.1 XB.out.2.1).mono ?_
      rintro e w2 ⟨v2, rfl, N2, hb⟩
      replace hX := hX.later hb
      replace NL := NL.later hb
      replace bel := below_step bel hb
      clear hb N1
      go_wp2_with fail
      refine (rmul_any _ _ _ _ _ N2 N2 XB.out.2.2.1 XB.out.2.2.1).mono ?_
      rintro e w3 ⟨v3, rfl, N3, hb⟩
      replace hX := hX.later hb
      replace NL := NL.later hb
      replace N2 := N2.later hb
      replace bel := below_step bel hb
      clear hb
      go_wp2_with fail
      refine (rmul_any _ _ _ _ _ N3 N2 XB.out.2.2.2 XB.out.2.2.1).mono ?_
      clear N3
      rintro e w4 ⟨v4, rfl, N3, hb⟩
      replace hX := hX.later hb
      replace NL := NL.later hb
      replace N2 := N2.later hb
      replace bel := below_step bel hb
      clear hb
      go_wp2_with fail
      refine (cmp_any _ _ _ _ _ N3 NL).mono ?_
      rintro e w5 ⟨rfl, hb⟩
      replace hX := hX.later hb
      replace NL := NL.later hb
      replace N2 := N2.later hb
      replace bel := below_step bel hb
      clear hb
      have HS : Hid (rtN true lim j (if (X + q) * (X + q) * (X + q) ≤ lim then X + q else X) = R) := by
        have := HR.out
        rw [← HQ.out]
        exact this
      by_cases hz : (X + q) * (X + q) * (X + q) ≤ lim
      · rw [if_pos hz] at HS
        have g4 : cmpN ((X + q) * (X + q) * (X + q)) lim ≤ 0 := cmp_le0 hz
        clear hz N3
        go_wp2_with fail
        go_roundw
        case rel => exact ⟨j, X + q, by omega, rfl, N2, by omega, by rw [HQ.out]; omega, HS, NL, bel⟩
        case measure => simp [intOf]
      · rw [if_neg hz] at HS
        have g4 : ¬ cmpN ((X + q) * (X + q) * (X + q)) lim ≤ 0 := cmp_gt0 hz
        clear hz N3
        go_wp2_with fail
        go_roundw
        case rel => exact ⟨j, X, by omega, rfl, hX, x0, by rw [HQ.out]; omega, HS, NL, bel⟩
        case measure => simp [intOf]

set_option maxRecDepth 100000 in
set_option maxHeartbeats 4000000 in
theorem r7_root_false {p : Int} {w : World} (h0 : 0 < p) (h1 : p < 4294967296) :
    Calls Tryd.prog 17 #[.int .i64 p, .bool false] w fun e w' => e = .returned (.int .u64 (rootN p false)) ∧ Below w.heap.size w w' := by
  obtain ⟨lim, hlim⟩ : ∃ l, p * 2 ^ 128 = l := ⟨_, rfl⟩
  obtain ⟨R, hR⟩ : ∃ R, rtN false lim 72 0 = R := ⟨_, rfl⟩
  have HV : Hid (rootN p false = R % 18446744073709551616) := by
    show _ = _
    rw [← hR, ← hlim]; rfl
  have HR : Hid _ := hR
  have ND : Hid _ := lim_false h0 h1 hlim
  have g1 : IntKind.u64.wrap p = p := by rw [IntKind.wrap_u64]; omega
  clear hR hlim
  have NL : NumIs (w.alloc (.cells #[.int .u64 0, .int .u64 0, .int .u64 0, .int .u64 0, .int .u64 p] 26)) (.slice (some ⟨w.heap.size, 0, none⟩) 5 5) lim := blk_num (D := [0, 0, 0, 0, p]) (Blk.new _ (us [0, 0, 0, 0, p]) 26 _ rfl) ND.out rfl (by decide)
  have bel : Below w.heap.size w (w.alloc (.cells #[.int .u64 0, .int .u64 0, .int .u64 0, .int .u64 0, .int .u64 p] 26)) := ((Below.refl _ _).alloc (Nat.le_refl _) _)
  go_enter Tryd.func17, Tryd.ntmps17
  go_wp2
  generalize (w.alloc (.cells #[.int .u64 0, .int .u64 0, .int .u64 0, .int .u64 0, .int .u64 p] 26)) = W at *
  go_loopw [5, 7] (fun xv iv wr => ∃ (k : Nat) (X : Int), k ≤ 72 ∧ iv = .int .i64 ((k : Int) - 1) ∧ NumIs wr xv X ∧ 0 ≤ X ∧ X ≤ 4722366482869645213696 - 2 ^ k ∧ Hid (rtN false lim k X = R) ∧ NumIs wr (.slice (some ⟨w.heap.size, 0, none⟩) 5 5) lim ∧ Below w.heap.size w wr) (fun _ iv _ => (intOf iv + 1).toNat)
  case atStart => exact ⟨72, 0, by omega, rfl, ⟨[], .inl ⟨rfl, rfl⟩, fun j => by simp, fun h => absurd h (by simp), rfl⟩, by omega, by decide, HR, NL, bel⟩
  case round =>
    clear NL bel HR
    obtain ⟨k, X, hk, rfl, hX, x0, x1, HR, NL, bel⟩ := hrel
    by_cases hk0 : k = 0
    · subst hk0
      have e : X = R := HR.out
      subst e
      obtain ⟨D, sD, dD, _, rfl⟩ := hX
      have g2 : ¬ (0 : Int) ≤ ((0 : Nat) : Int) - 1 := by omega
      have g3 : decide ((0 : Int) ≤ ((0 : Nat) : Int) - 1) = false := by decide
      rcases sD with ⟨rfl, rfl⟩ | ⟨b, cap, rfl, l1, l2, l3, l4⟩
      · have HW : Hid (rootN p false = 0) := by rw [HV.out]; rfl
        go_wp2
        go_ret
        exact ⟨ret_int HW.out.symm, bel⟩
      · match D, dD, l1, l4, HV with
        | [], _, _, _, HV =>
          have HW : Hid (rootN p false = 0) := by rw [HV.out]; rfl
          go_wp2
          go_ret
          exact ⟨ret_int HW.out.symm, bel⟩
        | [a], dD, _, l4, HV =>
          have a0 : 0 ≤ a ∧ a < 4294967296 := dD 0
          have c0 : wr.cell? ⟨b, 0, none⟩ = some (.int .u64 a) := l4 0 (by simp)
          have HW : Hid (rootN p false = a) := by
            rw [HV.out]
            show (a + 4294967296 * 0) % 18446744073709551616 = a
            omega
          clear dD l4 HV
          go_wp2
          go_ret
          exact ⟨ret_int HW.out.symm, bel⟩
        | a :: a1 :: D, dD, _, l4, HV =>
          have b0 : 0 ≤ a ∧ a < 4294967296 := dD 0
          have b1 : 0 ≤ a1 ∧ a1 < 4294967296 := dD 1
          have c0 : wr.cell? ⟨b, 0, none⟩ = some (.int .u64 a) := l4 0 (by simp)
          have c1 : wr.cell? ⟨b, 1, none⟩ = some (.int .u64 a1) := l4 1 (by simp)
          have HW : Hid (rootN p false = a + a1 * 4294967296) := by
            rw [HV.out]
            show (a + 4294967296 * (a1 + 4294967296 * v32 D)) % 18446744073709551616 = _
            generalize v32 D = V
            omega
          have w1 : IntKind.u64.wrap (a1 * 4294967296) = a1 * 4294967296 := by rw [IntKind.wrap_u64]; omega
          have w2 : IntKind.u64.wrap (a + a1 * 4294967296) = a + a1 * 4294967296 := by rw [IntKind.wrap_u64]; omega
          obtain ⟨m, hm⟩ : ∃ m, (a :: a1 :: D).length = m + 2 := ⟨D.length, rfl⟩
          rw [hm]
          have n1 : (0 : Int) < ((m + 2 : Nat) : Int) := by omega
          have n2 : (1 : Int) < ((m + 2 : Nat) : Int) := by omega
          clear dD l4 HV hm
          go_wp2
          go_ret
          exact ⟨ret_int HW.out.symm, bel⟩
    · obtain ⟨j, rfl⟩ : ∃ j, k = j + 1 := ⟨k - 1, by omega⟩
      have ej : ((j + 1 : Nat) : Int) - 1 = (j : Int) := by omega
      rw [ej]
      have g2 : (0 : Int) ≤ (j : Int) := by omega
      have gj : IntKind.i64.wrap ((j : Int) - 1) = (j : Int) - 1 := by rw [IntKind.wrap_i64]; omega
      have p0 : (0 : Int) < 2 ^ j := Int.pow_pos (by decide)
      have p1 : (2 : Int) ^ (j + 1) = 2 * 2 ^ j := by rw [Int.pow_succ]; omega
      have p2 : (2 : Int) ^ j ≤ 2 ^ 71 := two_le (by omega)
      have p3 : (2 : Int) ^ 71 = 2361183241434822606848 := by decide
      obtain ⟨q, hq⟩ : ∃ q, (2 : Int) ^ j = q := ⟨_, rfl⟩
      rw [p1, hq] at x1
      rw [hq] at p0 p2
      have y1 : X + q ≤ 4722366482869645213696 - q := by omega
      have HQ : Hid ((2 : Int) ^ j = q) := hq
      have XB : Hid (X < 4294967296 ^ 30 ∧ q < 4294967296 ^ 30 ∧ X + q < 4294967296 ^ 30 ∧ (X + q) * (X + q) < 4294967296 ^ 30) := root_bd x0 p0 (by omega)
      clear hk0 ej p1 p2 p3 hq x1
      go_wp2_with fail
      refine (r7_power (n := j) (by omega)).mono ?_
      rintro e w1 ⟨v1, rfl, N1, hb⟩
      rw [HQ.out] at N1
      replace hX := hX.later hb
      replace NL := NL.later hb
      replace bel := below_step bel hb
      clear hb
      go_wp2_with fail
      refine (radd_any _ _ _ _ _ hX N1 XB.out.1 XB.out.2.1).mono ?_
      rintro e w2 ⟨v2, rfl, N2, hb⟩
      replace hX := hX.later hb
      replace NL := NL.later hb
      replace bel := below_step bel hb
      clear hb N1
      go_wp2_with fail
      refine (rmul_any _ _ _ _ _ N2 N2 XB.out.2.2.1 XB.out.2.2.1).mono ?_
      rintro e w3 ⟨v3, rfl, N3, hb⟩
      replace hX := hX.later hb
      replace NL := NL.later hb
      replace N2 := N2.later hb
      replace bel := below_step bel hb
      clear hb
      go_wp2_with fail
      refine (cmp_any _ _ _ _ _ N3 NL).mono ?_
      rintro e w5 ⟨rfl, hb⟩
      replace hX := hX.later hb
      replace NL := NL.later hb
      replace N2 := N2.later hb
      replace bel := below_step bel hb
      clear hb
      have HS : Hid (rtN false lim j (if (X + q) * (X + q) ≤ lim then X + q else X) = R) := by
        have := HR.out
        rw [← HQ.out]
        exact this
      by_cases hz : (X + q) * (X + q) ≤ lim
      · rw [if_pos hz] at HS
        have g4 : cmpN ((X + q) * (X + q)) lim ≤ 0 := cmp_le0 hz
        clear hz N3
        go_wp2_with fail
        go_roundw
        case rel => exact ⟨j, X + q, by omega, rfl, N2, by omega, by rw [HQ.out]; omega, HS, NL, bel⟩
        case measure => simp [intOf]
      · rw [if_neg hz] at HS
        have g4 : ¬ cmpN ((X + q) * (X + q)) lim ≤ 0 := cmp_gt0 hz
        clear hz N3
        go_wp2_with fail
        go_roundw
        case rel => exact ⟨j, X, by omega, rfl, hX, x0, by rw [HQ.out]; omega, HS, NL, bel⟩
        case measure => simp [intOf]

end Go.Proofs.YtbglkbfnhnmodaaDoor
