/- The reference's Bytes, 16 of them, and 8. -/
import Derived.Test.YtbglkbfnhnmodaaDoorRows
import Derived.Test.YtbglkbfnhnmodaaDoorRefA
import Derived.Test.YtbglkbfnhnmodaaDoorSpread
import Derived.Deep.OwnRows
import Derived.Deep.WholeRow
import Derived.Deep.RegionHeld3
import Derived.Deep.DeepCutAuto
import Derived.Deep.DeepFit
namespace Go.Proofs.YtbglkbfnhnmodaaDoor
open Go.RowKit

theorem info_u8 : (Tryd.prog.info? 5).map (fun i => (i.zero, i.size, i.bytes)) = some (some (.int .u8 0), 1, 1) := by kernel_rfl

theorem made_u8 (n : Nat) : madeCells #[.int .u8 0] n = (u8s (List.replicate n 0)).toArray := by
  apply Array.ext
  · simp [madeCells]
  · intro i h1 h2
    simp [madeCells, Nat.mod_one]

theorem Blk.set8 {w : World} {b : Nat} {S : List Int} (h : Blk w b (u8s S)) (k : Nat) (s : Int) : Blk (w.setCell ⟨b, k, none⟩ (.int .u8 s)) b (u8s (S.set k s)) := by
  have : u8s (S.set k s) = (u8s S).set k (.int .u8 s) := by simp [u8s, List.map_set]
  rw [this]; exact h.set k _

theorem shifted (d : Int) (j : Nat) : d / 256 ^ j / 256 = d / 256 ^ (j + 1) := by
  rw [Int.pow_succ, Int.ediv_ediv_of_nonneg (Int.le_of_lt (Int.pow_pos (by decide)))]

theorem shifted_bd (d : Int) (j : Nat) (h0 : 0 ≤ d) (h1 : d < 4294967296) : 0 ≤ d / 256 ^ j ∧ d / 256 ^ j < 4294967296 := by
  have hp : (0 : Int) < 256 ^ j := Int.pow_pos (by decide)
  exact ⟨Int.ediv_nonneg h0 (Int.le_of_lt hp), Int.lt_of_le_of_lt (Int.ediv_le_self _ h0) h1⟩

/-- the bytes of digits -/
def bytesIn16 (D : List Int) : List Int := (List.range 16).map fun i => D.getD ((15 - i) / 4) 0 / 256 ^ ((15 - i) % 4) % 256

theorem bytesIn_len16 (D : List Int) : (bytesIn16 D).length = 16 := by simp [bytesIn16]

theorem bytesIn_get16 (D : List Int) (i : Nat) (h : i < 16) : (bytesIn16 D).getD i 0 = D.getD ((15 - i) / 4) 0 / 256 ^ ((15 - i) % 4) % 256 := by
  rw [List.getD_eq_getElem?_getD, bytesIn16, List.getElem?_map, List.getElem?_range h]
  rfl

theorem bytesIn_byt16 (D : List Int) : byt (bytesIn16 D) := by
  apply byt_of
  intro j hj
  rw [bytesIn_len16] at hj
  rw [bytesIn_get16 D j hj]
  omega

theorem bytesIn_num16 (D : List Int) (lD : D.length ≤ 4) (dD : dig D) : beN (bytesIn16 D) = v32 D := by
  have hl : (bytesIn16 D).reverse.length = 16 := by rw [List.length_reverse, bytesIn_len16]
  have hR : ∀ t, t < (bytesIn16 D).reverse.length → (bytesIn16 D).reverse.getD t 0 = D.getD (t / 4) 0 / 256 ^ (t % 4) % 256 := by
    intro t ht
    rw [hl] at ht
    have e := rev_get (bytesIn16 D) (15 - t) (by rw [bytesIn_len16]; omega)
    rw [bytesIn_len16, show 16 - 1 - (15 - t) = t by omega] at e
    rw [e, bytesIn_get16 D _ (by omega), show 15 - (15 - t) = t by omega]
  have e1 : (256 : Int) ^ 4 = 4294967296 := by decide
  have h := spread 4 (by decide) D (bytesIn16 D).reverse (fun j => by rw [e1]; exact dD j) hR 4 (by rw [hl]; decide)
  rw [List.take_of_length_le (by rw [hl]; decide), List.take_of_length_le (by omega), e1] at h
  exact h

set_option maxRecDepth 100000 in
set_option maxHeartbeats 1000000 in
theorem rbytes_any16 (v : Value) (N : Int) (w : World) (hv : NumIs w v N) (hN : N < 4294967296 ^ 4) :
    Calls Tryd.prog 31 #[v, .int .i64 16] w fun e w' => ∃ (g : Nat) (X : List Int), e = .returned (.slice (some ⟨g, 0, none⟩) 16 16) ∧ Blk w' g (u8s X) ∧ X.length = 16 ∧ byt X ∧ beN X = N ∧ Below w.heap.size w w' := by
  obtain ⟨D, sD, dD, tD, rfl⟩ := hv
  have lD := v32_len D dD tD 4 hN
  have HQ : Hid (byt (bytesIn16 D) ∧ beN (bytesIn16 D) = v32 D) := ⟨bytesIn_byt16 D, bytesIn_num16 D lD dD⟩
  have hmk := run_make_row' 22 5 (.int .u8 0) 1 Tryd.underlying22 info_u8 rfl .i64 .i64 16 (by omega) (by omega)
  rw [made_u8] at hmk
  have b1 := Blk.new w (u8s (List.replicate 16 0)) 5 w.heap.size rfl
  have bel : Below w.heap.size w (w.alloc (.cells (u8s (List.replicate 16 0)).toArray 5)) := (Below.refl _ _).alloc (Nat.le_refl _) _
  generalize (u8s (List.replicate 16 0)).toArray = cs at hmk b1 bel
  replace hmk : ∀ w : World, (Instr.makeSlice 22 (.int .i64 16) (.int .i64 16)).run Tryd.prog w = .ok (.slice (some ⟨w.heap.size, 0, none⟩) 16 16) (w.alloc (.cells cs 5)) := hmk
  have gX : Hid (∀ i, i < 16 → (bytesIn16 D).getD i 0 = D.getD ((15 - i) / 4) 0 / 256 ^ ((15 - i) % 4) % 256) := bytesIn_get16 D
  have lX := bytesIn_len16 D
  obtain ⟨X, hX⟩ : ∃ X, bytesIn16 D = X := ⟨_, rfl⟩
  obtain ⟨N, hNN⟩ : ∃ N, v32 D = N := ⟨_, rfl⟩
  rw [hX] at gX lX HQ
  rw [hNN] at HQ ⊢
  clear hX hNN hN tD
  obtain ⟨ao, c1, rfl, -, -, -⟩ := sD.form
  obtain ⟨l, hl⟩ : ∃ l, D.length = l := ⟨_, rfl⟩
  rw [hl] at sD ⊢
  clear hl lD
  go_enter Tryd.func31, Tryd.ntmps31
  go_wp2
  clear hmk
  generalize w.alloc (.cells cs 5) = W at *
  go_loopw [6] (fun iv wr => ∃ (i : Nat) (T : List Int), i ≤ 16 ∧ iv = .int .i64 i ∧ T.length = 16 ∧ Hid (∀ j, 16 - i ≤ j → j < 16 → T.getD j 0 = X.getD j 0) ∧ Blk wr w.heap.size (u8s T) ∧ Below w.heap.size w wr)
    (fun i _ => 16 - (intOf i).toNat)
  case atStart => exact ⟨0, List.replicate 16 0, by omega, rfl, by simp, fun j hj hj2 => absurd hj (by omega), b1, bel⟩
  case round =>
    obtain ⟨i, T, hi, rfl, lT, hJ, hT, hbel⟩ := hrel
    clear b1 bel
    by_cases hlt : i < 16
    · obtain ⟨d, hd⟩ : ∃ d, D.getD (i / 4) 0 = d := ⟨_, rfl⟩
      have bd : 0 ≤ d ∧ d < 4294967296 := hd ▸ dD _
      have gk := gX.out (15 - i) (by omega)
      rw [show 15 - (15 - i) = i by omega, hd] at gk
      have GK : Hid _ := gk
      have sD' := sD.later hbel
      have x2 := hT.cell (15 - i) _ (u8s_get T (15 - i) (by omega))
      have fz := hT.frozen (15 - i)
      obtain ⟨t, ht⟩ : ∃ t, T.getD (15 - i) 0 = t := ⟨_, rfl⟩
      rw [ht] at x2
      have g1 : (i : Int) < 16 := by omega
      have g2 : (0 : Int) ≤ 15 - (i : Int) := by omega
      have g3 : 15 - (i : Int) < 16 := by omega
      have g4 : (15 - (i : Int)).toNat = 15 - i := by omega
      clear ht gk
      go_wp2_with fail
      have AT := at_any _ D (i / 4) wr sD'
      have ei : ((i / 4 : Nat) : Int) = (i : Int) / 4 := by omega
      rw [ei] at AT
      refine AT.mono ?_
      rintro e1 w' ⟨rfl, hw⟩
      obtain rfl := hw.symm
      rw [hd]
      clear AT ei hd
      go_wp2_with fail
      go_loop [7, 8] (fun vv jv => ∃ j : Nat, j ≤ i % 4 ∧ jv = .int .i64 j ∧ vv = .int .u64 (d / 256 ^ j)) (fun _ jv => 4 - (intOf jv).toNat)
      case atStart => exact ⟨0, by omega, rfl, by simp⟩
      case round =>
        obtain ⟨j, hj, rfl, rfl⟩ := hrel
        have bj := shifted_bd d j bd.1 bd.2
        have bj0 := bj.1
        have bj1 := bj.2
        by_cases hjl : j < i % 4
        · have HZ : Hid (d / 256 ^ j / 256 = d / 256 ^ (j + 1)) := shifted d j
          obtain ⟨y, hy⟩ : ∃ y, d / 256 ^ j = y := ⟨_, rfl⟩
          rw [hy] at bj0 bj1 HZ ⊢
          have g5 : (j : Int) < (i : Int) % 4 := by omega
          clear hy bj
          go_wp2
          go_round
          case rel => exact ⟨j + 1, by omega, by go_num, by rw [HZ.out]⟩
          case measure => simp [intOf]; omega
        · have g5 : ¬ (j : Int) < (i : Int) % 4 := by omega
          have hje : j = i % 4 := by omega
          have GK' : Hid (X.getD (15 - i) 0 = d / 256 ^ j % 256) := by rw [hje]; exact GK
          obtain ⟨y, hy⟩ : ∃ y, d / 256 ^ j = y := ⟨_, rfl⟩
          rw [hy] at bj0 bj1 GK' ⊢
          clear hy bj hje
          go_wp2
          go_roundw
          case rel =>
            refine ⟨i + 1, T.set (15 - i) (y % 256), by omega, by go_num, by simpa using lT, fun q hq hq2 => ?_, hT.set8 _ _, hbel.setCell (by simp) _⟩
            by_cases hjk : 15 - i = q
            · subst hjk
              rw [getD_set_same _ _ _ (by omega), GK'.out]
            · have e : (T.set (15 - i) (y % 256)).getD q 0 = T.getD q 0 := by simp [List.getD_eq_getElem?_getD, hjk]
              rw [e]; exact hJ.out q (by omega) hq2
          case measure => simp [intOf]; omega
    · have h6 : (16 : Int) ≤ (i : Int) := by omega
      have hTX : T = X := by
        apply List.ext_getElem (by omega)
        intro k h1 h2
        have := hJ.out k (by omega) (by omega)
        simpa [List.getD_eq_getElem?_getD, h1, h2] using this
      subst hTX
      clear hJ
      go_wp2
      go_ret
      exact ⟨_, T, rfl, hT, lX, HQ.out.1, HQ.out.2, hbel⟩
/-- the bytes of digits -/
def bytesIn8 (D : List Int) : List Int := (List.range 8).map fun i => D.getD ((7 - i) / 4) 0 / 256 ^ ((7 - i) % 4) % 256

theorem bytesIn_len8 (D : List Int) : (bytesIn8 D).length = 8 := by simp [bytesIn8]

theorem bytesIn_get8 (D : List Int) (i : Nat) (h : i < 8) : (bytesIn8 D).getD i 0 = D.getD ((7 - i) / 4) 0 / 256 ^ ((7 - i) % 4) % 256 := by
  rw [List.getD_eq_getElem?_getD, bytesIn8, List.getElem?_map, List.getElem?_range h]
  rfl

theorem bytesIn_byt8 (D : List Int) : byt (bytesIn8 D) := by
  apply byt_of
  intro j hj
  rw [bytesIn_len8] at hj
  rw [bytesIn_get8 D j hj]
  omega

theorem bytesIn_num8 (D : List Int) (lD : D.length ≤ 2) (dD : dig D) : beN (bytesIn8 D) = v32 D := by
  have hl : (bytesIn8 D).reverse.length = 8 := by rw [List.length_reverse, bytesIn_len8]
  have hR : ∀ t, t < (bytesIn8 D).reverse.length → (bytesIn8 D).reverse.getD t 0 = D.getD (t / 4) 0 / 256 ^ (t % 4) % 256 := by
    intro t ht
    rw [hl] at ht
    have e := rev_get (bytesIn8 D) (7 - t) (by rw [bytesIn_len8]; omega)
    rw [bytesIn_len8, show 8 - 1 - (7 - t) = t by omega] at e
    rw [e, bytesIn_get8 D _ (by omega), show 7 - (7 - t) = t by omega]
  have e1 : (256 : Int) ^ 4 = 4294967296 := by decide
  have h := spread 4 (by decide) D (bytesIn8 D).reverse (fun j => by rw [e1]; exact dD j) hR 2 (by rw [hl]; decide)
  rw [List.take_of_length_le (by rw [hl]; decide), List.take_of_length_le (by omega), e1] at h
  exact h

set_option maxRecDepth 100000 in
set_option maxHeartbeats 1000000 in
theorem rbytes_any8 (v : Value) (N : Int) (w : World) (hv : NumIs w v N) (hN : N < 4294967296 ^ 2) :
    Calls Tryd.prog 31 #[v, .int .i64 8] w fun e w' => ∃ (g : Nat) (X : List Int), e = .returned (.slice (some ⟨g, 0, none⟩) 8 8) ∧ Blk w' g (u8s X) ∧ X.length = 8 ∧ byt X ∧ beN X = N ∧ Below w.heap.size w w' := by
  obtain ⟨D, sD, dD, tD, rfl⟩ := hv
  have lD := v32_len D dD tD 2 hN
  have HQ : Hid (byt (bytesIn8 D) ∧ beN (bytesIn8 D) = v32 D) := ⟨bytesIn_byt8 D, bytesIn_num8 D lD dD⟩
  have hmk := run_make_row' 22 5 (.int .u8 0) 1 Tryd.underlying22 info_u8 rfl .i64 .i64 8 (by omega) (by omega)
  rw [made_u8] at hmk
  have b1 := Blk.new w (u8s (List.replicate 8 0)) 5 w.heap.size rfl
  have bel : Below w.heap.size w (w.alloc (.cells (u8s (List.replicate 8 0)).toArray 5)) := (Below.refl _ _).alloc (Nat.le_refl _) _
  generalize (u8s (List.replicate 8 0)).toArray = cs at hmk b1 bel
  replace hmk : ∀ w : World, (Instr.makeSlice 22 (.int .i64 8) (.int .i64 8)).run Tryd.prog w = .ok (.slice (some ⟨w.heap.size, 0, none⟩) 8 8) (w.alloc (.cells cs 5)) := hmk
  have gX : Hid (∀ i, i < 8 → (bytesIn8 D).getD i 0 = D.getD ((7 - i) / 4) 0 / 256 ^ ((7 - i) % 4) % 256) := bytesIn_get8 D
  have lX := bytesIn_len8 D
  obtain ⟨X, hX⟩ : ∃ X, bytesIn8 D = X := ⟨_, rfl⟩
  obtain ⟨N, hNN⟩ : ∃ N, v32 D = N := ⟨_, rfl⟩
  rw [hX] at gX lX HQ
  rw [hNN] at HQ ⊢
  clear hX hNN hN tD
  obtain ⟨ao, c1, rfl, -, -, -⟩ := sD.form
  obtain ⟨l, hl⟩ : ∃ l, D.length = l := ⟨_, rfl⟩
  rw [hl] at sD ⊢
  clear hl lD
  go_enter Tryd.func31, Tryd.ntmps31
  go_wp2
  clear hmk
  generalize w.alloc (.cells cs 5) = W at *
  go_loopw [6] (fun iv wr => ∃ (i : Nat) (T : List Int), i ≤ 8 ∧ iv = .int .i64 i ∧ T.length = 8 ∧ Hid (∀ j, 8 - i ≤ j → j < 8 → T.getD j 0 = X.getD j 0) ∧ Blk wr w.heap.size (u8s T) ∧ Below w.heap.size w wr)
    (fun i _ => 8 - (intOf i).toNat)
  case atStart => exact ⟨0, List.replicate 8 0, by omega, rfl, by simp, fun j hj hj2 => absurd hj (by omega), b1, bel⟩
  case round =>
    obtain ⟨i, T, hi, rfl, lT, hJ, hT, hbel⟩ := hrel
    clear b1 bel
    by_cases hlt : i < 8
    · obtain ⟨d, hd⟩ : ∃ d, D.getD (i / 4) 0 = d := ⟨_, rfl⟩
      have bd : 0 ≤ d ∧ d < 4294967296 := hd ▸ dD _
      have gk := gX.out (7 - i) (by omega)
      rw [show 7 - (7 - i) = i by omega, hd] at gk
      have GK : Hid _ := gk
      have sD' := sD.later hbel
      have x2 := hT.cell (7 - i) _ (u8s_get T (7 - i) (by omega))
      have fz := hT.frozen (7 - i)
      obtain ⟨t, ht⟩ : ∃ t, T.getD (7 - i) 0 = t := ⟨_, rfl⟩
      rw [ht] at x2
      have g1 : (i : Int) < 8 := by omega
      have g2 : (0 : Int) ≤ 7 - (i : Int) := by omega
      have g3 : 7 - (i : Int) < 8 := by omega
      have g4 : (7 - (i : Int)).toNat = 7 - i := by omega
      clear ht gk
      go_wp2_with fail
      have AT := at_any _ D (i / 4) wr sD'
      have ei : ((i / 4 : Nat) : Int) = (i : Int) / 4 := by omega
      rw [ei] at AT
      refine AT.mono ?_
      rintro e1 w' ⟨rfl, hw⟩
      obtain rfl := hw.symm
      rw [hd]
      clear AT ei hd
      go_wp2_with fail
      go_loop [7, 8] (fun vv jv => ∃ j : Nat, j ≤ i % 4 ∧ jv = .int .i64 j ∧ vv = .int .u64 (d / 256 ^ j)) (fun _ jv => 4 - (intOf jv).toNat)
      case atStart => exact ⟨0, by omega, rfl, by simp⟩
      case round =>
        obtain ⟨j, hj, rfl, rfl⟩ := hrel
        have bj := shifted_bd d j bd.1 bd.2
        have bj0 := bj.1
        have bj1 := bj.2
        by_cases hjl : j < i % 4
        · have HZ : Hid (d / 256 ^ j / 256 = d / 256 ^ (j + 1)) := shifted d j
          obtain ⟨y, hy⟩ : ∃ y, d / 256 ^ j = y := ⟨_, rfl⟩
          rw [hy] at bj0 bj1 HZ ⊢
          have g5 : (j : Int) < (i : Int) % 4 := by omega
          clear hy bj
          go_wp2
          go_round
          case rel => exact ⟨j + 1, by omega, by go_num, by rw [HZ.out]⟩
          case measure => simp [intOf]; omega
        · have g5 : ¬ (j : Int) < (i : Int) % 4 := by omega
          have hje : j = i % 4 := by omega
          have GK' : Hid (X.getD (7 - i) 0 = d / 256 ^ j % 256) := by rw [hje]; exact GK
          obtain ⟨y, hy⟩ : ∃ y, d / 256 ^ j = y := ⟨_, rfl⟩
          rw [hy] at bj0 bj1 GK' ⊢
          clear hy bj hje
          go_wp2
          go_roundw
          case rel =>
            refine ⟨i + 1, T.set (7 - i) (y % 256), by omega, by go_num, by simpa using lT, fun q hq hq2 => ?_, hT.set8 _ _, hbel.setCell (by simp) _⟩
            by_cases hjk : 7 - i = q
            · subst hjk
              rw [getD_set_same _ _ _ (by omega), GK'.out]
            · have e : (T.set (7 - i) (y % 256)).getD q 0 = T.getD q 0 := by simp [List.getD_eq_getElem?_getD, hjk]
              rw [e]; exact hJ.out q (by omega) hq2
          case measure => simp [intOf]; omega
    · have h6 : (8 : Int) ≤ (i : Int) := by omega
      have hTX : T = X := by
        apply List.ext_getElem (by omega)
        intro k h1 h2
        have := hJ.out k (by omega) (by omega)
        simpa [List.getD_eq_getElem?_getD, h1, h2] using this
      subst hTX
      clear hJ
      go_wp2
      go_ret
      exact ⟨_, T, rfl, hT, lX, HQ.out.1, HQ.out.2, hbel⟩
end Go.Proofs.YtbglkbfnhnmodaaDoor
