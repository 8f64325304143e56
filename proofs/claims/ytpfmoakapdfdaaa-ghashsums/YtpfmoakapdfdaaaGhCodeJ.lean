/- The program's halves, timesX, joined and lengths of ghash. -/
import Derived.Test.YtpfmoakapdfdaaaRows
import Derived.Test.YtpfmoakapdfdaaaGhHalf
import Derived.Test.YtpfmoakapdfdaaaTakeRow
import Derived.Deep.WholeRow
import Derived.Deep.RegionHeld3
import Derived.Deep.DeepCutAuto
import Derived.Deep.DeepFit
namespace Go.Proofs.Ytpfmoakapdfdaaa
open Go.RowKit

set_option linter.unusedSimpArgs false in
set_option maxRecDepth 100000 in
set_option maxHeartbeats 1000000 in
theorem con_halves {A : List Int} {F : List Value} {w : World} (hF : u8s A = F) (l : A.length = 16) (b : byt A) :
    Calls Try.prog 17 #[.agg F.toArray] w fun e w' => e = .returned (.tuple #[.int .u64 (rvI (blkN A) 63), .int .u64 (rvI (blkN A) 127)]) ∧ Below w.heap.size w w' := by
  have HF : Hid (u8s A = F) := hF
  have HB : Hid (byt A ∧ A.length = 16) := ⟨b, l⟩
  clear hF l b
  have B0 := Blk.new w F 22 w.heap.size rfl
  have bel : Below w.heap.size w (w.alloc (.cells F.toArray 22)) := (Below.refl _ _).alloc (Nat.le_refl _) _
  go_enter Try.func17, Try.ntmps17
  go_upto_region 1 with fail
  generalize w.alloc (.cells F.toArray 22) = W at *
  rw [← HF.out] at B0
  have HB0 : Hid (Blk W w.heap.size (u8s A)) := B0
  have lv := B0.lt
  clear B0
  go_wp2_with fail
  go_loopw [4, 5, 7] (fun hv lv iv wx => ∃ (i : Nat) (x y : Int), i ≤ 8 ∧ iv = .int .i64 i ∧ hv = .int .u64 x ∧ lv = .int .u64 y ∧ Hid (x = ((jn (rvN A 0 i) : Nat) : Int)) ∧ Hid (y = ((jn (rvN A 8 i) : Nat) : Int)) ∧ wx = W) (fun _ _ iv _ => 8 - (intOf iv).toNat)
  case atStart => exact ⟨0, 0, 0, by omega, rfl, rfl, rfl, rfl, rfl, rfl⟩
  case round =>
    obtain ⟨i, x, y, hi, rfl, rfl, rfl, HX, HY, hw⟩ := hrel
    rw [hw]
    clear hw
    by_cases hil : i < 8
    · have g2 : (i : Int) < 8 := by omega
      have g3 : (0 : Int) ≤ (i : Int) := by omega
      have g4 : (i : Int).toNat = i := by omega
      have g5 : (i : Int) < 16 := by omega
      have i2 : IntKind.i64.wrap (8 + (i : Int)) = ((8 + i : Nat) : Int) := by rw [IntKind.wrap_i64]; omega
      have l1 : ((8 + i : Nat) : Int) < 16 := by omega
      have k1 : (0 : Int) ≤ ((8 + i : Nat) : Int) := by omega
      have c0 := HB0.out.cell i _ (u8s_get _ _ (by rw [HB.out.2]; omega))
      have c8 := HB0.out.cell (8 + i) _ (u8s_get _ _ (by rw [HB.out.2]; omega))
      have y0 := HB.out.1 i
      have y8 := HB.out.1 (8 + i)
      have O0 : Hid _ := or_low (rvN_bd HB.out.1 0 hil) y0
      have O8 : Hid _ := or_low (rvN_bd HB.out.1 8 hil) y8
      rw [← HX.out] at O0
      rw [← HY.out] at O8
      have N0 : Hid (((jn (rvN A 0 (i + 1)) : Nat) : Int) = (((A.getD i 0).toNat + 256 * jn (rvN A 0 i) : Nat) : Int)) := by show _ = _; rw [rvN, jn, Nat.zero_add]
      have N8 : Hid (((jn (rvN A 8 (i + 1)) : Nat) : Int) = (((A.getD (8 + i) 0).toNat + 256 * jn (rvN A 8 i) : Nat) : Int)) := rfl
      obtain ⟨p, hp⟩ : ∃ p, A.getD i 0 = p := ⟨_, rfl⟩
      obtain ⟨q, hq⟩ : ∃ q, A.getD (8 + i) 0 = q := ⟨_, rfl⟩
      obtain ⟨n, hn⟩ : ∃ n, 8 + i = n := ⟨_, rfl⟩
      rw [hp] at c0 y0 O0 N0
      rw [hq] at c8 y8 O8 N8
      rw [hn] at c8 i2 l1 k1
      have wp : IntKind.u64.wrap p = p := by rw [IntKind.wrap_u64]; omega
      have wq : IntKind.u64.wrap q = q := by rw [IntKind.wrap_u64]; omega
      clear hp hq hn
      go_wp2_with fail
      go_roundw
      case rel => exact ⟨i + 1, _, _, by omega, by go_num, rfl, rfl, by show _ = _; rw [N0.out]; exact O0.out, by show _ = _; rw [N8.out]; exact O8.out, trivial⟩
      case measure => simp [intOf]; omega
    · have HI : Hid (i = 8) := by show i = 8; omega
      have g2 : (8 : Int) ≤ (i : Int) := by omega
      have H1 : Hid (x = rvI (blkN A) 63) := by show x = _; rw [HX.out, HI.out]; exact half_of HB.out.1 (o := 0) (by decide)
      have H2 : Hid (y = rvI (blkN A) 127) := by show y = _; rw [HY.out, HI.out]; exact half_of HB.out.1 (o := 8) (by decide)
      go_wp2_with fail
      refine bodyPost_ret (results_tmp2 rfl _ _ _) rfl ?_
      exact ⟨by rw [← H1.out, ← H2.out]; rfl, bel⟩
set_option maxRecDepth 100000 in
theorem con_timesX {x y : Int} {v : Nat} {w : World} (hx : x = rvI v 63) (hy : y = rvI v 127) :
    Calls Try.prog 18 #[.int .u64 x, .int .u64 y] w fun e w' => ∃ p q : Int, e = .returned (.tuple #[.int .u64 p, .int .u64 q]) ∧ p = rvI (tN2 v) 63 ∧ q = rvI (tN2 v) 127 ∧ w' = w := by
  have a1 := low_bit v
  have a2 := mask_neg (v.testBit 127)
  rw [← a1] at a2
  have H3 : Hid _ := high_x v
  have H4 : Hid _ := low_x v
  rw [← hx] at H3 H4
  rw [← hy] at a2 H4
  clear hx hy a1
  obtain ⟨m, hm⟩ : ∃ m, maskI (v.testBit 127) = m := ⟨_, rfl⟩
  rw [hm] at a2 H3
  clear hm
  go_enter Try.func18, Try.ntmps18
  go_wp2_with fail
  refine bodyPost_ret (results_tmp2 rfl _ _ _) rfl ?_
  exact ⟨_, _, rfl, H3.out, H4.out, rfl⟩
set_option linter.unusedSimpArgs false in
set_option maxRecDepth 100000 in
set_option maxHeartbeats 1000000 in
theorem con_joined {p q : Int} {x y : Nat} {w : World} (hp : p = (x : Int)) (hq : q = (y : Int)) :
    Calls Try.prog 19 #[.int .u64 p, .int .u64 q] w fun e w' => e = .returned (.agg (u8s (wdsL x y)).toArray) ∧ Below w.heap.size w w' := by
  subst hp hq
  have hz := zero_16.out
  have R0 := (Blk.new w (u8s (List.replicate 16 0)) 22 w.heap.size rfl).alloc (.cells (u8s (List.replicate 16 0)).toArray 22)
  have V0 := Blk.new (w.alloc (.cells (u8s (List.replicate 16 0)).toArray 22)) (u8s (List.replicate 16 0)) 22 (w.heap.size + 1) (by simp)
  have bel : Below w.heap.size w ((w.alloc (.cells (u8s (List.replicate 16 0)).toArray 22)).alloc (.cells (u8s (List.replicate 16 0)).toArray 22)) := (((Below.refl _ _).alloc (Nat.le_refl _) _).alloc (by simp) _)
  generalize (u8s (List.replicate 16 0)).toArray = cs at hz bel R0 V0
  go_enter Try.func19, Try.ntmps19
  go_wp2_with fail
  clear hz
  obtain ⟨W, hW⟩ : ∃ z, z = (w.alloc (Obj.cells cs 22)).alloc (Obj.cells cs 22) := ⟨_, rfl⟩
  rw [← hW] at R0 V0 bel ⊢
  clear hW
  rw [← wdsZ_0 x y] at V0
  go_loopw [7] (fun iv wx => ∃ k : Nat, k ≤ 8 ∧ iv = .int .i64 k ∧ Blk wx (w.heap.size + 1) (u8s (wdsZ x y k)) ∧ Blk wx w.heap.size (u8s (List.replicate 16 0)) ∧ Below w.heap.size w wx) (fun iv _ => 8 - (intOf iv).toNat)
  case atStart => exact ⟨0, by omega, rfl, V0, R0, bel⟩
  case round =>
    clear V0 R0 bel
    obtain ⟨k, hk, rfl, V, R, bel⟩ := hrel
    by_cases hkl : k < 8
    · have g1 : (k : Int) < 8 := by omega
      have g2 : (0 : Int) ≤ (k : Int) := by omega
      have g4 : (k : Int) < 16 := by omega
      have i2 : IntKind.i64.wrap (8 + (k : Int)) = ((8 + k : Nat) : Int) := by rw [IntKind.wrap_i64]; omega
      have l1 : ((8 + k : Nat) : Int) < 16 := by omega
      have k1 : (0 : Int) ≤ ((8 + k : Nat) : Int) := by omega
      have j1 : IntKind.i64.wrap (8 * (k : Int)) = 8 * (k : Int) := by rw [IntKind.wrap_i64]; omega
      have HS1 : Hid _ := wdsZ_set (x := x) (y := y) hkl
      have HS2 : Hid _ := wdsY_set (x := x) (y := y) hkl
      obtain ⟨m, hm⟩ : ∃ m, 56 - 8 * k = m := ⟨_, rfl⟩
      rw [hm] at HS1 HS2
      have j2 : IntKind.i64.wrap (56 - 8 * (k : Int)) = (m : Int) := by rw [IntKind.wrap_i64]; omega
      have j3 : ¬ (m : Int) < 0 := by omega
      have j4 : min m 64 = m := by omega
      obtain ⟨p, hp⟩ : ∃ p, ((x / 2 ^ m % 256 : Nat) : Int) = p := ⟨_, rfl⟩
      obtain ⟨q, hq⟩ : ∃ q, ((y / 2 ^ m % 256 : Nat) : Int) = q := ⟨_, rfl⟩
      have z1 : IntKind.u8.wrap ((x : Int) / 2 ^ m) = p := by rw [IntKind.wrap_u8, ← hp]; simp
      have z2 : IntKind.u8.wrap ((y : Int) / 2 ^ m) = q := by rw [IntKind.wrap_u8, ← hq]; simp
      rw [hp] at HS1
      rw [hq] at HS2
      have lv := V.lt
      have c1 := V.cell k _ (u8s_get _ _ (by rw [wdsZ_len]; omega))
      have f1 := V.frozen k
      obtain ⟨n, hn⟩ : ∃ n, 8 + k = n := ⟨_, rfl⟩
      have HNk : Hid (n ≠ k) := by show n ≠ k; omega
      have V2 := V.setb k p
      rw [HS1.out] at V2
      have c2 := V2.cell n _ (u8s_get _ _ (by rw [wdsY_len]; omega))
      have f2 := V2.frozen n
      have lv2 := V2.lt
      rw [hn] at i2 l1 k1 HS2
      have V3 := V2.setb n q
      rw [HS2.out] at V3
      replace R := (R.other ⟨w.heap.size + 1, k, none⟩ (.int .u8 p) (by show w.heap.size ≠ w.heap.size + 1; omega)).other ⟨w.heap.size + 1, n, none⟩ (.int .u8 q) (by show w.heap.size ≠ w.heap.size + 1; omega)
      replace bel := (bel.setCell (p := ⟨w.heap.size + 1, k, none⟩) (by show w.heap.size ≤ w.heap.size + 1; omega) (.int .u8 p)).setCell (p := ⟨w.heap.size + 1, n, none⟩) (by show w.heap.size ≤ w.heap.size + 1; omega) (.int .u8 q)
      have HV3 : Hid _ := V3
      clear V V2 V3 hm hp hq hn HS1 HS2
      go_wp2_with fail
      go_roundw
      case rel => exact ⟨k + 1, by omega, by go_num, HV3.out, R, bel⟩
      case measure => simp [intOf]; omega
    · have HI : Hid (k = 8) := by show k = 8; omega
      have g1 : (8 : Int) ≤ (k : Int) := by omega
      rw [HI.out, wdsZ_8] at V
      obtain ⟨F, hF⟩ : ∃ F, u8s (wdsL x y) = F := ⟨_, rfl⟩
      have HF : Hid (u8s (wdsL x y) = F) := hF
      have HFl : Hid (F.length = 16) := by rw [← hF, List.length_map]; exact wdsL_len x y
      have HFo : Hid (F.toArray.all (·.oneCell') = true) := by rw [← hF]; exact u8_ones _
      replace V : Blk wr (w.heap.size + 1) F := by rw [← hF]; exact V
      clear hF
      obtain ⟨tR, hR⟩ := R
      have HR : Hid _ := hR
      clear hR
      go_wp2_with (first
        | (refine wpList_load_run (by rfl) (by rfl) (by rfl) (V.load Try.underlying22 rfl size_16 HFl.out) ?_
           refine wpList_store_row rfl 22 _ _ rfl w.heap.size F.toArray rfl rfl tR _ HR.out (by rw [size_16, List.size_toArray, HFl.out]) (by rw [List.size_toArray, List.size_toArray, HFl.out]; rfl) HFo.out ?_)
        | fail)
      exact bodyPost_ret (results_cell_row Try.results19 _ _ w.heap.size tR F.toArray (0, 0) _ rfl (setRow_heap _ _ _ _ _ _ HR.out) Try.underlying22 rfl (by rw [size_16, List.size_toArray, HFl.out])) rfl ⟨by rw [HF.out], below_setRow bel (by omega) _⟩
theorem con_joinedL {p q : Int} {x y : Nat} {F : List Value} {w : World} (hp : p = (x : Int)) (hq : q = (y : Int)) (hF : u8s (wdsL x y) = F) :
    Calls Try.prog 19 #[.int .u64 p, .int .u64 q] w fun e w' => e = .returned (.agg F.toArray) ∧ Below w.heap.size w w' := by
  subst hF
  exact con_joined hp hq
set_option linter.unusedSimpArgs false in
set_option maxRecDepth 100000 in
set_option maxHeartbeats 1000000 in
theorem con_lengths {m n : Nat} {F : List Value} {w : World} (hm : m ≤ 100000000000) (hn : n ≤ 100000000000) (hF : u8s (wdsL (8 * m) (8 * n)) = F) :
    Calls Try.prog 24 #[.int .i64 (m : Int), .int .i64 (n : Int)] w fun e w' => e = .returned (.agg F.toArray) ∧ Below w.heap.size w w' := by
  have HF : Hid (u8s (wdsL (8 * m) (8 * n)) = F) := hF
  have HFl : Hid (F.length = 16) := by rw [← hF, List.length_map]; exact wdsL_len _ _
  have HFo : Hid (F.toArray.all (·.oneCell') = true) := by rw [← hF]; exact u8_ones _
  clear hF
  have hz := zero_16.out
  have R0 := Blk.new w (u8s (List.replicate 16 0)) 22 w.heap.size rfl
  have bel : Below w.heap.size w (w.alloc (.cells (u8s (List.replicate 16 0)).toArray 22)) := (Below.refl _ _).alloc (Nat.le_refl _) _
  obtain ⟨Z, hZ⟩ : ∃ Z, (u8s (List.replicate 16 0)) = Z := ⟨_, rfl⟩
  have HZl : Hid (Z.length = 16) := by rw [← hZ]; rfl
  rw [hZ] at hz R0 bel
  clear hZ
  have w1 : IntKind.u64.wrap (m : Int) = (m : Int) := by rw [IntKind.wrap_u64]; omega
  have w2 : IntKind.u64.wrap (n : Int) = (n : Int) := by rw [IntKind.wrap_u64]; omega
  have w3 : IntKind.u64.wrap ((m : Int) * 8) = ((8 * m : Nat) : Int) := by rw [IntKind.wrap_u64]; omega
  have w4 : IntKind.u64.wrap ((n : Int) * 8) = ((8 * n : Nat) : Int) := by rw [IntKind.wrap_u64]; omega
  obtain ⟨p, hp⟩ : ∃ p, ((8 * m : Nat) : Int) = p := ⟨_, rfl⟩
  obtain ⟨q, hq⟩ : ∃ q, ((8 * n : Nat) : Int) = q := ⟨_, rfl⟩
  have HP : Hid (p = ((8 * m : Nat) : Int)) := hp.symm
  have HQ : Hid (q = ((8 * n : Nat) : Int)) := hq.symm
  rw [hp] at w3
  rw [hq] at w4
  clear hp hq
  go_enter Try.func24, Try.ntmps24
  go_upto_region 1 with fail
  generalize w.alloc (.cells Z.toArray 22) = W at *
  clear hz
  go_wp2_with fail
  refine (con_joinedL HP.out HQ.out HF.out).mono ?_
  rintro e w5 ⟨rfl, hb⟩
  replace R0 := R0.later hb
  replace bel := below_step bel hb
  clear hb
  obtain ⟨tR, hR⟩ := R0
  have HR : Hid _ := hR
  clear hR
  go_wp2_with (first
    | (refine wpList_store_row rfl 22 _ _ rfl w.heap.size F.toArray rfl rfl tR Z.toArray HR.out (by rw [size_16, List.size_toArray, HFl.out]) (by rw [List.size_toArray, List.size_toArray, HFl.out, HZl.out]) HFo.out ?_)
    | fail)
  exact bodyPost_ret (results_cell_row Try.results24 _ _ w.heap.size tR F.toArray (0, 0) _ rfl (setRow_heap _ _ _ _ _ _ HR.out) Try.underlying22 rfl (by rw [size_16, List.size_toArray, HFl.out])) rfl ⟨rfl, below_setRow bel (by omega) _⟩
end Go.Proofs.Ytpfmoakapdfdaaa
