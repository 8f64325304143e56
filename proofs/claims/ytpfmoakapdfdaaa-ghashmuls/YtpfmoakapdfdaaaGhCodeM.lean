/- The program's Mul. -/
import Derived.Test.YtpfmoakapdfdaaaRows
import Derived.Test.YtpfmoakapdfdaaaGhCodeJ
import Derived.Deep.WholeRow
import Derived.Deep.RegionHeld3
import Derived.Deep.DeepCutAuto
import Derived.Deep.DeepFit
namespace Go.Proofs.Ytpfmoakapdfdaaa
open Go.RowKit

set_option linter.unusedSimpArgs false in
set_option maxRecDepth 100000 in
set_option maxHeartbeats 2000000 in
theorem con_Mul {A B : List Int} {w : World} (lA : A.length = 16) (bA : byt A) (lB : B.length = 16) (bB : byt B) :
    Calls Try.prog 8 #[.agg (u8s A).toArray, .agg (u8s B).toArray] w fun e w' => e = .returned (.agg (u8s (mulB A B)).toArray) ∧ Below w.heap.size w w' := by
  obtain ⟨FA, hFA⟩ : ∃ F, u8s A = F := ⟨_, rfl⟩
  obtain ⟨FB, hFB⟩ : ∃ F, u8s B = F := ⟨_, rfl⟩
  have FAh : Hid (u8s A = FA) := hFA
  have FBh : Hid (u8s B = FB) := hFB
  have FAl : Hid (FA.length = 16) := by rw [← hFA, List.length_map]; exact lA
  have HA : Hid (byt A ∧ A.length = 16) := ⟨bA, lA⟩
  have HB : Hid (byt B ∧ B.length = 16) := ⟨bB, lB⟩
  rw [hFA, hFB]
  clear hFA hFB lA lB bA bB
  have hz := zero_16.out
  have B0 := ((Blk.new w FA 22 w.heap.size rfl).alloc (.cells FB.toArray 22)).alloc (.cells (u8s (List.replicate 16 0)).toArray 22)
  have B1 := (Blk.new (w.alloc (.cells FA.toArray 22)) FB 22 (w.heap.size + 1) (by simp)).alloc (.cells (u8s (List.replicate 16 0)).toArray 22)
  have R0 := Blk.new ((w.alloc (.cells FA.toArray 22)).alloc (.cells FB.toArray 22)) (u8s (List.replicate 16 0)) 22 (w.heap.size + 1 + 1) (by simp)
  have bel : Below w.heap.size w (((w.alloc (.cells FA.toArray 22)).alloc (.cells FB.toArray 22)).alloc (.cells (u8s (List.replicate 16 0)).toArray 22)) := ((((Below.refl _ _).alloc (Nat.le_refl _) _).alloc (by simp) _).alloc (by simp; omega) _)
  obtain ⟨Z, hZ⟩ : ∃ Z, (u8s (List.replicate 16 0)) = Z := ⟨_, rfl⟩
  have HZl : Hid (Z.length = 16) := by rw [← hZ]; rfl
  rw [hZ] at hz B0 B1 R0 bel
  clear hZ
  go_enter Try.func8, Try.ntmps8
  go_upto_region 1 with fail
  generalize (((w.alloc (.cells FA.toArray 22)).alloc (.cells FB.toArray 22)).alloc (.cells Z.toArray 22)) = W at *
  clear hz
  go_wp2_with (first | (refine wpList_load_run (by rfl) (by rfl) (by rfl) (B0.load Try.underlying22 rfl size_16 FAl.out) ?_) | fail)
  refine (con_halves FAh.out HA.out.2 HA.out.1).mono ?_
  rintro e w1 ⟨rfl, hb⟩
  replace B1 := B1.later hb
  replace R0 := R0.later hb
  replace bel := below_step bel hb
  clear hb B0
  obtain ⟨h0, hh0⟩ : ∃ z, rvI (blkN A) 63 = z := ⟨_, rfl⟩
  obtain ⟨l0, hl0⟩ : ∃ z, rvI (blkN A) 127 = z := ⟨_, rfl⟩
  have Hh0 : Hid (h0 = rvI (ttN 0 (blkN A)) 63) := hh0.symm
  have Hl0 : Hid (l0 = rvI (ttN 0 (blkN A)) 127) := hl0.symm
  rw [hh0, hl0]
  clear hh0 hl0
  rw [← FBh.out] at B1
  have HB1 : Hid (Blk w1 (w.heap.size + 1) (u8s B)) := B1
  have lv := B1.lt
  clear B1
  go_wp2_with fail
  go_loopw [5, 6, 7, 8, 16] (fun hv lv sv tv iv wx => ∃ (i : Nat) (x y s t : Int), i ≤ 128 ∧ iv = .int .i64 i ∧ hv = .int .u64 x ∧ lv = .int .u64 y ∧ sv = .int .u64 s ∧ tv = .int .u64 t ∧ Hid (x = rvI (ttN i (blkN A)) 63) ∧ Hid (y = rvI (ttN i (blkN A)) 127) ∧ Hid (s = rvI (prP (blkN A) (blkN B) i) 63) ∧ Hid (t = rvI (prP (blkN A) (blkN B) i) 127) ∧ wx = w1) (fun _ _ _ _ iv _ => 128 - (intOf iv).toNat)
  case atStart => exact ⟨0, h0, l0, 0, 0, by omega, rfl, rfl, rfl, rfl, rfl, Hh0, Hl0, (rvI_0 63).symm, (rvI_0 127).symm, rfl⟩
  case round =>
    clear Hh0 Hl0
    obtain ⟨i, x, y, s, t, hi, rfl, rfl, rfl, rfl, rfl, HX, HY, HS, HT, hw⟩ := hrel
    rw [hw]
    clear hw
    by_cases hil : i < 128
    · have g1 : (i : Int) < 128 := by omega
      have q1 : (i : Int).tdiv 8 = ((i / 8 : Nat) : Int) := by rw [Int.tdiv_eq_ediv_of_nonneg (by omega)]; omega
      have q2 : (0 : Int) ≤ ((i / 8 : Nat) : Int) := by omega
      have q3 : ((i / 8 : Nat) : Int) < 16 := by omega
      have m1 : (i : Int).tmod 8 = ((i % 8 : Nat) : Int) := by rw [Int.tmod_eq_emod_of_nonneg (by omega)]; omega
      obtain ⟨n, hn⟩ : ∃ n, 7 - i % 8 = n := ⟨_, rfl⟩
      have m2 : IntKind.i64.wrap (7 - ((i % 8 : Nat) : Int)) = (n : Int) := by rw [IntKind.wrap_i64]; omega
      have j3 : ¬ (n : Int) < 0 := by omega
      have j4 : min n 8 = n := by omega
      have cb := HB1.out.cell (i / 8) _ (u8s_get _ _ (by rw [HB.out.2]; omega))
      have z1 := coef_bit HB.out.1 i hn.symm
      have z2 := mask_negZ (cbB B i) z1
      have HBt : Hid ((blkN B).testBit i = cbB B i) := by show _ = _; rw [blkN_bit]; simp [hil]
      obtain ⟨m, hm⟩ : ∃ m, maskI (cbB B i) = m := ⟨_, rfl⟩
      have HM : Hid (maskI ((blkN B).testBit i) = m) := by show _ = _; rw [HBt.out]; exact hm
      rw [hm] at z2
      obtain ⟨c, hc⟩ : ∃ c, B.getD (i / 8) 0 = c := ⟨_, rfl⟩
      rw [hc] at cb z2
      obtain ⟨d, hd⟩ : ∃ d, i / 8 = d := ⟨_, rfl⟩
      rw [hd] at cb q1 q2 q3
      obtain ⟨r, hr⟩ : ∃ r, i % 8 = r := ⟨_, rfl⟩
      rw [hr] at m1 m2
      clear hm hc hd hr hn z1 HBt
      have HS2 : Hid (bits .xor .u64 s (bits .and .u64 x m) = rvI (prP (blkN A) (blkN B) (i + 1)) 63) := by show _ = _; rw [prP_next, ← xor_rvI, ← and_mask, HS.out, HX.out, HM.out]
      have HT2 : Hid (bits .xor .u64 t (bits .and .u64 y m) = rvI (prP (blkN A) (blkN B) (i + 1)) 127) := by show _ = _; rw [prP_next, ← xor_rvI, ← and_mask, HT.out, HY.out, HM.out]
      clear HS HT HM
      go_wp2_with fail
      refine (con_timesX HX.out HY.out).mono ?_
      rintro e w2 ⟨p, q, rfl, hp, hq, hw⟩
      rw [hw]
      have HP : Hid _ := hp
      have HQ : Hid _ := hq
      clear hp hq hw HX HY
      go_wp2_with fail
      go_roundw
      case rel => exact ⟨i + 1, p, q, _, _, by omega, by go_num, rfl, rfl, rfl, rfl, HP, HQ, HS2, HT2, trivial⟩
      case measure => simp [intOf]; omega
    · have HI : Hid (i = 128) := by show i = 128; omega
      have g1 : (128 : Int) ≤ (i : Int) := by omega
      have HS2 : Hid (s = ((rvB (prP (blkN A) (blkN B) 128) 63 : Nat) : Int)) := by show s = _; rw [HS.out, HI.out]; rfl
      have HT2 : Hid (t = ((rvB (prP (blkN A) (blkN B) 128) 127 : Nat) : Int)) := by show t = _; rw [HT.out, HI.out]; rfl
      obtain ⟨F, hF⟩ : ∃ F, u8s (mulB A B) = F := ⟨_, rfl⟩
      have HF : Hid (u8s (mulB A B) = F) := hF
      have HFl : Hid (F.length = 16) := by rw [← hF, List.length_map]; exact mulB_len A B
      have HFo : Hid (F.toArray.all (·.oneCell') = true) := by rw [← hF]; exact u8_ones _
      have HF2 : Hid (u8s (wdsL (rvB (prP (blkN A) (blkN B) 128) 63) (rvB (prP (blkN A) (blkN B) 128) 127)) = F) := by show _ = _; rw [wds_of, prP_all]; exact hF
      clear hF HX HY HS HT
      go_wp2_with fail
      refine (con_joinedL HS2.out HT2.out HF2.out).mono ?_
      rintro e w2 ⟨rfl, hb⟩
      replace R0 := R0.later hb
      replace bel := below_step bel hb
      clear hb
      obtain ⟨tR, hR⟩ := R0
      have HR : Hid _ := hR
      clear hR
      go_wp2_with (first
        | (refine wpList_store_row rfl 22 _ _ rfl (w.heap.size + 1 + 1) F.toArray rfl rfl tR Z.toArray HR.out (by rw [size_16, List.size_toArray, HFl.out]) (by rw [List.size_toArray, List.size_toArray, HFl.out, HZl.out]) HFo.out ?_)
        | fail)
      exact bodyPost_ret (results_cell_row Try.results8 _ _ (w.heap.size + 1 + 1) tR F.toArray (0, 0) _ rfl (setRow_heap _ _ _ _ _ _ HR.out) Try.underlying22 rfl (by rw [size_16, List.size_toArray, HFl.out])) rfl ⟨by rw [HF.out], below_setRow bel (by omega) _⟩
theorem con_MulG {A B : List Int} {F G K : List Value} {w : World} (hF : u8s A = F) (hG : u8s B = G) (hK : u8s (mulB A B) = K) (lA : A.length = 16) (bA : byt A) (lB : B.length = 16) (bB : byt B) :
    Calls Try.prog 8 #[.agg F.toArray, .agg G.toArray] w fun e w' => e = .returned (.agg K.toArray) ∧ Below w.heap.size w w' := by
  subst hF hG hK
  exact con_Mul lA bA lB bB
end Go.Proofs.Ytpfmoakapdfdaaa
