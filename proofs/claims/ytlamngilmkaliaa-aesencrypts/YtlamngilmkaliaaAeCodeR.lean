/- The program's round keys. -/
import Derived.Test.YtlamngilmkaliaaRows
import Derived.Test.YtlamngilmkaliaaAeCodeW
import Derived.Deep.WholeRow
import Derived.Deep.RegionHeld3
import Derived.Deep.DeepCutAuto
import Derived.Deep.DeepFit
namespace Go.Proofs.Ytlamngilmkaliaa
open Go.RowKit

set_option linter.unusedSimpArgs false in
set_option maxRecDepth 100000 in
set_option maxHeartbeats 4000000 in
theorem con_roundKeys {kv : Value} {K : List Int} {w : World} (hk : Bs w kv K) (bK : byt K) (l : K.length = 32) :
    Calls Try.prog 26 #[kv] w fun e w' => e = .returned (.agg (u8s (allN K 15)).toArray) ∧ Below w.heap.size w w' := by
  have HK : Hid (Bs w kv K) := hk
  have HB : Hid (byt K) := bK
  have HL : Hid (K.length = 32) := l
  clear hk bK l
  have hz := zero_240.out
  have hy := zero_60.out
  have R0 := Blk.new w (u8s (List.replicate 240 0)) 48 w.heap.size rfl
  have bel : Below w.heap.size w (w.alloc (.cells (u8s (List.replicate 240 0)).toArray 48)) := (Below.refl _ _).alloc (Nat.le_refl _) _
  obtain ⟨Z, hZ⟩ : ∃ Z, (u8s (List.replicate 240 0)) = Z := ⟨_, rfl⟩
  have HZ : Hid ((u8s (List.replicate 240 0)) = Z) := hZ
  have HZl : Hid (Z.length = 240) := by show _ = _; rw [← hZ, u8s, List.length_map, List.length_replicate]
  rw [hZ] at hz R0 bel
  clear hZ
  obtain ⟨Y, hY⟩ : ∃ Y, (w4s (List.replicate 60 0)) = Y := ⟨_, rfl⟩
  have HYl : Hid (Y.length = 60) := by rw [← hY]; rfl
  rw [hY] at hy
  clear hY
  go_enter Try.func26, Try.ntmps26
  go_upto_region 1 with fail
  generalize w.alloc (Obj.cells Z.toArray 48) = W at *
  go_wp2_with fail
  refine (con_expanded (HK.out.later bel) HB.out HL.out).mono ?_
  rintro e w1 ⟨rfl, hb⟩
  replace R0 := R0.later hb
  replace bel := below_stepA bel hb
  clear hb
  obtain ⟨F, hF⟩ : ∃ F, w4s (z2 K 60) = F := ⟨_, rfl⟩
  have HF : Hid (w4s (z2 K 60) = F) := hF
  have HFl : Hid (F.length = 60) := by rw [← hF, w4s, List.length_map]; exact z2_len K 60
  have HFo : Hid (F.toArray.all (·.oneCell') = true) := by rw [← hF]; exact w4_ones _
  rw [hF]
  clear hF
  have lr := R0.lt
  have U0 := (Blk.new w1 F 54 w1.heap.size rfl).alloc (.cells Z.toArray 48)
  have V0 := Blk.new (w1.alloc (.cells F.toArray 54)) Z 48 (w1.heap.size + 1) (by simp)
  replace R0 := (R0.alloc (.cells F.toArray 54)).alloc (.cells Z.toArray 48)
  replace bel := below_alloc (o := .cells Z.toArray 48) (below_alloc (o := .cells F.toArray 54) bel)
  go_upto_region 3 with (first
    | (refine wpList_store_row rfl 54 _ _ rfl w1.heap.size F.toArray rfl rfl 54 Y.toArray (heap_alloc_last _ _) (by rw [size_60, List.size_toArray, HFl.out]) (by rw [List.size_toArray, List.size_toArray, HFl.out, HYl.out]) HFo.out ?_; rw [World.setRow_alloc_new])
    | fail)
  obtain ⟨g, hg⟩ : ∃ g, g = w1.heap.size := ⟨_, rfl⟩
  generalize (w1.alloc (Obj.cells F.toArray 54)).alloc (Obj.cells Z.toArray 48) = W2 at *
  rw [← hg] at U0 V0 lr ⊢
  have bw := bel.size
  clear hg hz hy
  rw [← HZ.out, ← allZ_0 K] at V0
  go_wp2_with fail
  go_loopw [10] (fun iv wx => ∃ i : Nat, i ≤ 15 ∧ iv = .int .i64 i ∧ Blk wx (g + 1) (u8s (allZ K (16 * i))) ∧ Blk wx g F ∧ Blk wx w.heap.size Z ∧ Below w.heap.size w wx) (fun iv _ => 15 - (intOf iv).toNat)
  case atStart => exact ⟨0, by omega, rfl, V0, U0, R0, bel⟩
  case round =>
    clear V0 U0 R0 bel
    obtain ⟨i, hi, rfl, V0, U0, R0, bel⟩ := hrel
    by_cases hil : i < 15
    · have g1 : (i : Int) < 15 := by omega
      have g2 : (0 : Int) ≤ (i : Int) := by omega
      have i4 : IntKind.i64.wrap (4 * (i : Int)) = 4 * (i : Int) := by rw [IntKind.wrap_i64]; omega
      go_wp2_with fail
      obtain ⟨W3, hW3⟩ : ∃ z, z = wr := ⟨_, rfl⟩
      rw [← hW3] at V0 U0 R0 bel ⊢
      clear hW3
      go_loopw [13] (fun jv wx => ∃ j : Nat, j ≤ 16 ∧ jv = .int .i64 j ∧ Blk wx (g + 1) (u8s (allZ K (16 * i + j))) ∧ Blk wx g F ∧ Blk wx w.heap.size Z ∧ Below w.heap.size w wx) (fun jv _ => 16 - (intOf jv).toNat)
      case atStart => exact ⟨0, by omega, rfl, V0, U0, R0, bel⟩
      case round =>
        clear V0 U0 R0 bel
        obtain ⟨j, hj, rfl, V0, U0, R0, bel⟩ := hrel
        by_cases hjl : j < 16
        · have g3 : (j : Int) < 16 := by omega
          have g4 : (0 : Int) ≤ (j : Int) := by omega
          have q1 : (j : Int).tdiv 4 = ((j / 4 : Nat) : Int) := by rw [Int.tdiv_eq_ediv_of_nonneg (by omega)]; omega
          have q2 : IntKind.i64.wrap ((j / 4 : Nat) : Int) = ((j / 4 : Nat) : Int) := by rw [IntKind.wrap_i64]; omega
          have i5 : IntKind.i64.wrap (4 * (i : Int) + ((j / 4 : Nat) : Int)) = ((4 * i + j / 4 : Nat) : Int) := by rw [IntKind.wrap_i64]; omega
          have l5 : ((4 * i + j / 4 : Nat) : Int) < 60 := by omega
          have k5 : (0 : Int) ≤ ((4 * i + j / 4 : Nat) : Int) := by omega
          have m1 : (j : Int).tmod 4 = ((j % 4 : Nat) : Int) := by rw [Int.tmod_eq_emod_of_nonneg (by omega)]; omega
          have m2 : IntKind.i64.wrap (((j % 4 : Nat) : Int) * 8) = 8 * ((j % 4 : Nat) : Int) := by rw [IntKind.wrap_i64]; omega
          obtain ⟨m, hm⟩ : ∃ m, 24 - 8 * (j % 4) = m := ⟨_, rfl⟩
          have m3 : IntKind.i64.wrap (24 - 8 * ((j % 4 : Nat) : Int)) = (m : Int) := by rw [IntKind.wrap_i64]; omega
          have m4 : ¬ (m : Int) < 0 := by omega
          have m5 : min m 64 = m := by omega
          have m6 : min m 32 = m := by omega
          have z0 := word_out (j := 4 * i + j / 4) HB.out (show j % 4 < 4 by omega) hm.symm
          have HS : Hid _ := allZ_set (K := K) (t := 16 * i + j) rfl hjl hil
          have cu := U0.cell (4 * i + j / 4) _ (by rw [← HF.out]; exact w4s_get _ _ (by rw [z2_len]; omega))
          rw [z2_get (by omega) (by omega)] at cu
          have cv := V0.cell (16 * i + j) _ (u8s_get _ _ (by rw [allZ_len]; omega))
          have fz := V0.frozen (16 * i + j)
          obtain ⟨z, hz⟩ : ∃ z, (WN K (4 * i + j / 4)).getD (j % 4) 0 = z := ⟨_, rfl⟩
          obtain ⟨x, hx⟩ : ∃ x, wW K (4 * i + j / 4) = x := ⟨_, rfl⟩
          obtain ⟨n, hn⟩ : ∃ n, 4 * i + j / 4 = n := ⟨_, rfl⟩
          obtain ⟨d, hd⟩ : ∃ d, j % 4 = d := ⟨_, rfl⟩
          obtain ⟨e4, he4⟩ : ∃ d, j / 4 = d := ⟨_, rfl⟩
          rw [hz] at z0 HS
          rw [hx] at z0 cu
          rw [hn] at cu i5 l5 k5
          rw [hd] at m1 m2 m3
          rw [he4] at q1 q2 i5
          clear hz hx hn hd he4 hm
          have lv := V0.lt
          have lu := U0.lt
          have cv2 := cv
          have fz2 := fz
          rw [Nat.mul_comm 16 i] at cv2 fz2
          go_upto_region 10 with fail
          go_region
          all_goals go_wp2_with fail
          all_goals go_roundw
          case rel =>
            replace V0 := V0.setb (16 * i + j) z
            rw [HS.out] at V0
            replace R0 := R0.other ⟨g + 1, 16 * i + j, none⟩ (.int .u8 z) (by show w.heap.size ≠ g + 1; omega)
            replace U0 := U0.other ⟨g + 1, 16 * i + j, none⟩ (.int .u8 z) (by show g ≠ g + 1; omega)
            replace bel := bel.setCell (p := ⟨g + 1, 16 * i + j, none⟩) (by show w.heap.size ≤ g + 1; omega) (.int .u8 z)
            rw [Nat.mul_comm 16 i] at V0 R0 U0 bel
            exact ⟨j + 1, by omega, by go_num, by rw [Nat.mul_comm 16 i]; exact V0.drew, U0.drew, R0.drew, bel.drew⟩
          case measure => simp [intOf]; omega
        · have HJ : Hid (j = 16) := by show j = 16; omega
          have g3 : (16 : Int) ≤ (j : Int) := by omega
          go_wp2_with fail
          go_roundw
          case rel => exact ⟨i + 1, by omega, by go_num, by rw [HJ.out, show 16 * i + 16 = 16 * (i + 1) by omega] at V0; exact V0, U0, R0, bel⟩
          case measure => simp [intOf]; omega
    · have HI : Hid (i = 15) := by show i = 15; omega
      have g1 : (15 : Int) ≤ (i : Int) := by omega
      rw [HI.out, show 16 * 15 = 240 from rfl, allZ_240] at V0
      obtain ⟨G, hG⟩ : ∃ G, u8s (allN K 15) = G := ⟨_, rfl⟩
      have HG : Hid (u8s (allN K 15) = G) := hG
      have HGl : Hid (G.length = 240) := by show _ = _; rw [← hG, u8s, List.length_map]; exact allN_len K 15
      have HGo : Hid (G.toArray.all (·.oneCell') = true) := by rw [← hG]; exact u8_ones _
      replace V0 : Blk wr (g + 1) G := by rw [← hG]; exact V0
      clear hG
      obtain ⟨tR, hR⟩ := R0
      have HR : Hid _ := hR
      clear hR
      go_wp2_with (first
        | (refine wpList_load_run (by rfl) (by rfl) (by rfl) (V0.load Try.underlying48 rfl size_240 HGl.out) ?_
           refine wpList_store_row rfl 48 _ _ rfl w.heap.size G.toArray rfl rfl tR Z.toArray HR.out (by rw [size_240, List.size_toArray, HGl.out]) (by rw [List.size_toArray, List.size_toArray, HGl.out, HZl.out]) HGo.out ?_)
        | fail)
      exact bodyPost_ret (results_cell_row Try.results26 _ _ w.heap.size tR G.toArray (0, 0) _ rfl (setRow_heap _ _ _ _ _ _ HR.out) Try.underlying48 rfl (by rw [size_240, List.size_toArray, HGl.out])) rfl ⟨by rw [HG.out], below_setRow bel (Nat.le_refl _) _⟩
end Go.Proofs.Ytlamngilmkaliaa
