/- The program's tagOf. -/
import Derived.Test.YtogbmekgmjmonaaRows
import Derived.Test.YtogbmekgmjmonaaGcCnt
import Derived.Test.YtogbmekgmjmonaaGhCodeW
import Derived.Test.YtogbmekgmjmonaaGhNumG
import Derived.Deep.WholeRow
import Derived.Deep.RegionHeld3
import Derived.Deep.DeepCutAuto
import Derived.Deep.DeepFit
namespace Go.Proofs.Ytogbmekgmjmonaa
open Go.RowKit

theorem con_WholeL {H A B : List Int} {F E : List Value} {av bv : Value} {w : World} (hF : u8s H = F) (hE : u8s (wholeB H A B) = E) (lH : H.length = 16) (bH : byt H) (ha : Bs w av A) (bA : byt A) (hb : Bs w bv B) (bB : byt B) (lA : A.length ≤ 100000000000) (lB : B.length ≤ 100000000000) :
    Calls Try.prog 25 #[.agg F.toArray, av, bv] w fun e w' => e = .returned (.agg E.toArray) ∧ Below w.heap.size w w' := by
  subst hF hE
  exact con_Whole lH bH ha bA hb bB lA lB
theorem xkZ_at {X Y : List Int} {k : Nat} (h : k < 16) : (xkZ X Y k).getD k 0 = X.getD k 0 := by
  rw [List.getD_eq_getElem?_getD, xkZ, List.getElem?_map, List.getElem?_range h]
  simp
set_option linter.unusedSimpArgs false in
set_option maxRecDepth 100000 in
set_option maxHeartbeats 4000000 in
theorem con_tagOf {kv nv av bv : Value} {K N AD B : List Int} {w : World} (hk : Bs w kv K) (hn : Bs w nv N) (ha : Bs w av AD) (hb : Bs w bv B) (bK : byt K) (lK : K.length = 32) (bN : byt N) (lN : N.length = 12) (bA : byt AD) (bB : byt B) (lA : AD.length ≤ 100000000000) (lB : B.length ≤ 100000000000) :
    Calls Try.prog 16 #[kv, nv, av, bv] w fun e w' => ∃ g : Nat, e = .returned (.tuple #[.slice (some ⟨g, 0, none⟩) 16 16, .nilIface]) ∧ Blk w' g (u8s (tagN K N AD B)) ∧ w.heap.size ≤ g ∧ Below w.heap.size w w' := by
  have HK : Hid (Bs w kv K) := hk
  have HN : Hid (Bs w nv N) := hn
  have HVA : Hid (Bs w av AD) := ha
  have HVB : Hid (Bs w bv B) := hb
  have HKb : Hid (byt K) := bK
  have HKl : Hid (K.length = 32) := lK
  have HNb : Hid (byt N) := bN
  have HNl : Hid (N.length = 12) := lN
  have HAb : Hid (byt AD) := bA
  have HBb : Hid (byt B) := bB
  have HLA : Hid (AD.length ≤ 100000000000) := lA
  have HLB : Hid (B.length ≤ 100000000000) := lB
  clear hk hn ha hb bK lK bN lN bA bB lA lB
  have hz := zero_16.out
  obtain ⟨Z, hZ⟩ : ∃ Z, (u8s (List.replicate 16 0)) = Z := ⟨_, rfl⟩
  have HZ : Hid ((u8s (List.replicate 16 0)) = Z) := hZ
  have HZl : Hid (Z.length = 16) := by rw [← hZ]; rfl
  rw [hZ] at hz
  clear hZ
  obtain ⟨H0, hH0⟩ : ∃ H, encN K (List.replicate 16 0) 15 = H := ⟨_, rfl⟩
  have HH : Hid (byt H0 ∧ H0.length = 16) := by rw [← hH0]; exact ⟨encN_byt (byt_zeros 16) HKb.out 15, encN_len List.length_replicate 15⟩
  have HT : Hid (tagN K N AD B = xkN (wholeB H0 AD B) (rowN K N 1)) := by show _ = _; rw [← hH0]; rfl
  obtain ⟨F1, hF1⟩ : ∃ F, u8s (H0) = F := ⟨_, rfl⟩
  have F1h : Hid (u8s (H0) = F1) := hF1
  have F1l : Hid (F1.length = 16) := by show _ = _; rw [← hF1, u8s, List.length_map]; exact HH.out.2
  have F1o : Hid (F1.toArray.all (·.oneCell') = true) := by rw [← hF1]; exact u8_ones _
  clear hF1
  have F1e : Hid (u8s (encN K (List.replicate 16 0) 15) = F1) := by show _ = _; rw [hH0]; exact F1h.out
  clear hH0
  obtain ⟨F2, hF2⟩ : ∃ F, u8s (rowN K N 1) = F := ⟨_, rfl⟩
  have F2h : Hid (u8s (rowN K N 1) = F2) := hF2
  have F2l : Hid (F2.length = 16) := by show _ = _; rw [← hF2, u8s, List.length_map]; exact rowN_len _ _ _
  have F2o : Hid (F2.toArray.all (·.oneCell') = true) := by rw [← hF2]; exact u8_ones _
  clear hF2
  obtain ⟨X, hX⟩ : ∃ X, wholeB H0 AD B = X := ⟨_, rfl⟩
  have HX : Hid (X.length = 16) := by rw [← hX]; exact hashB_len _ _
  rw [hX] at HT
  have HXe : Hid (wholeB H0 AD B = X) := hX
  clear hX
  obtain ⟨F3, hF3⟩ : ∃ F, u8s (X) = F := ⟨_, rfl⟩
  have F3h : Hid (u8s (X) = F3) := hF3
  have F3l : Hid (F3.length = 16) := by show _ = _; rw [← hF3, u8s, List.length_map]; exact HX.out
  have F3o : Hid (F3.toArray.all (·.oneCell') = true) := by rw [← hF3]; exact u8_ones _
  clear hF3
  have F3e : Hid (u8s (wholeB H0 AD B) = F3) := by show _ = _; rw [HXe.out]; exact F3h.out
  clear HXe
  go_enter Try.func16, Try.ntmps16
  go_wp2_with fail
  refine (con_EncryptL HZ.out F1e.out HK.out HKb.out HKl.out List.length_replicate (byt_zeros 16)).mono ?_
  rintro e w1 ⟨rfl, bel⟩
  have HA : Hid _ := heap_alloc_last w1 (.cells Z.toArray 42)
  have lw := bel.size
  replace bel := below_setRow (below_alloc (o := .cells Z.toArray 42) bel) (show w.heap.size ≤ w1.heap.size by omega) F1.toArray
  have R1 : Blk ((w1.alloc (.cells Z.toArray 42)).setRow w1.heap.size F1.toArray) w1.heap.size F1 := ⟨_, setRow_heap _ _ _ _ _ _ HA.out⟩
  go_upto_region 2 with (first | (refine wpList_store_row rfl 42 _ _ rfl w1.heap.size F1.toArray rfl rfl 42 Z.toArray HA.out (by rw [size_16, List.size_toArray, F1l.out]) (by rw [List.size_toArray, List.size_toArray, F1l.out, HZl.out]) F1o.out ?_) | fail)
  clear HA
  obtain ⟨g1, hg1⟩ : ∃ g, g = w1.heap.size := ⟨_, rfl⟩
  rw [← hg1] at R1 bel lw  ⊢
  generalize (w1.alloc (.cells Z.toArray 42)).setRow g1 F1.toArray = w2 at *
  clear hg1
  go_wp2_with fail
  refine (con_counted (n := 1) (HK.out.later bel) HKb.out HKl.out (HN.out.later bel) HNb.out HNl.out).mono ?_
  rintro e w3 ⟨rfl, hb⟩
  rw [F2h.out]
  replace R1 := R1.later hb
  replace bel := below_step bel hb
  clear hb
  have HA : Hid _ := heap_alloc_last w3 (.cells Z.toArray 42)
  have lR1 := R1.lt
  replace R1 := (R1.alloc (.cells Z.toArray 42)).row (cs := F2.toArray) (c := w3.heap.size) (by omega)
  have lw := bel.size
  replace bel := below_setRow (below_alloc (o := .cells Z.toArray 42) bel) (show w.heap.size ≤ w3.heap.size by omega) F2.toArray
  have R2 : Blk ((w3.alloc (.cells Z.toArray 42)).setRow w3.heap.size F2.toArray) w3.heap.size F2 := ⟨_, setRow_heap _ _ _ _ _ _ HA.out⟩
  go_upto_region 5 with (first | (refine wpList_store_row rfl 42 _ _ rfl w3.heap.size F2.toArray rfl rfl 42 Z.toArray HA.out (by rw [size_16, List.size_toArray, F2l.out]) (by rw [List.size_toArray, List.size_toArray, F2l.out, HZl.out]) F2o.out ?_) | fail)
  clear HA
  obtain ⟨g2, hg2⟩ : ∃ g, g = w3.heap.size := ⟨_, rfl⟩
  rw [← hg2] at R2 bel lw R1 lR1 ⊢
  generalize (w3.alloc (.cells Z.toArray 42)).setRow g2 F2.toArray = w4 at *
  clear hg2
  go_wp2_with (first | (refine wpList_load_run (by rfl) (by rfl) (by rfl) (R1.load Try.underlying42 rfl size_16 F1l.out) ?_) | fail)
  refine (con_WholeL F1h.out F3e.out HH.out.2 HH.out.1 (HVA.out.later bel) HAb.out (HVB.out.later bel) HBb.out HLA.out HLB.out).mono ?_
  rintro e w5 ⟨rfl, hb⟩
  replace R2 := R2.later hb
  replace bel := below_step bel hb
  clear hb R1
  have HA : Hid _ := heap_alloc_last w5 (.cells Z.toArray 42)
  have lR2 := R2.lt
  replace R2 := (R2.alloc (.cells Z.toArray 42)).row (cs := F3.toArray) (c := w5.heap.size) (by omega)
  have lw := bel.size
  replace bel := below_setRow (below_alloc (o := .cells Z.toArray 42) bel) (show w.heap.size ≤ w5.heap.size by omega) F3.toArray
  have R3 : Blk ((w5.alloc (.cells Z.toArray 42)).setRow w5.heap.size F3.toArray) w5.heap.size F3 := ⟨_, setRow_heap _ _ _ _ _ _ HA.out⟩
  go_upto_region 8 with (first | (refine wpList_store_row rfl 42 _ _ rfl w5.heap.size F3.toArray rfl rfl 42 Z.toArray HA.out (by rw [size_16, List.size_toArray, F3l.out]) (by rw [List.size_toArray, List.size_toArray, F3l.out, HZl.out]) F3o.out ?_) | fail)
  clear HA
  obtain ⟨g3, hg3⟩ : ∃ g, g = w5.heap.size := ⟨_, rfl⟩
  rw [← hg3] at R3 bel lw R2 lR2 ⊢
  generalize (w5.alloc (.cells Z.toArray 42)).setRow g3 F3.toArray = w6 at *
  clear hg3
  rw [← F3h.out, ← xkZ_0 (Y := rowN K N 1) HX.out] at R3
  rw [← F2h.out] at R2
  obtain ⟨Y, hY⟩ : ∃ Y, rowN K N 1 = Y := ⟨_, rfl⟩
  have HY : Hid (Y.length = 16) := by rw [← hY]; exact rowN_len _ _ _
  rw [hY] at R2 R3 HT
  clear hY F1h F1l F1o F1e F2h F2l F2o F3h F3l F3o F3e hz
  have hg : w.heap.size ≤ g3 := by omega
  go_wp2_with fail
  go_loopw [37] (fun iv wx => ∃ k : Nat, k ≤ 16 ∧ iv = .int .i64 (k : Int) ∧ Blk wx g3 (u8s (xkZ X Y k)) ∧ Blk wx g2 (u8s Y) ∧ Below w.heap.size w wx) (fun iv _ => 16 - (intOf iv).toNat)
  case atStart => exact ⟨0, by omega, rfl, R3, R2, bel⟩
  case round =>
    clear R3 R2 bel
    obtain ⟨k, hk, rfl, R3, R2, bel⟩ := hrel
    by_cases hkl : k < 16
    · have c1 : (k : Int) < 16 := by omega
      have c2 : (0 : Int) ≤ (k : Int) := by omega
      have gi : IntKind.i64.wrap ((k : Int) + 1) = (k : Int) + 1 := by rw [IntKind.wrap_i64]; omega
      have HS : Hid _ := xkZ_set (X := X) (Y := Y) (k := k)
      have cA := R3.cell k _ (u8s_get (xkZ X Y k) k (by rw [xkZ_len]; exact hkl))
      have cB := R2.cell k _ (u8s_get Y k (by rw [HY.out]; exact hkl))
      have fz := R3.frozen k
      have l3 := R3.lt
      have l2 := R2.lt
      rw [xkZ_at (Y := Y) hkl] at cA
      obtain ⟨x, hx⟩ : ∃ x, X.getD k 0 = x := ⟨_, rfl⟩
      obtain ⟨y, hy⟩ : ∃ y, Y.getD k 0 = y := ⟨_, rfl⟩
      rw [hx] at cA HS
      rw [hy] at cB HS
      clear hx hy
      have HV : Hid (Blk (World.setCell wr ⟨g3, k, none⟩ (.int .u8 (bits .xor .u8 x y))) g3 (u8s (xkZ X Y (k + 1)))) := by rw [← HS.out]; exact R3.setb k (bits .xor .u8 x y)
      go_upto_region 11 with fail
      go_region
      all_goals go_wp2_with fail
      all_goals go_roundw
      all_goals first
        | exact ⟨k + 1, by omega, by go_num, HV.out.drew, (R2.other _ _ (by show g2 ≠ g3; omega)).drew, (bel.setCell (by show w.heap.size ≤ g3; omega) _).drew⟩
        | (simp [intOf]; omega)
    · have HI : Hid (k = 16) := by show k = 16; omega
      have c1 : ¬ (k : Int) < 16 := by omega
      rw [HI.out] at R3
      go_wp2_with fail
      refine bodyPost_ret (results_tmp2 rfl _ _ _) rfl ?_
      exact ⟨_, rfl, by rw [HT.out]; exact R3, hg, bel⟩
end Go.Proofs.Ytogbmekgmjmonaa
