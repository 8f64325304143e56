/- The program's xored of ghash. -/
import Derived.Test.YtpfmoakapdfdaaaRows
import Derived.Test.YtpfmoakapdfdaaaGhHalf
import Derived.Test.YtpfmoakapdfdaaaTakeRow
import Derived.Deep.WholeRow
import Derived.Deep.RegionHeld3
import Derived.Deep.DeepCutAuto
import Derived.Deep.DeepFit
namespace Go.Proofs.Ytpfmoakapdfdaaa
open Go.RowKit

set_option linter.unusedSimpArgs false in
set_option maxRecDepth 100000 in
set_option maxHeartbeats 2000000 in
theorem con_gxored {A B : List Int} {w : World} (lA : A.length = 16) (lB : B.length = 16) :
    Calls Try.prog 23 #[.agg (u8s A).toArray, .agg (u8s B).toArray] w fun e w' => e = .returned (.agg (u8s (xkN A B)).toArray) ∧ Below w.heap.size w w' := by
  obtain ⟨FB, hFB⟩ : ∃ F, u8s B = F := ⟨_, rfl⟩
  have FBh : Hid (u8s B = FB) := hFB
  have HA : Hid (A.length = 16) := lA
  have HB : Hid (B.length = 16) := lB
  rw [hFB]
  clear hFB lA lB
  have hz := zero_16.out
  have B0 := ((Blk.new w (u8s A) 22 w.heap.size rfl).alloc (.cells FB.toArray 22)).alloc (.cells (u8s (List.replicate 16 0)).toArray 22)
  have B1 := (Blk.new (w.alloc (.cells (u8s A).toArray 22)) FB 22 (w.heap.size + 1) (by simp)).alloc (.cells (u8s (List.replicate 16 0)).toArray 22)
  have R0 := Blk.new ((w.alloc (.cells (u8s A).toArray 22)).alloc (.cells FB.toArray 22)) (u8s (List.replicate 16 0)) 22 (w.heap.size + 1 + 1) (by simp)
  have bel : Below w.heap.size w (((w.alloc (.cells (u8s A).toArray 22)).alloc (.cells FB.toArray 22)).alloc (.cells (u8s (List.replicate 16 0)).toArray 22)) := ((((Below.refl _ _).alloc (Nat.le_refl _) _).alloc (by simp) _).alloc (by simp; omega) _)
  obtain ⟨Z, hZ⟩ : ∃ Z, (u8s (List.replicate 16 0)) = Z := ⟨_, rfl⟩
  have HZl : Hid (Z.length = 16) := by rw [← hZ]; rfl
  rw [hZ] at hz B0 B1 R0 bel
  clear hZ
  generalize hcs : (u8s A).toArray = cs at B0 B1 R0 bel ⊢
  clear hcs
  go_enter Try.func23, Try.ntmps23
  go_upto_region 1 with fail
  generalize (((w.alloc (.cells cs 22)).alloc (.cells FB.toArray 22)).alloc (.cells Z.toArray 22)) = W at *
  clear hz
  rw [← xkZ_0 (Y := B) HA.out] at B0
  go_wp2_with fail
  go_loopw [6] (fun iv wx => ∃ k : Nat, k ≤ 16 ∧ iv = .int .i64 k ∧ Blk wx w.heap.size (u8s (xkZ A B k)) ∧ Blk wx (w.heap.size + 1) FB ∧ Blk wx (w.heap.size + 1 + 1) Z ∧ Below w.heap.size w wx) (fun iv _ => 16 - (intOf iv).toNat)
  case atStart => exact ⟨0, by omega, rfl, B0, B1, R0, bel⟩
  case round =>
    clear B0 B1 R0 bel
    obtain ⟨k, hk, rfl, B0, B1, R0, bel⟩ := hrel
    by_cases hkl : k < 16
    · have gB : (k : Int) < 16 := by omega
      have g0 : (0 : Int) ≤ (k : Int) := by omega
      have g3 : (k : Int).toNat = k := by omega
      have gk : IntKind.i64.wrap ((k : Int) + 1) = (k : Int) + 1 := by rw [IntKind.wrap_i64]; omega
      have HS : Hid _ := xkZ_set (X := A) (Y := B) (k := k)
      have cA := B0.cell k _ (u8s_get (xkZ A B k) k (by rw [xkZ_len]; exact hkl))
      rw [xkZ_get hkl] at cA
      have cB := B1.cell k _ (by rw [← FBh.out]; exact u8s_get B k (by rw [HB.out]; exact hkl))
      obtain ⟨x, hx⟩ : ∃ x, A.getD k 0 = x := ⟨_, rfl⟩
      obtain ⟨y, hy⟩ : ∃ y, B.getD k 0 = y := ⟨_, rfl⟩
      rw [hx] at cA HS
      rw [hy] at cB HS
      clear hx hy
      have fz := B0.frozen k
      have l0 := B0.lt
      have l1 := B1.lt
      go_upto_region 4 with fail
      go_region
      all_goals go_wp2_with fail
      all_goals go_roundw
      case rel =>
        replace B0 := B0.setb k (bits .xor .u8 x y)
        rw [HS.out] at B0
        exact ⟨k + 1, by omega, by go_num, B0.drew, (B1.other _ _ (by show w.heap.size + 1 ≠ w.heap.size; omega)).drew, (R0.other _ _ (by show w.heap.size + 1 + 1 ≠ w.heap.size; omega)).drew, (bel.setCell (by show w.heap.size ≤ w.heap.size; omega) _).drew⟩
      case measure => simp [intOf]; omega
    · have HK : Hid (k = 16) := by show k = 16; omega
      have gB : ¬ (k : Int) < 16 := by omega
      rw [HK.out] at B0
      obtain ⟨F, hF⟩ : ∃ F, u8s (xkN A B) = F := ⟨_, rfl⟩
      have HF : Hid (u8s (xkN A B) = F) := hF
      have HFl : Hid (F.length = 16) := by rw [← hF, List.length_map]; exact xkZ_len _ _ 16
      have HFo : Hid (F.toArray.all (·.oneCell') = true) := by rw [← hF]; exact u8_ones _
      replace B0 : Blk wr w.heap.size F := by rw [← hF]; exact B0
      clear hF
      obtain ⟨tR, hR⟩ := R0
      have HR : Hid _ := hR
      clear hR
      go_wp2_with (first
        | (refine wpList_load_run (by rfl) (by rfl) (by rfl) (B0.load Try.underlying22 rfl size_16 HFl.out) ?_
           refine wpList_store_row rfl 22 _ _ rfl (w.heap.size + 1 + 1) F.toArray rfl rfl tR Z.toArray HR.out (by rw [size_16, List.size_toArray, HFl.out]) (by rw [List.size_toArray, List.size_toArray, HFl.out, HZl.out]) HFo.out ?_)
        | fail)
      exact bodyPost_ret (results_cell_row Try.results23 _ _ (w.heap.size + 1 + 1) tR F.toArray (0, 0) _ rfl (setRow_heap _ _ _ _ _ _ HR.out) Try.underlying22 rfl (by rw [size_16, List.size_toArray, HFl.out])) rfl ⟨by rw [HF.out], below_setRow bel (by omega) _⟩
theorem con_gxoredL {A B : List Int} {F G K : List Value} {w : World} (hF : u8s A = F) (hG : u8s B = G) (hK : u8s (xkN A B) = K) (lA : A.length = 16) (lB : B.length = 16) :
    Calls Try.prog 23 #[.agg F.toArray, .agg G.toArray] w fun e w' => e = .returned (.agg K.toArray) ∧ Below w.heap.size w w' := by
  subst hF hG hK
  exact con_gxored lA lB
end Go.Proofs.Ytpfmoakapdfdaaa
