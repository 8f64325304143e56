/- The program's xored and substituted. -/
import Derived.Test.YtogbmekgmjmonaaRows
import Derived.Test.YtogbmekgmjmonaaAeCodeL
import Derived.Test.YtogbmekgmjmonaaAeLaneG
import Derived.Test.YtogbmekgmjmonaaWpRowG
import Derived.Deep.WholeRow
import Derived.Deep.RegionHeld3
import Derived.Deep.DeepCutAuto
import Derived.Deep.DeepFit
namespace Go.Proofs.Ytogbmekgmjmonaa
open Go.RowKit

set_option linter.unusedSimpArgs false in
set_option maxRecDepth 100000 in
set_option maxHeartbeats 2000000 in
theorem con_xored {A B : List Int} {w : World} (lA : A.length = 16) (lB : B.length = 16) :
    Calls Try.prog 41 #[.agg (u8s A).toArray, .agg (u8s B).toArray] w fun e w' => e = .returned (.agg (u8s (xkN A B)).toArray) ∧ Below w.heap.size w w' := by
  obtain ⟨FB, hFB⟩ : ∃ F, u8s B = F := ⟨_, rfl⟩
  have FBh : Hid (u8s B = FB) := hFB
  have HA : Hid (A.length = 16) := lA
  have HB : Hid (B.length = 16) := lB
  rw [hFB]
  clear hFB lA lB
  have hz := zero_16.out
  have B0 := ((Blk.new w (u8s A) 42 w.heap.size rfl).alloc (.cells FB.toArray 42)).alloc (.cells (u8s (List.replicate 16 0)).toArray 42)
  have B1 := (Blk.new (w.alloc (.cells (u8s A).toArray 42)) FB 42 (w.heap.size + 1) (by simp)).alloc (.cells (u8s (List.replicate 16 0)).toArray 42)
  have R0 := Blk.new ((w.alloc (.cells (u8s A).toArray 42)).alloc (.cells FB.toArray 42)) (u8s (List.replicate 16 0)) 42 (w.heap.size + 1 + 1) (by simp)
  have bel : Below w.heap.size w (((w.alloc (.cells (u8s A).toArray 42)).alloc (.cells FB.toArray 42)).alloc (.cells (u8s (List.replicate 16 0)).toArray 42)) := ((((Below.refl _ _).alloc (Nat.le_refl _) _).alloc (by simp) _).alloc (by simp; omega) _)
  obtain ⟨Z, hZ⟩ : ∃ Z, (u8s (List.replicate 16 0)) = Z := ⟨_, rfl⟩
  have HZl : Hid (Z.length = 16) := by rw [← hZ]; rfl
  rw [hZ] at hz B0 B1 R0 bel
  clear hZ
  generalize hcs : (u8s A).toArray = cs at B0 B1 R0 bel ⊢
  clear hcs
  go_enter Try.func41, Try.ntmps41
  go_upto_region 1 with fail
  generalize (((w.alloc (.cells cs 42)).alloc (.cells FB.toArray 42)).alloc (.cells Z.toArray 42)) = W at *
  clear hz
  rw [← xkZ_0 (Y := B) HA.out] at B0
  go_wp2_with fail
  go_loopw [6] (fun iv wx => ∃ k : Nat, k ≤ 16 ∧ iv = .int .i64 k ∧ Blk wx w.heap.size (u8s (xkZ A B k)) ∧ Blk wx (w.heap.size + 1) FB ∧ Blk wx (w.heap.size + 1 + 1) Z ∧ Below w.heap.size w wx) (fun iv _ => 16 - (intOf iv).toNat)
  case atStart => exact ⟨0, by omega, rfl, B0, B1, R0, bel⟩
  case round =>
    clear B0 B1 R0 bel
    obtain ⟨k, hk, rfl, B0, B1, R0, bel⟩ := hrel
    by_cases hkl : k < 16
    · have gB : (k : Int) < 16 := by omega
      have g0 : (0 : Int) ≤ (k : Int) := by omega
      have g3 : (k : Int).toNat = k := by omega
      have gk : IntKind.i64.wrap ((k : Int) + 1) = (k : Int) + 1 := by rw [IntKind.wrap_i64]; omega
      have HS : Hid _ := xkZ_set (X := A) (Y := B) (k := k)
      have cA := B0.cell k _ (u8s_get (xkZ A B k) k (by rw [xkZ_len]; exact hkl))
      rw [xkZ_get hkl] at cA
      have cB := B1.cell k _ (by rw [← FBh.out]; exact u8s_get B k (by rw [HB.out]; exact hkl))
      obtain ⟨x, hx⟩ : ∃ x, A.getD k 0 = x := ⟨_, rfl⟩
      obtain ⟨y, hy⟩ : ∃ y, B.getD k 0 = y := ⟨_, rfl⟩
      rw [hx] at cA HS
      rw [hy] at cB HS
      clear hx hy
      have fz := B0.frozen k
      have l0 := B0.lt
      have l1 := B1.lt
      go_upto_region 4 with fail
      go_region
      all_goals go_wp2_with fail
      all_goals go_roundw
      case rel =>
        replace B0 := B0.setb k (bits .xor .u8 x y)
        rw [HS.out] at B0
        exact ⟨k + 1, by omega, by go_num, B0.drew, (B1.other _ _ (by show w.heap.size + 1 ≠ w.heap.size; omega)).drew, (R0.other _ _ (by show w.heap.size + 1 + 1 ≠ w.heap.size; omega)).drew, (bel.setCell (by show w.heap.size ≤ w.heap.size; omega) _).drew⟩
      case measure => simp [intOf]; omega
    · have HK : Hid (k = 16) := by show k = 16; omega
      have gB : ¬ (k : Int) < 16 := by omega
      rw [HK.out] at B0
      obtain ⟨F, hF⟩ : ∃ F, u8s (xkN A B) = F := ⟨_, rfl⟩
      have HF : Hid (u8s (xkN A B) = F) := hF
      have HFl : Hid (F.length = 16) := by rw [← hF, List.length_map]; exact xkZ_len _ _ 16
      have HFo : Hid (F.toArray.all (·.oneCell') = true) := by rw [← hF]; exact u8_ones _
      replace B0 : Blk wr w.heap.size F := by rw [← hF]; exact B0
      clear hF
      obtain ⟨tR, hR⟩ := R0
      have HR : Hid _ := hR
      clear hR
      go_wp2_with (first
        | (refine wpList_load_run (by rfl) (by rfl) (by rfl) (B0.load Try.underlying42 rfl size_16 HFl.out) ?_
           refine wpList_store_row rfl 42 _ _ rfl (w.heap.size + 1 + 1) F.toArray rfl rfl tR Z.toArray HR.out (by rw [size_16, List.size_toArray, HFl.out]) (by rw [List.size_toArray, List.size_toArray, HFl.out, HZl.out]) HFo.out ?_)
        | fail)
      exact bodyPost_ret (results_cell_row Try.results41 _ _ (w.heap.size + 1 + 1) tR F.toArray (0, 0) _ rfl (setRow_heap _ _ _ _ _ _ HR.out) Try.underlying42 rfl (by rw [size_16, List.size_toArray, HFl.out])) rfl ⟨by rw [HF.out], below_setRow bel (by omega) _⟩
theorem con_xoredL {A B : List Int} {F G K : List Value} {w : World} (hF : u8s A = F) (hG : u8s B = G) (hK : u8s (xkN A B) = K) (lA : A.length = 16) (lB : B.length = 16) :
    Calls Try.prog 41 #[.agg F.toArray, .agg G.toArray] w fun e w' => e = .returned (.agg K.toArray) ∧ Below w.heap.size w w' := by
  subst hF hG hK
  exact con_xored lA lB
set_option linter.unusedSimpArgs false in
set_option maxRecDepth 100000 in
set_option maxHeartbeats 2000000 in
theorem con_substituted {S : List Int} {w : World} (l : S.length = 16) (b : byt S) :
    Calls Try.prog 44 #[.agg (u8s S).toArray] w fun e w' => e = .returned (.agg (u8s (sboxN S)).toArray) ∧ Below w.heap.size w w' := by
  have hz := zero_16.out
  have lS : Hid (S.length = 16) := l
  have HSb : Hid (byt S) := b
  clear l b
  have V0 := (Blk.new w (u8s S) 42 w.heap.size rfl).alloc (.cells (u8s (List.replicate 16 0)).toArray 42)
  have R0 := Blk.new (w.alloc (.cells (u8s S).toArray 42)) (u8s (List.replicate 16 0)) 42 (w.heap.size + 1) (by simp)
  have bel : Below w.heap.size w ((w.alloc (.cells (u8s S).toArray 42)).alloc (.cells (u8s (List.replicate 16 0)).toArray 42)) := (((Below.refl _ _).alloc (Nat.le_refl _) _).alloc (by simp) _)
  generalize (u8s (List.replicate 16 0)).toArray = cs at hz bel R0 V0
  obtain ⟨ds, hds⟩ : ∃ z, (u8s S).toArray = z := ⟨_, rfl⟩
  rw [hds] at R0 V0 bel ⊢
  clear hds
  go_enter Try.func44, Try.ntmps44
  go_wp2_with fail
  obtain ⟨W, hW⟩ : ∃ z, z = (w.alloc (Obj.cells ds 42)).alloc (Obj.cells cs 42) := ⟨_, rfl⟩
  rw [← hW] at R0 V0 bel ⊢
  clear hW hz
  rw [← sbZ_0 lS.out] at V0
  go_loopw [7] (fun hv wx => ∃ h : Nat, h ≤ 2 ∧ hv = .int .i64 h ∧ Blk wx w.heap.size (u8s (sbZ S (8 * h))) ∧ Blk wx (w.heap.size + 1) (u8s (List.replicate 16 0)) ∧ Below w.heap.size w wx) (fun hv _ => 2 - (intOf hv).toNat)
  case atStart => exact ⟨0, by omega, rfl, V0, R0, bel⟩
  case round =>
    clear V0 R0 bel
    obtain ⟨h, hh, rfl, V0, R0, bel⟩ := hrel
    by_cases hhl : h < 2
    · have g1 : (h : Int) < 2 := by omega
      have i1 : IntKind.i64.wrap (8 * (h : Int)) = 8 * (h : Int) := by rw [IntKind.wrap_i64]; omega
      go_wp2_with fail
      obtain ⟨W1, hW1⟩ : ∃ z, z = wr := ⟨_, rfl⟩
      rw [← hW1] at V0 R0 bel ⊢
      have HV0 : Hid (Blk W1 w.heap.size (u8s (sbZ S (8 * h)))) := V0
      clear hW1
      go_loopw [4, 10] (fun lv iv wx => ∃ (i : Nat) (x : Int), i ≤ 8 ∧ iv = .int .i64 i ∧ lv = .int .u64 x ∧ Hid (x = ((jn (rvN S (8 * h) i) : Nat) : Int)) ∧ wx = W1) (fun _ iv _ => 8 - (intOf iv).toNat)
      case atStart => exact ⟨0, 0, by omega, rfl, rfl, rfl, rfl⟩
      case round =>
        obtain ⟨i, x, hi, rfl, rfl, HX, hw⟩ := hrel
        rw [hw]
        clear hw
        by_cases hil : i < 8
        · have g2 : (i : Int) < 8 := by omega
          have i2 : IntKind.i64.wrap (8 * (h : Int) + (i : Int)) = ((8 * h + i : Nat) : Int) := by rw [IntKind.wrap_i64]; omega
          have l1 : ((8 * h + i : Nat) : Int) < 16 := by omega
          have k1 : (0 : Int) ≤ ((8 * h + i : Nat) : Int) := by omega
          have cv := HV0.out.cell (8 * h + i) _ (u8s_get _ _ (by rw [sbZ_len]; omega))
          rw [sbZ_hi (by omega) (by omega)] at cv
          have yb := HSb.out (8 * h + i)
          have HO : Hid _ := or_low (rvN_bd HSb.out (8 * h) hil) yb
          rw [← HX.out] at HO
          have HN : Hid (((jn (rvN S (8 * h) (i + 1)) : Nat) : Int) = (((S.getD (8 * h + i) 0).toNat + 256 * jn (rvN S (8 * h) i) : Nat) : Int)) := rfl
          obtain ⟨y, hy⟩ : ∃ y, S.getD (8 * h + i) 0 = y := ⟨_, rfl⟩
          obtain ⟨n, hn⟩ : ∃ n, 8 * h + i = n := ⟨_, rfl⟩
          rw [hy] at cv yb HO HN
          rw [hn] at cv i2 l1 k1
          have wy : IntKind.u64.wrap y = y := by rw [IntKind.wrap_u64]; omega
          clear hy hn
          have lv := HV0.out.lt
          go_wp2_with fail
          go_roundw
          case rel => exact ⟨i + 1, _, by omega, by go_num, rfl, by show _ = _; rw [HN.out]; exact HO.out, trivial⟩
          case measure => simp [intOf]; omega
        · have HI : Hid (i = 8) := by show i = 8; omega
          have g2 : (8 : Int) ≤ (i : Int) := by omega
          have HL : Hid (Ln x (rvN S (8 * h) 8)) := ⟨by have := HX.out; rw [HI.out] at this; exact this, rvN_len _ _ _, rvN_lan HSb.out _ _⟩
          clear HX
          go_wp2_with fail
          refine (con_substitutes HL.out).mono ?_
          rintro e w1 ⟨c, rfl, hc, hb⟩
          have HC : Hid _ := hc
          have V1 := HV0.out.later hb
          replace R0 := R0.later hb
          replace bel := below_stepA bel hb
          clear hc hb HV0 V0 HL g2 HI
          go_wp2_with fail
          go_loopw [26] (fun iv wx => ∃ i : Nat, i ≤ 8 ∧ iv = .int .i64 i ∧ Blk wx w.heap.size (u8s (sbZ S (8 * h + i))) ∧ Blk wx (w.heap.size + 1) (u8s (List.replicate 16 0)) ∧ Below w.heap.size w wx) (fun iv _ => 8 - (intOf iv).toNat)
          case atStart => exact ⟨0, by omega, rfl, V1, R0, bel⟩
          case round =>
            clear V1 R0 bel
            obtain ⟨i, hi, rfl, V1, R0, bel⟩ := hrel
            by_cases hil : i < 8
            · have g2 : (i : Int) < 8 := by omega
              have i2 : IntKind.i64.wrap (8 * (h : Int) + (i : Int)) = ((8 * h + i : Nat) : Int) := by rw [IntKind.wrap_i64]; omega
              have l1 : ((8 * h + i : Nat) : Int) < 16 := by omega
              have k1 : (0 : Int) ≤ ((8 * h + i : Nat) : Int) := by omega
              have j1 : IntKind.i64.wrap (8 * (i : Int)) = 8 * (i : Int) := by rw [IntKind.wrap_i64]; omega
              obtain ⟨m, hm⟩ : ∃ m, 56 - 8 * i = m := ⟨_, rfl⟩
              have j2 : IntKind.i64.wrap (56 - 8 * (i : Int)) = (m : Int) := by rw [IntKind.wrap_i64]; omega
              have j3 : ¬ (m : Int) < 0 := by omega
              have j4 : min m 64 = m := by omega
              have z1 := lane_out HC.out hil hm.symm
              have HS : Hid _ := sbZ_set (X := S) (k := 8 * h + i)
              have cv := V1.cell (8 * h + i) _ (u8s_get _ _ (by rw [sbZ_len]; omega))
              have fz := V1.frozen (8 * h + i)
              obtain ⟨z, hz⟩ : ∃ z, sbN (S.getD (8 * h + i) 0) = z := ⟨_, rfl⟩
              rw [hz] at z1 HS
              obtain ⟨n, hn⟩ : ∃ n, 8 * h + i = n := ⟨_, rfl⟩
              rw [hn] at cv fz i2 l1 k1 HS V1
              have HNn : Hid (8 * h + i = n) := hn
              clear hz hm hn
              have lv := V1.lt
              have HV := V1.setb n z
              rw [HS.out] at HV
              replace R0 := R0.other ⟨w.heap.size, n, none⟩ (.int .u8 z) (by show w.heap.size + 1 ≠ w.heap.size; omega)
              replace bel := bel.setCell (p := ⟨w.heap.size, n, none⟩) (Nat.le_refl _) (.int .u8 z)
              clear V1 HS
              go_wp2_with fail
              go_roundw
              case rel => exact ⟨i + 1, by omega, by go_num, by rw [show 8 * h + (i + 1) = n + 1 by have := HNn.out; omega]; exact HV, R0, bel⟩
              case measure => simp [intOf]; omega
            · have HI : Hid (i = 8) := by show i = 8; omega
              have g2 : (8 : Int) ≤ (i : Int) := by omega
              go_wp2_with fail
              go_roundw
              case rel => exact ⟨h + 1, by omega, by go_num, by rw [HI.out, show 8 * h + 8 = 8 * (h + 1) by omega] at V1; exact V1, R0, bel⟩
              case measure => simp [intOf]; omega
    · have HH : Hid (h = 2) := by show h = 2; omega
      have g1 : (2 : Int) ≤ (h : Int) := by omega
      rw [HH.out] at V0
      obtain ⟨F, hF⟩ : ∃ F, u8s (sboxN S) = F := ⟨_, rfl⟩
      have HF : Hid (u8s (sboxN S) = F) := hF
      have HFl : Hid (F.length = 16) := by rw [← hF, List.length_map]; exact sbZ_len S 16
      have HFo : Hid (F.toArray.all (·.oneCell') = true) := by rw [← hF]; exact u8_ones _
      replace V0 : Blk wr w.heap.size F := by rw [← hF]; exact V0
      clear hF
      obtain ⟨tR, hR⟩ := R0
      have HR : Hid _ := hR
      clear hR
      go_wp2_with (first
        | (refine wpList_load_run (by rfl) (by rfl) (by rfl) (V0.load Try.underlying42 rfl size_16 HFl.out) ?_
           refine wpList_store_row rfl 42 _ _ rfl (w.heap.size + 1) F.toArray rfl rfl tR _ HR.out (by rw [size_16, List.size_toArray, HFl.out]) (by rw [List.size_toArray, List.size_toArray, HFl.out]; rfl) HFo.out ?_)
        | fail)
      exact bodyPost_ret (results_cell_row Try.results44 _ _ (w.heap.size + 1) tR F.toArray (0, 0) _ rfl (setRow_heap _ _ _ _ _ _ HR.out) Try.underlying42 rfl (by rw [size_16, List.size_toArray, HFl.out])) rfl ⟨by rw [HF.out], below_setRow bel (by omega) _⟩
end Go.Proofs.Ytogbmekgmjmonaa
