/- The document's Mul: a product of blocks. -/
import Derived.Test.YtogbmekgmjmonaaRows
import Derived.Test.YtogbmekgmjmonaaGhPoly
import Derived.Test.YtogbmekgmjmonaaAeNumG
import Derived.Test.YtogbmekgmjmonaaShape
import Derived.Test.YtogbmekgmjmonaaWpRowG
import Derived.Laws.CopyOwn
import Derived.Deep.WholeRow
import Derived.Deep.RegionHeld3
import Derived.Deep.DeepCutAuto
import Derived.Deep.DeepFit
namespace Go.Proofs.Ytogbmekgmjmonaa
open Go.RowKit

theorem r10_polyL {S : List Int} {F : List Value} {w : World} (hF : u8s S = F) (l : S.length = 16) (b : byt S) :
    Calls Try.prog 49 #[.agg F.toArray] w fun e w' => ∃ (g cap : Nat), e = .returned (.slice (some ⟨g, 0, none⟩) 128 cap) ∧ 128 ≤ cap ∧ cap ≤ maxLen ∧ g < w'.heap.size ∧ (∀ j, j < 128 → w'.cell? ⟨g, j, none⟩ = some (.int .i64 (pol1 S j))) ∧ Below w.heap.size w w' := by
  subst hF
  refine (r10_poly l b).mono ?_
  rintro e w' ⟨v, rfl, own, hb⟩
  obtain ⟨g, cap, cur, rfl, h1, h2, h3, h4, h5⟩ := own_rows own (by decide)
  refine ⟨g, cap, rfl, h3, h4, h2.lt, fun j hj => h2.cell j _ ?_, hb⟩
  rw [h5 j hj, i64s_get _ j (by rw [polL_len]; exact hj), polL_get hj]
theorem made_i64 (n : Nat) : madeCells #[.int .i64 0] n = (i64s (List.replicate n 0)).toArray := by
  apply Array.ext
  · simp [madeCells]
  · intro i h1 h2
    simp [madeCells, Nat.mod_one]
theorem bit01 {p q : Int} (hp : p = 0 ∨ p = 1) (hq : q = 0 ∨ q = 1) : 0 ≤ p * q ∧ p * q ≤ 1 := by
  rcases hp with rfl | rfl <;> rcases hq with rfl | rfl <;> decide
theorem tmod2 {x : Int} (h : 0 ≤ x) : x.tmod 2 = x % 2 := Int.tmod_eq_emod_of_nonneg h
theorem par_bit {X : List Int} {V i : Nat} (hV : valN X 128 = V) (h : i < 128) : X.getD i 0 % 2 = (((V.testBit i).toNat : Nat) : Int) := by
  subst hV
  rw [val_bit X h]
  by_cases k : X.getD i 0 % 2 = 1
  · rw [k, decide_eq_true rfl]; rfl
  · rw [decide_eq_false k]
    show _ = (0 : Int)
    omega

set_option linter.unusedSimpArgs false in
set_option maxRecDepth 100000 in
set_option maxHeartbeats 4000000 in
theorem r10_Mul {A B : List Int} {w : World} (lA : A.length = 16) (bA : byt A) (lB : B.length = 16) (bB : byt B) :
    Calls Try.prog 40 #[.agg (u8s A).toArray, .agg (u8s B).toArray] w fun e w' => e = .returned (.agg (u8s (mulB A B)).toArray) ∧ Below w.heap.size w w' := by
  obtain ⟨FA, hFA⟩ : ∃ F, u8s A = F := ⟨_, rfl⟩
  obtain ⟨FB, hFB⟩ : ∃ F, u8s B = F := ⟨_, rfl⟩
  have FAh : Hid (u8s A = FA) := hFA
  have FBh : Hid (u8s B = FB) := hFB
  have FAl : Hid (FA.length = 16) := by rw [← hFA, List.length_map]; exact lA
  have FBl : Hid (FB.length = 16) := by rw [← hFB, List.length_map]; exact lB
  have HA : Hid (byt A ∧ A.length = 16) := ⟨bA, lA⟩
  have HB : Hid (byt B ∧ B.length = 16) := ⟨bB, lB⟩
  rw [hFA, hFB]
  clear hFA hFB lA lB bA bB
  have hz := zero_16.out
  have B0 := ((Blk.new w FA 42 w.heap.size rfl).alloc (.cells FB.toArray 42)).alloc (.cells (u8s (List.replicate 16 0)).toArray 42)
  have B1 := (Blk.new (w.alloc (.cells FA.toArray 42)) FB 42 (w.heap.size + 1) (by simp)).alloc (.cells (u8s (List.replicate 16 0)).toArray 42)
  have R0 := Blk.new ((w.alloc (.cells FA.toArray 42)).alloc (.cells FB.toArray 42)) (u8s (List.replicate 16 0)) 42 (w.heap.size + 1 + 1) (by simp)
  have bel : Below w.heap.size w (((w.alloc (.cells FA.toArray 42)).alloc (.cells FB.toArray 42)).alloc (.cells (u8s (List.replicate 16 0)).toArray 42)) := ((((Below.refl _ _).alloc (Nat.le_refl _) _).alloc (by simp) _).alloc (by simp; omega) _)
  obtain ⟨Z, hZ⟩ : ∃ Z, (u8s (List.replicate 16 0)) = Z := ⟨_, rfl⟩
  have HZ : Hid ((u8s (List.replicate 16 0)) = Z) := hZ
  have HZl : Hid (Z.length = 16) := by rw [← hZ]; rfl
  rw [hZ] at hz B0 B1 R0 bel
  clear hZ
  go_enter Try.func40, Try.ntmps40
  go_upto_region 1 with fail
  generalize (((w.alloc (.cells FA.toArray 42)).alloc (.cells FB.toArray 42)).alloc (.cells Z.toArray 42)) = W at *
  go_wp2_with (first | (refine wpList_load_run (by rfl) (by rfl) (by rfl) (B0.load Try.underlying42 rfl size_16 FAl.out) ?_) | fail)
  refine (r10_polyL FAh.out HA.out.2 HA.out.1).mono ?_
  rintro e w1 ⟨gx, cx, rfl, x1, x2, x3, x4, hb⟩
  have HX : Hid _ := x4
  replace B1 := B1.later hb
  replace R0 := R0.later hb
  replace bel := below_step bel hb
  clear hb x4 B0
  unfold maxLen at x2
  go_wp2_with (first | (refine wpList_load_run (by rfl) (by rfl) (by rfl) (B1.load Try.underlying42 rfl size_16 FBl.out) ?_) | fail)
  refine (r10_polyL FBh.out HB.out.2 HB.out.1).mono ?_
  rintro e W4 ⟨gy, cy, rfl, y1, y2, y3, y4, hb⟩
  have HY : Hid _ := y4
  replace HX : Hid (∀ j, j < 128 → W4.cell? ⟨gx, j, none⟩ = some (.int .i64 (pol1 A j))) := fun j hj => (hb.cell (p := ⟨gx, j, none⟩) x3).trans (HX.out j hj)
  replace x3 := Nat.lt_of_lt_of_le x3 hb.size
  replace R0 := R0.later hb
  replace bel := below_step bel hb
  clear hb y4 B1
  unfold maxLen at y2
  have hmk := run_make_row' 72 3 (.int .i64 0) 8 Try.underlying72 info_int rfl .i64 .i64 256 (by decide) (by decide) W4
  rw [made_i64] at hmk
  have BX := Blk.new W4 (i64s (List.replicate 256 0)) 3 W4.heap.size rfl
  have hbg : Below W4.heap.size W4 (W4.alloc (.cells (i64s (List.replicate 256 0)).toArray 3)) := (Below.refl _ _).alloc (Nat.le_refl _) _
  obtain ⟨W5, hW5⟩ : ∃ W, W = W4.alloc (.cells (i64s (List.replicate 256 0)).toArray 3) := ⟨_, rfl⟩
  rw [← hW5] at hmk BX hbg
  replace hmk : (Instr.makeSlice 72 (.int .i64 256) (.int .i64 256)).run Try.prog W4 = .ok (.slice (some ⟨W4.heap.size, 0, none⟩) 256 256) W5 := hmk
  clear hW5
  have gw : (w.heap.size + 1 + 1) < W4.heap.size := R0.lt
  go_wp2_with fail
  clear hmk
  obtain ⟨g, hg⟩ : ∃ g, g = W4.heap.size := ⟨_, rfl⟩
  have HG : Hid (g = W4.heap.size) := hg
  rw [← hg] at BX hbg gw x3 y3 ⊢
  clear hg hz
  go_loopw [8] (fun iv wx => ∃ (i : Nat) (X : List Int), i ≤ 128 ∧ iv = .int .i64 i ∧ Hid (X.length = 256) ∧ Blk wx g (i64s X) ∧ Hid (upTo X (128 * (i : Int))) ∧ Hid (valN X 256 = accM (blkN A) (blkN B) i 0) ∧ Below g W4 wx) (fun iv _ => 128 - (intOf iv).toNat)
  case atStart => exact ⟨0, List.replicate 256 0, by omega, rfl, List.length_replicate, BX, upTo_zero, by show _ = _; rw [val_zero, accM_0], hbg⟩
  case round =>
    clear BX hbg
    obtain ⟨i, X, hi, rfl, HXl, BX, HU, HV, hbg⟩ := hrel
    by_cases hil : i < 128
    · have gA : (i : Int) < 128 := by omega
      have gi : IntKind.i64.wrap ((i : Int) + 1) = (i : Int) + 1 := by rw [IntKind.wrap_i64]; omega
      go_wp2_with fail
      obtain ⟨wo, hwo⟩ : ∃ z, z = wr := ⟨_, rfl⟩
      rw [← hwo] at BX hbg ⊢
      clear hwo
      go_loopw [9] (fun kv wx => ∃ (k : Nat) (X : List Int), k ≤ 128 ∧ kv = .int .i64 k ∧ Hid (X.length = 256) ∧ Blk wx g (i64s X) ∧ Hid (upTo X (128 * (i : Int) + (k : Int))) ∧ Hid (valN X 256 = accM (blkN A) (blkN B) i k) ∧ Below g W4 wx) (fun kv _ => 128 - (intOf kv).toNat)
      case atStart => exact ⟨0, X, by omega, rfl, HXl, BX, by have := HU.out; simpa [Hid] using this, HV, hbg⟩
      case round =>
        clear BX hbg HU HV HXl
        obtain ⟨k, Y, hk, rfl, HYl, BY, HU, HV, hbg⟩ := hrel
        by_cases hkl : k < 128
        · have gB : (k : Int) < 128 := by omega
          have gk : IntKind.i64.wrap ((k : Int) + 1) = (k : Int) + 1 := by rw [IntKind.wrap_i64]; omega
          have gik : IntKind.i64.wrap ((i : Int) + (k : Int)) = (i : Int) + (k : Int) := by rw [IntKind.wrap_i64]; omega
          have g0 : (0 : Int) ≤ (i : Int) + (k : Int) := by omega
          have g1 : (i : Int) + (k : Int) < 256 := by omega
          have g2 : ((i : Int) + (k : Int)).toNat = i + k := by omega
          have g3 : (0 : Int) ≤ (i : Int) := by omega
          have g4 : (0 : Int) ≤ (k : Int) := by omega
          have hik : i + k < 256 := by omega
          have bk := HU.out (i + k)
          have cyy := i64s_get Y (i + k) (by rw [HYl.out]; exact hik)
          have pq := bit01 (pol1_bit A i) (pol1_bit B k)
          have HN1 : Hid (upTo (bump Y (i + k) (pol1 A i * pol1 B k)) (128 * (i : Int) + ((k + 1 : Nat) : Int))) := HU.out.bump (by rw [HYl.out]; exact hik) pq.1 (by omega)
          have HN2 : Hid (valN (bump Y (i + k) (pol1 A i * pol1 B k)) 256 = accM (blkN A) (blkN B) i (k + 1)) := by show _ = _; rw [val_bump _ hik (by rw [HYl.out]; exact hik), HV.out, odd_pol hil hkl, accM_step]
          have HN3 : Hid ((bump Y (i + k) (pol1 A i * pol1 B k)).length = 256) := by show _ = _; rw [bump_len]; exact HYl.out
          have HN4 : Hid (Y.set (i + k) (Y.getD (i + k) 0 + pol1 A i * pol1 B k) = bump Y (i + k) (pol1 A i * pol1 B k)) := rfl
          have cX := HX.out i hil
          have cY := HY.out k hkl
          obtain ⟨p, hp⟩ : ∃ p, pol1 A i = p := ⟨_, rfl⟩
          obtain ⟨q, hq⟩ : ∃ q, pol1 B k = q := ⟨_, rfl⟩
          obtain ⟨z, hz⟩ : ∃ z, Y.getD (i + k) 0 = z := ⟨_, rfl⟩
          rw [hp, hq] at pq HN1 HN2 HN3 HN4
          rw [hp] at cX
          rw [hq] at cY
          rw [hz] at bk cyy HN4
          obtain ⟨V, hV⟩ : ∃ V, bump Y (i + k) (p * q) = V := ⟨_, rfl⟩
          rw [hV] at HN1 HN2 HN3 HN4
          clear hp hq hz hV HU HV HYl
          obtain ⟨m, hm⟩ : ∃ m, p * q = m := ⟨_, rfl⟩
          rw [hm] at pq HN4
          have wm : IntKind.i64.wrap (p * q) = m := by rw [hm, IntKind.wrap_i64]; omega
          obtain ⟨y, hy⟩ : ∃ y, z + m = y := ⟨_, rfl⟩
          have wz : IntKind.i64.wrap (z + m) = y := by rw [IntKind.wrap_i64]; omega
          rw [hy] at HN4
          clear hy hm
          have fz := BY.frozen (i + k)
          have lty := BY.lt
          go_upto_region 10 with fail
          obtain ⟨S1, hS1, KD1, KC1, KB1⟩ := held_below (g := g) hbg (Nat.le_refl _)
          have rx : ∀ wx, Hd S1 wx → wx.cell? ⟨gx, i, none⟩ = some (.int .i64 p) := fun wx h => ((KB1.out wx h).cell (p := ⟨gx, i, none⟩) x3).trans cX
          have ry : ∀ wx, Hd S1 wx → wx.cell? ⟨gy, k, none⟩ = some (.int .i64 q) := fun wx h => ((KB1.out wx h).cell (p := ⟨gy, k, none⟩) y3).trans cY
          clear cX cY hbg
          refine wp_region_noPanic ?_
          refine wp_region_held_drew (S := Hd S1) (by kernel_rfl) (KD1.out _ hS1) (fun hHeld => ?_)
          clear hS1
          replace BY := BY.drew
          replace fz : World.frozen? (World.drew _) ⟨g, i + k, none⟩ = false := fz
          replace lty : g < (World.drew _).heap.size := lty
          generalize World.drew _ = wd at *
          refine wpAnyH_take (i := 0) (v := ?_) rfl (by kernel_rfl) (by kernel_rfl) (by kernel_rfl) (fun _ _ _ h => h) (Or.inl ⟨by rfl, ?_⟩) (by assumption) ?_
          rotate_left
          · intro w hSw
            go_simp
            with_reducible rfl
          try simp only [Act.put, List.getElem_toArray, List.getElem_cons_zero, List.getElem_cons_succ, List.setIfInBounds_toArray, List.set_cons_zero, List.set_cons_succ]
          refine wpAnyH_take (i := 1) (v := ?_) rfl (by kernel_rfl) (by kernel_rfl) (by kernel_rfl) (fun _ _ _ h => h) (Or.inl ⟨by rfl, ?_⟩) (by assumption) ?_
          rotate_left
          · intro w hSw
            go_simp
            with_reducible rfl
          try simp only [Act.put, List.getElem_toArray, List.getElem_cons_zero, List.getElem_cons_succ, List.setIfInBounds_toArray, List.set_cons_zero, List.set_cons_succ]
          refine wpAnyH_take (i := 2) (v := ?_) rfl (by kernel_rfl) (by kernel_rfl) (by kernel_rfl) (fun _ _ _ h => h) (Or.inl ⟨by rfl, ?_⟩) (by assumption) ?_
          rotate_left
          · intro w hSw
            go_simp
            with_reducible rfl
          try simp only [Act.put, List.getElem_toArray, List.getElem_cons_zero, List.getElem_cons_succ, List.setIfInBounds_toArray, List.set_cons_zero, List.set_cons_succ]
          refine wpAnyH_take (i := 3) (v := ?_) rfl (by kernel_rfl) (by kernel_rfl) (by kernel_rfl) (fun _ _ _ h => h) (Or.inl ⟨by rfl, ?_⟩) (by assumption) ?_
          rotate_left
          · intro w hSw
            go_simp
            with_reducible rfl
          try simp only [Act.put, List.getElem_toArray, List.getElem_cons_zero, List.getElem_cons_succ, List.setIfInBounds_toArray, List.set_cons_zero, List.set_cons_succ]
          refine wpAnyH_take (i := 4) (v := ?_) rfl (by kernel_rfl) (by kernel_rfl) (by kernel_rfl) (fun _ _ _ h => h) (Or.inl ⟨by rfl, ?_⟩) (by assumption) ?_
          rotate_left
          · intro w hSw
            go_simp
            with_reducible rfl
          try simp only [Act.put, List.getElem_toArray, List.getElem_cons_zero, List.getElem_cons_succ, List.setIfInBounds_toArray, List.set_cons_zero, List.set_cons_succ]
          refine wpAnyH_take (i := 5) (v := ?_) rfl (by kernel_rfl) (by kernel_rfl) (by kernel_rfl) (fun _ _ _ h => h) (Or.inl ⟨by rfl, ?_⟩) (by assumption) ?_
          rotate_left
          · intro w hSw
            go_simp
            with_reducible rfl
          try simp only [Act.put, List.getElem_toArray, List.getElem_cons_zero, List.getElem_cons_succ, List.setIfInBounds_toArray, List.set_cons_zero, List.set_cons_succ]
          refine wpAnyH_take (i := 6) (v := ?_) rfl (by kernel_rfl) (by kernel_rfl) (by kernel_rfl) (fun _ _ _ h => h) (Or.inl ⟨by rfl, ?_⟩) (by assumption) ?_
          rotate_left
          · intro w hSw
            go_simp
            with_reducible rfl
          try simp only [Act.put, List.getElem_toArray, List.getElem_cons_zero, List.getElem_cons_succ, List.setIfInBounds_toArray, List.set_cons_zero, List.set_cons_succ]
          refine wpAnyH_take (i := 7) (v := ?_) rfl (by kernel_rfl) (by kernel_rfl) (by kernel_rfl) (fun _ _ _ h => h) (Or.inl ⟨by rfl, ?_⟩) (by assumption) ?_
          rotate_left
          · intro w hSw
            go_simp
            with_reducible rfl
          try simp only [Act.put, List.getElem_toArray, List.getElem_cons_zero, List.getElem_cons_succ, List.setIfInBounds_toArray, List.set_cons_zero, List.set_cons_succ]
          refine wpAnyH_take (i := 8) (v := ?_) rfl (by kernel_rfl) (by kernel_rfl) (by kernel_rfl) (fun _ _ _ h => h) (Or.inl ⟨by rfl, ?_⟩) (by assumption) ?_
          rotate_left
          · intro w hSw
            go_simp
            with_reducible rfl
          try simp only [Act.put, List.getElem_toArray, List.getElem_cons_zero, List.getElem_cons_succ, List.setIfInBounds_toArray, List.set_cons_zero, List.set_cons_succ]
          refine wpAnyH_take (i := 10) (v := ?_) rfl (by kernel_rfl) (by kernel_rfl) (by kernel_rfl) (fun _ _ _ h => h) (Or.inl ⟨by rfl, ?_⟩) (by assumption) ?_
          rotate_left
          · intro w hSw
            go_simp
            with_reducible rfl
          try simp only [Act.put, List.getElem_toArray, List.getElem_cons_zero, List.getElem_cons_succ, List.setIfInBounds_toArray, List.set_cons_zero, List.set_cons_succ]
          refine wpAnyH_take (i := 11) (v := ?_) rfl (by kernel_rfl) (by kernel_rfl) (by kernel_rfl) (fun _ _ _ h => h) (Or.inl ⟨by rfl, ?_⟩) (by assumption) ?_
          rotate_left
          · intro w hSw
            go_simp
            with_reducible rfl
          try simp only [Act.put, List.getElem_toArray, List.getElem_cons_zero, List.getElem_cons_succ, List.setIfInBounds_toArray, List.set_cons_zero, List.set_cons_succ]
          refine wpAnyH_take (i := 12) (v := ?_) rfl (by kernel_rfl) (by kernel_rfl) (by kernel_rfl) (fun _ _ _ h => h) (Or.inl ⟨by rfl, ?_⟩) (by assumption) ?_
          rotate_left
          · intro w hSw
            go_simp
            with_reducible rfl
          try simp only [Act.put, List.getElem_toArray, List.getElem_cons_zero, List.getElem_cons_succ, List.setIfInBounds_toArray, List.set_cons_zero, List.set_cons_succ]
          refine wpAnyH_take (i := 13) (v := ?_) rfl (by kernel_rfl) (by kernel_rfl) (by kernel_rfl) (fun _ _ _ h => h) (Or.inl ⟨by rfl, ?_⟩) (by assumption) ?_
          rotate_left
          · intro w hSw
            go_simp
            with_reducible rfl
          try simp only [Act.put, List.getElem_toArray, List.getElem_cons_zero, List.getElem_cons_succ, List.setIfInBounds_toArray, List.set_cons_zero, List.set_cons_succ]
          refine wpAnyH_take (i := 14) (v := ?_) rfl (by kernel_rfl) (by kernel_rfl) (by kernel_rfl) (fun _ _ _ h => h) (Or.inl ⟨by rfl, ?_⟩) (by assumption) ?_
          rotate_left
          · intro w hSw
            go_simp
            with_reducible rfl
          try simp only [Act.put, List.getElem_toArray, List.getElem_cons_zero, List.getElem_cons_succ, List.setIfInBounds_toArray, List.set_cons_zero, List.set_cons_succ]
          refine wpAnyH_take (i := 15) (v := ?_) rfl (by kernel_rfl) (by kernel_rfl) (by kernel_rfl) (fun _ _ _ h => h) (Or.inl ⟨by rfl, ?_⟩) (by assumption) ?_
          rotate_left
          · intro w hSw
            go_simp
            with_reducible rfl
          try simp only [Act.put, List.getElem_toArray, List.getElem_cons_zero, List.getElem_cons_succ, List.setIfInBounds_toArray, List.set_cons_zero, List.set_cons_succ]
          refine wpAnyH_take (i := 16) (v := ?_) rfl (by kernel_rfl) (by kernel_rfl) (by kernel_rfl) (fun _ _ _ h => h) (Or.inl ⟨by rfl, ?_⟩) (by assumption) ?_
          rotate_left
          · intro w hSw
            go_simp
            with_reducible rfl
          try simp only [Act.put, List.getElem_toArray, List.getElem_cons_zero, List.getElem_cons_succ, List.setIfInBounds_toArray, List.set_cons_zero, List.set_cons_succ]
          refine wpAnyH_take (i := 17) (v := ?_) rfl (by kernel_rfl) (by kernel_rfl) (by kernel_rfl) (fun _ _ _ h => h) (Or.inl ⟨by rfl, ?_⟩) (by assumption) ?_
          rotate_left
          · intro w hSw
            go_simp
            with_reducible rfl
          try simp only [Act.put, List.getElem_toArray, List.getElem_cons_zero, List.getElem_cons_succ, List.setIfInBounds_toArray, List.set_cons_zero, List.set_cons_succ]
          refine wpAnyH_take (i := 18) (v := ?_) rfl (by kernel_rfl) (by kernel_rfl) (by kernel_rfl) (fun _ _ _ h => h) (Or.inl ⟨by rfl, ?_⟩) (by assumption) ?_
          rotate_left
          · intro w hSw
            go_simp
            with_reducible rfl
          try simp only [Act.put, List.getElem_toArray, List.getElem_cons_zero, List.getElem_cons_succ, List.setIfInBounds_toArray, List.set_cons_zero, List.set_cons_succ]
          clear rx ry
          have cg := BY.cell (i + k) _ cyy
          refine wpAnyH_ready (rs := [9]) (by kernel_rfl) (by simp) ?_
          refine AllReadyH.cons rfl (fun K hK => ?_) ?_
          · go_simp
            refine hK.out _ _ ?_ (fun hHeld2 => ?_)
            · exact hHeld
            · clear hK K hHeld
              have hHeld := hHeld2
              clear hHeld2
              try simp only [Act.put, List.getElem_toArray, List.getElem_cons_zero, List.getElem_cons_succ, List.setIfInBounds_toArray, List.set_cons_zero, List.set_cons_succ]
              refine wpAnyH_take (i := 19) (v := ?_) rfl (by kernel_rfl) (by kernel_rfl) (by kernel_rfl) (fun _ _ _ h => h) (Or.inl ⟨by rfl, ?_⟩) (by assumption) ?_
              rotate_left
              · intro w hSw
                go_simp
                with_reducible rfl
              try simp only [Act.put, List.getElem_toArray, List.getElem_cons_zero, List.getElem_cons_succ, List.setIfInBounds_toArray, List.set_cons_zero, List.set_cons_succ]
              refine wpAnyH_take (i := 20) (v := ?_) rfl (by kernel_rfl) (by kernel_rfl) (by kernel_rfl) (fun _ _ _ h => h) (Or.inl ⟨by rfl, ?_⟩) (by assumption) ?_
              rotate_left
              · intro w hSw
                go_simp
                with_reducible rfl
              try simp only [Act.put, List.getElem_toArray, List.getElem_cons_zero, List.getElem_cons_succ, List.setIfInBounds_toArray, List.set_cons_zero, List.set_cons_succ]
              refine wpAnyH_ready (rs := [21]) (by kernel_rfl) (by simp) ?_
              refine AllReadyH.cons rfl (fun K hK => ?_) ?_
              · go_simp
                refine hK.out _ _ ?_ (fun hHeld2 => ?_)
                · exact KC1.out _ _ _ hHeld
                · clear hK K hHeld
                  have hHeld := hHeld2
                  clear hHeld2
                  try simp only [Act.put, List.getElem_toArray, List.getElem_cons_zero, List.getElem_cons_succ, List.setIfInBounds_toArray, List.set_cons_zero, List.set_cons_succ]
                  replace BY := BY.seti (i + k) y
                  rw [HN4.out] at BY
                  clear cg
                  refine wpAnyH_done (by kernel_rfl) ?_ _
                  refine NoPanic.normal ?_
                  have hbg := KB1.out _ hHeld
                  go_wp2_with fail
                  go_roundw
                  case rel => exact ⟨k + 1, V, by omega, by go_num, HN3, BY, HN1, HN2, hbg⟩
                  case measure => simp [intOf]; omega
              exact AllReadyH.nil
          exact AllReadyH.nil
        · have HK : Hid (k = 128) := by show k = 128; omega
          have gB : ¬ (k : Int) < 128 := by omega
          have HU2 : Hid (upTo Y (128 * ((i + 1 : Nat) : Int))) := HU.out.mono (by have := HK.out; omega)
          have HV2 : Hid (valN Y 256 = accM (blkN A) (blkN B) (i + 1) 0) := by show _ = _; rw [HV.out, HK.out, accM_row (blkN_lt B)]
          clear HU HV
          go_wp2_with fail
          go_roundw
          case rel => exact ⟨i + 1, Y, by omega, by go_num, HYl, BY, HU2, HV2, hbg⟩
          case measure => simp [intOf]; omega
    · have HI : Hid (i = 128) := by show i = 128; omega
      have gA : ¬ (i : Int) < 128 := by omega
      have HU2 : Hid (upTo X 16384) := HU.out.mono (by have := HI.out; omega)
      have HV2 : Hid (valN X 256 = mulN2 (blkN A) (blkN B)) := by show _ = _; rw [HV.out, HI.out, accM_all]
      clear HU HV HX HY
      go_wp2_with fail
      obtain ⟨wo, hwo⟩ : ∃ z, z = wr := ⟨_, rfl⟩
      rw [← hwo] at BX hbg ⊢
      clear hwo
      go_loopw [10] (fun iv wx => ∃ (t : Nat) (X : List Int), t ≤ 128 ∧ iv = .int .i64 (255 - (t : Int)) ∧ Hid (X.length = 256) ∧ Blk wx g (i64s X) ∧ Hid (upTo X (16384 + 4 * (t : Int))) ∧ Hid (valN X (256 - t) = mulN2 (blkN A) (blkN B)) ∧ Below g W4 wx) (fun iv _ => (intOf iv).toNat)
      case atStart => exact ⟨0, X, by omega, by go_num, HXl, BX, by have := HU2.out; simpa [Hid] using this, HV2, hbg⟩
      case round =>
        clear BX hbg HU2 HV2 HXl
        obtain ⟨t, Y, ht, rfl, HYl, BY, HU, HV, hbg⟩ := hrel
        by_cases htl : t < 128
        · obtain ⟨m, hm⟩ : ∃ m, m + t = 127 := ⟨127 - t, by omega⟩
          have et : 255 - (t : Int) = (m : Int) + 128 := by omega
          have HET : Hid (255 - (t : Int) = (m : Int) + 128) := et
          rw [et]
          clear et
          have gA : (128 : Int) ≤ (m : Int) + 128 := by omega
          have hm8 : m < 128 := by omega
          have HV1 : Hid (valN Y (m + 129) = mulN2 (blkN A) (blkN B)) := by have := HV.out; rw [show 256 - t = m + 129 by omega] at this; exact this
          obtain ⟨n, hn⟩ : ∃ n, Y.getD (m + 128) 0 % 2 = n := ⟨_, rfl⟩
          have HV3 : Hid (valN (bump (bump (bump (bump Y (m + 7) n) (m + 2) n) (m + 1) n) m n) (256 - (t + 1)) = mulN2 (blkN A) (blkN B)) := by show _ = _; rw [show 256 - (t + 1) = m + 128 by omega, val_fold HYl.out hm8 hn, HV1.out]
          have n01 : 0 ≤ n ∧ n ≤ 1 := by omega
          have bm := HU.out (m + 128)
          have c0 := BY.cell (m + 128) _ (i64s_get Y (m + 128) (by rw [HYl.out]; omega))
          have tm := tmod2 bm.1
          rw [hn] at tm
          obtain ⟨z0, hz0⟩ : ∃ z, Y.getD (m + 128) 0 = z := ⟨_, rfl⟩
          rw [hz0] at c0 tm bm
          clear hn hz0 HV HV1
          have i0 : (0 : Int) ≤ (m : Int) + 128 := by omega
          have i1 : (m : Int) + 128 < 256 := by omega
          have i2 : ((m : Int) + 128).toNat = m + 128 := by omega
          have lty := BY.lt
          go_upto_region 15 with fail
          clear c0 tm i2 bm
          have s121 : IntKind.i64.wrap ((m : Int) + 128 - 121) = (m : Int) + 7 := by rw [IntKind.wrap_i64]; omega
          have j0 : (0 : Int) ≤ (m : Int) + 7 := by omega
          have j1 : (m : Int) + 7 < 256 := by omega
          have j2 : ((m : Int) + 7).toNat = m + 7 := by omega
          have HYm : Hid (m + 7 < Y.length) := by show _ < _; rw [HYl.out]; omega
          have bm := HU.out (m + 7)
          have cm := BY.cell (m + 7) _ (i64s_get Y (m + 7) HYm.out)
          have fz := BY.frozen (m + 7)
          have HU1 : Hid (upTo (bump Y (m + 7) n) (16384 + 4 * (t : Int) + 1)) := HU.out.bump HYm.out n01.1 (by omega)
          have HL1 : Hid ((bump Y (m + 7) n).length = 256) := by show _ = _; rw [bump_len]; exact HYl.out
          have HE : Hid (Y.set (m + 7) (Y.getD (m + 7) 0 + n) = bump Y (m + 7) n) := rfl
          obtain ⟨z, hz⟩ : ∃ z, Y.getD (m + 7) 0 = z := ⟨_, rfl⟩
          rw [hz] at cm bm HE
          obtain ⟨y, hy⟩ : ∃ y, z + n = y := ⟨_, rfl⟩
          have wz : IntKind.i64.wrap (z + n) = y := by rw [IntKind.wrap_i64]; omega
          rw [hy] at HE
          obtain ⟨V, hV⟩ : ∃ V, bump Y (m + 7) n = V := ⟨_, rfl⟩
          rw [hV] at HU1 HL1 HE HV3
          clear hz hy hV
          go_upto_region 16 with fail
          replace BY := BY.seti (m + 7) y
          rw [HE.out] at BY
          replace hbg := hbg.setCell (p := ⟨g, m + 7, none⟩) (Nat.le_refl _) (.int .i64 y)
          generalize World.setCell _ _ _ = w60 at *
          clear s121 j0 j1 j2 HYm bm cm fz HE wz HU HYl lty
          have HU := HU1
          have HYl := HL1
          clear HU1 HL1
          obtain ⟨Y, hY⟩ : ∃ Y, V = Y := ⟨_, rfl⟩
          rw [hY] at BY HU HYl HV3
          clear hY
          have lty := BY.lt
          have s126 : IntKind.i64.wrap ((m : Int) + 128 - 126) = (m : Int) + 2 := by rw [IntKind.wrap_i64]; omega
          have j0 : (0 : Int) ≤ (m : Int) + 2 := by omega
          have j1 : (m : Int) + 2 < 256 := by omega
          have j2 : ((m : Int) + 2).toNat = m + 2 := by omega
          have HYm : Hid (m + 2 < Y.length) := by show _ < _; rw [HYl.out]; omega
          have bm := HU.out (m + 2)
          have cm := BY.cell (m + 2) _ (i64s_get Y (m + 2) HYm.out)
          have fz := BY.frozen (m + 2)
          have HU1 : Hid (upTo (bump Y (m + 2) n) (16384 + 4 * (t : Int) + 2)) := HU.out.bump HYm.out n01.1 (by omega)
          have HL1 : Hid ((bump Y (m + 2) n).length = 256) := by show _ = _; rw [bump_len]; exact HYl.out
          have HE : Hid (Y.set (m + 2) (Y.getD (m + 2) 0 + n) = bump Y (m + 2) n) := rfl
          obtain ⟨z, hz⟩ : ∃ z, Y.getD (m + 2) 0 = z := ⟨_, rfl⟩
          rw [hz] at cm bm HE
          obtain ⟨y, hy⟩ : ∃ y, z + n = y := ⟨_, rfl⟩
          have wz : IntKind.i64.wrap (z + n) = y := by rw [IntKind.wrap_i64]; omega
          rw [hy] at HE
          obtain ⟨V, hV⟩ : ∃ V, bump Y (m + 2) n = V := ⟨_, rfl⟩
          rw [hV] at HU1 HL1 HE HV3
          clear hz hy hV
          go_upto_region 17 with fail
          replace BY := BY.seti (m + 2) y
          rw [HE.out] at BY
          replace hbg := hbg.setCell (p := ⟨g, m + 2, none⟩) (Nat.le_refl _) (.int .i64 y)
          generalize World.setCell _ _ _ = w61 at *
          clear s126 j0 j1 j2 HYm bm cm fz HE wz HU HYl lty
          have HU := HU1
          have HYl := HL1
          clear HU1 HL1
          obtain ⟨Y, hY⟩ : ∃ Y, V = Y := ⟨_, rfl⟩
          rw [hY] at BY HU HYl HV3
          clear hY
          have lty := BY.lt
          have s127 : IntKind.i64.wrap ((m : Int) + 128 - 127) = (m : Int) + 1 := by rw [IntKind.wrap_i64]; omega
          have j0 : (0 : Int) ≤ (m : Int) + 1 := by omega
          have j1 : (m : Int) + 1 < 256 := by omega
          have j2 : ((m : Int) + 1).toNat = m + 1 := by omega
          have HYm : Hid (m + 1 < Y.length) := by show _ < _; rw [HYl.out]; omega
          have bm := HU.out (m + 1)
          have cm := BY.cell (m + 1) _ (i64s_get Y (m + 1) HYm.out)
          have fz := BY.frozen (m + 1)
          have HU1 : Hid (upTo (bump Y (m + 1) n) (16384 + 4 * (t : Int) + 3)) := HU.out.bump HYm.out n01.1 (by omega)
          have HL1 : Hid ((bump Y (m + 1) n).length = 256) := by show _ = _; rw [bump_len]; exact HYl.out
          have HE : Hid (Y.set (m + 1) (Y.getD (m + 1) 0 + n) = bump Y (m + 1) n) := rfl
          obtain ⟨z, hz⟩ : ∃ z, Y.getD (m + 1) 0 = z := ⟨_, rfl⟩
          rw [hz] at cm bm HE
          obtain ⟨y, hy⟩ : ∃ y, z + n = y := ⟨_, rfl⟩
          have wz : IntKind.i64.wrap (z + n) = y := by rw [IntKind.wrap_i64]; omega
          rw [hy] at HE
          obtain ⟨V, hV⟩ : ∃ V, bump Y (m + 1) n = V := ⟨_, rfl⟩
          rw [hV] at HU1 HL1 HE HV3
          clear hz hy hV
          go_upto_region 18 with fail
          replace BY := BY.seti (m + 1) y
          rw [HE.out] at BY
          replace hbg := hbg.setCell (p := ⟨g, m + 1, none⟩) (Nat.le_refl _) (.int .i64 y)
          generalize World.setCell _ _ _ = w62 at *
          clear s127 j0 j1 j2 HYm bm cm fz HE wz HU HYl lty
          have HU := HU1
          have HYl := HL1
          clear HU1 HL1
          obtain ⟨Y, hY⟩ : ∃ Y, V = Y := ⟨_, rfl⟩
          rw [hY] at BY HU HYl HV3
          clear hY
          have lty := BY.lt
          have s128 : IntKind.i64.wrap ((m : Int) + 128 - 128) = (m : Int) := by rw [IntKind.wrap_i64]; omega
          have j0 : (0 : Int) ≤ (m : Int) := by omega
          have j1 : (m : Int) < 256 := by omega
          have j2 : ((m : Int)).toNat = m := by omega
          have HYm : Hid (m < Y.length) := by show _ < _; rw [HYl.out]; omega
          have bm := HU.out (m)
          have cm := BY.cell (m) _ (i64s_get Y (m) HYm.out)
          have fz := BY.frozen (m)
          have HU1 : Hid (upTo (bump Y (m) n) (16384 + 4 * (t : Int) + 4)) := HU.out.bump HYm.out n01.1 (by omega)
          have HL1 : Hid ((bump Y (m) n).length = 256) := by show _ = _; rw [bump_len]; exact HYl.out
          have HE : Hid (Y.set (m) (Y.getD (m) 0 + n) = bump Y (m) n) := rfl
          obtain ⟨z, hz⟩ : ∃ z, Y.getD (m) 0 = z := ⟨_, rfl⟩
          rw [hz] at cm bm HE
          obtain ⟨y, hy⟩ : ∃ y, z + n = y := ⟨_, rfl⟩
          have wz : IntKind.i64.wrap (z + n) = y := by rw [IntKind.wrap_i64]; omega
          rw [hy] at HE
          obtain ⟨V, hV⟩ : ∃ V, bump Y (m) n = V := ⟨_, rfl⟩
          rw [hV] at HU1 HL1 HE HV3
          clear hz hy hV
          have sd : IntKind.i64.wrap ((m : Int) + 128 - 1) = (m : Int) + 127 := by rw [IntKind.wrap_i64]; omega
          go_wp2_with fail
          replace BY := BY.seti m y
          rw [HE.out] at BY
          replace hbg := hbg.setCell (p := ⟨g, m, none⟩) (Nat.le_refl _) (.int .i64 y)
          generalize World.setCell _ _ _ = w64 at *
          go_roundw
          case rel => exact ⟨t + 1, V, by omega, by rw [show (m : Int) + 127 = 255 - ((t + 1 : Nat) : Int) by omega], HL1, BY, HU1.out.mono (by omega), HV3, hbg⟩
          case measure => simp [intOf]; omega
        · have HT : Hid (t = 128) := by show t = 128; omega
          have gA : ¬ (128 : Int) ≤ 255 - (t : Int) := by omega
          have HV1 : Hid (valN Y 128 = mulN2 (blkN A) (blkN B)) := by have := HV.out; rw [HT.out] at this; exact this
          clear HV
          have hz := zero_16.out
          rw [HZ.out] at hz
          have BO := Blk.new wr (u8s (List.replicate 16 0)) 42 wr.heap.size rfl
          have hbo : Below wr.heap.size wr (wr.alloc (.cells (u8s (List.replicate 16 0)).toArray 42)) := (Below.refl _ _).alloc (Nat.le_refl _) _
          rw [HZ.out] at hbo
          rw [show (u8s (List.replicate 16 0)) = u8s (outP (mulN2 (blkN A) (blkN B)) 0) by rw [outP_0]] at BO
          rw [show (Obj.cells (u8s (outP (mulN2 (blkN A) (blkN B)) 0)).toArray 42) = Obj.cells Z.toArray 42 by rw [outP_0, HZ.out]] at BO
          obtain ⟨M, hM⟩ : ∃ M, mulN2 (blkN A) (blkN B) = M := ⟨_, rfl⟩
          have HM : Hid (ofN M = mulB A B) := by rw [← hM]; rfl
          rw [hM] at BO HV1
          clear hM
          go_wp2_with fail
          clear hz
          obtain ⟨W6, hW6⟩ : ∃ z, z = wr := ⟨_, rfl⟩
          rw [← hW6] at BO hbo BY hbg ⊢
          clear hW6
          obtain ⟨go, hgo⟩ : ∃ b, b = W6.heap.size := ⟨_, rfl⟩
          generalize W6.alloc (.cells Z.toArray 42) = W7 at *
          have lgo : g < W6.heap.size := BY.lt
          rw [← hgo] at BO hbo lgo ⊢
          have HGO : Hid (go = W6.heap.size) := hgo
          clear hgo
          go_loopw [13] (fun iv wx => ∃ i : Nat, i ≤ 128 ∧ iv = .int .i64 i ∧ Blk wx go (u8s (outP M i)) ∧ Below go W6 wx) (fun iv _ => 128 - (intOf iv).toNat)
          case atStart => exact ⟨0, by omega, rfl, BO, hbo⟩
          case round =>
            clear BO hbo
            obtain ⟨i, hi, rfl, BO, hbo⟩ := hrel
            by_cases hil : i < 128
            · have gA : (i : Int) < 128 := by omega
              have gi : IntKind.i64.wrap ((i : Int) + 1) = (i : Int) + 1 := by rw [IntKind.wrap_i64]; omega
              obtain ⟨q, hq⟩ : ∃ q, i / 8 = q := ⟨_, rfl⟩
              obtain ⟨r, hr⟩ : ∃ r, i % 8 = r := ⟨_, rfl⟩
              obtain ⟨s, hs⟩ : ∃ s, 7 - r = s := ⟨_, rfl⟩
              have HS0 : Hid _ := outP_set (V := M) hil
              have rm := outP_room (V := M) hil
              have pb := par_bit HV1.out hil
              rw [hq, hr, hs] at HS0 rm
              have ca := BY.cell i _ (i64s_get Y i (by rw [HYl.out]; omega))
              have bi := HU.out i
              have cO := u8s_get (outP M i) q (by rw [outP_len]; omega)
              have b0 : 0 ≤ (outP M i).getD q 0 := by rw [outP_get M i (by omega)]; omega
              obtain ⟨b, hb⟩ : ∃ b, (M.testBit i).toNat = b := ⟨_, rfl⟩
              have hb1 : b ≤ 1 := by rw [← hb]; cases M.testBit i <;> decide
              rw [hb] at HS0 rm pb
              obtain ⟨z, hz⟩ : ∃ z, Y.getD i 0 = z := ⟨_, rfl⟩
              rw [hz] at ca bi pb
              obtain ⟨y, hy⟩ : ∃ y, (outP M i).getD q 0 = y := ⟨_, rfl⟩
              rw [hy] at HS0 rm b0 cO
              have tz := tmod2 bi.1
              rw [pb] at tz
              clear hb hz hy pb
              have p2 : 2 ^ s ≤ 2 ^ 7 := Nat.pow_le_pow_right (by decide) (by omega)
              have b2 : b * 2 ^ s ≤ 128 := Nat.le_trans (Nat.mul_le_mul hb1 p2) (by decide)
              have m1 : min s 64 = s := by omega
              have eb : (b : Int) * 2 ^ s = ((b * 2 ^ s : Nat) : Int) := by simp
              obtain ⟨v, hv⟩ : ∃ v, b * 2 ^ s = v := ⟨_, rfl⟩
              rw [hv] at eb HS0 rm b2
              clear hv p2
              have d1 : (i : Int).tdiv 8 = (q : Int) := by rw [Int.tdiv_eq_ediv_of_nonneg (by omega)]; omega
              have d2 : (i : Int).tmod 8 = (r : Int) := by rw [Int.tmod_eq_emod_of_nonneg (by omega)]; omega
              have w1 : IntKind.i64.wrap (q : Int) = (q : Int) := by rw [IntKind.wrap_i64]; omega
              have w2 : IntKind.i64.wrap (7 - (r : Int)) = (s : Int) := by rw [IntKind.wrap_i64]; omega
              have w3 : IntKind.i64.wrap ((v : Nat) : Int) = ((v : Nat) : Int) := by rw [IntKind.wrap_i64]; omega
              have w4 : IntKind.u8.wrap ((v : Nat) : Int) = ((v : Nat) : Int) := by rw [IntKind.wrap_u8]; omega
              obtain ⟨yv, hyv⟩ : ∃ z, y + ((v : Nat) : Int) = z := ⟨_, rfl⟩
              have w5 : IntKind.u8.wrap (y + ((v : Nat) : Int)) = yv := by rw [IntKind.wrap_u8]; omega
              rw [hyv] at HS0
              clear hyv rm b2 hb1
              have g2 : (q : Int) < 16 := by omega
              have g3 : (0 : Int) ≤ (q : Int) := by omega
              have g4 : ¬ (s : Int) < 0 := by omega
              have g5 : (i : Int) < 256 := by omega
              have g6 : (0 : Int) ≤ (i : Int) := by omega
              clear hq hr hs bi b0
              have fz := BO.frozen q
              have lto := BO.lt
              go_upto_region 23 with fail
              obtain ⟨S1, hS1, KD1, KC1, KB1⟩ := held_below (g := go) hbo (Nat.le_refl _)
              have ra : ∀ wx, Hd S1 wx → wx.cell? ⟨g, i, none⟩ = some (.int .i64 z) := fun wx h => ((KB1.out wx h).cell (p := ⟨g, i, none⟩) lgo).trans ca
              clear ca hbo
              refine wp_region_noPanic ?_
              refine wp_region_held_drew (S := Hd S1) (by kernel_rfl) (KD1.out _ hS1) (fun hHeld => ?_)
              clear hS1
              replace BO := BO.drew
              replace fz : World.frozen? (World.drew _) ⟨go, q, none⟩ = false := fz
              replace lto : go < (World.drew _).heap.size := lto
              generalize World.drew _ = wd at *
              refine wpAnyH_take (i := 0) (v := ?_) rfl (by kernel_rfl) (by kernel_rfl) (by kernel_rfl) (fun _ _ _ h => h) (Or.inl ⟨by rfl, ?_⟩) (by assumption) ?_
              rotate_left
              · intro w hSw
                go_simp
                with_reducible rfl
              try simp only [Act.put, List.getElem_toArray, List.getElem_cons_zero, List.getElem_cons_succ, List.setIfInBounds_toArray, List.set_cons_zero, List.set_cons_succ]
              refine wpAnyH_take (i := 1) (v := ?_) rfl (by kernel_rfl) (by kernel_rfl) (by kernel_rfl) (fun _ _ _ h => h) (Or.inl ⟨by rfl, ?_⟩) (by assumption) ?_
              rotate_left
              · intro w hSw
                go_simp
                with_reducible rfl
              try simp only [Act.put, List.getElem_toArray, List.getElem_cons_zero, List.getElem_cons_succ, List.setIfInBounds_toArray, List.set_cons_zero, List.set_cons_succ]
              refine wpAnyH_take (i := 2) (v := ?_) rfl (by kernel_rfl) (by kernel_rfl) (by kernel_rfl) (fun _ _ _ h => h) (Or.inl ⟨by rfl, ?_⟩) (by assumption) ?_
              rotate_left
              · intro w hSw
                go_simp
                with_reducible rfl
              try simp only [Act.put, List.getElem_toArray, List.getElem_cons_zero, List.getElem_cons_succ, List.setIfInBounds_toArray, List.set_cons_zero, List.set_cons_succ]
              refine wpAnyH_take (i := 3) (v := ?_) rfl (by kernel_rfl) (by kernel_rfl) (by kernel_rfl) (fun _ _ _ h => h) (Or.inl ⟨by rfl, ?_⟩) (by assumption) ?_
              rotate_left
              · intro w hSw
                go_simp
                with_reducible rfl
              try simp only [Act.put, List.getElem_toArray, List.getElem_cons_zero, List.getElem_cons_succ, List.setIfInBounds_toArray, List.set_cons_zero, List.set_cons_succ]
              refine wpAnyH_take (i := 4) (v := ?_) rfl (by kernel_rfl) (by kernel_rfl) (by kernel_rfl) (fun _ _ _ h => h) (Or.inl ⟨by rfl, ?_⟩) (by assumption) ?_
              rotate_left
              · intro w hSw
                go_simp
                with_reducible rfl
              try simp only [Act.put, List.getElem_toArray, List.getElem_cons_zero, List.getElem_cons_succ, List.setIfInBounds_toArray, List.set_cons_zero, List.set_cons_succ]
              refine wpAnyH_take (i := 6) (v := ?_) rfl (by kernel_rfl) (by kernel_rfl) (by kernel_rfl) (fun _ _ _ h => h) (Or.inl ⟨by rfl, ?_⟩) (by assumption) ?_
              rotate_left
              · intro w hSw
                go_simp
                with_reducible rfl
              try simp only [Act.put, List.getElem_toArray, List.getElem_cons_zero, List.getElem_cons_succ, List.setIfInBounds_toArray, List.set_cons_zero, List.set_cons_succ]
              refine wpAnyH_take (i := 7) (v := ?_) rfl (by kernel_rfl) (by kernel_rfl) (by kernel_rfl) (fun _ _ _ h => h) (Or.inl ⟨by rfl, ?_⟩) (by assumption) ?_
              rotate_left
              · intro w hSw
                go_simp
                with_reducible rfl
              try simp only [Act.put, List.getElem_toArray, List.getElem_cons_zero, List.getElem_cons_succ, List.setIfInBounds_toArray, List.set_cons_zero, List.set_cons_succ]
              refine wpAnyH_take (i := 8) (v := ?_) rfl (by kernel_rfl) (by kernel_rfl) (by kernel_rfl) (fun _ _ _ h => h) (Or.inl ⟨by rfl, ?_⟩) (by assumption) ?_
              rotate_left
              · intro w hSw
                go_simp
                with_reducible rfl
              try simp only [Act.put, List.getElem_toArray, List.getElem_cons_zero, List.getElem_cons_succ, List.setIfInBounds_toArray, List.set_cons_zero, List.set_cons_succ]
              refine wpAnyH_take (i := 9) (v := ?_) rfl (by kernel_rfl) (by kernel_rfl) (by kernel_rfl) (fun _ _ _ h => h) (Or.inl ⟨by rfl, ?_⟩) (by assumption) ?_
              rotate_left
              · intro w hSw
                go_simp
                with_reducible rfl
              try simp only [Act.put, List.getElem_toArray, List.getElem_cons_zero, List.getElem_cons_succ, List.setIfInBounds_toArray, List.set_cons_zero, List.set_cons_succ]
              refine wpAnyH_take (i := 10) (v := ?_) rfl (by kernel_rfl) (by kernel_rfl) (by kernel_rfl) (fun _ _ _ h => h) (Or.inl ⟨by rfl, ?_⟩) (by assumption) ?_
              rotate_left
              · intro w hSw
                go_simp
                with_reducible rfl
              try simp only [Act.put, List.getElem_toArray, List.getElem_cons_zero, List.getElem_cons_succ, List.setIfInBounds_toArray, List.set_cons_zero, List.set_cons_succ]
              refine wpAnyH_take (i := 11) (v := ?_) rfl (by kernel_rfl) (by kernel_rfl) (by kernel_rfl) (fun _ _ _ h => h) (Or.inl ⟨by rfl, ?_⟩) (by assumption) ?_
              rotate_left
              · intro w hSw
                go_simp
                with_reducible rfl
              try simp only [Act.put, List.getElem_toArray, List.getElem_cons_zero, List.getElem_cons_succ, List.setIfInBounds_toArray, List.set_cons_zero, List.set_cons_succ]
              refine wpAnyH_take (i := 12) (v := ?_) rfl (by kernel_rfl) (by kernel_rfl) (by kernel_rfl) (fun _ _ _ h => h) (Or.inl ⟨by rfl, ?_⟩) (by assumption) ?_
              rotate_left
              · intro w hSw
                go_simp
                with_reducible rfl
              try simp only [Act.put, List.getElem_toArray, List.getElem_cons_zero, List.getElem_cons_succ, List.setIfInBounds_toArray, List.set_cons_zero, List.set_cons_succ]
              refine wpAnyH_take (i := 13) (v := ?_) rfl (by kernel_rfl) (by kernel_rfl) (by kernel_rfl) (fun _ _ _ h => h) (Or.inl ⟨by rfl, ?_⟩) (by assumption) ?_
              rotate_left
              · intro w hSw
                go_simp
                with_reducible rfl
              try simp only [Act.put, List.getElem_toArray, List.getElem_cons_zero, List.getElem_cons_succ, List.setIfInBounds_toArray, List.set_cons_zero, List.set_cons_succ]
              refine wpAnyH_take (i := 14) (v := ?_) rfl (by kernel_rfl) (by kernel_rfl) (by kernel_rfl) (fun _ _ _ h => h) (Or.inl ⟨by rfl, ?_⟩) (by assumption) ?_
              rotate_left
              · intro w hSw
                go_simp
                with_reducible rfl
              try simp only [Act.put, List.getElem_toArray, List.getElem_cons_zero, List.getElem_cons_succ, List.setIfInBounds_toArray, List.set_cons_zero, List.set_cons_succ]
              refine wpAnyH_take (i := 15) (v := ?_) rfl (by kernel_rfl) (by kernel_rfl) (by kernel_rfl) (fun _ _ _ h => h) (Or.inl ⟨by rfl, ?_⟩) (by assumption) ?_
              rotate_left
              · intro w hSw
                go_simp
                with_reducible rfl
              try simp only [Act.put, List.getElem_toArray, List.getElem_cons_zero, List.getElem_cons_succ, List.setIfInBounds_toArray, List.set_cons_zero, List.set_cons_succ]
              clear ra
              have cg := BO.cell q _ cO
              refine wpAnyH_ready (rs := [5]) (by kernel_rfl) (by simp) ?_
              refine AllReadyH.cons rfl (fun K hK => ?_) ?_
              · go_simp
                refine hK.out _ _ ?_ (fun hHeld2 => ?_)
                · exact hHeld
                · clear hK K hHeld
                  have hHeld := hHeld2
                  clear hHeld2
                  try simp only [Act.put, List.getElem_toArray, List.getElem_cons_zero, List.getElem_cons_succ, List.setIfInBounds_toArray, List.set_cons_zero, List.set_cons_succ]
                  refine wpAnyH_take (i := 16) (v := ?_) rfl (by kernel_rfl) (by kernel_rfl) (by kernel_rfl) (fun _ _ _ h => h) (Or.inl ⟨by rfl, ?_⟩) (by assumption) ?_
                  rotate_left
                  · intro w hSw
                    go_simp
                    with_reducible rfl
                  try simp only [Act.put, List.getElem_toArray, List.getElem_cons_zero, List.getElem_cons_succ, List.setIfInBounds_toArray, List.set_cons_zero, List.set_cons_succ]
                  refine wpAnyH_take (i := 17) (v := ?_) rfl (by kernel_rfl) (by kernel_rfl) (by kernel_rfl) (fun _ _ _ h => h) (Or.inl ⟨by rfl, ?_⟩) (by assumption) ?_
                  rotate_left
                  · intro w hSw
                    go_simp
                    with_reducible rfl
                  try simp only [Act.put, List.getElem_toArray, List.getElem_cons_zero, List.getElem_cons_succ, List.setIfInBounds_toArray, List.set_cons_zero, List.set_cons_succ]
                  refine wpAnyH_ready (rs := [18]) (by kernel_rfl) (by simp) ?_
                  refine AllReadyH.cons rfl (fun K hK => ?_) ?_
                  · go_simp
                    refine hK.out _ _ ?_ (fun hHeld2 => ?_)
                    · exact KC1.out _ _ _ hHeld
                    · clear hK K hHeld
                      have hHeld := hHeld2
                      clear hHeld2
                      try simp only [Act.put, List.getElem_toArray, List.getElem_cons_zero, List.getElem_cons_succ, List.setIfInBounds_toArray, List.set_cons_zero, List.set_cons_succ]
                      replace BO := BO.setb q yv
                      rw [HS0.out] at BO
                      clear cg
                      refine wpAnyH_done (by kernel_rfl) ?_ _
                      refine NoPanic.normal ?_
                      have hbo := KB1.out _ hHeld
                      go_wp2_with fail
                      go_roundw
                      case rel => exact ⟨i + 1, by omega, by go_num, BO, hbo⟩
                      case measure => simp [intOf]; omega
                  exact AllReadyH.nil
              exact AllReadyH.nil
            · have HI2 : Hid (i = 128) := by show i = 128; omega
              have gA : ¬ (i : Int) < 128 := by omega
              rw [HI2.out, outP_128, HM.out] at BO
              have hb6 : Below w.heap.size w wr := (bel.trans (hbg.mono (by omega))).trans (hbo.mono (by omega))
              replace R0 := (R0.below hbg gw).below hbo (by omega)
              obtain ⟨F, hF⟩ : ∃ F, u8s (mulB A B) = F := ⟨_, rfl⟩
              have HF : Hid (u8s (mulB A B) = F) := hF
              have HFl : Hid (F.length = 16) := by rw [← hF, List.length_map]; exact mulB_len A B
              have HFo : Hid (F.toArray.all (·.oneCell') = true) := by rw [← hF]; exact u8_ones _
              rw [hF] at BO
              clear hF
              obtain ⟨tR, hR⟩ := R0
              have HR : Hid _ := hR
              clear hR
              go_wp2_with (first
                | (refine wpList_load_run (by rfl) (by rfl) (by rfl) (BO.load Try.underlying42 rfl size_16 HFl.out) ?_
                   refine wpList_store_row rfl 42 _ _ rfl (w.heap.size + 1 + 1) F.toArray rfl rfl tR Z.toArray HR.out (by rw [size_16, List.size_toArray, HFl.out]) (by rw [List.size_toArray, List.size_toArray, HFl.out, HZl.out]) HFo.out ?_)
                | fail)
              exact bodyPost_ret (results_cell_row Try.results40 _ _ (w.heap.size + 1 + 1) tR F.toArray (0, 0) _ rfl (setRow_heap _ _ _ _ _ _ HR.out) Try.underlying42 rfl (by rw [size_16, List.size_toArray, HFl.out])) rfl ⟨by rw [HF.out], below_setRow hb6 (by omega) _⟩
end Go.Proofs.Ytogbmekgmjmonaa
